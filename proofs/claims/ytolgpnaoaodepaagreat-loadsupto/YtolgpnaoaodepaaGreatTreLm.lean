import Derived.Test.YtolgpnaoaodepaaGreatTreIm
set_option maxHeartbeats 1000000
set_option maxRecDepth 20000
namespace Go.Proofs.YtolgpnaoaodepaaGreat
open Go.RowKit Tr
theorem Ni(w:World){k:Array Oper}{rest:List Oper}{l:Oper}{m:Act}{Q:Exit->Act->World->Prop}(F:l.guard=none)(p x:Operand)(j e:TypeId)(G:Tryz.prog.underlying j=some (.slice e))(q:Value)(a n:Nat)(H:(Tryz.prog.info? e).map (fun d=>(d.zero,d.size,d.bytes))=some (some q,a,n))(I:q.cells.size=a)(J:0<a)(L:n<=1000)(M:l.op=Op.call {callee:=Callee.builtin Builtin.append,args:= #[p,x],argTypes:= #[j,j]})(o:Nat)(v:Value)(g:Nat)(r:hH)(N:m.eval p=v)(O:w.ownsRow o e a v g r)(s:Addr)(c t:Nat)(i:hH)(R:m.eval x=.slice (some s) c t)(S:i.length=c*a)(T:∀f b,i[f]?=some b->w.cell? (s.add f)=some b)(U:∀b∈i,b.oneCell'=true)(V:g+c<=1000000000)(W:o<=w.heap.size)(h:∀(b:Value) (f:World),f.ownsRow o e a b (g+c) (r++i)->w.grownBy f v.ownBlock->(b.ownBlock=v.ownBlock\/b.ownBlock=some w.heap.size)->wpList Tryz.prog k Q rest (m.put l.dst b) f):wpList Tryz.prog k Q (l::rest) m w:=by obtain⟨d,u,y,z,A⟩:=zB H;exact wT w F p x j M o e d q a n G u y z A I J v g r N O s c t i R S T U (by unfold maxLen;omega) (by have:(g+c)*n<=1000000000*1000:=wO V L;omega) W (fun b f B C _ D=>h b f B C D)
theorem Hu:(Tryz.prog.info? 132).map (fun a=>(a.zero,a.size,a.bytes))=some (some (.agg #[B_ ⟨#[]⟩,.pointer none]),2,24):=S_
theorem Fp:∀(a:hA),∀v∈An a,v.oneCell'=true
 | [],v,h=>by cases h
 | x::r,v,h=>by
  have a:v∈[Value.string x.1,A_ x.2]++An r:=h;rcases xE.1 a with h|h
  ·simp at h;rcases h with rfl|rfl<;>rfl
  ·exact Fp r v h
theorem IW(w:World)(e:TypeId)(a:Nat):(w.alloc (C_ #[] e)).ownsRow w.heap.size e a (L_ (P_ w.heap.size) 0 0) 0 []:=
 ⟨D_,.inr ⟨w.heap.size,0,#[],rfl,X_,xK _ _,X_,Y_,D_,D_⟩⟩
theorem SX(c:Addr)(g i:Nat)(a:gY)(w:World)(s:a.length=g)(y:g<=20000000)(j:∀b d,(Al a)[b]?=some d->w.cell? (c.add b)=some d)(t:c.block<w.heap.size):
  Calls Tryz.prog 230 #[.slice (some c) g i] w fun k f=>∃v,k=.returned v/\Ap w.heap.size f v a/\Below w.heap.size w f:=by
 subst s;have u:∀f,(binOp BinOp.eql 30 (.slice (some c) a.length i) (.slice none 0 0)).run Tryz.prog f=.ok (.bool false) f:=fun f=>dI f _ _ _ zC
 have f:=Aa ((xA w.heap.size w).alloc X_ (.cells #[] 51));have l:=Aa (IW w 51 2);have m:Hid (∀b d,(Al a)[b]?=some d->(w.alloc (.cells #[] 51)).cell? (c.add b)=some d):=fun b d k=>(f.o.cell (p:=c.add b) (by rw[show(c.add b).block=c.block by unfold Addr.add;split<;>rfl];exact t)).trans (j b d k)
 have n:Hid (w.heap.size<=(w.alloc (.cells #[] 51)).heap.size):=f.o.size;have o:Hid ((Al a).length=a.length*2):=Bw a;clear j;go_in;go_wp2_with (at_builtin;refine Ni _ rfl (.tmp 5) (.tmp 6) 30 51 zC _ 2 32 Cg rfl Do Do rfl w.heap.size (.slice (some ⟨w.heap.size,0,none⟩) 0 0) 0 [] rfl l.o c a.length i (Al a) rfl o.o m.o (Ew a) O_ n.o ?_;intro b d j k q);have p:Hid (Ap w.heap.size d b a/\Below w.heap.size w d):=by refine⟨?_,f.o.grown k f.o.size (fun r r=>by cases r;exact Nat.le_refl _)⟩;unfold Ap;simpa using j
 clear j k q;go_ret;exact⟨b,rfl,p.o⟩
namespace Tr
def sh{α:Type}:Nat->List α->List (List α)
 | 0,_=>[]
 | k+1,l=>l.take ((l.length+k) / (k+1))::sh k (l.drop ((l.length+k) / (k+1)))
theorem SY(a b:Nat):(a+b) / (b+1)<=a:=by
 rcases bR a with h|h
 ·subst h;rw[zR,Nat.div_eq_of_lt O_];exact Nat.le_refl _
 ·rw[gT O_];have:a*1<=(b+1)*a:=by rw[kJ,vJ];exact gV a O_
  have c:(b+1)*a=b*a+a:=by rw[wL,Nat.one_mul]
  have d:b<=b*a:=gV b h;omega
theorem VZ{α:Type}:∀(k:Nat) (a:List α),(k=0->a=[])->(sh k a).flatten=a
 | 0,a,h=>by rw[h rfl];rfl
 | k+1,a,_=>by rw[sh,yO,VZ k,zK];intro a;subst a;rw[zR,jW,Nat.div_one,qQ]
theorem Nj{α:Type}:∀(k:Nat) (a:List α),(sh k a).length=k
 | 0,_=>rfl
 | k+1,a=>by rw[sh,xH,Nj k]
theorem WA{α:Type}{a:Nat}:∀(k:Nat) (b:List α),b.length<=k*a->∀x∈sh k b,x.length<=a
 | 0,_,_,x,c=>by cases c
 | k+1,b,h,x,c=>by
  have d:(b.length+k) / (k+1)<=a:=by rw[gT O_];rw[vJ]at h;have:(k+1)*a=a*(k+1):=vJ _ _;omega
  have f:b.length<=(b.length+k) / (k+1)+k*a:=by have g:=Nat.div_add_mod (b.length+k) (k+1);have i:=Nat.mod_lt (b.length+k) (show 0<k+1 by omega);have j:(k+1)*((b.length+k) / (k+1))=k*((b.length+k) / (k+1))+(b.length+k) / (k+1):=(by rw[wL,Nat.one_mul]);have l:k*((b.length+k) / (k+1))<=k*a:=wP k d;omega
  rw[sh]at c;rcases xG.1 c with rfl|c
  ·rw[xR];omega
  ·exact WA k _ (by rw[xY];omega) x c
theorem BM{α:Type}:∀(k:Nat) (a:List α),k<=a.length->∀x∈sh k a,x≠[]
 | 0,_,_,x,b=>by cases b
 | k+1,a,h,x,b=>by
  have d:1<=(a.length+k) / (k+1):=by rw[gU O_];omega
  rw[sh]at b;rcases xG.1 b with rfl|b
  ·intro e;have:=yW List.length e;rw[xR,yU]at this;omega
  ·refine BM k _ ?_ x b;rw[xY];have f:(a.length+k) / (k+1)*(k+1)<=a.length+k:=dZ _ _;generalize(a.length+k) / (k+1)=a at*;have g:a*(k+1)=a*k+a:=(by rw[qG,kJ]);rcases(show a=1\/2<=a by omega)with rfl|c
   ·omega
   ·have i:2*k<=a*k:=kW k c;omega
def shares{α:Type}(l:List α)(most:Nat):List (List α):=sh ((l.length+most-1) / most) l
theorem Li{α:Type}(b:List α)(a:Nat)(c:0<a):b.length<=(b.length+a-1) / a*a/\(b.length+a-1) / a<=b.length/\(0<b.length->0<(b.length+a-1) / a):=by
 have d:=Nat.div_add_mod (b.length+a-1) a;have f:=Nat.mod_lt (b.length+a-1) c;have g:a*((b.length+a-1) / a)=(b.length+a-1) / a*a:=vJ _ _;refine⟨O_,?_,fun i=> ?_⟩
 ·rcases bR b.length with h|h
  ·rw[h,Nat.div_eq_of_lt O_];exact Nat.le_refl _
  ·have:=SY b.length (a-1);rw[show a-1+1=a by omega,show b.length+(a-1)=b.length+a-1 by omega]at this;exact this
 ·rw[Nat.div_pos_iff];omega
end Tr
variable {a:Nat}{w w':World}{b:hH}{d:List (gY)}{g:Nat->Prop}{v:Value}{f:List (hA)}{α:Type}
structure Ty(B:Nat)(w:World)(vs:hH)(ls:List (gY)):Prop where
 n:vs.length=ls.length
 o:∀i (h:i<vs.length) (h':i<ls.length),Ap B w (vs[i]'h) (ls[i]'(h'))
 a:vs.Pairwise fun u v=>∀g,u.ownBlock=some g->v.ownBlock≠some g
theorem Ty.keep(h:Ty a w b d)(j:Mod g w w')(k:∀v∈b,∀c,v.ownBlock=some c->¬g c):Ty a w' b d:=
 ⟨h.n,fun f c i=>j.row (h.o f c i) (k _ (yA c)),h.a⟩
theorem Ty.lt{a:Nat}{w:World}{b:hH}{d:List (gY)}(h:Ty a w b d){v:Value}(i:v∈b)(c:Nat)(j:v.ownBlock=some c):a<=c/\c<w.heap.size:=by obtain⟨f,g,rfl⟩:=jK i;exact xF (h.o f g (by have:=h.n;omega)) c j
theorem Ty.snoc(h:Ty a w b d){n:gY}(k:Ap a w v n)(l:∀f∈b,∀c,f.ownBlock=some c->v.ownBlock≠some c):Ty a w (b++[v]) (d++[n]):=by
 refine⟨by simp[h.n],fun c i g=> ?_,jN.2 ⟨h.a,D_,fun f j x g=>by simp at g;subst g;exact l f j⟩⟩;by_cases f:c<b.length
 ·rw[vA f,vA (by have:=h.n;omega)];exact h.o c f _
 ·have g:c=b.length:=by simp at i;omega
  subst g;rw[qV X_,qV (by have:=h.n;omega)];simpa[h.n]using k
theorem Aba(b:Nat)(w:World):Ty b w [] []:=⟨rfl,fun a a=>by simp at a,List.Pairwise.nil⟩
structure ShQ(B:Nat)(w:World)(v:Value)(vs:hH)(ls:List (gY)):Prop where
 row:w.ownsRow B 30 1 v vs.length vs
 many:Ty B w vs ls
theorem ON(g m H n:Nat)(b:gY)(f:Nat)(w:World)(c8:b.length=H)(e4:H<=n)(e5:H<=2000000)(c9:0<f)(e6:f<=100)(a6:∀u l,(Al b)[u]?=some l->w.cell? (Q_ g (m+u))=some l)(a7:g<w.heap.size):
  Calls Tryz.prog 176 #[L_ (some (Q_ g m)) H n,J_ (f:Nat)] w fun a1 a5=>∃v i,a1=R_ v/\ShQ w.heap.size a5 v i (shares b f)/\Below w.heap.size w a5:=by
 subst c8;obtain⟨V,c0,-⟩:=Li b f c9;obtain⟨K,B⟩:∃K,K=(b.length+f-1) / f:=⟨_,rfl⟩;have a8:Hid (shares b f=sh K b):=by show _=_;unfold shares;rw[B]
 have d0:((b.length:Int)+(f:Int)-1).tdiv (f:Int)=(K:Int):=by rw[show(b.length:Int)+(f:Int)-1=((b.length+f-1:Nat):Int)by omega,B];exact bB _ _
 rw[<-B]at V c0;clear B V;have a9:=Aa a6;clear a6;have d1:¬(f:Int)=0:=O_
 go_in;go_wp2_with fail
 go_loopw [0,5,6] (fun c4 c5 c6 wr=>∃(d a:Nat) (C:Addr) (i:hH) (k:List (gY)),c6=J_ (d:Nat)/\a+d<=b.length/\c4=L_ (some C) (b.length-a) (n-a)/\(b.length-a=0\/C=(Q_ g (m+a*2)))/\ShQ w.heap.size wr c5 i k/\Hid (k++sh d (b.drop a)=shares b f)/\k.length<=K/\k.length+d=K/\Below w.heap.size w wr) (fun _ _ N _=>(intOf N).toNat)
 case atStart=>exact⟨K,0,(Q_ g m),[],[],rfl,O_,rfl,.inr D_,⟨yP _ _ _ _,Aba _ _⟩,by show _=_;rw[a8.o];rfl,D_,D_,xA _ _⟩
 case round=>
  obtain⟨d,a,C,i,k,rfl,e1,rfl,W,X,D,e2,e3,M⟩:=hrel;have r:=Aa X;have z:=Aa M;have I:=M.size;clear X M;by_cases c7:d=0
  ·subst c7;have b0:Hid (k=shares b f):=by
    show _=_;rw[<-D.o];simp[sh]
   clear D;go_wp2_with fail;go_ret;exact⟨_,i,rfl,by rw[<-b0.o];exact r.o,z.o⟩
  ·have b1:C=(Q_ g (m+a*2)):=W.resolve_left O_;subst b1;clear W;obtain⟨c,s⟩:∃c,c=(b.length-a+(d-1)) / (d-1+1):=⟨_,rfl⟩;have d2:(((b.length-a:Nat):Int)+(d:Int)-1).tdiv (d:Int)=(c:Int):=by
    rw[show((b.length-a:Nat):Int)+(d:Int)-1=((b.length-a+(d-1):Nat):Int)by omega,show(d:Int)=((d-1+1:Nat):Int)by omega,s];exact bB _ _
   have d3:c<=b.length-a:=(by rw[s];exact SY _ _);have J:(b.drop a).length=b.length-a:=xY;have b2:Hid ((k++[(b.drop a).take c])++sh (d-1) (b.drop (a+c))=shares b f):=by
    show _=_;rw[<-D.o,xT];congr 1
    conv=>rhs;rw[show d=d-1+1 by omega,sh]
    rw[J,<-s,jG];rfl
   have b3:a+c+(d-1)<=b.length:=by
    have b4:c*(d-1+1)<=b.length-a+(d-1):=(by rw[s];exact dZ _ _);have b5:c*(d-1+1)=c*(d-1)+c:=(by rw[qG,kJ]);rcases(show c=0\/c=1\/2<=c by omega)with h|h|h
    ·omega
    ·omega
    ·have d4:2*(d-1)<=c*(d-1):=kW _ h;omega
   have d5:¬(d:Int)=0:=O_;have d6:(0:Int)<(d:Int):=O_;have d7:0<d:=O_;have S:=Aa (SX (Q_ g (m+a*2)) c (n-a) ((b.drop a).take c) wr (by rw[xR,J];omega) O_ (fun u l y=>by
    rw[Dy,aC];have b6:(Al b)[a*2+u]?=some l:=by
     rw[Ob _ _ O_,qT]at y;split at y
     ·rw[Zx _ _ O_,kZ]at y;exact y
     ·cases y
    exact(z.o.cell (p:=(Q_ g (m+(a*2+u)))) a7).trans (a9.o _ _ b6)) (yF a7 I))
   clear s D J;have d8:c<=n-a:=O_;go_wp2_with fail;refine S.o.mono ?_;rintro a1 F ⟨a2,rfl,O,t⟩;have d9:=t.size;have j:Hid (ShQ w.heap.size F u5 i k):=⟨Ae r.o.row t X_,r.o.many.keep (Mod.of_below (F:=fun _=>False) t) (fun _ _ _ _ c=>c)⟩;have A:Hid (Ap w.heap.size F a2 ((b.drop a).take c)):=Bi O I;have T:Hid (∀l∈i,∀g,l.ownBlock=some g->a2.ownBlock≠some g):=fun l p o q G=>by have b4:=(r.o.many.lt p o q).2;have b5:=(xF O o G).1;omega
   have L:=Aa (z.o.trans (t.mono I));clear S t O;obtain⟨Y,Z,a0,rfl⟩:=Fo A.o;have U:w.heap.size<=F.heap.size:=L.o.size;have e0:i.length<=2000000:=(by have:=j.o.many.n;omega);go_wp2_with (at_builtin;refine Ix F rfl (.tmp 26) (.tmp 31) 68 30 Tryz.underlying68 _ 1 24 IM rfl Do Do rfl w.heap.size u5 i.length i rfl j.o.row [L_ Y Z a0] rfl (by intro l p;simp at p;subst p;rfl) rfl O_ U ?_;intro c2 a3 a4 R c3);have b7:Hid (ShQ w.heap.size a3 c2 (i++[L_ Y Z a0]) (k++[(b.drop a).take c])):=by
    have b8:=Mod.of_grown R;refine⟨by rw[xC];exact a4,?_⟩;refine(j.o.many.snoc A.o T.o).keep b8 fun l p o q G=> ?_
    rcases xE.1 p with h|h
    ·obtain⟨N,c1,rfl⟩:=jK h;exact Dq (j.o.many.o N c1 (by have:=j.o.many.n;omega)) j.o.row Do o q G
    ·simp at h;subst h;exact Dq A.o j.o.row Do o q G
   have b9:Hid (Below w.heap.size w a3):=L.o.grown R U (fun o q=>(xF j.o.row o q).1);clear a4 R c3 j A T L r z;refine⟨⟨d-1,a+c,(if n-a=c then(Q_ g (m+a*2))else(Q_ g (m+a*2+c*2))),_,_,?_,b3,?_,?_,b7.o,b2.o,K_,K_,b9.o⟩,by simp[intOf];omega⟩
   ·congr 1;omega
   ·rw[show b.length-(a+c)=b.length-a-c by omega,show n-(a+c)=n-a-c by omega];split<;>rfl
   ·by_cases h0:b.length-(a+c)=0
    ·exact .inl h0
    ·right;rw[xB O_];congr 1;omega
theorem YI:(Tryz.prog.info? 121).map (fun a=>(a.zero,a.size,a.bytes))=some (some Z_,1,24):=S_
theorem Ru(a:hA)(b:Nat)(d:b<=a.length):An (a.drop b)=(An a).drop (b*2):=by
 have h:An a=An (a.take b)++An (a.drop b):=by rw[<-Dj,zK]
 have c:(An (a.take b)).length=b*2:=by rw[Bj,xR];omega
 rw[h,<-c,jQ]
theorem Ju(a:hA)(b:Nat)(d:b<=a.length):An (a.take b)=(An a).take (b*2):=by
 have h:An a=An (a.take b)++An (a.drop b):=by rw[<-Dj,zK]
 have c:(An (a.take b)).length=b*2:=by rw[Bj,xR];omega
 rw[h,<-c,jB]
theorem SZ(c:Addr)(g i:Nat)(a:hA)(w:World)(s:a.length=g)(y:g<=20000000)(j:∀b d,(An a)[b]?=some d->w.cell? (c.add b)=some d)(t:c.block<w.heap.size):
  Calls Tryz.prog 231 #[.slice (some c) g i] w fun k f=>∃v,k=.returned v/\Bf w.heap.size f v a/\Below w.heap.size w f:=by
 subst s;have u:∀f,(binOp BinOp.eql 121 (.slice (some c) a.length i) (.slice none 0 0)).run Tryz.prog f=.ok (.bool false) f:=fun f=>dI f _ _ _ jP
 have f:=Aa ((xA w.heap.size w).alloc X_ (.cells #[] 132));have l:=Aa (IW w 132 2);have m:Hid (∀b d,(An a)[b]?=some d->(w.alloc (.cells #[] 132)).cell? (c.add b)=some d):=fun b d k=>(f.o.cell (p:=c.add b) (by rw[show(c.add b).block=c.block by unfold Addr.add;split<;>rfl];exact t)).trans (j b d k)
 have n:Hid (w.heap.size<=(w.alloc (.cells #[] 132)).heap.size):=f.o.size;have o:Hid ((An a).length=a.length*2):=Bj a;clear j;go_in;go_wp2_with (at_builtin;refine Ni _ rfl (.tmp 5) (.tmp 6) 121 132 jP _ 2 24 Hu rfl Do Do rfl w.heap.size (.slice (some ⟨w.heap.size,0,none⟩) 0 0) 0 [] rfl l.o c a.length i (An a) rfl o.o m.o (Fp a) O_ n.o ?_;intro b d j k q);have p:Hid (Bf w.heap.size d b a/\Below w.heap.size w d):=by refine⟨?_,f.o.grown k f.o.size (fun r r=>by cases r;exact Nat.le_refl _)⟩;unfold Bf;simpa using j
 clear j k q;go_ret;exact⟨b,rfl,p.o⟩
structure Od(B:Nat)(w:World)(vs:hH)(ls:List (hA)):Prop where
 n:vs.length=ls.length
 o:∀i (h:i<vs.length) (h':i<ls.length),Bf B w (vs[i]'h) (ls[i]'(h'))
 a:vs.Pairwise fun u v=>∀g,u.ownBlock=some g->v.ownBlock≠some g
theorem Od.keep(h:Od a w b f)(j:Mod g w w')(k:∀v∈b,∀c,v.ownBlock=some c->¬g c):Od a w' b f:=
 ⟨h.n,fun d c i=>j.row (h.o d c i) (k _ (yA c)),h.a⟩
theorem Od.lt{a:Nat}{w:World}{b:hH}{f:List (hA)}(h:Od a w b f){v:Value}(i:v∈b)(c:Nat)(j:v.ownBlock=some c):a<=c/\c<w.heap.size:=by obtain⟨d,g,rfl⟩:=jK i;exact xF (h.o d g (by have:=h.n;omega)) c j
theorem Od.snoc(h:Od a w b f){i:hA}(l:Bf a w v i)(m:∀d∈b,∀c,d.ownBlock=some c->v.ownBlock≠some c):Od a w (b++[v]) (f++[i]):=by
 refine⟨by simp[h.n],fun c j g=> ?_,jN.2 ⟨h.a,D_,fun d k x g=>by simp at g;subst g;exact m d k⟩⟩;by_cases d:c<b.length
 ·rw[vA d,vA (by have:=h.n;omega)];exact h.o c d _
 ·have g:c=b.length:=by simp at j;omega
  subst g;rw[qV X_,qV (by have:=h.n;omega)];simpa[h.n]using l
theorem YJ(b:Nat)(w:World):Od b w [] []:=⟨rfl,fun a a=>by simp at a,List.Pairwise.nil⟩
structure ShP(B:Nat)(w:World)(v:Value)(vs:hH)(ls:List (hA)):Prop where
 row:w.ownsRow B 121 1 v vs.length vs
 many:Od B w vs ls
theorem OO(g m H n:Nat)(b:hA)(f:Nat)(w:World)(c8:b.length=H)(e4:H<=n)(e5:H<=2000000)(c9:0<f)(e6:f<=100)(a6:∀u l,(An b)[u]?=some l->w.cell? (Q_ g (m+u))=some l)(a7:g<w.heap.size):
  Calls Tryz.prog 177 #[L_ (some (Q_ g m)) H n,J_ (f:Nat)] w fun a1 a5=>∃v i,a1=R_ v/\ShP w.heap.size a5 v i (shares b f)/\Below w.heap.size w a5:=by
 subst c8;obtain⟨V,c0,-⟩:=Li b f c9;obtain⟨K,B⟩:∃K,K=(b.length+f-1) / f:=⟨_,rfl⟩;have a8:Hid (shares b f=sh K b):=by show _=_;unfold shares;rw[B]
 have d0:((b.length:Int)+(f:Int)-1).tdiv (f:Int)=(K:Int):=by rw[show(b.length:Int)+(f:Int)-1=((b.length+f-1:Nat):Int)by omega,B];exact bB _ _
 rw[<-B]at V c0;clear B V;have a9:=Aa a6;clear a6;have d1:¬(f:Int)=0:=O_
 go_in;go_wp2_with fail
 go_loopw [0,5,6] (fun c4 c5 c6 wr=>∃(d a:Nat) (C:Addr) (i:hH) (k:List (hA)),c6=J_ (d:Nat)/\a+d<=b.length/\c4=L_ (some C) (b.length-a) (n-a)/\(b.length-a=0\/C=(Q_ g (m+a*2)))/\ShP w.heap.size wr c5 i k/\Hid (k++sh d (b.drop a)=shares b f)/\k.length<=K/\k.length+d=K/\Below w.heap.size w wr) (fun _ _ N _=>(intOf N).toNat)
 case atStart=>exact⟨K,0,(Q_ g m),[],[],rfl,O_,rfl,.inr D_,⟨yP _ _ _ _,YJ _ _⟩,by show _=_;rw[a8.o];rfl,D_,D_,xA _ _⟩
 case round=>
  obtain⟨d,a,C,i,k,rfl,e1,rfl,W,X,D,e2,e3,M⟩:=hrel;have r:=Aa X;have z:=Aa M;have I:=M.size;clear X M;by_cases c7:d=0
  ·subst c7;have b0:Hid (k=shares b f):=by
    show _=_;rw[<-D.o];simp[sh]
   clear D;go_wp2_with fail;go_ret;exact⟨_,i,rfl,by rw[<-b0.o];exact r.o,z.o⟩
  ·have b1:C=(Q_ g (m+a*2)):=W.resolve_left O_;subst b1;clear W;obtain⟨c,s⟩:∃c,c=(b.length-a+(d-1)) / (d-1+1):=⟨_,rfl⟩;have d2:(((b.length-a:Nat):Int)+(d:Int)-1).tdiv (d:Int)=(c:Int):=by
    rw[show((b.length-a:Nat):Int)+(d:Int)-1=((b.length-a+(d-1):Nat):Int)by omega,show(d:Int)=((d-1+1:Nat):Int)by omega,s];exact bB _ _
   have d3:c<=b.length-a:=(by rw[s];exact SY _ _);have J:(b.drop a).length=b.length-a:=xY;have b2:Hid ((k++[(b.drop a).take c])++sh (d-1) (b.drop (a+c))=shares b f):=by
    show _=_;rw[<-D.o,xT];congr 1
    conv=>rhs;rw[show d=d-1+1 by omega,sh]
    rw[J,<-s,jG];rfl
   have b3:a+c+(d-1)<=b.length:=by
    have b4:c*(d-1+1)<=b.length-a+(d-1):=(by rw[s];exact dZ _ _);have b5:c*(d-1+1)=c*(d-1)+c:=(by rw[qG,kJ]);rcases(show c=0\/c=1\/2<=c by omega)with h|h|h
    ·omega
    ·omega
    ·have d4:2*(d-1)<=c*(d-1):=kW _ h;omega
   have d5:¬(d:Int)=0:=O_;have d6:(0:Int)<(d:Int):=O_;have d7:0<d:=O_;have S:=Aa (SZ (Q_ g (m+a*2)) c (n-a) ((b.drop a).take c) wr (by rw[xR,J];omega) O_ (fun u l y=>by
    rw[Dy,aC];have b6:(An b)[a*2+u]?=some l:=by
     rw[Ju _ _ O_,qT]at y;split at y
     ·rw[Ru _ _ O_,kZ]at y;exact y
     ·cases y
    exact(z.o.cell (p:=(Q_ g (m+(a*2+u)))) a7).trans (a9.o _ _ b6)) (yF a7 I))
   clear s D J;have d8:c<=n-a:=O_;go_wp2_with fail;refine S.o.mono ?_;rintro a1 F ⟨a2,rfl,O,t⟩;have d9:=t.size;have j:Hid (ShP w.heap.size F u5 i k):=⟨Ae r.o.row t X_,r.o.many.keep (Mod.of_below (F:=fun _=>False) t) (fun _ _ _ _ c=>c)⟩;have A:Hid (Bf w.heap.size F a2 ((b.drop a).take c)):=Bi O I;have T:Hid (∀l∈i,∀g,l.ownBlock=some g->a2.ownBlock≠some g):=fun l p o q G=>by have b4:=(r.o.many.lt p o q).2;have b5:=(xF O o G).1;omega
   have L:=Aa (z.o.trans (t.mono I));clear S t O;obtain⟨Y,Z,a0,rfl⟩:=Fo A.o;have U:w.heap.size<=F.heap.size:=L.o.size;have e0:i.length<=2000000:=(by have:=j.o.many.n;omega);go_wp2_with (at_builtin;refine Ix F rfl (.tmp 26) (.tmp 31) 230 121 Tryz.underlying230 _ 1 24 YI rfl Do Do rfl w.heap.size u5 i.length i rfl j.o.row [L_ Y Z a0] rfl (by intro l p;simp at p;subst p;rfl) rfl O_ U ?_;intro c2 a3 a4 R c3);have b7:Hid (ShP w.heap.size a3 c2 (i++[L_ Y Z a0]) (k++[(b.drop a).take c])):=by
    have b8:=Mod.of_grown R;refine⟨by rw[xC];exact a4,?_⟩;refine(j.o.many.snoc A.o T.o).keep b8 fun l p o q G=> ?_
    rcases xE.1 p with h|h
    ·obtain⟨N,c1,rfl⟩:=jK h;exact Dq (j.o.many.o N c1 (by have:=j.o.many.n;omega)) j.o.row Do o q G
    ·simp at h;subst h;exact Dq A.o j.o.row Do o q G
   have b9:Hid (Below w.heap.size w a3):=L.o.grown R U (fun o q=>(xF j.o.row o q).1);clear a4 R c3 j A T L r z;refine⟨⟨d-1,a+c,(if n-a=c then(Q_ g (m+a*2))else(Q_ g (m+a*2+c*2))),_,_,?_,b3,?_,?_,b7.o,b2.o,K_,K_,b9.o⟩,by simp[intOf];omega⟩
   ·congr 1;omega
   ·rw[show b.length-(a+c)=b.length-a-c by omega,show n-(a+c)=n-a-c by omega];split<;>rfl
   ·by_cases h0:b.length-(a+c)=0
    ·exact .inl h0
    ·right;rw[xB O_];congr 1;omega
def blk(v:Value):hF:=match v.ownBlock with
 | some g=>[g]
 | none=>[]
theorem Aj:a∈blk v↔v.ownBlock=some a:=by
 unfold blk
 cases v.ownBlock with
 | none=>simp
 | some k=>simp[eq_comm]
theorem Dg(v:Value):(blk v).Nodup:=by
 unfold blk
 cases v.ownBlock<;>simp
def Db{α:Type}(R:Nat->α->hF->Prop):hA->List (Tr.Key×α)->hF->Prop
 | [],[],G=>G=[]
 | x::pl,y::ps,G=>x.1.data.toList=y.1/\∃G1 G2,R x.2 y.2 G1/\Db R pl ps G2/\G=G1++G2
 | _,_,_=>False
theorem Db.len{c:Nat->α->hF->Prop}:∀{a:hA} {b:List (Tr.Key×α)} {d:hF},Db c a b d->a.length=b.length
 | [],[],_,_=>rfl
 | _::_,_::_,_,⟨_,_,_,_,h,_⟩=>by rw[xH,xH,h.len]
 | [],_::_,_,h=>h.elim
 | _::_,[],_,h=>h.elim
theorem Db.keys{c:Nat->α->hF->Prop}:∀{a:hA} {b:List (Tr.Key×α)} {d:hF},Db c a b d->Cp a=b.map (·.1)
 | [],[],_,_=>rfl
 | x::a,y::b,_,⟨e,_,_,_,h,_⟩=>by have:=h.keys;unfold Cp at*;rw[yD,yD,this,e]
 | [],_::_,_,h=>h.elim
 | _::_,[],_,h=>h.elim
theorem Db.imp{c p:Nat->α->hF->Prop}:∀{i:hA} {j:List (Tr.Key×α)} {f:hF},Db c i j f->(∀b d a,(∀g∈a,g∈f)->c b d a->p b d a)->Db p i j f
 | [],[],_,h,_=>h
 | _::_,_::_,_,⟨e,G1,G2,h1,h2,rfl⟩,hR=>⟨e,G1,G2,hR _ _ _ (fun _ f=>yN _ f) h1,h2.imp fun b d a i=>hR b d a fun g f=>yE _ (i g f),rfl⟩
 | [],_::_,_,h,_=>h.elim
 | _::_,[],_,h,_=>h.elim
theorem Db.append{α:Type}{c:Nat->α->hF->Prop}{i:hA}{Bs:List (Tr.Key×α)}{q:hF}(d:Db c i Bs q):∀{a:hA} {As:List (Tr.Key×α)} {b:hF},Db c a As b->Db c (a++i) (As++Bs) (b++q)
 | [],[],_,h=>by rw[show _=[]from h];exact d
 | _::_,_::_,_,⟨e,F1,F2,h1,h2,rfl⟩=>⟨e,F1,F2++q,h1,Db.append d h2,by rw[xT]⟩
 | [],_::_,_,h=>h.elim
 | _::_,[],_,h=>h.elim
theorem Db.split{α:Type}{c:Nat->α->hF->Prop}{Bs:List (Tr.Key×α)}:∀{As:List (Tr.Key×α)} {d:hA} {f:hF},Db c d (As++Bs) f->∃a g b i,d=a++g/\a.length=As.length/\Db c a As b/\Db c g Bs i/\f=b++i
 | [],d,f,h=>⟨[],d,[],f,rfl,rfl,rfl,h,rfl⟩
 | y::As,x::d,f,⟨e,F1,F2,h1,h2,hG⟩=>by obtain⟨a,g,b,i,rfl,d,f,j,rfl⟩:=Db.split h2;exact⟨x::a,g,F1++b,i,rfl,by rw[xH,xH,d],⟨e,F1,b,h1,f,rfl⟩,j,by rw[hG,xT]⟩
 | _::_,[],_,h=>h.elim
def Rep:(h:Nat)->World->Nat->Tr.Ai h->hF->Prop
 | 0,w,p,l,F=>∃vi il,Ax w p vi Z_ Z_/\Ap 0 w vi il/\Ab il=l/\F=p::blk vi
 | h+1,w,p,(ps,cs),F=>∃vp vc pl ml G,Ax w p Z_ vp vc/\Bf 0 w vp pl/\Bb 0 w vc ml/\Ac ml=cs/\Db (Rep h w) pl ps G/\F=p::(blk vp++(blk vc++G))
theorem wgA {h:Nat} {w:World} (H:∀ {b:Nat} {c:Tr.Ai h} {a:hF},Rep h w b c a->∀b∈a,b<w.heap.size):∀(pl:hA) (ps:List (Tr.Key×Tr.Ai h)) (G:hF),Db (Rep h w) pl ps G->∀g∈G,g<w.heap.size
 | [],[],_,hk,g,hg=>by rw[show _=[]from hk]at hg;cases hg
 | _::pl,_::ps,_,⟨_,G1,G2,h1,h2,rfl⟩,g,hg=>by
  rcases xE.1 hg with hg|hg
  ·exact H h1 g hg
  ·exact wgA H pl ps G2 h2 g hg
 | [],_::_,_,h,_,_=>h.elim
 | _::_,[],_,h,_,_=>h.elim
theorem Rep.lt:∀{h:Nat} {w:World} {b:Nat} {c:Tr.Ai h} {a:hF},Rep h w b c a->∀b∈a,b<w.heap.size
 | 0,_,_,_,_,⟨vi,il,h1,h2,_,rfl⟩,b,a=>by
  rcases xG.1 a with rfl|a
  ·exact h1.lt
  ·exact(xF h2 b (Aj.1 a)).2
 | h+1,_,_,(ps,cs),_,⟨vp,vc,pl,ml,G,h1,h2,h3,_,h4,rfl⟩,b,a=>by
  rcases xG.1 a with rfl|a
  ·exact h1.lt
  ·rcases xE.1 a with a|a
   ·exact(xF h2 b (Aj.1 a)).2
   ·rcases xE.1 a with a|a
    ·exact(xF h3 b (Aj.1 a)).2
    ·exact wgA (fun q=>Rep.lt (h:=h) q) pl ps G h4 b a
theorem Rep.keep:∀{h:Nat} {w w':World} {c:Nat} {d:Tr.Ai h} {b:hF},Rep h w c d b->(∀a∈b,w'.heap[a]?=w.heap[a]?)->Rep h w' c d b
 | 0,_,_,c,_,_,⟨vi,il,h1,h2,e,rfl⟩,hs=>⟨vi,il,(hs c (xU ..)).trans h1,Bx h2 fun a b _=>hs a (xZ _ (Aj.2 b)),e,rfl⟩
 | _+1,_,_,c,(_,_),_,⟨vp,vc,pl,ml,G,h1,h2,h3,e,h4,rfl⟩,hs=>
  ⟨vp,vc,pl,ml,G,(hs c (xU ..)).trans h1,Bx h2 fun a b _=>hs a (xZ _ (yN _ (Aj.2 b))),Bx h3 fun a b _=>hs a (xZ _ (yE _ (yN _ (Aj.2 b)))),e,
   h4.imp fun _ _ _ c d=>Rep.keep d fun a b=>hs a (xZ _ (yE _ (yE _ (c a b)))),rfl⟩
