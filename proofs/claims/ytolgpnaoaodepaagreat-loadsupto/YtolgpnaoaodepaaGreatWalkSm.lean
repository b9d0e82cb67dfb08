import Derived.Test.YtolgpnaoaodepaaGreatLdCm
set_option maxHeartbeats 2000000
set_option maxRecDepth 100000
namespace Go.Proofs.YtolgpnaoaodepaaGreat
open Go.RowKit Pg
variable {c:List Int}{d:List hE}{f:List (Int×hE×hE)}{w:World}{a:Nat}{b:hE}
theorem Aeg(w:World){g:Array Oper}{i:Oper}{j:Act}{K:Act->World->Prop}{Q:Exit->Act->World->Prop}{E:Prop}(B:i.guard=none)(m x:Operand)(C:i.op=Op.call {callee:=Callee.builtin Builtin.append,args:= #[m,x],argTypes:= #[108,108]})(k:Nat)(v:Value)(d:hE)(D:j.eval m=v)(F:Bp k w v d)(c:UInt8)(l:Nat)(G:j.eval x=L_ (P_ l) 1 1)(H:w.cell? (Q_ l 0)=some (.int .u8 (c.toNat:Int)))(J:d.length+1<=1000000000)(I:k<=w.heap.size)(h:∀(a:Value) (b:World),Bp k b a (d++[c])->Ku w b v a->K (j.put i.dst a) b):if Region.wanted i (yielded g j.tmps)=true then Oper.wp Tryz.prog i j w K Q else E:=by
 have n:Region.wanted i (yielded g j.tmps)=true:=by simp[Region.wanted,B]
 rw[xD n];obtain⟨o,p,q,r,s⟩:=zB Lq;obtain⟨a,b,t,u,y,_,z⟩:=kY (P:=Tryz.prog) w k 108 i.type 5 o (.int .u8 0) 1 1 jC p q r s rfl Do v d.length (Lib.byteCells d) F (Q_ l 0) 1 1 (Lib.byteCells [c]) rfl (fun A f f=>by
  match A,f with
  | 0,f=>simp[Lib.byteCells]at f;subst f;simpa[Addr.add]using H) (Ok [c]) (by unfold maxLen;omega) O_ I
 have f:K (j.put i.dst a) b:=by refine h a b ?_ ⟨y,z.imp_right fun e=>⟨w.heap.size,X_,e⟩⟩;unfold Bp;rw[xC,wF];exact u
 unfold Oper.wp;simp[execOp,C,resolve,invoke,builtin,D,G,t,Result.andThen];exact f
theorem LZ(S T:Value)(b:hF)(a:hD)(w:World)(a8:Ik w S b.length (Cl b))(a9:Ik w T a.length (a.map .string))(b7:b.length<=1000)(b8:a.length<=1000)(j:∀y∈b,y<=9223372036854775807)(C:∀z∈a,z.size<=100000):
  Calls Tryz.prog 181 #[S,T] w fun G N=>∃R,G=R_ R/\Bp w.heap.size N R (Pg.Dw b (Ag a))/\Below w.heap.size w N:=by
 obtain⟨b1,b2,rfl,-,L⟩:=a8;obtain⟨b3,b4,rfl,-,M⟩:=a9;have U:=Aa L;have V:=Aa M;have W:=Aa j;have X:=Aa C;clear L M j C;go_in;go_wp2_with fail
 go_loopw [5,12] (fun H m wr=>∃(d:Nat) (k:hE),d<=b.length/\m=J_ d/\Bp w.heap.size wr H k/\Below w.heap.size w wr/\k.length<=10*d/\k++(b.drop d).flatMap Pg.num=b.flatMap Pg.num) (fun _ m _=>b.length-(intOf m).toNat)
 case atStart=>exact⟨0,[],Y_,rfl,Bp.nil _ _,xA _ _,D_,rfl⟩
 case round=>
  obtain⟨d,k,a2,rfl,p,l,a3,q⟩:=hrel;have f:=Aa p;have g:=Aa l;have i:=Aa q;have n:=l.size;clear p l q;by_cases t:d<b.length
  ·obtain⟨a4,a5,D,F,j⟩:=U.o.resolve_left O_;subst D;have Y:=KV (pl:=b) j g.o F d t;clear j;have I:=W.o _ (yA t);rw[yM t,jJ]at i;generalize b[d]'t=y at*;have b0:=Fj y I;go_wp2_with fail;refine(Sz w.heap.size u5 k y _ f.o n O_ I).mono ?_;rintro G a6 ⟨a7,rfl,r,s⟩;have A:=Aa r;have B:=Aa (g.o.trans (s.below f.o n));clear r s;go_wp2_with fail
   go_roundw
   case rel=>exact⟨d+1,_,O_,W_,A.o,B.o,by rw[xC];omega,by rw[<-i.o,xT]⟩
   case measure=>simp[intOf];omega
  ·have J:Hid (k=b.flatMap Pg.num):=by
    show _=_;rw[<-i.o,zG O_];simp
   go_wp2_with fail
   go_loopw [5,22] (fun H m O=>∃(c:Nat) (o:hE),c<=a.length/\m=J_ c/\Bp w.heap.size O H o/\Below w.heap.size w O/\o.length<=10000+200000*c/\o++(Ag (a.drop c)).flatMap Pg.text=Pg.Dw b (Ag a)) (fun _ m _=>a.length-(intOf m).toNat)
   case atStart=>exact⟨0,k,Y_,rfl,f.o,g.o,O_,by rw[J.o];rfl⟩
   case round=>
    clear f g i n J t a3 a2;obtain⟨c,o,b5,rfl,p,l,b6,q⟩:=hrel;have f:=Aa p;have g:=Aa l;have i:=Aa q;have n:=l.size;clear p l q;by_cases u:c<a.length
    ·obtain⟨a4,a5,D,F,j⟩:=V.o.resolve_left O_;subst D;have Y:=Vy (pl:=a) j g.o F c u;clear j;have C:=X.o _ (yA u);have Z:Hid (Ag (a.drop c)=(a[c]'u).data.toList::Ag (a.drop (c+1))):=by
      show _=_;rw[yM u];rfl
     generalize a[c]'u=z at*;rw[Z.o,jJ]at i;have a0:=El z.data.toList (by rw[Ah];omega);rw[Ah]at a0;go_wp2_with fail;refine(Jg w.heap.size u5 o z _ f.o n O_ O_).mono ?_;rintro G a6 ⟨a7,rfl,r,s⟩;have A:=Aa r;have B:=Aa (g.o.trans (s.below f.o n));clear r s;go_wp2_with fail
     go_roundw
     case rel=>exact⟨c+1,_,O_,W_,A.o,B.o,by rw[xC];omega,by rw[<-i.o,xT]⟩
     case measure=>simp[intOf];omega
    ·have a1:Hid (o=Pg.Dw b (Ag a)):=by
      show _=_;rw[<-i.o,zG O_];simp[Ag]
     go_wp2_with fail;go_ret;exact⟨_,rfl,by rw[<-a1.o];exact f.o,g.o⟩
theorem MA(v:Value)(a:gZ)(w:World)(e3:Rk w v a)(g1:a.length<=1000)(a4:∀q∈a,0<=q.1/\q.1<=255/\q.2.1.size<=10000/\q.2.2.size<=10000):
  Calls Tryz.prog 182 #[v] w fun A a1=>∃a2,A=.returned a2/\Bp w.heap.size a1 a2 (Pg.Cc (Ac a))/\Below w.heap.size w a1:=by
 obtain⟨f1,f2,rfl,-,J⟩:=e3;have a5:=Aa J;have a6:=Aa a4;clear J a4;obtain⟨y,L,M⟩:=KW a.length;have a7:=Aa L;have a8:Hid ([y]++(Ac a).flatMap Pg.Ct=Pg.Cc (Ac a)):=by show _=_;unfold Pg.Cc;rw[show(Ac a).length=a.length by simp[Ac],M]
 clear L M;go_in;go_wp2_with fail;have C:=Aa (Rm w w.heap.size X_ [y] #[.int .u8 ((a.length:Int) % 256)] (by simp[Lib.byteCells];rw[a7.o];omega) D_);have D:=Aa ((xA w.heap.size w).alloc X_ (.cells #[.int .u8 ((a.length:Int) % 256)] 5))
 go_loopw [3,12] (fun e1 B wr=>∃(c:Nat) (i:hE),c<=a.length/\B=.int .i64 c/\Bp w.heap.size wr e1 i/\Below w.heap.size w wr/\i.length<=1+30000*c/\i++(Ac (a.drop c)).flatMap Pg.Ct=Pg.Cc (Ac a)) (fun _ B _=>a.length-(intOf B).toNat)
 case atStart=>exact⟨0,[y],Y_,rfl,C.o,D.o,D_,a8.o⟩
 case round=>
  clear C D;obtain⟨c,i,f3,rfl,N,z,f4,O⟩:=hrel;have r:=Aa N;have s:=Aa z;have o:=Aa O;have a9:=z.size;clear N z O;by_cases k:c<a.length
  ·obtain⟨f5,f6,d6,d7,R⟩:=a5.o.resolve_left O_;subst d6;obtain⟨S,T,U⟩:=R.below s.o d7 c k;clear R;have b0:=a6.o _ (yA k);have b1:Hid (Ac (a.drop c)=((a[c]'k).1,(a[c]'k).2.1.data.toList,(a[c]'k).2.2.data.toList)::Ac (a.drop (c+1))):=by
    show _=_;rw[yM k];rfl
   generalize a[c]'k=x at*;obtain⟨V,d,f⟩:=x;simp only at S T U b0;obtain⟨b,rfl⟩:∃e2:Nat,V=(e2:Int):=⟨V.toNat,O_⟩;obtain⟨l,d8,W⟩:=KW b;have b2:Hid (Pg.Ct ((b:Int),d.data.toList,f.data.toList)=[l]++Pg.text d.data.toList++(if(b:Int)=2 then[]else Pg.text f.data.toList)):=(by show _=_;unfold Pg.Ct;simp only[Int.toNat_natCast];rw[W]);have b3:Hid ((l.toNat:Int)=IntKind.u8.wrap (b:Int)):=(by show _=_;rw[show IntKind.u8.wrap (b:Int)=(b:Int) % 256 from rfl];omega);rw[b1.o,jJ,b2.o]at o;clear d8 W;have b4:=Aa (show(wr.alloc (.cells #[.int .i64 (b:Int),.string d,.string f] 34)).cell? ⟨wr.heap.size,0,none⟩=some (.int .i64 (b:Int))by simp);have b5:=Aa (show(wr.alloc (.cells #[.int .i64 (b:Int),.string d,.string f] 34)).cell? ⟨wr.heap.size,1,none⟩=some (.string d)by simp);have b6:=Aa (show(wr.alloc (.cells #[.int .i64 (b:Int),.string d,.string f] 34)).cell? ⟨wr.heap.size,2,none⟩=some (.string f)by simp);have b7:=Aa (s.o.alloc a9 (.cells #[.int .i64 (b:Int),.string d,.string f] 34));have b8:=Aa (r.o.alloc (.cells #[.int .i64 (b:Int),.string d,.string f] 34));have p:=Aa (SI r.o (Nat.le_refl wr.heap.size));have e4:wr.heap.size<(wr.alloc (.cells #[.int .i64 (b:Int),.string d,.string f] 34)).heap.size:=D_;go_wp2_with fail;generalize wr.alloc (.cells #[.int .i64 (b:Int),.string d,.string f] 34)=g at*;generalize wr.heap.size=m at*;clear S T U;have b9:=b4.o;have c0:=b5.o;have c1:=b6.o;have F:Hid (Bp w.heap.size ((g.alloc (.cells #[.int .u8 (IntKind.u8.wrap (b:Int))] 5)).drew) u3 i):=((b8.o.alloc _).drew);have c2:Hid (((g.alloc (.cells #[.int .u8 (IntKind.u8.wrap (b:Int))] 5)).drew).cell? ⟨g.heap.size,0,none⟩=some (.int .u8 (l.toNat:Int))):=(by show _=_;rw[b3.o];simp);have c3:=Aa ((b7.o.alloc O_ (.cells #[.int .u8 (IntKind.u8.wrap (b:Int))] 5)).drew);have c4:((g.alloc (.cells #[.int .u8 (IntKind.u8.wrap (b:Int))] 5)).drew).cell? ⟨m,0,none⟩=some (.int .i64 (b:Int)):=(by show(g.alloc _).cell? _=_;rw[vN _ _ _ (by show m<_;omega)];exact b9);have c5:((g.alloc (.cells #[.int .u8 (IntKind.u8.wrap (b:Int))] 5)).drew).cell? ⟨m,1,none⟩=some (.string d):=(by show(g.alloc _).cell? _=_;rw[vN _ _ _ (by show m<_;omega)];exact c0);have c6:((g.alloc (.cells #[.int .u8 (IntKind.u8.wrap (b:Int))] 5)).drew).cell? ⟨m,2,none⟩=some (.string f):=(by show(g.alloc _).cell? _=_;rw[vN _ _ _ (by show m<_;omega)];exact c1);have e5:g.heap.size<((g.alloc (.cells #[.int .u8 (IntKind.u8.wrap (b:Int))] 5)).drew).heap.size:=D_
   go_region_law (first
    | (refine Aeg _ (by rfl) (.tmp 16) (.tmp 20) (by rfl) w.heap.size u3 i U_ F.o l g.heap.size U_ c2.o O_ O_ ?_
       intro e0 g0 a0 j;have G:=Aa a0;have c7:=Aa (c3.o.trans (j.below F.o O_));have c8:=j.cell c4 p.o;have e6:=j.cell c5 p.o;have c9:=j.cell c6 p.o;have H:=Aa (j.ne O_ p.o);have e7:=j.size;clear a0 j)
    | (go_simp
       refine(Jg w.heap.size e0 _ d _ G.o O_ K_ O_).mono ?_;rintro A f7 ⟨d9,rfl,X,n⟩;have t:=Aa X;have I:=Aa (c7.o.trans (n.below G.o O_));have e8:=n.cell c8 H.o;have e9:=n.cell c9 H.o;have f0:=n.size;clear X n))
   all_goals
    have d0:=El d.data.toList (by rw[Ah];omega);rw[Ah]at d0;have d1:=El f.data.toList (by rw[Ah];omega);rw[Ah]at d1;by_cases a3:b=2
    ·have d2:((b:Int)==2)=true:=K_;have u:Hid (i++[l]++Pg.text d.data.toList++(Ac (a.drop (c+1))).flatMap Pg.Ct=Pg.Cc (Ac a)):=by
      show _=_;rw[<-o.o,xD O_];simp
     clear a3;go_wp2_with fail
     go_roundw
     case rel=>exact⟨c+1,_,O_,W_,t.o,I.o,by simp only[xC,jR];omega,u.o⟩
     case measure=>simp[intOf];omega
    ·have d2:((b:Int)==2)=false:=K_;have u:Hid (i++[l]++Pg.text d.data.toList++Pg.text f.data.toList++(Ac (a.drop (c+1))).flatMap Pg.Ct=Pg.Cc (Ac a)):=by
      show _=_;rw[<-o.o,xB O_];simp
     clear a3;go_wp2_with fail;refine(Jg w.heap.size d9 _ f _ t.o O_ (by simp only[xC,jR];omega) O_).mono ?_;rintro A f8 ⟨f9,rfl,Y,Z⟩;have d3:=Aa Y;have d4:=Aa (I.o.trans (Z.below t.o O_));clear Y Z;go_wp2_with fail
     go_roundw
     case rel=>exact⟨c+1,_,O_,W_,d3.o,d4.o,by simp only[xC,jR];omega,u.o⟩
     case measure=>simp[intOf];omega
  ·have d5:Hid (i=Pg.Cc (Ac a)):=by
    show _=_;rw[<-o.o,zG O_];simp[Ac]
   go_wp2_with fail;go_ret;exact⟨_,rfl,by rw[<-d5.o];exact r.o,s.o⟩
theorem Nn{α:Type}(b:α->hE)(c:Nat):∀(a:List α),(∀x∈a,(b x).length<=c)->(a.flatMap b).length<=c*a.length
 | [],_=>D_
 | x::r,h=>by rw[jJ,xC,xH,qG];have f:=h x D_;have g:=Nn b c r (fun a d=>h a (by simp[d]));omega
theorem PD(c:hF)(d:List hE)(k:c.length<=4)(l:d.length<=4)(i:∀b∈c,b<=2147483647)(f:∀a∈d,a.length<=12):(Pg.Dw c d).length<=400:=by unfold Pg.Dw;rw[xC];have j:=Nn Pg.num 10 c (fun b g=>Fj b (by have:=i b g;omega));have g:=Nn Pg.text 30 d (fun a b=>by have:=El a (by have:=f a b;omega);have:=f a b;omega);omega
theorem BD(m:Int)(T U V W:Value)(a:hF)(c:hD)(b:gZ)(w:World)(c4:∃f g d,T=L_ f g d)(u:Ik w U a.length (Cl a))(y:Ik w V c.length (c.map .string))(z:Rk w W b)(c5:a.length<=4)(C:∀d∈a,d<=2147483647)(c6:c.length<=4)(D:∀A∈c,A.size<=12)(f0:b.length<=8)(l:∀d∈b,(0<=d.1/\d.1<=255)/\d.2.1.size<=12/\d.2.2.size<=16):
  Calls Tryz.prog 130 #[.agg #[J_ m,T,U,V,W]] w fun i f=>i=R_ (B_ ⟨(Pg.Fb a (Ag c) (Ac b)).toArray⟩)/\Below w.heap.size w f:=by
 obtain⟨n,o,p,rfl⟩:=c4;obtain⟨j,k,rfl,-,-⟩:=id u;obtain⟨q,r,rfl,-,-⟩:=id y;obtain⟨s,t,rfl,-,-⟩:=id z;have f:=(xA w.heap.size w).alloc X_ (C_ #[J_ m,L_ n o p,L_ j a.length k,L_ q c.length r,L_ s b.length t] 79);have X:=Aa f;have F:=Aa (u.below f);have G:=Aa (y.below f);have H:=Aa (z.below f);have I:Hid ((w.alloc (C_ #[J_ m,L_ n o p,L_ j a.length k,L_ q c.length r,L_ s b.length t] 79)).heap[w.heap.size]?=some (C_ #[J_ m,L_ n o p,L_ j a.length k,L_ q c.length r,L_ s b.length t] 79 (0,0))):=xK _ _;have c7:w.heap.size<(w.alloc (C_ #[J_ m,L_ n o p,L_ j a.length k,L_ q c.length r,L_ s b.length t] 79)).heap.size:=D_;have c8:=PD a (Ag c) c5 (by simp[Ag];exact c6) C (by intro A B;simp only[Ag,xL]at B;obtain⟨b7,b8,rfl⟩:=B;rw[Ah];exact D b7 b8);have Y:=CO (Ac b) (CN (fun x g=>⟨⟨(l x g).1.1,by have:=(l x g).1.2;omega⟩,(l x g).2⟩));have J:(Ac b).length=b.length:=by simp[Ac]
 rw[J]at Y;have L:=Pg.Ek [112] (Pg.Dw a (Ag c)) O_;have M:=Pg.Ek [109] (Pg.Cc (Ac b)) O_;have Z:=Aa l;have a0:=Aa D;have a1:=Aa C;obtain⟨g,R,S⟩:=KW a.length;have a2:=Aa R;have a3:Hid (Pg.Fb a (Ag c) (Ac b)=Pg.sealed ([83,50,73,g]++Pg.low (Pg.Ck a (Ag c)).length 2++Pg.low (Pg.Cf (Ac b)).length 2++List.replicate 56 0)++Pg.Ck a (Ag c)++Pg.Cf (Ac b)):=by show _=_;unfold Pg.Fb;rw[S];rfl
 have N:Hid (Pg.Ar [112] (Pg.Dw a (Ag c))=Pg.Ck a (Ag c)):=rfl;have O:Hid (Pg.Ar [109] (Pg.Cc (Ac b))=Pg.Cf (Ac b)):=rfl;have c9:(Pg.Ck a (Ag c)).length<=500:=by rw[<-N.o];simp at L;omega
 have d0:(Pg.Cf (Ac b)).length<=600:=by rw[<-O.o];simp at M;omega
 clear f u y z l D C R S L M J;go_in;go_wp2_with fail;generalize w.alloc (C_ #[J_ m,L_ n o p,L_ j a.length k,L_ q c.length r,L_ s b.length t] 79)=c3 at*;refine(LZ _ _ a c _ F.o G.o O_ O_ (fun d u=>by have:=a1.o d u;omega) (fun A B=>by have:=a0.o A B;omega)).mono ?_;rintro i e1 ⟨u1,rfl,l,f⟩;have a4:=Aa l;have y:=Aa (H.o.below f);have C:=Aa ((f.block w.heap.size O_).trans I.o);have a5:=Aa (X.o.trans (f.mono O_));have d1:=f.size;clear l f F G H I;go_wp2_with fail;refine(Px c3.heap.size 112 u1 _ _ a4.o O_).mono ?_;rintro i b9 ⟨rfl,f⟩;have a6:=Aa (y.o.below f);have l:=Aa ((f.block w.heap.size O_).trans C.o);have a7:=Aa (a5.o.trans (f.mono O_));have d2:=f.size;obtain⟨D,F,z,G,H⟩:=Dv l.o;rw[N.o];clear f y C;go_wp2_with fail;refine(MA _ b _ a6.o O_ (fun d u=>by have:=Z.o d u;omega)).mono ?_;rintro i e2 ⟨u3,rfl,u,d⟩;have a8:=Aa u;have f:=Aa ((d.block w.heap.size O_).trans l.o);have a9:=Aa (a7.o.trans (d.mono O_));have d3:=d.size;clear u d l D F z G H;go_wp2_with fail;refine(Px b9.heap.size 109 u3 _ _ a8.o O_).mono ?_;rintro i l ⟨rfl,d⟩;have b0:=Aa ((d.block w.heap.size O_).trans f.o);have b1:=Aa (a9.o.trans (d.mono O_));have d4:=d.size;rw[O.o];clear d f;obtain⟨D,F,z,G,H⟩:=Dv b0.o;generalize Pg.Ck a (Ag c)=d at*;generalize Pg.Cf (Ac b)=f at*;have d5:=Ba d;have d6:=Ba f;have J:=gB (P:=Tryz.prog) l 108 5 #[.int .u8 83,.int .u8 50,.int .u8 73] 3 3 l.heap.size rfl jC wA;have C:(l.alloc (C_ #[.int .u8 83,.int .u8 50,.int .u8 73] 5 (3,4))).cell? (Q_ w.heap.size 2)=some (L_ j a.length k):=by rw[vN _ _ _ (by show w.heap.size<_;omega)];exact z
 go_wp2_with (first
  | (at_builtin;refine Afj l rfl (.tmp 17) (.tmp 22) rfl 83 50 73 _ _ _ _ rfl rfl rfl g ?_ l.heap.size (l.heap.size+1) rfl rfl rfl rfl w.heap.size O_ ?_))
 ·rw[a2.o];omega
 intro c2 e7 u y e8 I M e9;have L:=Aa u;have b2:=Aa (b1.o.trans (y.mono O_));clear u y I M J D F z G H C;go_wp2_with fail;refine(Rn w.heap.size c2 _ d.length _ L.o O_ D_).mono ?_;rintro i e3 ⟨c0,rfl,C,u⟩;have M:=Aa C;have b3:=Aa (b2.o.trans (u.below L.o O_));have d7:=u.size;have y:=Pg.Bo 2 d.length;clear C u;go_wp2_with fail;refine(Rn w.heap.size c0 _ f.length _ M.o O_ (by simp[y])).mono ?_;rintro i e4 ⟨c1,rfl,I,u⟩;have R:=Aa I;have b4:=Aa (b3.o.trans (u.below M.o O_));have d8:=u.size;have C:=Pg.Bo 2 f.length;clear I u;go_wp2_with fail;refine(Wa w.heap.size c1 _ _ R.o O_ D_ (by simp[y,C])).mono ?_;rintro i e5 ⟨e6,rfl,I,S⟩;have b5:Hid (Pg.sealed ([83,50,73,g]++Pg.low d.length 2++Pg.low f.length 2++List.replicate (64-([83,50,73,g]++Pg.low d.length 2++Pg.low f.length 2).length) 0)=Pg.sealed ([83,50,73,g]++Pg.low d.length 2++Pg.low f.length 2++List.replicate 56 0)):=by show _=_;rw[show([83,50,73,g]++Pg.low d.length 2++Pg.low f.length 2).length=8 by simp[y,C]]
 rw[b5.o]at I;have J:=I.str;have b6:=Aa (b4.o.trans (S.below R.o O_));have d9:(Pg.sealed ([83,50,73,g]++Pg.low d.length 2++Pg.low f.length 2++List.replicate 56 0)).length<=100:=by rw[Pg.Jb];simp[y,C]
 generalize Pg.sealed ([83,50,73,g]++Pg.low d.length 2++Pg.low f.length 2++List.replicate 56 0)=u at*;have e0:=Ba u;clear I S;have I:∀w,(Op.stringOp .add ⟨u.toArray⟩ ⟨d.toArray⟩).run Tryz.prog w=.ok (B_ (⟨u.toArray⟩++⟨d.toArray⟩)) w:=fun w=>kA w _ _ O_
 have S:∀w,(Op.stringOp .add (⟨u.toArray⟩++⟨d.toArray⟩) ⟨f.toArray⟩).run Tryz.prog w=.ok (B_ (⟨u.toArray⟩++⟨d.toArray⟩++⟨f.toArray⟩)) w:=fun w=>kA w _ _ (by rw[zO];omega)
 go_wp2_with fail;go_ret;exact⟨Ib (by rw[a3.o];simp),b6.o⟩
theorem TJ(v:Value)(i:gY)(a:List Int)(c:hD)(d:gZ)(w:World)(h:Mz w v 2 i a c d)(g:Pg.Kh 2 (Ab i) a (Ag c) (Ac d)=true):
  Calls Tryz.prog 130 #[v] w fun b f=>b=R_ (B_ ⟨(Pg.page 2 (Ab i) a (Ag c) (Ac d)).toArray⟩)/\Below w.heap.size w f:=by
 obtain⟨n,o,p,q,rfl,r,J,l,s,t⟩:=h;unfold Pg.Kh at g;unfold Pg.page;rw[xD rfl];rw[xB Do]at g;simp only[yK,yL]at g;obtain⟨⟨⟨⟨⟨⟨⟨⟨u,y⟩,z⟩,L⟩,_⟩,_⟩,A⟩,M⟩,N⟩:=g;have j:∀b∈a,0<=b/\b<=2147483647:=fun b f=>by have:=zV.1 y b f;simpa[Pg.Bz]using this
 have m:a.map (Value.int .i64)=Cl (a.map Int.toNat):=by unfold Cl;rw[zW];exact dT fun b f=>by have:=j b f;simp;omega
 have k:a.length=(a.map Int.toNat).length:=D_;rw[m,k]at l;have H:(Ag c).length=c.length:=by simp[Ag]
 have I:(Ac d).length=d.length:=by simp[Ac]
 obtain⟨B,C,D⟩:=r.shape;refine BD 2 n o p q (a.map Int.toNat) c d w ⟨B,_,C,D⟩ l s t (by rw[<-k];exact A) (fun b f=> ?_) O_ (fun x b=> ?_) O_ (fun x b=> ?_)
 ·obtain⟨F,G,rfl⟩:=xL.1 f;have:=j F G;omega
 ·have:=Pg.Fe _ _ u x.data.toList (xL.2 ⟨x,b,rfl⟩);simpa only[Ah]using this
 ·have:=zV.1 z (x.1,x.2.1.data.toList,x.2.2.data.toList) (xL.2 ⟨x,b,rfl⟩);simp only[Pg.Bh,Pg.Bv,yK,kT,yL,Ah]at this;have b:=Pg.Ed this.1.1;omega
theorem YQ{k:Int}{l:List (hE×hE)}(h:Pg.Kh k l c d f=true):k=1\/k=2:=by
 unfold Pg.Kh at h;by_cases a:k=1
 ·exact .inl a
 ·rw[xB a]at h;simp only[yK,yL]at h;exact .inr h.1.1.1.1.1.2
theorem Tf{m:gY}(h:Pg.Kh 1 (Ab m) c d f=true):m.length<=16/\∀x∈m,x.1.size<=12/\x.2.size<=16:=by unfold Pg.Kh at h;rw[xD rfl]at h;simp only[yK,yL]at h;obtain⟨⟨⟨⟨a,b⟩,_⟩,_⟩,_⟩:=h;refine⟨by simpa[Ab]using b,fun x g=> ?_⟩;have:=Xz _ _ a (x.1.data.toList,x.2.data.toList) (xL.2 ⟨x,g,rfl⟩);simpa only[Ah]using this
theorem Sa(v:Value)(i:Int)(a:gY)(b:List Int)(c:hD)(d:gZ)(w:World)(h:Mz w v i a b c d)(g:Pg.Kh i (Ab a) b (Ag c) (Ac d)=true):
  Calls Tryz.prog 66 #[v] w fun k f=>k=R_ (B_ ⟨(Pg.page i (Ab a) b (Ag c) (Ac d)).toArray⟩)/\Below w.heap.size w f:=by
 have n:=Aa h;obtain⟨L,M,N,O,rfl,j,-,t,u,y⟩:=h;obtain⟨z,A,rfl⟩:=j.shape;obtain⟨B,C,rfl,-⟩:=t;obtain⟨D,F,rfl,-⟩:=u;obtain⟨G,H,rfl,-⟩:=y;have f:=(xA w.heap.size w).alloc X_ (C_ #[J_ i,L_ z a.length A,L_ B b.length C,L_ D c.length F,L_ G d.length H] 79);have m:=Aa f;have o:=Aa (j.below f);have p:=Aa (n.o.below f);clear f j;go_in;rcases YQ g with l|l
 ·subst l;obtain⟨I,f⟩:=Tf g;have q:=Aa f;have r:Hid (Pg.page 1 (Ab a) b (Ag c) (Ac d)=Pg.Lx (Ab a)):=by show _=_;unfold Pg.page;rw[xB Do]
  clear f g;go_wp2_with fail;refine(HH _ a _ o.o I q.o).mono ?_;rintro k J ⟨rfl,f⟩;have j:=Aa (m.o.trans (f.mono D_));clear f;rw[<-r.o];go_wp2_with fail;go_ret;exact⟨rfl,j.o⟩
 ·subst l;have s:=Aa g;clear g;go_wp2_with fail;refine(TJ _ a b c d _ p.o s.o).mono ?_;rintro k J ⟨rfl,f⟩;have j:=Aa (m.o.trans (f.mono D_));clear f;go_wp2_with fail;go_ret;exact⟨rfl,j.o⟩
theorem Abl:Tryz.prog.cellsOf 5=1:=S_
theorem EF(a:hJ)(w:World)(u:a.size<=35184372088832):
  Calls Tryz.prog 124 #[B_ a] w fun b c=>b=R_ (B_ a)/\Below w.heap.size w c:=by
 by_cases h0:a.size=0
 ·have l:a=⟨#[]⟩:=ByteArray.ext (Array.eq_empty_of_size_eq_zero h0);subst l;go_in;go_wp2_with fail;go_ret;exact⟨rfl,xA _ _⟩
 ·obtain⟨i,j,p,k,q⟩:=zB Lq;obtain⟨b,d⟩:∃b,b=madeCells (Value.int .u8 0).cells (((a.size:Nat):Int).toNat*i.size):=⟨_,rfl⟩;have s:b.size=a.size:=by rw[d,size_madeCells,k];simp
  have mk:∀c:World,(Instr.makeSlice 108 (J_ (a.size:Int)) (J_ (a.size:Int))).run Tryz.prog c=.ok (L_ (P_ c.heap.size) a.size a.size) (c.alloc (.cells b 5)):=fun c=>by have h:=run_make (P:=Tryz.prog) c 108 5 i (.int .u8 0) jC j p .i64 .i64 (a.size:Int) (a.size:Int) O_ O_ (by rw[q];omega) O_;rw[<-d]at h;simpa using h
  clear d;have m:=Lib.run_copy_row_string (P:=Tryz.prog) (w.alloc (.cells b 5)) 108 9 3 5 w.heap.size 0 a.size a.size a b 5 jC (by rw[j];simp[k]) (xK w _) X_ O_;obtain⟨c,d⟩:∃c,c=(b.toList.take 0++Lib.byteCells a.data.toList++b.toList.drop (0+a.size)).toArray:=⟨_,rfl⟩;have f:c.toList=Lib.byteCells a.data.toList:=by rw[d,List.toList_toArray,qE,zI,kB (by rw[jT];omega),yC]
  have t:c.size=a.size:=by rw[<-jT,f,vE,Ah]
  rw[<-d]at m;have g:((w.alloc (.cells b 5)).setRow w.heap.size c).heap[w.heap.size]?=some (.cells c 5 (0,0)):=aQ _ _ b _ 5 (0,0) (xK w _)
  have n:=Lib.run_unsafeString_row (P:=Tryz.prog) ((w.alloc (.cells b 5)).setRow w.heap.size c) 223 3 9 5 Tryz.underlying223 Abl w.heap.size c.size (by unfold World.shape?;rw[g]) a.data.toList (fun e=>h0 (by rw[<-Ah,e];rfl)) (by rw[Ah];omega) (by rw[Ah];omega)
   (fun o x r=>Lib.cells_of_row g c.size o _ (by rw[yY (by rw[jT];exact Nat.le_refl _),f];simp[Lib.byteCells,r]))
  rw[Ah]at n;have o:=Aa (Lib.below_freeze (((xA w.heap.size w).alloc X_ (.cells b 5)).trans (⟨rfl,rfl,rfl,D_,fun r r=>cT _ _ _ _ O_⟩:Below w.heap.size (w.alloc (.cells b 5)) ((w.alloc (.cells b 5)).setRow w.heap.size c))) (p:=(Q_ w.heap.size 0)) X_ a.size);clear d;go_in;go_wp2_with fail;go_ret;exact⟨rfl,o.o⟩
theorem Yp(a:hJ)(w:World)(d:a.size<=35184372088832):
  Calls Tryz.prog 62 #[B_ a] w fun b c=>b=R_ (B_ a)/\Below w.heap.size w c:=by
 go_in;go_wp2_with fail;refine(EF a _ d).mono ?_;rintro b f ⟨rfl,c⟩;go_wp2_with fail;go_ret;exact⟨rfl,c⟩
def Rd(w:World)(b:Nat)(t:hE):Prop:=w.heap[b]?=some (C_ #[B_ ⟨t.toArray⟩] 298 (0,0))
theorem Rd.cells{w:World}{a:Nat}{b:hE}(h:Rd w a b):w.cell? (Q_ a 0)=some (B_ ⟨b.toArray⟩)/\w.frozen? (Q_ a 0)=false:=by unfold Rd at h;constructor<;>simp[World.cell?,World.frozen?,h]
theorem Rd.lt{w:World}{a:Nat}{b:hE}(h:Rd w a b):a<w.heap.size:=(xS.1 h).1
theorem Rd.below{n:World}{B:Nat}(h:Rd w a b)(c:Below B w n)(d:a<B):Rd n a b:=(c.block a d).trans h
theorem Rd.set(h:Rd w a b)(c:hE):Rd (w.setCell (Q_ a 0) (B_ ⟨c.toArray⟩)) a c:=by unfold Rd at*;rw[Ak (i:=0) h];rfl
theorem Rd.drewN(h:Rd w a b)(c:Nat):Rd (w.drewN c) a b:=h
theorem Sb(w:World)(a:hE):Rd (w.alloc (C_ #[B_ ⟨a.toArray⟩] 298)) w.heap.size a:=xK _ _
def RdQ{α:Type}(f:α->Value)(b:Nat)(w:World)(o:Option (α×hE))(r:Ending)(w':World):Prop:=But b w w'/\((o=none/\r=Am)\/∃x u,o=some (x,u)/\r=R_ (f x)/\Rd w' b u)
def sv(x:hE):Value:=B_ ⟨x.toArray⟩
def nv(n:Nat):Value:=J_ (n:Int)
def bv(b:UInt8):Value:=.int .u8 (b.toNat:Int)
theorem EG(a:hE)(b:Nat):(⟨a.toArray⟩:hJ).extract 0 b=⟨(a.take b).toArray⟩:=Fi (by rw[zZ];simp)
theorem Abm(a:hE)(b c:Nat)(h:c=a.length):(⟨a.toArray⟩:hJ).extract b c=⟨(a.drop b).toArray⟩:=by have:=Jl ⟨a.toArray⟩ b;rw[Ba]at this;subst h;exact Fi (by rw[this])
theorem Fg(a:hE)(w:World):
  Calls Tryz.prog 244 #[B_ ⟨a.toArray⟩] w fun b c=>b=R_ (A_ w.heap.size)/\c=w.alloc (C_ #[B_ ⟨a.toArray⟩] 298):=by
 go_in;go_wp2_with fail;go_ret;exact⟨rfl,rfl⟩
theorem Hw(f b:Nat)(a:hE)(w:World)(c:Rd w f a):
  Calls Tryz.prog 245 #[A_ f,J_ b] w fun d g=>RdQ sv f w (Pr.Di b a) d g:=by
 obtain⟨p,q⟩:=c.cells;have i:=Aa c;clear c;have m:=Ba a;go_in;by_cases g:b<=a.length
 ·have c:=Aa (Pr.Mp g);have j:=Aa (EG a b);have k:=Aa (Abm a b a.length rfl);go_wp2_with fail;refine(Bm _).mono ?_;rintro d l ⟨rfl,rfl⟩;have n:(0:Int)<=(b:Int):=O_;have o:(b:Int)<=(a.length:Int):=O_;go_wp2_with fail;go_ret;refine⟨Be _ _ _ _,.inr ⟨_,_,c.o,?_,?_⟩⟩
  ·unfold sv;rw[<-j.o];rfl
  ·rw[k.o];exact i.o.set _
 ·have c:=Aa (Pr.Aay g);go_wp2_with fail;refine(Bt _).mono ?_;rintro d l ⟨rfl,rfl⟩;unfold Am;go_wp2_with fail;exact⟨rfl,Rj _ _,.inl ⟨c.o,rfl⟩⟩
theorem Jv(d:Nat)(b:hE)(w:World)(a:Rd w d b):
  Calls Tryz.prog 246 #[A_ d] w fun i c=>RdQ bv d w (Pr.Ee b) i c:=by
 go_in;have m:=Aa (Hw d 1 b w a);clear a;go_wp2_with fail;refine m.o.mono ?_;rintro i q ⟨c,⟨j,rfl⟩|⟨x,p,k,rfl,l⟩⟩
 ·have f:Hid (Pr.Ee b=none):=by
   show _=_
   cases b with
   | nil=>rfl
   | cons a i=>simp[Pr.Di]at j
  have g:=Aa c;clear c j;unfold Am;go_wp2_with fail;exact⟨rfl,g.o,.inl ⟨f.o,rfl⟩⟩
 ·obtain⟨a,rfl,f⟩:∃a,x=[a]/\Hid (Pr.Ee b=some (a,p)):=by
   obtain⟨n,o⟩:=Pr.Er k
   match x,n with
   | [a],_=>exact⟨a,rfl,by rw[o];exact rfl⟩
  have g:=Aa c;have j:=Aa l;clear c l k;unfold sv;go_wp2_with fail;go_ret;exact⟨g.o,.inr ⟨_,_,f.o,rfl,j.o⟩⟩
theorem EH(g:Nat)(c:hE)(w:World)(d:Rd w g c):
  Calls Tryz.prog 251 #[A_ g] w fun b f=>b=(if c=[]then R_ (.tuple #[])else Am)/\f=w:=by
 obtain⟨i,j⟩:=d.cells;clear d;go_in;generalize f:(if c=[]then Ending.returned (.tuple #[])else Am)=E;have d:=Aa f;clear f
 cases c with
 | nil=>
  go_wp2_with fail;refine(Bm _).mono ?_;rintro b f ⟨rfl,rfl⟩;go_wp2_with fail;go_end0;exact⟨d.o,rfl⟩
 | cons a b=>
  go_wp2_with fail;refine(Bt _).mono ?_;rintro b f ⟨rfl,rfl⟩;unfold Am;go_wp2_with fail;exact⟨rfl,d.o,rfl⟩
