import Derived.Test.YtolgpnaoaodepaaGreatMathAm
set_option maxHeartbeats 2000000
set_option maxRecDepth 20000
namespace Go.Proofs.YtolgpnaoaodepaaGreat
open Go.RowKit Sq
variable {w f:World}{d:Nat}{v k:Value}{a j:hE}{b c:hJ}
theorem XK(a:hE)(b:Nat)(h:Uk a b=0):(Eb a b).2=0:=by
 unfold Uk at h;by_cases e:(Eb a b).2=0
 ·exact e
 ·rw[xB e]at h;have:=Mu a b e;omega
theorem CA(a:hE)(b:Nat)(h:Uk a b≠0):(Eb a b).2≠0/\Uk a b=(Eb a b).1:=by
 unfold Uk at*;by_cases e:(Eb a b).2=0
 ·rw[xD e]at h;exact absurd rfl h
 ·exact⟨e,xB e⟩
theorem Ads(a:hE)(b:Nat)(d:b<=a.length):Uk a b<=66/\b+Uk a b<=a.length/\KO a b<=255:=by
 have c:=(BW a b).1;unfold Uk KO;by_cases e:(Eb a b).2=0
 ·rw[xD e];omega
 ·rw[xB e];have:=Mu a b e;omega
theorem NJ(c:hE)(a b:Nat)(d:a<=b)(f:b<c.length):(c.drop a).take (b+1-a)=(c.drop a).take (b-a)++[c[b]]:=by rw[show b+1-a=(b-a)+1 by omega,bP K_];simp[show a+(b-a)=b by omega]
theorem Zj(a:hJ)(w:World)(a6:a.size<=35184372088832):
  Calls Tryz.prog 146 #[B_ a] w fun l U=>l=R_ (B_ ⟨(Br a.data.toList).toArray⟩)/\Below w.heap.size w U:=by
 have f:=Aa (Ah a);go_in;go_wp2_with fail
 go_loopw [3,4,5] (fun V W r wr=>∃(d:hE) (c b:Nat),c<=b/\b<=a.size/\W=J_ c/\r=J_ b/\Bp w.heap.size wr V d/\Below w.heap.size w wr/\d.length<=2*c/\d++Sq.rest a.data.toList b ((a.data.toList.drop c).take (b-c))=Br a.data.toList) (fun _ _ r _=>a.size-(intOf r).toNat)
 case atStart=>exact⟨[],0,0,X_,Y_,rfl,rfl,Bp.nil _ _,xA _ _,D_,by simp[Br]⟩
 case round=>
  obtain⟨d,c,b,S,a0,rfl,rfl,z,q,T,A⟩:=hrel;have n:=Aa A;have o:=Aa z;have p:=Aa q;have t:=q.size;clear A z q;by_cases s:b<a.size
  ·have H:=Ads a.data.toList b (by rw[f.o];omega);rw[f.o]at H;go_wp2_with fail;refine(NI a b _ O_ O_).mono ?_;rintro l a1 ⟨rfl,a2,rfl⟩;by_cases h0:Uk a.data.toList b=0
   ·have j:=Aa (XK _ _ h0);go_wp2_with fail
    go_roundw
    case rel=>
     refine⟨d,c,b+1,O_,O_,rfl,W_,o.o.drewN _,Ao p.o _,T,?_⟩;rw[NJ _ _ _ S (by rw[f.o];exact s),<-Rf _ _ _ (by rw[f.o];exact s) j.o];exact n.o
    case measure=>simp[intOf];omega
   ·have j:=Aa (CA _ _ h0);have I:=Aa (show(Eb a.data.toList b).2=KO a.data.toList b from rfl);have J:=(Mu a.data.toList b (CA _ _ h0).1).1;rw[<-(CA _ _ h0).2]at J;generalize Uk a.data.toList b=m at*;generalize KO a.data.toList b=X at*;have Y:((m:Int)==0)=false:=(by simpa using h0);go_wp2_with fail;refine(VK w.heap.size (a.extract c b) u3 d _ (o.o.drewN _) (by simpa using t) K_).mono ?_;rintro l B ⟨C,rfl,g,i⟩;have u:=Aa g;have k:=Aa ((Ao p.o _).trans i);have y:=k.o.size;have L:=Vo _ (a.extract c b).data.toList X_;rw[Ah,zM]at L;clear g i;generalize G:Ii (a.extract c b).data.toList=a5 at*;have M:=Aa G;clear G
    go_wp2_with (first
     | (at_builtin;refine VJ B rfl (.tmp 28) (.tmp 34) rfl w.heap.size C _ rfl u.o (UInt8.ofNat (125+m)) (UInt8.ofNat X) _ _ ?_ ?_ rfl ?_ ?_ ?_))
    ·simp;omega
    ·simp;omega
    ·simp;omega
    ·exact y
    intro a3 a4 D F _;have N:=Aa D;have O:=Aa (k.o.trans (Ij u.o y F));clear D F;go_wp2_with fail
    go_roundw
    case rel=>
     refine⟨_,b+m,b+m,X_,O_,W_,W_,N.o,O.o,K_,?_⟩;rw[<-n.o,Uh _ _ _ (by rw[f.o];exact s) j.o.1,I.o,<-j.o.2,<-M.o,zZ];simp
    case measure=>simp[intOf];omega
  ·go_wp2_with fail;refine(VK w.heap.size (a.extract c a.size) u3 d _ o.o t K_).mono ?_;rintro l B ⟨C,rfl,g,i⟩;have k:=Aa (p.o.trans i);have R:Hid (d++Ii (a.extract c a.size).data.toList=Br a.data.toList):=by
    show _=_;rw[<-n.o,BY _ _ _ (by rw[f.o];omega),Jl,yY (by rw[xY,f.o];omega)]
   rw[R.o]at g;have Z:=g.str;clear g i;go_wp2_with fail;go_ret;exact⟨rfl,k.o⟩
def Ep(u v:Value):Prop:=∀k,u.ownBlock=some k->v.ownBlock≠some k
theorem Bp.kept{d:Nat}{w f:World}{v:Value}{a:hE}{row:Option Nat}(h:Bp d w v a)(b:w.grownBy f row)(c:v.ownBlock=none\/v.ownBlock≠row):Bp d f v a:=zP h b c
theorem Cm{m:Obj}{n:Option Nat}(h:(w.alloc m).grownBy f n):w.grownBy f n:=
 ⟨h.os,h.tape,h.output,by have:=h.size;simp at this;omega,fun a b c=>(h.block a K_ c).trans (kR _ _ _ b)⟩
theorem Bp.shape_pos(h:Bp d w v a)(k:0<a.length):∃b c,v=L_ (P_ b) a.length c/\d<=b/\b<w.heap.size:=by
 rcases h.2 with⟨rfl,i⟩|⟨b,c,j,rfl,f,g,_⟩
 ·omega
 ·exact⟨b,c,rfl,f,(xS.1 g).1⟩
theorem Bp.cells{d:Nat}{w:World}{g i l:Nat}{a:hE}(h:Bp d w (L_ (P_ g) i l) a):∀b c,(Lib.byteCells a)[b]?=some c->w.cell? (((Q_ g 0):Addr).add b)=some c:=zD h rfl
theorem Ow{p:Value}(g:Bp d w k a)(n:Bp d w v j)(o:d<=w.heap.size)(i:Ep k v)(l:w.grownBy f v.ownBlock)(q:p.ownBlock=v.ownBlock\/∃b,w.heap.size<=b/\p.ownBlock=some b):Bp d f k a/\Ep k p/\Below d w f:=by
 refine⟨g.kept l ?_,?_,(xA d w).grown l o fun b c=>(xF n b c).1⟩
 ·cases h:k.ownBlock with
  | none=>exact .inl rfl
  | some b=>exact .inr (fun e=>i b h e.symm)
 ·intro b c e;have r:=(xF g b c).2;rcases q with h|⟨m,s,h⟩
  ·rw[h]at e;exact i b c e
  ·rw[h]at e;have:m=b:=(by simpa using e);omega
theorem Ep.symm(h:Ep k v):Ep v k:=fun a b e=>h a e b
theorem Sv(a:Value):Ep a Z_:=fun b _ e=>by simp[Value.ownBlock]at e
theorem Adt(w:World){q:Array Oper}{r:Oper}{s:Act}{K:Act->World->Prop}{Q:Exit->Act->World->Prop}{E:Prop}(D:r.guard=none)(g x:Operand)(F:r.op=Op.call {callee:=Callee.builtin Builtin.append,args:= #[g,x],argTypes:= #[108,9]})(d:Nat)(v:Value)(b:hE)(G:s.eval g=v)(i:Bp d w v b)(a:hJ)(H:s.eval x=B_ a)(I:b.length+a.size<=140737488355328)(j:d<=w.heap.size)(h:∀(f:Value) (c:World),Bp d c f (b++a.data.toList)->Below d w c->K (s.put r.dst f) c):if Region.wanted r (yielded q s.tmps)=true then Oper.wp Tryz.prog r s w K Q else E:=by
 have k:Region.wanted r (yielded q s.tmps)=true:=by simp[Region.wanted,D]
 rw[xD k];obtain⟨n,o,p,t,u⟩:=zB Lq;obtain⟨f,c,y,z,A,_⟩:=gC w d 108 9 r.type 5 n jC jS o p t u v b.length (Lib.byteCells b) i a (by unfold maxLen;omega) I j;have l:Lib.byteCells (b++a.data.toList)=Lib.byteCells b++Lib.strCells a:=by rw[wF];rfl
 have m:K (s.put r.dst f) c:=by refine h f c ?_ ((xA d w).grown A j fun B C=>(xF i B C).1);unfold Bp;rw[l,xC,show a.data.toList.length=a.size by simp];exact z
 unfold Oper.wp;simp[execOp,F,resolve,invoke,builtin,G,H,y,Result.andThen];exact m
theorem Bp.cellAt{g i l:Nat}(h:Bp d w (L_ (P_ g) i l) a)(b:Nat)(c:UInt8)(f:a[b]?=some c):w.cell? (Q_ g b)=some (.int .u8 (c.toNat:Int)):=by
 have:=h.cells b (.int .u8 (c.toNat:Int)) (by simp[Lib.byteCells,f]);by_cases h0:b=0
 ·subst h0;simpa[Addr.add]using this
 ·simpa[Addr.add,h0]using this
def Am:Ending:=.panicked [{v:=.iface 148 (.agg #[]),recovered:=false}]
theorem Bm(w:World):Calls Tryz.prog 73 #[.bool true] w fun a b=>a=R_ (.tuple #[])/\b=w:=by
 go_in
 go_wp2
 go_end0;exact⟨rfl,rfl⟩
theorem Bt(w:World):Calls Tryz.prog 73 #[.bool false] w fun a b=>a=Am/\b=w:=by
 go_in
 go_wp2
 simp[bodyPost,Am]
theorem Aan(a:hJ)(v:Value)(w:World)(h0:0<a.size)(f:a.size<(a[0]'h0).toNat+2):
  Calls Tryz.prog 253 #[v,B_ a] w fun b c=>b=Am/\c=w:=by
 have c:((a[0]'h0).toNat:Int)<256:=by have:=(a[0]'h0).toNat_lt;omega
 go_in;go_wp2_with fail;rw[show decide ((((a[0]'h0).toNat:Nat):Int)+2<=(a.size:Int))=false by simp;omega];refine(Bt _).mono ?_;rintro b d ⟨rfl,rfl⟩;unfold Am;go_wp2_with fail;simp[bodyPost,Am]
theorem XL(b:Nat)(a:hJ)(v:Value)(f:hE)(w:World)(t:a.size<=35184372088832)(h0:0<a.size)(u:(a[0]'h0).toNat+2<=a.size)(c:Bp b w v f)(n:b<=w.heap.size)(y:f.length<=70368744177664):
  Calls Tryz.prog 253 #[v,B_ a] w fun l g=>∃d,l=R_ (.tuple #[d,B_ (a.extract ((a[0]'h0).toNat+2) a.size)])/\Bp b g d (f++(a.data.toList.drop 1).take ((a[0]'h0).toNat+1))/\Below b w g:=by
 have p:((a[0]'h0).toNat:Int)<256:=by have:=(a[0]'h0).toNat_lt;omega
 have j:=Aa c;clear c;go_in;go_wp2_with fail;rw[show decide ((((a[0]'h0).toNat:Nat):Int)+2<=(a.size:Int))=true by simp;omega];refine(Bm _).mono ?_;rintro l m ⟨rfl,rfl⟩;generalize i:(a[0]'h0).toNat=c at*;have k:=Aa i;clear i;have q:(1:Int)<=(c:Int)+2:=O_;have r:(c:Int)+2<=(a.size:Int):=O_;have s:(0:Int)<=(c:Int)+2:=O_;go_wp2_with fail
 go_region_law (refine Adt _ (by rfl) (.tmp 16) (.tmp 19) (by rfl) b v f (by simp[Act.eval,Act.put]) (by first|exact j.o|exact j.o.drew) (a.extract 1 ((c:Int)+2).toNat) (by simp[Act.eval,Act.put]) (by rw[zM];omega) (by first|exact n|exact(show b<=(World.drew m).heap.size from n)) ?_;intro d g i o)
 all_goals go_wp2_with fail
 go_ret2;refine⟨d,?_,?_,(xA b m).drew.trans o⟩
 ·rw[k.o];rfl
 ·rw[k.o];rw[zZ]at i;rw[show((c:Int)+2).toNat-1=c+1 by omega]at i;exact i
theorem NK(a:hJ)(v:Value)(w:World)(h:a.size<2):
  Calls Tryz.prog 254 #[v,B_ a] w fun b c=>b=Am/\c=w:=by
 go_enter fF,fI;go_wp2_with fail;rw[show decide ((2:Int)<=(a.size:Int))=false by simp;omega];refine(Bt _).mono ?_;rintro b c ⟨rfl,rfl⟩;unfold Am;go_wp2_with fail;simp[bodyPost,Am]
theorem Aao(l:Nat)(a:hJ)(v:Value)(i:hE)(w:World)(m:Bp l w v i)(c:1<a.size)(z:128<=(a[0]'O_).toNat)(A:¬((a[0]'O_).toNat<=191/\1<=(a[1]'c).toNat/\(a[1]'c).toNat<=i.length)):
  Calls Tryz.prog 254 #[v,B_ a] w fun b d=>b=Am/\∃f,d=w.drewN f:=by
 obtain⟨s,t,rfl⟩:=m.shape;have n:=(a[0]'O_).toNat_lt;have o:=(a[1]'c).toNat_lt;go_enter fF,fI;go_wp2_with fail;rw[show decide ((2:Int)<=(a.size:Int))=true by simp;omega];refine(Bm _).mono ?_;rintro b d ⟨rfl,rfl⟩;have p:(0:Int)<(a.size:Int):=O_;have q:0<a.size:=O_;have r:(1:Int)<(a.size:Int):=O_;go_wp2_with fail;go_quiet (fail);generalize j:(a[0]'O_).toNat=f at*;generalize k:(a[1]'c).toNat=g at*;clear j k;go_wp2_with fail;by_cases u:f<=191
 ·rw[show decide ((f:Int)-125<=66)=true by simp;omega];refine(Bm _).mono ?_;rintro b k ⟨rfl,rfl⟩;by_cases y:1<=g
  ·go_wp2_with fail;rw[show decide (g<=i.length)=false by simp;omega];refine(Bt _).mono ?_;rintro b d ⟨rfl,rfl⟩;unfold Am;go_wp2_with fail;simp[bodyPost,Am];exact⟨nq,rfl⟩
  ·have j:decide ((1:Int)<=(g:Int))=false:=K_;go_wp2_with fail;refine(Bt _).mono ?_;rintro b d ⟨rfl,rfl⟩;unfold Am;go_wp2_with fail;simp[bodyPost,Am];exact⟨nq,rfl⟩
 ·rw[show decide ((f:Int)-125<=66)=false by simp;omega];refine(Bt _).mono ?_;rintro b d ⟨rfl,rfl⟩;unfold Am;go_wp2_with fail;simp[bodyPost,Am];exact⟨nq,rfl⟩
theorem XM(i:Nat)(a:hJ)(v:Value)(f:hE)(w:World)(b4:a.size<=35184372088832)(r:Bp i w v f)(b5:i<=w.heap.size)(b6:f.length<=70368744177664)(l:1<a.size)(b7:128<=(a[0]'O_).toNat)(b8:(a[0]'O_).toNat<=191/\1<=(a[1]'l).toNat/\(a[1]'l).toNat<=f.length):
  Calls Tryz.prog 254 #[v,B_ a] w fun n z=>∃A,n=R_ (.tuple #[A,B_ (a.extract 2 a.size)])/\Bp i z A (Ja f (a[1]'l).toNat ((a[0]'O_).toNat-125))/\Below i w z:=by
 obtain⟨a8,a9,rfl⟩:=r.shape;have F:=Aa r;clear r;have X:=(a[0]'O_).toNat_lt;have Y:=(a[1]'l).toNat_lt;go_enter fF,fI;go_wp2_with fail;rw[show decide ((2:Int)<=(a.size:Int))=true by simp;omega];refine(Bm _).mono ?_;rintro n U ⟨rfl,rfl⟩;have Z:(0:Int)<(a.size:Int):=O_;have a0:0<a.size:=O_;have a1:(1:Int)<(a.size:Int):=O_;go_wp2_with fail;go_quiet (fail);generalize B:(a[0]'O_).toNat=k at*;generalize C:(a[1]'l).toNat=c at*;have G:=Aa B;have H:=Aa C;clear B C;go_wp2_with fail;rw[show decide ((k:Int)-125<=66)=true by simp;omega];refine(Bm _).mono ?_;rintro n u ⟨rfl,rfl⟩;go_wp2_with fail;refine(Bm _).mono ?_;rintro n u ⟨rfl,rfl⟩;go_wp2_with fail
 go_loopw [0,32] (fun V q wr=>∃b:Nat,b+125<=k/\q=J_ b/\Bp i wr V (Ja f c b)/\Below i U wr) (fun _ q _=>k-(intOf q).toNat)
 case atStart=>exact⟨0,O_,rfl,F.o.drewN _,Ao (xA _ _) _⟩
 case round=>
  obtain⟨b,b0,rfl,t,g⟩:=hrel;have I:=Aa (Ou b f c);have j:=Aa t;have s:=Aa g;have a2:=g.size;clear t g;by_cases b3:b+125<k
  ·have J:=Aa (Pn b f c);generalize W:Ja f c b=d at*;have a3:c<=d.length/\d.length<=140737488355000/\1<=d.length:=(by have:=I.o;omega);obtain⟨m,g⟩:∃m,d[d.length-c]?=some m:=⟨d[d.length-c]'O_,xW _⟩;obtain⟨R,S,T,b1,p⟩:=j.o.shape_pos O_;subst T;have a4:=j.o.cellAt (d.length-c) m g;have L:=Aa g;clear g W;generalize D:d.length=o at*;have M:=Aa D;clear D;have a5:(0:Int)<=(o:Int)-(c:Int):=O_;have a6:(o:Int)-(c:Int)<(o:Int):=O_
   go_wp2_with (first
    | (at_builtin;refine Rg wr rfl (.tmp 34) (.tmp 42) rfl i (L_ (P_ R) o S) d rfl j.o m _ rfl rfl (by rw[M.o];omega) O_ ?_))
   intro b2 u y p _;have N:=Aa y;have O:=Aa (s.o.trans (Ij j.o O_ p));clear y p;go_wp2_with fail
   go_roundw
   case rel=>
    refine⟨b+1,O_,W_,?_,O.o⟩;rw[J.o,jH,L.o];exact N.o
   case measure=>simp[intOf];omega
  ·go_wp2_with fail;have a7:(2:Int)<=(a.size:Int):=O_;go_quiet (fail);go_wp2_with fail;go_ret2;refine⟨_,rfl,?_,Ao s.o _⟩;rw[G.o,H.o,show k-125=b by omega];exact j.o.drewN _
theorem Af(a:hJ):a.toList=a.data.toList:=by have h:=ByteArray.toList_mk a.data.toList;simpa using h
def Gt(l:hE):Ending:=match Bn l []with
 | some t=> R_ (B_ ⟨t.toArray⟩)
 | none=>Am
theorem Sw(a:hJ)(h:0<a.size):a.data.toList=a[0]::a.data.toList.drop 1:=by
 have b:0<a.data.toList.length:=by rw[Ah];exact h
 have:=yM b;rw[qR]at this;exact this
theorem CB(a:hJ)(h:1<a.size):a.data.toList=a[0]::a[1]::a.data.toList.drop 2:=by
 rw[Sw a O_];have b:1<a.data.toList.length:=by rw[Ah];exact h
 have:=yM b;rw[this];rfl
theorem KP(h0:0<c.size)(h:Bn c.data.toList a=Bn b.data.toList [])(d:(c[0]'h0).toNat<128)(f:(c[0]'h0).toNat+2<=c.size):
  Bn (c.extract ((c[0]'h0).toNat+2) c.size).data.toList (a++(c.data.toList.drop 1).take ((c[0]'h0).toNat+1))=Bn b.data.toList []:=by
 rw[<-h,Jl]
 conv=>rhs;rw[Sw c h0]
 rw[Uj _ _ _ d (by rw[xY,Ah];omega),jG,show 1+((c[0]'h0).toNat+1)=(c[0]'h0).toNat+2 by omega]
theorem AW(h0:0<c.size)(h:Bn c.data.toList a=Bn b.data.toList [])(d:(c[0]'h0).toNat<128)(f:c.size<(c[0]'h0).toNat+2):Gt b.data.toList=Am:=by rw[Sw c h0,Tt _ _ _ d (by rw[xY,Ah];omega)]at h;unfold Gt;rw[<-h]
theorem KQ(h0:1<c.size)(h:Bn c.data.toList a=Bn b.data.toList [])(d:¬(c[0]'O_).toNat<128)(f:(c[0]'O_).toNat<=191/\1<=(c[1]'h0).toNat/\(c[1]'h0).toNat<=a.length):
  Bn (c.extract 2 c.size).data.toList (Ja a (c[1]'h0).toNat ((c[0]'O_).toNat-125))=Bn b.data.toList []:=by
 rw[<-h,Jl]
 conv=>rhs;rw[CB c h0]
 rw[Po _ _ _ _ d f]
theorem AX(h0:1<c.size)(h:Bn c.data.toList a=Bn b.data.toList [])(d:¬(c[0]'O_).toNat<128)(f:¬((c[0]'O_).toNat<=191/\1<=(c[1]'h0).toNat/\(c[1]'h0).toNat<=a.length)):Gt b.data.toList=Am:=by rw[CB c h0,Qt _ _ _ _ d f]at h;unfold Gt;rw[<-h]
theorem Xx(h0:0<c.size)(f:c.size<2)(h:Bn c.data.toList a=Bn b.data.toList [])(d:¬(c[0]'h0).toNat<128):Gt b.data.toList=Am:=by rw[Sw c h0,zG (by rw[Ah];omega),Ov _ _ d]at h;unfold Gt;rw[<-h]
theorem KR(h0:¬0<c.size)(h:Bn c.data.toList a=Bn b.data.toList []):Gt b.data.toList=R_ (B_ ⟨a.toArray⟩):=by have:c.data.toList=[]:=zA.1 (by rw[Ah];omega);rw[this,Ui]at h;unfold Gt;rw[<-h]
theorem SE(d:hJ)(w:World)(L:d.size<=68719476736):
  Calls Tryz.prog 205 #[B_ d] w fun i B=>i=Gt d.data.toList/\Below w.heap.size w B:=by
 go_in;go_wp2_with fail
 go_loopw [0,3] (fun x C wr=>∃(a:hJ) (b:hE),x=B_ a/\Bp w.heap.size wr C b/\Below w.heap.size w wr/\a.size<=d.size/\b.length+66*a.size<=66*d.size/\Bn a.data.toList b=Bn d.data.toList []) (fun x _ _=>match x with | .string a=>a.size|_=>0)
 case atStart=>exact⟨d,[],rfl,Bp.nil _ _,xA _ _,X_,D_,rfl⟩
 case round=>
  obtain⟨a,b,rfl,u,s,H,I,y⟩:=hrel;have f:=Aa y;have n:=Aa u;have g:=Aa s;have t:=s.size;clear y u s;by_cases h0:0<a.size
  ·have D:(a[0]'h0).toNat<256:=(a[0]'h0).toNat_lt;have F:(0:Int)<(a.size:Int):=O_;by_cases m:(a[0]'h0).toNat<128
   ·by_cases z:(a[0]'h0).toNat+2<=a.size
    ·go_wp2_with fail;refine(XL w.heap.size a u3 b _ O_ h0 z n.o t O_).mono ?_;rintro i o ⟨A,rfl,k,l⟩;have q:=Aa k;have r:=Aa (g.o.trans l);clear k l;go_wp2_with fail
     go_roundw
     case rel=>exact⟨_,_,rfl,q.o,r.o,K_,K_,KP h0 f.o m z⟩
     case measure=>simp;omega
    ·go_wp2_with fail;refine(Aan a u3 _ h0 O_).mono ?_;rintro i o ⟨rfl,rfl⟩;have c:=Aa (AW h0 f.o m O_);unfold Am;go_wp2_with fail;exact⟨rfl,c.o.symm,g.o⟩
   ·by_cases j:1<a.size
    ·by_cases p:(a[0]'h0).toNat<=191/\1<=(a[1]'j).toNat/\(a[1]'j).toNat<=b.length
     ·go_wp2_with fail;refine(XM w.heap.size a u3 b _ O_ n.o t O_ j O_ p).mono ?_;rintro i o ⟨A,rfl,k,l⟩;have q:=Aa k;have r:=Aa (g.o.trans l);clear k l;go_wp2_with fail
      go_roundw
      case rel=>exact⟨_,_,rfl,q.o,r.o,K_,by simp[Ou];omega,KQ j f.o m p⟩
      case measure=>simp;omega
     ·go_wp2_with fail;refine(Aao w.heap.size a u3 b _ n.o j O_ p).mono ?_;rintro i o ⟨rfl,J,rfl⟩;have c:=Aa (AX j f.o m p);unfold Am;go_wp2_with fail;exact⟨rfl,c.o.symm,Ao g.o _⟩
    ·go_wp2_with fail;refine(NK a u3 _ O_).mono ?_;rintro i o ⟨rfl,rfl⟩;have c:=Aa (Xx h0 O_ f.o m);unfold Am;go_wp2_with fail;exact⟨rfl,c.o.symm,g.o⟩
  ·have G:=n.o.str;have c:=Aa (KR h0 f.o);go_wp2_with fail;go_ret;exact⟨c.o.symm,g.o⟩
def Ht(l:hE):Ending:=match Ev l with
 | some t=> R_ (B_ ⟨t.toArray⟩)
 | none=>Am
theorem Zk(h:Bn a []=none):Ht a=Am/\Gt a=Am:=by unfold Ht Gt Ev;rw[h];exact⟨rfl,rfl⟩
theorem Zl(h:Bn a []=some j):Gt a=R_ (B_ ⟨j.toArray⟩)/\(Br j=a->Ht a=R_ (B_ ⟨j.toArray⟩))/\(Br j≠a->Ht a=Am):=by unfold Ht Gt Ev;rw[h];exact⟨rfl,fun e=>by simp only[xD e],fun e=>by simp only[xB e]⟩
theorem GV(b:hJ)(w:World)(m:b.size<=68719476736):
  Calls Tryz.prog 150 #[B_ b] w fun c a=>c=Ht b.data.toList/\Below w.heap.size w a:=by
 go_in;go_wp2_with fail;refine(SE b _ m).mono ?_;rintro c n ⟨rfl,a⟩;have d:=Aa a;clear a
 cases a:Bn b.data.toList []with
 | none=>
  have k:=Aa (Zk a).1;rw[(Zk a).2];clear a;unfold Am;go_wp2_with fail;exact⟨rfl,k.o.symm,d.o⟩
 | some t=>
  have g:=Mn _ _ _ a;rw[Ah]at g;have i:=Aa (Zl a);rw[(Zl a).1];clear a;go_wp2_with fail;refine(Zj ⟨t.toArray⟩ _ (by show t.toArray.size<=_;simp at g⊢;omega)).mono ?_;rintro c o ⟨rfl,a⟩;have j:=Aa (d.o.trans (a.mono d.o.size));clear a;by_cases f:Br t=b.data.toList
  ·have a:=Aa (i.o.2.1 f);go_wp2_with fail;refine(Bm _).mono ?_;rintro c l ⟨rfl,rfl⟩;go_wp2_with fail;go_ret;exact⟨a.o.symm,j.o⟩
  ·have a:=Aa (i.o.2.2 f);go_wp2_with fail;rw[show(Br t==b.toList)=false by rw[Af];simpa using f];refine(Bt _).mono ?_;rintro c l ⟨rfl,rfl⟩;unfold Am;go_wp2_with fail;exact⟨rfl,a.o.symm,j.o⟩
