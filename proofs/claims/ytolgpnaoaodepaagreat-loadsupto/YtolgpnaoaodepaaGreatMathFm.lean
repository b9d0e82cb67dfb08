import Derived.Test.YtolgpnaoaodepaaGreatWalkHm
set_option maxHeartbeats 1000000
set_option maxRecDepth 20000
namespace Go.Proofs.YtolgpnaoaodepaaGreat
open Pg Sq
namespace Pg
def ent(l:hE)(i:Nat):hE:=(l.drop (4+15*i)).take 15
def Ft(e:hE):Nat:=Da (e.take 2)
def Vt(e:hE):Nat:=(e.getD 2 0).toNat
def Ez(e:hE):hE:=(e.drop 3).take (Vt e)
def Jf(e:hE)(at_ len:Nat):Bool:=decide (Vt e<1) || decide (12<Vt e) || decide (e.drop (3+Vt e)≠List.replicate (12-Vt e) 0) || decide (len<at_+Ft e)
def Ly(i:Nat)(ks:List hE)(key:hE):Bool:=decide (0<i)&& !decide (ks.getD (i-1) []<key)
def Ec(l:hE)(many:Nat):Nat->Nat->Nat->List hE->List hE->Option (List hE×List hE)
 | 0,_,at_,ks,ss=>if at_=l.length then some (ks,ss)else none
 | f+1,i,at_,ks,ss=>
  if many<=i then(if ent l i=List.replicate 15 0 then Ec l many f (i+1) at_ ks ss else none)
  else if Jf (ent l i) at_ l.length=true then none
  else if Ly i ks (Ez (ent l i))=true then none
  else Ec l many f (i+1) (at_+Ft (ent l i)) (ks++[Ez (ent l i)]) (ss++[(l.drop at_).take (Ft (ent l i))])
def Mh(l:hE):Nat:=(l.getD 3 0).toNat
def Mi(l:hE):Bool:=decide (68<=l.length)&&decide (l.take 3=[83,50,76])&&decide (sealed (l.take 64)=l.take 68)&&decide (Mh l<=4)
def Gu(l:hE):Option (List hE×List hE):=if Mi l=true then Ec l (Mh l) 4 0 68 [] []else none
theorem VM(a:hE)(f g b:Nat)(c d:List hE):Ec a f 0 g b c d=if b=a.length then some (c,d)else none:=rfl
theorem NP(b:hE)(c d a f:Nat)(g i:List hE)(h:c<=a)(j:ent b a=List.replicate 15 0):Ec b c (d+1) a f g i=Ec b c d (a+1) f g i:=by rw[Ec,xD h,xD j]
theorem Zm(b:hE)(c d a f:Nat)(g i:List hE)(h:c<=a)(j:¬ent b a=List.replicate 15 0):Ec b c (d+1) a f g i=none:=by rw[Ec,xD h,xB j]
theorem Vu(a:hE)(c f b d:Nat)(g i:List hE)(h:¬c<=b)(j:Jf (ent a b) d a.length=true):Ec a c (f+1) b d g i=none:=by rw[Ec,xB h,xD j]
theorem VN(b:hE)(c g a d:Nat)(f i:List hE)(h:¬c<=a)(j:Jf (ent b a) d b.length=false)(k:Ly a f (Ez (ent b a))=true):Ec b c (g+1) a d f i=none:=by rw[Ec,xB h,xB (by rw[j];decide),xD k]
theorem CG(a:hE)(d g b c:Nat)(f i:List hE)(h:¬d<=b)(j:Jf (ent a b) c a.length=false)(k:Ly b f (Ez (ent a b))=false):Ec a d (g+1) b c f i=Ec a d g (b+1) (c+Ft (ent a b)) (f++[Ez (ent a b)]) (i++[(a.drop c).take (Ft (ent a b))]):=by rw[Ec,xB h,xB (by rw[j];decide),xB (by rw[k];decide)]
end Pg
open Go.RowKit
variable {a p c B:Nat}{f:Array Oper}{g:Oper}{i:Act}{Q:Exit->Act->World->Prop}{w b y:World}{r u:hJ}{j:gY}{s:Obj}{v:Value}{d:hD}
theorem Ri(a b:Nat)(d:a<4294967296)(f:b<4294967296):bits .xor .i64 (a:Int) (b:Int)=((a^^^b:Nat):Int):=by have c:a^^^b<2^32:=Nat.xor_lt_two_pow O_ O_;show IntKind.i64.wrap ((BitVec.ofInt 64 (a:Int)^^^BitVec.ofInt 64 (b:Int)).toNat:Int)=_;rw[BitVec.toNat_xor,cR a O_,cR b O_,yZ];omega
theorem Aar(a:Nat)(h:a<4294967296):bits .xor .i64 ((a:Int) / 2) 2197175160=((a / 2^^^2197175160:Nat):Int):=by have:=Ri (a / 2) 2197175160 O_ O_;exact this
theorem Aas(a:Nat)(h:a<4294967296):bits .xor .i64 (a:Int) 4294967295=((a^^^4294967295:Nat):Int):=by have:=Ri a 4294967295 h O_;exact this
theorem CH(h:a % 2=1):Ol a=(a / 2)^^^2197175160:=by unfold Ol;rw[xD h]
theorem Zn(h:¬a % 2=1):Ol a=a / 2:=by unfold Ol;rw[xB h]
theorem NQ(a:hJ)(b:Nat)(h:b<a.size):Kc (a.data.toList.take (b+1))=Pq (Kc (a.data.toList.take b)) (a[b]'h):=by
 have c:b<a.data.toList.length:=by rw[Ah];exact h
 rw[bP c,NL];rfl
theorem XO(a:Nat):(madeCells (Value.int .u8 0).cells (a*1)).toList=Lib.byteCells (List.replicate a 0):=by rw[kJ];show(madeCells #[Value.int .u8 0] a).toList=_;rw[toList_madeCells_one];simp[Lib.byteCells]
theorem Adu(w:World){rest:List Oper}(r:g.guard=none)(d j:Operand)(s:g.op=Op.makeSlice 108 d j)(a:Nat)(t:i.eval d=J_ (a:Int))(u:i.eval j=J_ (a:Int))(y:a<=140737488355328)(h:∀b,Bp w.heap.size b (L_ (P_ w.heap.size) a a) (List.replicate a 0)->Below w.heap.size w b->w.heap.size<b.heap.size->wpList Tryz.prog f Q rest (i.put g.dst (L_ (P_ w.heap.size) a a)) b):wpList Tryz.prog f Q (g::rest) i w:=by
 obtain⟨k,l,m,n,o⟩:=zB Lq;refine cV w r d j 108 s w.heap.size 5 k (.int .u8 0) 1 jC l m n .i64 .i64 (a:Int) (a:Int) a t u rfl rfl (by rw[o];omega) (by unfold maxLen;omega) X_ ?_;intro b c p;rw[XO]at c;refine h b ?_ ((xA _ w).grown p X_ (fun q q=>by cases q)) ?_
 ·unfold Bp;rw[kD];exact c
 ·exact(xF c w.heap.size rfl).2
theorem Adv(c:Nat):∀(a b:Nat),a<b->(Pg.low c a++List.replicate (b-a) 0).set a (UInt8.ofNat (c / 256^a % 256))=Pg.low c (a+1)++List.replicate (b-(a+1)) 0:=by
 intro a
 induction a generalizing c with
 | zero=>intro b f;obtain⟨d,rfl⟩:∃d,b=d+1:=⟨b-1,O_⟩;simp[Pg.low,List.replicate_succ]
 | succ a ih=>
  intro b f;have:=ih (c / 256) (b-1) O_;rw[gS,vJ 256,<-vV]at this;rw[Pg.low,Pg.low,jF,zE,show b-(a+1)=b-1-a by omega,this,jF];rw[show b-(a+1+1)=b-1-(a+1)by omega]
theorem GW(a:hE)(b:Nat)(c:UInt8):(Lib.byteCells a).set b (.int .u8 (c.toNat:Int))=Lib.byteCells (a.set b c):=by simp[Lib.byteCells]
theorem Bp.stored{q:hE}(h:Bp a w (L_ (P_ p) q.length c) q)(b:Nat)(d:UInt8):Bp a (w.setCell (Q_ p b) (.int .u8 (d.toNat:Int))) (L_ (P_ p) q.length c) (q.set b d):=by have:=World.ownsRow.stored h b (.int .u8 (d.toNat:Int));unfold Bp;rw[<-GW,jV];exact this.1
theorem Ba(a:hE):(⟨a.toArray⟩:hJ).size=a.length:=by show a.toArray.size=_;simp
theorem Fi(h:r.data.toList=u.data.toList):r=u:=ByteArray.ext (Array.toList_inj.1 h)
theorem Ib(h:r.data.toList=u.data.toList):Ending.returned (B_ r)=R_ (B_ u):=by rw[Fi h]
theorem Fj(a:Nat)(h:a<=9223372036854775807):(Pg.num a).length<=10:=Vs 9 a (by show a<128^10;omega)
theorem NR(b c:hJ)(a:Nat)(d:a<b.size)(f:a<c.size)(h:(((b[a]'d).toNat:Int)==((c[a]'f).toNat:Int))=true):∃x,b.data.toList[a]?=some x/\c.data.toList[a]?=some x:=by
 have g:((b[a]'d).toNat:Int)=((c[a]'f).toNat:Int):=by simpa using h
 refine⟨b[a],Kb b a d,?_⟩;rw[Kb c a f,fP.1 (by omega:(b[a]'d).toNat=(c[a]'f).toNat)]
theorem NS(b c:hJ)(a:Nat)(d:a<b.size)(f:a<c.size)(h:(((b[a]'d).toNat:Int)==((c[a]'f).toNat:Int))=false):b.data.toList[a]?≠c.data.toList[a]?:=by
 rw[Kb b a d,Kb c a f];intro e;have g:b[a]'d=c[a]'f:=by simpa using e
 rw[g]at h;simp at h
def Gr(w:World)(b off:Nat)(l:gY):Prop:=∀i (h:i<l.length),w.cell? (Q_ b (off+i*2))=some (B_ (l[i]'h).1)/\w.cell? (Q_ b (off+i*2+1))=some (B_ (l[i]'h).2)
theorem Gr.below(h:Gr w a c j)(d:Below B w b)(f:a<B):Gr b a c j:=fun g i=>by rw[d.cell (p:=(Q_ a _)) f,d.cell (p:=(Q_ a _)) f];exact h g i
def Ab(l:gY):List (hE×hE):=l.map fun x=>(x.1.data.toList,x.2.data.toList)
theorem El(a:hE)(h:a.length<=9223372036854775807):(Pg.text a).length<=a.length+10:=by unfold Pg.text;rw[xC];have:=Fj a.length h;omega
def Fa(w:World)(v:Value)(l:gY):Prop:=(∃a cap,v=L_ a 0 cap/\l=[])\/∃b off cap,v=L_ (some (Q_ b off)) l.length cap/\l.length<=cap/\cap<=9223372036854775807/\b<w.heap.size/\Gr w b off l
theorem Gr.part(h:Gr w a c j)(b f:Nat):Gr w a (c+b*2) ((j.drop b).take f):=fun d i=>by
 have g:d<f/\b+d<j.length:=by simp at i;omega
 have:=h (b+d) g.2;rw[show c+b*2+d*2=c+(b+d)*2 by omega];simpa using this
theorem CI(a:gY)(b:Nat):Ab (a.drop b)=(Ab a).drop b:=by simp[Ab]
theorem CJ(a:gY)(b:Nat):Ab (a.take b)=(Ab a).take b:=by simp[Ab]
theorem NT(h:∀x∈j,x.1.size<=12/\x.2.size<=16):∀x∈Ab j,x.1.length<=12/\x.2.length<=16:=by intro x a;simp only[Ab,xL]at a;obtain⟨b,c,rfl⟩:=a;have:=h b c;simp only[Ah];exact this
theorem Vv(b:Nat)(a:List (hE×hE))(h:a≠[]):Pg.entries (b+1) a=IG a++Pg.entries b (a.drop 4):=by rw[Pg.entries,xB h]
theorem CK(b:Nat)(a:List (hE×hE))(h:a≠[]):Pg.Kx (b+1) a=Pg.base a++Pg.Kx b (a.drop 4):=by rw[Pg.Kx,xB h]
theorem XP(h:Below a (w.alloc s) b):w.heap.size+1<=b.heap.size:=by have:=h.size;simpa using this
theorem XQ(a:hJ)(b:Nat)(h:b<a.size):Pg.Da (a.data.toList.drop b)=(a[b]'h).toNat+256*Pg.Da (a.data.toList.drop (b+1)):=by rw[Nw a b h];rfl
theorem Ak{i:Nat}{B:Array Value}{m:TypeId}(h:w.heap[a]?=some (.cells B m (0,0)))(v:Value):(w.setCell (Q_ a i) v).heap[a]?=some (.cells (B.setIfInBounds i v) m (0,0)):=by simp only[World.setCell,fX];rw[xD yQ,h];rfl
abbrev But(b:Nat)(w w':World):Prop:=w.grownBy w' (some b)
theorem Rj(a:Nat)(w:World):But a w w:=⟨rfl,rfl,rfl,X_,fun _ _ _=>rfl⟩
theorem Aw(h:But a w b)(c:But a b y):But a w y:=
 ⟨c.os.trans h.os,c.tape.trans h.tape,c.output.trans h.output,xI h.size c.size,fun d f g=>(c.block d (yF f h.size) g).trans (h.block d f g)⟩
theorem Mo{b:Nat}(h:Below w.heap.size w y):But b w y:=⟨h.os,h.tape,h.output,h.size,fun a c _=>h.block a c⟩
theorem Be(a c:Nat)(w:World)(v:Value):But a w (w.setCell (Q_ a c) v):=
 ⟨rfl,rfl,rfl,by simp[World.setCell],fun b _ b=>kS _ _ _ _ (fun e=>b (by rw[e]))⟩
theorem Jn(a:Nat)(w:World)(b:Nat):But a w (w.drewN b):=⟨rfl,rfl,rfl,X_,fun _ _ _=>rfl⟩
theorem Zo(h:Below c w b)(d:w.heap.size<=c):But a w b:=Mo (h.mono d)
theorem Sy{C:Cur}(h:C.rem=r.data.toList.drop a)(b:a<=r.size):C.rem.length+a=r.size:=by rw[h,xY,Ah];omega
theorem Kf(a:Cur):(⟨(a.take 1).1.toArray⟩:hJ).size=1:=by rw[Ba,CE a 1 Do]
theorem Oz(c:Nat)(a:Cur)(d b:Nat)(first:Bool)(h:¬a.byte<128):numberF (c+1) a d b first=numberF c (a.take 1).2 (d+a.byte % 128*b) (128*b) false:=by rw[numberF,xB h]
theorem Hi(d:Nat)(a:Cur)(b c:Nat)(first:Bool)(h:a.byte<128)(f:(a.take 1).2.bad=true\/(a.byte=0/\first=false)\/2147483647<b+a.byte % 128*c):numberF (d+1) a b c first=(0,⟨(a.take 1).2.rem,true⟩):=by rw[numberF,xD h,xD f]
theorem Mx(d:Nat)(a:Cur)(b c:Nat)(first:Bool)(h:a.byte<128)(f:¬((a.take 1).2.bad=true\/(a.byte=0/\first=false)\/2147483647<b+a.byte % 128*c)):numberF (d+1) a b c first=(b+a.byte % 128*c,(a.take 1).2):=by rw[numberF,xD h,xB f]
theorem II(a:Cur):a.number.1<=2147483647:=by
 have g:∀(b:Nat) (a:Cur) (c d:Nat) (f:Bool),(numberF b a c d f).1<=2147483647:=by
  intro b
  induction b with
  | zero=>intro a c d f;simp[numberF]
  | succ b ih=>
   intro a c d f;rw[numberF];split
   ·split
    ·simp
    ·rename_i h;simp only;omega
   ·exact ih _ _ _ _
 exact g 5 a 0 1 true
theorem KT(h:But w.heap.size (w.alloc s) b):Below w.heap.size w b:=
 ⟨h.os,h.tape,h.output,by have:=h.size;simp at this;omega,fun a c=>(h.block a K_ K_).trans (kR _ _ _ c)⟩
theorem KU(a:hE):(Ev a=none/\Me a=⟨#[]⟩/\Mf a=2)\/∃b,Ev a=some b/\Me a=⟨b.toArray⟩/\Mf a=0:=by
 unfold Me Mf
 cases h:Ev a with
 | none=>exact .inl ⟨rfl,rfl,rfl⟩
 | some b=>exact .inr ⟨b,rfl,rfl,rfl⟩
def strs(l:hD):hH:=l.map Value.string
def Bc(B:Nat)(w:World)(v:Value)(l:hD):Prop:=w.ownsRow B 9 1 v l.length (strs l)
theorem NU:(Tryz.prog.info? 9).map (fun a=>(a.zero,a.size,a.bytes))=some (some (B_ ⟨#[]⟩),1,16):=S_
theorem Bc.nil(a:Nat)(w:World):Bc a w Z_ []:=yP _ _ _ _
theorem Bc.alloc{a:Nat}{w:World}{v:Value}{d:hD}(h:Bc a w v d)(b:Obj):Bc a (w.alloc b) v d:=cN h b
theorem Bc.shape(h:Bc a w v d):∃c b,v=L_ c d.length b:=by
 rcases h.2 with⟨rfl,c⟩|⟨f,b,g,rfl,_⟩
 ·exact⟨none,0,by rw[c]⟩
 ·exact⟨_,_,rfl⟩
theorem Bc.shape_pos(h:Bc a w v d)(l:0<d.length):∃b c,v=L_ (P_ b) d.length c/\a<=b/\b<w.heap.size/\d.length<=c:=by
 rcases h.2 with⟨rfl,j⟩|⟨b,c,k,rfl,f,g,i,_⟩
 ·omega
 ·exact⟨b,c,rfl,f,(xS.1 g).1,i⟩
theorem Bc.below(h:Bc B w v d)(m:Below a w b)(n:w.heap.size<=a):Bc B b v d:=by
 refine⟨h.1,?_⟩;rcases h.2 with g|⟨c,i,j,rfl,k,f,l⟩
 ·exact .inl g
 ·exact .inr ⟨c,i,j,rfl,k,by rw[m.block c (yF (xS.1 f).1 n)];exact f,l⟩
theorem Bc.setBelow(h:Bc a w v d){b i:Nat}(f:b<a)(c:Value):Bc a (w.setCell (Q_ b i) c) v d:=aO h f c
theorem Bc.kept{a:Nat}{w b:World}{v:Value}{d:hD}{row:Option Nat}(h:Bc a w v d)(c:w.grownBy b row)(f:v.ownBlock=none\/v.ownBlock≠row):Bc a b v d:=zP h c f
theorem Bc.cellAt{t:Nat}(h:Bc a w (L_ (P_ c) p t) d)(b:Nat)(f:hJ)(g:d[b]?=some f):w.cell? (Q_ c b)=some (B_ f):=by
 have:=zD h (g:=c) rfl b (B_ f) (by simp[strs,g]);by_cases h0:b=0
 ·subst h0;simpa[Addr.add]using this
 ·simpa[Addr.add,h0]using this
theorem NV(c:hD):∀a∈strs c,a.oneCell'=true:=by intro a b;simp[strs]at b;obtain⟨d,_,rfl⟩:=b;rfl
theorem CL{k z:Value}{D:hD}(g:Bc a w k d)(m:Bc a w v D)(n:a<=w.heap.size)(i:Ep k v)(j:w.grownBy b v.ownBlock)(o:z.ownBlock=v.ownBlock\/∃c,w.heap.size<=c/\z.ownBlock=some c):Bc a b k d/\Ep k z/\Below a w b:=by
 refine⟨g.kept j ?_,?_,(xA a w).grown j n fun c f=>(xF m c f).1⟩
 ·cases h:k.ownBlock with
  | none=>exact .inl rfl
  | some c=>exact .inr (fun e=>i c h e.symm)
 ·intro c f e;have p:=(xF g c f).2;rcases o with h|⟨l,q,h⟩
  ·rw[h]at e;exact i c f e
  ·rw[h]at e;have:l=c:=(by simpa using e);omega
theorem IJ(w:World){rest:List Oper}(y:g.guard=none)(l x:Operand)(z:g.op=Op.call {callee:=Callee.builtin Builtin.append,args:= #[l,x],argTypes:= #[40,40]})(k:Nat)(v:Value)(d:hD)(A:i.eval l=v)(B:Bc k w v d)(a:hJ)(C:i.eval x=L_ (P_ w.heap.size) 1 1)(F:d.length+1<=1000000000)(G:k<=w.heap.size)(h:∀(b:Value) (c:World),Bc k c b (d++[a])->w.grownBy c v.ownBlock->(b.ownBlock=v.ownBlock\/∃j,w.heap.size<=j/\b.ownBlock=some j)->wpList Tryz.prog f Q rest (i.put g.dst b) c):wpList Tryz.prog f Q (g::rest) i (w.alloc (C_ #[B_ a] 9)):=by
 obtain⟨m,n,o,p,q⟩:=zB NU;refine wT (w.alloc (C_ #[B_ a] 9)) y l x 40 z k 9 m (B_ ⟨#[]⟩) 1 16 kM n o p q rfl Do v d.length (strs d) A (B.alloc _) (Q_ w.heap.size 0) 1 1 [B_ a] C rfl ?_ (NV [a]) (by unfold maxLen;omega) O_ K_ ?_
 ·intro r D j
  match r,j with
  | 0,j=>simp at j;subst j;simp[Addr.add]
 intro b c s t _ u;refine h b c ?_ (Cm t) (u.imp_right fun e=>⟨w.heap.size+1,O_,by simpa using e⟩);unfold Bc strs;rw[xC,yX];exact s
theorem Vw(w:World){K:Act->World->Prop}{E:Prop}(B:g.guard=none)(m x:Operand)(C:g.op=Op.call {callee:=Callee.builtin Builtin.append,args:= #[m,x],argTypes:= #[40,40]})(j:Nat)(v:Value)(c:hD)(D:i.eval m=v)(F:Bc j w v c)(k:hJ)(l:Nat)(G:i.eval x=L_ (P_ l) 1 1)(H:w.cell? (Q_ l 0)=some (B_ k))(J:c.length+1<=1000000000)(I:j<=w.heap.size)(h:∀(a:Value) (b:World),Bc j b a (c++[k])->w.grownBy b v.ownBlock->(a.ownBlock=v.ownBlock\/∃d,w.heap.size<=d/\a.ownBlock=some d)->K (i.put g.dst a) b):if Region.wanted g (yielded f i.tmps)=true then Oper.wp Tryz.prog g i w K Q else E:=by
 have n:Region.wanted g (yielded f i.tmps)=true:=by simp[Region.wanted,B]
 rw[xD n];obtain⟨o,p,q,r,s⟩:=zB NU;obtain⟨a,b,t,u,y,_,z⟩:=kY (P:=Tryz.prog) w j 40 g.type 9 o (B_ ⟨#[]⟩) 1 16 kM p q r s rfl Do v c.length (strs c) F (Q_ l 0) 1 1 [B_ k] rfl (fun A d d=>by
  match A,d with
  | 0,d=>simp at d;subst d;simpa[Addr.add]using H) (NV [k]) (by unfold maxLen;omega) O_ I
 have d:K (i.put g.dst a) b:=by refine h a b ?_ y (z.imp_right fun e=>⟨w.heap.size,X_,e⟩);unfold Bc strs;rw[xC,yX];exact u
 unfold Oper.wp;simp[execOp,C,resolve,invoke,builtin,D,G,t,Result.andThen];exact d
def Ag(l:hD):List hE:=l.map fun s=>s.data.toList
theorem IK{l:hE}(h:Pg.Mi l=false):Pg.Gu l=none:=by unfold Pg.Gu;rw[xB (by rw[h];decide)]
theorem Vx(w:World)(a:hJ)(b:TypeId):((w.alloc (C_ #[B_ a] b)).drew).cell? (Q_ w.heap.size 0)=some (B_ a):=by show(w.alloc (C_ #[B_ a] b)).cell? (Q_ w.heap.size 0)=_;unfold World.cell?;rw[xK w];rfl
theorem Cj:∀(x c:hE),Op.bytesLess x c=decide (x<c)
 | [],[]=>by simp[Op.bytesLess]
 | [],_::_=>by simp[Op.bytesLess]
 | _::_,[]=>by simp[Op.bytesLess]
 | a::x,b::c=>by
  rw[Op.bytesLess,Cj x c];by_cases c:a=b
  ·subst c;simp
  ·simp[gG,c]
theorem My(a:hD)(b:hJ):Ag (a++[b])=Ag a++[b.data.toList]:=by simp[Ag]
namespace Pg
def Dm(n:Nat):Bool:=decide (1<=n)&&decide (n<=12)
def Bv(k:Int)(key val:Nat):Bool:=Dm key&&decide (val<=16)&&(decide (k=1) || decide (k=3) || (decide (k=2)&&decide (val=0)))
def Gn:Option hE->hE->Bool
 | none,_=>true
 | some q,k=>decide (q<k)
def Un:List (hE×hE)->Option hE->Bool
 | [],_=>true
 | x::r,p=>Dm x.1.length&&decide (x.2.length<=16)&&Gn p x.1&&Un r (some x.1)
def Cx(p:Option hE)(l:List (hE×hE)):Bool:=Un l p
theorem VO(b:Option hE)(a v:hE)(c:List (hE×hE)):Cx b ((a,v)::c)=(Dm a.length&&decide (v.length<=16)&&Gn b a&&Cx (some a) c):=rfl
end Pg
def Ic(l:List (hE×hE))(i:Nat):Option hE:=if i=0 then none else(l[i-1]?).map (·.1)
theorem Dv{w:World}{a:Nat}{k z F G H:Value}(h:w.heap[a]?=some (C_ #[k,z,F,G,H] 79 (0,0))):w.cell? (Q_ a 0)=some k/\w.cell? (Q_ a 1)=some z/\w.cell? (Q_ a 2)=some F/\w.cell? (Q_ a 3)=some G/\w.cell? (Q_ a 4)=some H:=by refine⟨?_,?_,?_,?_,?_⟩<;>simp[World.cell?,h]
namespace Pg
def Az:List hE->Option hE->Bool
 | [],_=>true
 | x::r,p=>Dm x.length&&Gn p x&&Az r (some x)
def Bz(c:Int):Bool:=decide (0<=c)&&decide (c<=2147483647)
def Bh(c:Int×hE×hE):Bool:=Bv c.1 c.2.1.length c.2.2.length
end Pg
variable {w wr:World}{a c:Nat}
def Ik(w:World)(v:Value)(n:Nat)(cs:hH):Prop:=∃a cap,v=L_ a n cap/\n<=1000000000/\(n=0\/∃b off,a=some (Q_ b off)/\b<w.heap.size/\∀i (h:i<cs.length),w.cell? (Q_ b (off+i))=some (cs[i]'h))
def Kg(l:List hE)(i:Nat):Option hE:=if i=0 then none else l[i-1]?
def VP(w:World)(b off:Nat)(l:gZ):Prop:=∀i (h:i<l.length),w.cell? (Q_ b (off+i*3))=some (J_ (l[i]'h).1)/\w.cell? (Q_ b (off+i*3+1))=some (B_ (l[i]'h).2.1)/\w.cell? (Q_ b (off+i*3+2))=some (B_ (l[i]'h).2.2)
theorem VP.below{b:World}{B:Nat}{l:gZ}(h:VP w a c l)(d:Below B w b)(f:a<B):VP b a c l:=fun g i=>by rw[d.cell (p:=(Q_ a _)) f,d.cell (p:=(Q_ a _)) f,d.cell (p:=(Q_ a _)) f];exact h g i
def Rk(w:World)(v:Value)(l:gZ):Prop:=∃a cap,v=L_ a l.length cap/\l.length<=1000000000/\(l.length=0\/∃b off,a=some (Q_ b off)/\b<w.heap.size/\VP w b off l)
def Ac(l:gZ):List (Int×hE×hE):=l.map fun c=>(c.1,c.2.1.data.toList,c.2.2.data.toList)
theorem Vy{pl:hD}(h:∀b (h:b<(pl.map Value.string).length),w.cell? (Q_ a (c+b))=some ((pl.map Value.string)[b]'h))(f:Below w.heap.size w wr)(g:a<w.heap.size)(b:Nat)(d:b<pl.length):wr.cell? (Q_ a (c+b))=some (B_ (pl[b]'d)):=by rw[f.cell (p:=(Q_ a _)) g,h b (by simpa using d)];simp
theorem Aat{pl:List Int}(h:∀b (h:b<(pl.map (Value.int .i64)).length),w.cell? (Q_ a (c+b))=some ((pl.map (Value.int .i64))[b]'h))(f:Below w.heap.size w wr)(g:a<w.heap.size)(b:Nat)(d:b<pl.length):wr.cell? (Q_ a (c+b))=some (J_ (pl[b]'d)):=by rw[f.cell (p:=(Q_ a _)) g,h b (by simpa using d)];simp
namespace Pg
def Ct(c:Int×hE×hE):hE:=low c.1.toNat 1++text c.2.1++(if c.1=2 then[]else text c.2.2)
def Cc(l:List (Int×hE×hE)):hE:=low l.length 1++l.flatMap Ct
def Dw(cl:hF)(pl:List hE):hE:=cl.flatMap num++pl.flatMap text
def Ck(cl:hF)(pl:List hE):hE:=Ar [112] (Dw cl pl)
def Cf(ml:List (Int×hE×hE)):hE:=Ar [109] (Cc ml)
def Fb(cl:hF)(pl:List hE)(ml:List (Int×hE×hE)):hE:=
 sealed ([83,50,73]++low cl.length 1++low (Ck cl pl).length 2++low (Cf ml).length 2++List.replicate 56 0)++Ck cl pl++Cf ml
end Pg
variable {w:World}{l:gZ}
theorem KV{wr:World}{a c:Nat}{pl:hF}(h:∀d (h:d<(pl.map fun(b:Nat)=>J_ (b:Int)).length),w.cell? (Q_ a (c+d))=some ((pl.map fun(b:Nat)=>J_ (b:Int))[d]'h))(f:Below w.heap.size w wr)(g:a<w.heap.size)(b:Nat)(d:b<pl.length):wr.cell? (Q_ a (c+b))=some (J_ ((pl[b]'d:Nat):Int)):=by rw[f.cell (p:=(Q_ a _)) g,h b (by simpa using d)];simp
theorem Rk.below{b:World}{v:Value}(h:Rk w v l)(c:Below w.heap.size w b):Rk b v l:=by obtain⟨d,f,g,i,j⟩:=h;refine⟨d,f,g,i,j.imp_right ?_⟩;rintro⟨k,m,e,a,n⟩;exact⟨k,m,e,yF a c.size,n.below c a⟩
theorem CN(h:∀x∈l,(0<=x.1/\x.1<=1000)/\x.2.1.size<=12/\x.2.2.size<=16):∀x∈Ac l,x.2.1.length<=12/\x.2.2.length<=16:=by intro x a;simp only[Ac,xL]at a;obtain⟨b,c,rfl⟩:=a;have:=(h b c).2;simp only[Ah];exact this
theorem CO(a:List (Int×hE×hE))(h:∀x∈a,x.2.1.length<=12/\x.2.2.length<=16):(Pg.Cc a).length<=1+a.length*60:=by
 unfold Pg.Cc;rw[xC,Pg.Bo];have:(a.flatMap Pg.Ct).length<=a.length*60:=by
  induction a with
  | nil=>simp
  | cons x r ih=>
   rw[jJ,xC,xH];have d:=h x D_;have f:=ih fun b c=>h b (by simp[c])
   have b:=El x.2.1 O_;have c:=El x.2.2 O_;have:(Pg.Ct x).length<=60:=by
    unfold Pg.Ct;rw[xC,xC,Pg.Bo];split
    ·simp;omega
    ·omega
   omega
 omega
namespace Pg
def Kh(kd:Int)(il:List (hE×hE))(cl:List Int)(pl:List hE)(ml:List (Int×hE×hE)):Bool:=
 if kd=1 then Cx none il&&decide (il.length<=16)&&decide (cl.length=0)&&decide (pl.length=0)&&decide (ml.length=0)
 else Az pl none&&cl.all Bz&&ml.all Bh&&decide (kd=2)&&decide (il.length=0)&&decide (1<=cl.length)&&decide (cl.length<=4)&&decide (pl.length+1=cl.length)&&decide (ml.length<=8)
def page(kd:Int)(il:List (hE×hE))(cl:List Int)(pl:List hE)(ml:List (Int×hE×hE)):hE:=if kd=2 then Fb (cl.map Int.toNat) pl ml else Lx il
theorem Ed{a:Nat}(h:Dm a=true):a<=12:=by simp[Dm]at h;exact h.2
theorem Xz:∀(a:List (hE×hE)) (b:Option hE),Un a b=true->∀x∈a,x.1.length<=12/\x.2.length<=16
 | [],_,_,x,a=>by simp at a
 | y::r,b,h,x,a=>by
  simp only[Un,yK,yL]at h;rcases xG.1 a with rfl|a
  ·exact⟨Ed h.1.1.1,h.1.1.2⟩
  ·exact Xz r _ h.2 x a
theorem Fe:∀(a:List hE) (b:Option hE),Az a b=true->∀x∈a,x.length<=12
 | [],_,_,x,a=>by simp at a
 | y::r,b,h,x,a=>by
  simp only[Az,yK]at h;rcases xG.1 a with rfl|a
  ·exact Ed h.1.1
  ·exact Fe r _ h.2 x a
end Pg
variable {w b:World}{v:Value}{j:gY}{a:Nat}{n:hH}{l:gZ}
def Mz(w:World)(v:Value)(kd:Int)(il:gY)(cl:List Int)(pl:hD)(ml:gZ):Prop:=
 ∃v1 v2 v3 v4,v=.agg #[J_ kd,v1,v2,v3,v4]/\Fa w v1 il/\il.length<=1000000000/\Ik w v2 cl.length (cl.map (.int .i64))/\Ik w v3 pl.length (pl.map .string)/\Rk w v4 ml
theorem Fa.below(h:Fa w v j)(c:Below w.heap.size w b):Fa b v j:=by
 rcases h with h|⟨d,f,g,i,k,l,a,m⟩
 ·exact .inl h
 ·exact .inr ⟨d,f,g,i,k,l,yF a c.size,m.below c a⟩
theorem Fa.shape(h:Fa w v j):∃b a,v=L_ b j.length a:=by
 rcases h with⟨b,a,rfl,rfl⟩|⟨c,d,a,rfl,_⟩
 ·exact⟨_,_,rfl⟩
 ·exact⟨_,_,rfl⟩
theorem Ik.below(h:Ik w v a n)(f:Below w.heap.size w b):Ik b v a n:=by obtain⟨g,i,j,k,l⟩:=h;refine⟨g,i,j,k,l.imp_right ?_⟩;rintro⟨c,m,e,d,o⟩;exact⟨c,m,e,yF d f.size,fun p q=>by rw[f.cell (p:=(Q_ c _)) d];exact o p q⟩
theorem Mz.below{I:Int}{J:List Int}{d:hD}(h:Mz w v I j J d l)(a:Below w.heap.size w b):Mz b v I j J d l:=by obtain⟨c,f,g,i,e,k,m,n,o,p⟩:=h;exact⟨c,f,g,i,e,k.below a,m,n.below a,o.below a,p.below a⟩
theorem Ix(w:World){f:Array Oper}{rest:List Oper}{g:Oper}{i:Act}{Q:Exit->Act->World->Prop}(G:g.guard=none)(p x:Operand)(l e:TypeId)(H:Tryz.prog.underlying l=some (.slice e))(q:Value)(b m:Nat)(I:(Tryz.prog.info? e).map (fun d=>(d.zero,d.size,d.bytes))=some (some q,b,m))(J:q.cells.size=b)(L:0<b)(M:m<=1000)(N:g.op=Op.call {callee:=Callee.builtin Builtin.append,args:= #[p,x],argTypes:= #[l,l]})(n:Nat)(v:Value)(k:Nat)(r:hH)(O:i.eval p=v)(R:w.ownsRow n e b v k r)(a:hH)(V:a.length=b)(S:∀s∈a,s.oneCell'=true)(T:i.eval x=.slice (some ⟨w.heap.size,0,none⟩) 1 1)(U:k+1<=1000000000)(W:n<=w.heap.size)(h:∀(c:Value) (j:World),j.ownsRow n e b c (k+1) (r++a)->w.grownBy j v.ownBlock->(c.ownBlock=v.ownBlock\/∃o,w.heap.size<=o/\c.ownBlock=some o)->wpList Tryz.prog f Q rest (i.put g.dst c) j):wpList Tryz.prog f Q (g::rest) i (w.alloc (.cells a.toArray e)):=by
 obtain⟨d,u,y,z,A⟩:=zB I;refine wT (w.alloc (.cells a.toArray e)) G p x l N n e d q b m H u y z A J L v k r O (R.alloc _) ⟨w.heap.size,0,none⟩ 1 1 a T O_ ?_ S (by unfold maxLen;omega) (by have:(k+1)*m<=1000000000*1000:=wO U M;omega) K_ ?_
 ·intro o s B;have t:(w.alloc (.cells a.toArray e)).heap[w.heap.size]?=some (.cells a.toArray e (0,0)):=xK _ _;have:(⟨w.heap.size,0,none⟩:Addr).add o=⟨w.heap.size,o,none⟩:=by
   by_cases h0:o=0
   ·subst h0;simp[Addr.add]
   ·simp[Addr.add,h0]
  rw[this];unfold World.cell?;rw[t];simpa using B
 intro c j C D _ F;exact h c j C (Cm D) (F.imp_right fun e=>⟨w.heap.size+1,O_,by simpa using e⟩)
def Al(l:gY):hH:=l.flatMap fun x=>[B_ x.1,B_ x.2]
def Ap(B:Nat)(w:World)(v:Value)(l:gY):Prop:=w.ownsRow B 51 2 v l.length (Al l)
theorem Cg:(Tryz.prog.info? 51).map (fun a=>(a.zero,a.size,a.bytes))=some (some (.agg #[B_ ⟨#[]⟩,B_ ⟨#[]⟩]),2,32):=S_
def Cd(l:gZ):hH:=l.flatMap fun x=>[J_ x.1,B_ x.2.1,B_ x.2.2]
def Bb(B:Nat)(w:World)(v:Value)(l:gZ):Prop:=w.ownsRow B 34 3 v l.length (Cd l)
theorem Em:(Tryz.prog.info? 34).map (fun a=>(a.zero,a.size,a.bytes))=some (some (.agg #[J_ 0,B_ ⟨#[]⟩,B_ ⟨#[]⟩]),3,40):=S_
theorem Rl:(Tryz.prog.info? 3).map (fun a=>(a.zero,a.size,a.bytes))=some (some (J_ 0),1,8):=S_
theorem Jo(a:gY)(x:hJ×hJ):Al (a++[x])=Al a++[B_ x.1,B_ x.2]:=by simp[Al]
theorem Nz(a:gZ)(x:Int×hJ×hJ):Cd (a++[x])=Cd a++[J_ x.1,B_ x.2.1,B_ x.2.2]:=by simp[Cd]
theorem Ya:∀(b:gY) (a:Nat) (h:a<b.length),(Al b)[a*2]?=some (B_ (b[a]'h).1)/\(Al b)[a*2+1]?=some (B_ (b[a]'h).2)
 | [],a,h=>by simp at h
 | x::r,0,h=>by simp[Al]
 | x::r,a+1,h=>by have:=Ya r a (by simpa using h);have e:Al (x::r)=B_ x.1:: B_ x.2::Al r:=rfl;rw[e,show(a+1)*2=a*2+1+1 by omega];simpa using this
theorem Yb:∀(b:gZ) (a:Nat) (h:a<b.length),(Cd b)[a*3]?=some (J_ (b[a]'h).1)/\(Cd b)[a*3+1]?=some (B_ (b[a]'h).2.1)/\(Cd b)[a*3+2]?=some (B_ (b[a]'h).2.2)
 | [],a,h=>by simp at h
 | x::r,0,h=>by simp[Cd]
 | x::r,a+1,h=>by have:=Yb r a (by simpa using h);have e:Cd (x::r)=J_ x.1:: B_ x.2.1:: B_ x.2.2::Cd r:=rfl;rw[e,show(a+1)*3=a*3+1+1+1 by omega];simpa using this
theorem Gv(b a:Nat):((Q_ b 0):Addr).add a=(Q_ b a):=by
 by_cases h0:a=0
 ·subst h0;simp[Addr.add]
 ·simp[Addr.add,h0]
theorem Ap.isItems(h:Ap a w v j):(∃b c,v=L_ b 0 c/\j=[])\/∃b c,v=L_ (P_ b) j.length c/\j.length<=c/\a<=b/\b<w.heap.size/\Gr w b 0 j:=by
 rcases h.2 with⟨rfl,k⟩|⟨b,c,o,rfl,l,m,n,_⟩
 ·exact .inl ⟨none,0,rfl,zA.1 k⟩
 ·refine .inr ⟨b,c,rfl,n,l,(xS.1 m).1,fun d f=> ?_⟩;obtain⟨g,i⟩:=Ya j d f;have d:=zD h (g:=b) rfl _ _ g;have f:=zD h (g:=b) rfl _ _ i;rw[Gv]at d f;simpa using⟨d,f⟩
theorem Bb.isChs(h:Bb a w v l)(i:l.length<=1000000000):Rk w v l:=by
 rcases h.2 with⟨rfl,g⟩|⟨b,n,p,rfl,q,o,r,_⟩
 ·exact⟨none,0,by rw[g],i,.inl g⟩
 ·refine⟨_,n,rfl,i,.inr ⟨b,0,rfl,(xS.1 o).1,fun c d=> ?_⟩⟩;obtain⟨j,k,m⟩:=Yb l c d;have c:=zD h (g:=b) rfl _ _ j;have d:=zD h (g:=b) rfl _ _ k;have f:=zD h (g:=b) rfl _ _ m;rw[Gv]at c d f;simpa using⟨c,d,f⟩
theorem ownsRow.isRow{m:TypeId}{c:Nat}(h:w.ownsRow a m 1 v c n)(g:c<=1000000000):Ik w v c n:=by
 rcases h.2 with⟨rfl,d⟩|⟨f,i,o,rfl,p,j,q,_⟩
 ·exact⟨none,0,by rw[d],g,.inl d⟩
 ·refine⟨_,i,rfl,g,.inr ⟨f,0,rfl,(xS.1 j).1,fun k l=> ?_⟩⟩;have b:=zD h (g:=f) rfl k _ (xW l);rw[Gv]at b;simpa using b
namespace Pg
def Ki(c:Cur):(Int×hE×hE)×Cur:=
 if c.byte=2 then(((c.byte:Int),((c.take 1).2.text 12).1,[]),((c.take 1).2.text 12).2)
 else(((c.byte:Int),((c.take 1).2.text 12).1,(((c.take 1).2.text 12).2.text 16).1),(((c.take 1).2.text 12).2.text 16).2)
def Ef:Nat->Cur->List (Int×hE×hE)×Cur
 | 0,c=>([],c)
 | n+1,c=>if c.bad=true then([],c)else((Ki c).1::(Ef n (Ki c).2).1,(Ef n (Ki c).2).2)
end Pg
variable {a c p:Nat}{w b:World}{v k x:Value}{m:TypeId}{n:hH}{f:Array Oper}{g:Oper}{i:Act}{Q:Exit->Act->World->Prop}{q:hE}
theorem Bb.but{l:gZ}(h:Bb a w v l)(f:But c w b)(g:c<a):Bb a b v l:=by
 refine zP h f ?_
 cases e:v.ownBlock with
 | none=>exact .inl rfl
 | some k=>exact .inr (fun d=>by have:=(xF h k e).1;simp at d;omega)
theorem setSize(w:World)(a:Addr)(v:Value):(w.setCell a v).heap.size=w.heap.size:=by simp[World.setCell]
theorem Adw(c:Int)(d f:hJ):∀a∈([J_ c,B_ d,B_ f]:hH),a.oneCell'=true:=by intro a b;simp at b;rcases b with rfl|rfl|rfl<;>rfl
theorem Vz(a:gZ)(x:Int×hJ×hJ):Ac (a++[x])=Ac a++[(x.1,x.2.1.data.toList,x.2.2.data.toList)]:=by simp[Ac]
theorem Ad(h:w.ownsRow a m c v p n):∃d b,v=L_ d p b:=by
 rcases h.2 with⟨rfl,d⟩|⟨f,b,g,rfl,_⟩
 ·exact⟨none,0,by rw[d]⟩
 ·exact⟨_,_,rfl⟩
def Ku(w w':World)(v v':Value):Prop:=w.grownBy w' v.ownBlock/\(v'.ownBlock=v.ownBlock\/∃k,w.heap.size<=k/\v'.ownBlock=some k)
theorem Ku.refl(w:World)(v:Value):Ku w w v v:=⟨⟨rfl,rfl,rfl,X_,fun _ _ _=>rfl⟩,.inl rfl⟩
theorem Ku.size(h:Ku w b v k):w.heap.size<=b.heap.size:=h.1.size
theorem Ku.trans{y A:World}(h:Ku b y k v)(a:Ku y A v x):Ku b A k x:=by
 refine⟨⟨a.1.os.trans h.1.os,a.1.tape.trans h.1.tape,a.1.output.trans h.1.output,xI h.1.size a.1.size,fun d c g=> ?_⟩,?_⟩
 ·refine(a.1.block d (yF c h.1.size) ?_).trans (h.1.block d c g);rcases h.2 with e|⟨c,f,e⟩
  ·rw[e];exact g
  ·rw[e];intro g;have:d=c:=(by simpa using g);omega
 ·rcases a.2 with e|⟨c,f,e⟩
  ·rw[e];exact h.2
  ·exact .inr ⟨c,xI h.1.size f,e⟩
theorem Ku.below{B:Nat}(h:Ku w b v k)(g:w.ownsRow B m a v c n)(i:B<=w.heap.size):Below B w b:=
 (xA B w).grown h.1 i fun d f=>(xF g d f).1
theorem Ku.cell(h:Ku w b v k){L:Addr}(a:w.cell? L=some x)(c:v.ownBlock≠some L.block):b.cell? L=some x:=h.1.cell a (fun e=>c e.symm)
theorem Le{s:Obj}(a:(w.alloc s).grownBy b v.ownBlock)(c:k.ownBlock=v.ownBlock\/k.ownBlock=some (w.heap.size+1)):Ku w b v k:=
 ⟨Cm a,c.imp_right fun e=>⟨_,kF _,e⟩⟩
theorem GX(w:World)(l:Nat)(g:TypeId)(v:Value)(c:hE)(m:Bp l w v c)(a:hJ)(D:c.length+a.size<=140737488355328)(F:l<=w.heap.size):
  ∃d f,(Builtin.append_ #[108,9] g #[v,B_ a]).run Tryz.prog w=.ok d f/\Bp l f d (c++a.data.toList)/\Ku w f v d:=by
 obtain⟨i,j,n,o,p⟩:=zB Lq;obtain⟨d,f,k,t,u,y⟩:=gC w l 108 9 g 5 i jC jS j n o p v c.length (Lib.byteCells c) m a (by unfold maxLen;omega) D F;refine⟨d,f,k,?_,u,?_⟩
 ·have s:Lib.byteCells (c++a.data.toList)=Lib.byteCells c++Lib.strCells a:=by rw[wF];rfl
  unfold Bp;rw[s,xC,show a.data.toList.length=a.size by simp];exact t
 ·rcases m.2 with⟨rfl,G⟩|⟨r,q,z,rfl,H,A,I,J,L,M⟩
  ·by_cases B:a.size=0
   ·rw[y.2 ⟨rfl,B⟩];exact .inl rfl
   ·have b:=run_append_nil_string (P:=Tryz.prog) w 108 9 g 5 i (.int .u8 0) jC jS j n a O_ O_ (by rw[p];omega);rw[k]at b;simp only[aF]at b;rw[b.1];exact .inr ⟨_,X_,rfl⟩
  ·by_cases C:c.length+a.size<=q
   ·have b:=Lib.run_append_room_string (P:=Tryz.prog) w 108 9 g 5 i jC jS j o r c.length q z A a C O_;rw[k]at b;simp only[aF]at b;rw[b.1];exact .inl rfl
   ·have b:=Lib.run_append_grow_string (P:=Tryz.prog) w 108 9 g 5 i (.int .u8 0) jC jS j n (Q_ r 0) c.length q (Lib.byteCells c) (by rw[o];exact m.1) m.cells a O_ O_ (by rw[p];exact qL O_ O_);rw[k]at b;simp only[aF]at b;rw[b.1];exact .inr ⟨_,X_,rfl⟩
theorem Aau(w:World){rest:List Oper}(o:g.guard=none)(k x:Operand)(p:g.op=Op.call {callee:=Callee.builtin Builtin.append,args:= #[k,x],argTypes:= #[108,9]})(d:Nat)(v:Value)(j:hE)(q:i.eval k=v)(r:Bp d w v j)(c:hJ)(s:i.eval x=B_ c)(t:j.length+c.size<=140737488355328)(u:d<=w.heap.size)(h:∀(a:Value) (b:World),Bp d b a (j++c.data.toList)->Ku w b v a->wpList Tryz.prog f Q rest (i.put g.dst a) b):wpList Tryz.prog f Q (g::rest) i w:=by obtain⟨a,b,l,m,n⟩:=GX w d g.type v j r c t u;exact vO w o k x 108 9 p v _ q s a b l (h a b m n)
theorem Agl(w:World){rest:List Oper}(u:g.guard=none)(m x:Operand)(y:g.op=Op.call {callee:=Callee.builtin Builtin.append,args:= #[m,x],argTypes:= #[108,108]})(k:Nat)(v:Value)(l:hE)(z:i.eval m=v)(A:Bp k w v l)(c d j e:UInt8)(n o p q:Int)(B:n=(c.toNat:Int))(C:o=(d.toNat:Int))(D:p=(j.toNat:Int))(F:q=(e.toNat:Int))(G:i.eval x=L_ (P_ w.heap.size) 4 4)(H:l.length+4<=140737488355328)(I:k<=w.heap.size)(h:∀(a:Value) (b:World),Bp k b a (l++[c,d,j,e])->Ku w b v a->wpList Tryz.prog f Q rest (i.put g.dst a) b):wpList Tryz.prog f Q (g::rest) i (w.alloc (C_ #[.int .u8 n,.int .u8 o,.int .u8 p,.int .u8 q] 5)):=by subst B C D F;refine IC (w.alloc (C_ #[.int .u8 (c.toNat:Int),.int .u8 (d.toNat:Int),.int .u8 (j.toNat:Int),.int .u8 (e.toNat:Int)] 5)) u m x y k v l z (A.alloc _) (Q_ w.heap.size 0) 4 [c,d,j,e] G (Pp w _ [c,d,j,e] _ (by simp[Lib.byteCells])) (by simpa using H) K_ ?_;intro a b r s t;exact h a b r (Le s (by simpa using t))
theorem Zp(a:Nat):(Builtin.zeroCells (Value.int .u8 0).cells a).toList=Lib.byteCells (List.replicate a 0):=by
 rw[show(Value.int .u8 0).cells= #[Value.int .u8 0]from rfl];apply wY
 ·simp[Builtin.zeroCells,Lib.byteCells]
 ·intro b c d;simp[Builtin.zeroCells,Lib.byteCells,Nat.mod_one]
theorem CP(w:World)(u:TypeId)(c b g:Nat)(d:Array Value)(y:w.heap[c]?=some (.cells d 5 (0,0)))(a:Nat)(A:a<=1000000000)(m:b+a<=g)(B:b+a<=d.size):
  (Builtin.append_ #[108,3] u #[L_ (P_ c) b g,J_ (a:Int)]).run Tryz.prog w=.ok (L_ (P_ c) (b+a) g) (w.setRow c (d.toList.take b++Lib.byteCells (List.replicate a 0)++d.toList.drop (b+a)).toArray):=by
 obtain⟨z,i,t,j,k⟩:=zB Lq;have f:=aP Tryz.prog c b 5 (Lib.byteCells (List.replicate a 0)) 0 d w y (by rw[vE,kD];omega) (Ok _);simp only[jW,vE,kD]at f;have n:IntKind.i64.wrap (a:Int)=a:=by rw[yZ];omega
 have o:¬((a:Int)<0):=O_;have p:¬(281474976710656<(a:Int)):=O_;by_cases l:a=0
 ·subst l;have q:b<=g:=m;have r:IntKind.i64.wrap 0=0:=rfl;simp[Lib.byteCells]at f;simp[Builtin.append_,kG jC,kG vZ,sizeOf,typeInfo,i,j,k,asInt,asIntOf,r,q,Addr.add_lit,Lib.byteCells,f]
 ·have s:Builtin.zeroCells (Value.int .u8 0).cells a=(Lib.byteCells (List.replicate a 0)).toArray:=by rw[<-Zp]
  simp[Builtin.append_,kG jC,kG vZ,sizeOf,typeInfo,zeroValue,i,t,j,k,asInt,asIntOf,n,o,p,l,m,Addr.add_lit,s,f]
theorem Yc(w:World)(k:Nat)(l:TypeId)(v:Value)(a:hE)(m:Bp k w v a)(I:0<a.length)(b:Nat)(j:b<=1000000000)(J:a.length<=100000000000)(D:k<=w.heap.size):
  ∃c d,(Builtin.append_ #[108,3] l #[v,J_ (b:Int)]).run Tryz.prog w=.ok c d/\Bp k d c (a++List.replicate b 0)/\Ku w d v c:=by
 obtain⟨u,y,z,n,o⟩:=zB Lq;have f:(Lib.byteCells (a++List.replicate b 0)).length=(a.length+b)*1:=by rw[vE];simp
 rcases m.2 with⟨rfl,F⟩|⟨c,d,i,rfl,A,p,G,B,H,C⟩
 ·omega
 ·by_cases q:a.length+b<=d
  ·have g:=CP w l c a.length d i p b j q O_;refine⟨_,_,g,?_,⟨rfl,rfl,rfl,D_,fun r _ s=>cT w c r _ (fun e=>s (by simp[Value.ownBlock,e]))⟩,.inl rfl⟩;unfold Bp;rw[show(a++List.replicate b (0:UInt8)).length=a.length+b by simp];refine⟨f,.inr ⟨c,d,_,rfl,A,aQ w c i _ _ _ p,q,B,?_,?_⟩⟩
   ·simp only[vI,xC,xR,xY,jT,vE,kD];omega
   ·rw[show List.take a.length i.toList=Lib.byteCells a by simpa using C,<-wF,<-f];exact jB
  ·have r:0<b:=O_;have s:=run_firstCells_some (P:=Tryz.prog) w.drew 1 a.length (Q_ c 0) a.length d (Lib.byteCells a) m.1 (m.cells);have g:=dH (P:=Tryz.prog) w 108 3 l 5 u (.int .u8 0) .i64 .i64 jC vZ y z (P_ c) a.length d (Lib.byteCells a) (by rw[n];exact s) b r (by rw[n];decide) O_ O_ (by rw[o];omega) (qL O_ (by rw[o];omega));refine⟨_,_,g,?_,⟨rfl,rfl,rfl,D_,fun b j _=>kR w.drew _ b j⟩,.inr ⟨_,X_,rfl⟩⟩;unfold Bp;rw[show(a++List.replicate b (0:UInt8)).length=a.length+b by simp];have t:=cP w (a.length+b) d 5;refine⟨f,.inr ⟨w.heap.size,_,_,rfl,D,xK w.drew _,t,cQ w _ _ _ (by unfold maxLen;omega),?_,?_⟩⟩
   ·simp only[aW,vI,wS,vE];show _+_*1+_*1=_;omega
   ·simp only[vD,Zp];rw[<-wF,<-f];exact jB
theorem Afi(w:World){rest:List Oper}(o:g.guard=none)(k x:Operand)(p:g.op=Op.call {callee:=Callee.builtin Builtin.append,args:= #[k,x],argTypes:= #[108,3]})(j:Nat)(v:Value)(c:hE)(q:i.eval k=v)(r:Bp j w v c)(s:0<c.length)(d:Nat)(t:i.eval x=J_ (d:Int))(u:d<=1000000000)(y:c.length<=100000000000)(z:j<=w.heap.size)(h:∀(a:Value) (b:World),Bp j b a (c++List.replicate d 0)->Ku w b v a->wpList Tryz.prog f Q rest (i.put g.dst a) b):wpList Tryz.prog f Q (g::rest) i w:=by obtain⟨a,b,l,m,n⟩:=Yc w j g.type v c r s d u y z;exact vO w o k x 108 3 p v _ q t a b l (h a b m n)
theorem Rm(w:World)(c:Nat)(g:c<=w.heap.size)(a:hE)(b:Array Value)(d:b.toList=Lib.byteCells a)(i:a.length<=1000000):Bp c (w.alloc (.cells b 5)) (L_ (P_ w.heap.size) a.length a.length) a:=by
 have f:b.size=a.length*1:=by rw[<-jT,d,vE,kJ]
 have:=World.ownsRow_lit (base:=c) (e:=5) (size:=1) w b a.length g (by unfold maxLen;omega) f;rw[d]at this;exact this
theorem Agm:∀a,a<256->a ||| 128=128+a % 128:=Do
theorem Aav(a:Nat):bits .or .u8 ((a:Int) % 256) 128=((128+a % 128:Nat):Int):=by have h:=u8_or_nat (a % 256) 128 O_ O_;rw[Agm _ O_,show a % 256 % 128=a % 128 by omega]at h;rw[<-h];rfl
theorem KW(a:Nat):∃b:UInt8,b.toNat=a % 256/\Pg.low a 1=[b]:=⟨UInt8.ofNat (a % 256),D_,rfl⟩
theorem Sz(f:Nat)(v:Value)(b:hE)(c:Nat)(w:World)(I:Bp f w v b)(W:f<=w.heap.size)(X:b.length<=100000000000)(O:c<=9223372036854775807):
  Calls Tryz.prog 232 #[v,J_ c] w fun N G=>∃y,N=R_ y/\Bp f G y (b++Pg.num c)/\Ku w G v y:=by
 have J:=Aa I;have R:=Fj c O;clear I;go_in;go_wp2_with fail
 go_loopw [0,1] (fun H u wr=>∃(d:hE) (a:Nat),a<=c/\u=J_ a/\Bp f wr H d/\Ku w wr v H/\d++Pg.num a=b++Pg.num c/\d.length<=b.length+10) (fun _ u _=>(intOf u).toNat)
 case atStart=>exact⟨b,c,X_,rfl,J.o,Ku.refl _ _,rfl,O_⟩
 case round=>
  obtain⟨d,a,T,rfl,D,q,r,U⟩:=hrel;have z:=Aa r;have A:=Aa D;have B:=Aa q;have S:=q.size;have L:=Aa (show(d++Pg.num a).length<=b.length+10 by rw[r,xC];omega);clear r D q;by_cases V:128<=a
  ·have M:=Aa (Aav a);obtain⟨s,g,i⟩:=KW (128+a % 128);have m:=Aa i;have n:=Aa g;clear i g
   go_wp2_with (first
    | (at_builtin;refine Rg wr rfl (.tmp 7) (.tmp 11) rfl f u0 d rfl A.o s _ ?_ rfl ?_ ?_ ?_))
   ·rw[M.o,n.o];omega
   ·omega
   ·omega
   intro t F j k l;have o:=Aa j;have p:=Aa (B.o.trans (Le k l));clear j k l;go_wp2_with fail
   go_roundw
   case rel=>
    have C:=Pg.Vr a O_;refine⟨_,a / 128,O_,W_,o.o,p.o,?_,?_⟩
    ·rw[<-z.o,C,xT,m.o]
    ·have:=L.o;rw[C]at this;simp only[xC,Pg.Bo]at this;simp;omega
   case measure=>simp[intOf];omega
  ·obtain⟨s,g,i⟩:=KW a;have m:=Aa i;have n:=Aa g;clear i g
   go_wp2_with (first
    | (at_builtin;refine Rg wr rfl (.tmp 15) (.tmp 18) rfl f u0 d rfl A.o s _ ?_ rfl ?_ ?_ ?_))
   ·rw[n.o];omega
   ·omega
   ·omega
   intro t F j k l;have p:=Aa (B.o.trans (Le k l));have o:Hid (Bp f F t (b++Pg.num c)):=(by show Bp _ _ _ _;rw[<-z.o,Pg.Lc a O_,m.o];exact j);clear j k l;go_wp2_with fail;go_ret;exact⟨t,rfl,o.o,p.o⟩
theorem Jg(b:Nat)(v:Value)(c:hE)(a:hJ)(w:World)(i:Bp b w v c)(r:b<=w.heap.size)(s:c.length<=100000000000)(z:a.size<=35184372088832):
  Calls Tryz.prog 234 #[v,B_ a] w fun f g=>∃d,f=R_ d/\Bp b g d (c++Pg.text a.data.toList)/\Ku w g v d:=by
 have j:=Aa i;have k:Hid (Pg.text a.data.toList=Pg.num a.size++a.data.toList):=by show _=_;unfold Pg.text;rw[Ah]
 have t:=Fj a.size O_;clear i;go_in;go_wp2_with fail;refine(Sz b v c a.size _ j.o r s O_).mono ?_;rintro f o ⟨p,rfl,g,d⟩;have i:=Aa g;have l:=Aa d;have u:=d.size;clear g d
 go_wp2_with (first
  | (at_builtin;refine Aau o rfl (.tmp 8) (.tmp 9) rfl b p _ rfl i.o a rfl (by rw[xC];omega) O_ ?_))
 intro q y d g;have m:=Aa d;have n:=Aa (l.o.trans g);clear d g;go_wp2_with fail;go_ret;exact⟨q,rfl,by rw[k.o];exact m.o,n.o⟩
theorem Rn(a:Nat)(v:Value)(d:hE)(b:Nat)(w:World)(g:Bp a w v d)(n:a<=w.heap.size)(o:d.length<=100000000000):
  Calls Tryz.prog 183 #[v,J_ b] w fun i f=>∃c,i=R_ c/\Bp a f c (d++Pg.low b 2)/\Ku w f v c:=by
 have i:=Aa g;clear g;go_in
 go_wp2_with (first
  | (at_builtin;refine VJ w rfl (.tmp 5) (.tmp 11) rfl a v _ rfl i.o (UInt8.ofNat (b % 256)) (UInt8.ofNat (b / 256 % 256)) _ _ ?_ ?_ rfl ?_ ?_ ?_))
 ·simp
 ·simp
 ·omega
 ·omega
 intro l m c f g;have j:=Aa c;have k:=Aa (Le f g);clear c f g;go_wp2_with fail;go_ret;exact⟨l,rfl,j.o,k.o⟩
theorem Aaw(a:Nat)(h:a<4294967296):bits .xor .u32 ((a:Int) / 2) (bits .and .u32 2197175160 (-bits .and .u32 (a:Int) 1 % 4294967296))=((Ol a:Nat):Int):=by
 have d:=u32_and_nat a 1 h O_;rw[Nat.and_one_is_mod]at d;have f:bits .and .u32 (a:Int) 1=((a % 2:Nat):Int):=d;have g:(a:Int) / 2=((a / 2:Nat):Int):=O_;rw[f,g];by_cases c:a % 2=1
 ·rw[c,show -((1:Nat):Int) % 4294967296=((4294967295:Nat):Int)by decide];have b:bits .and .u32 2197175160 ((4294967295:Nat):Int)=((2197175160:Nat):Int):=by
   have:=u32_and_nat 2197175160 4294967295 O_ O_;exact this
  rw[b,cU _ _ O_ O_,CH c]
 ·rw[show a % 2=0 by omega,show -((0:Nat):Int) % 4294967296=((0:Nat):Int)by decide];have b:bits .and .u32 2197175160 ((0:Nat):Int)=((0:Nat):Int):=by
   have:=u32_and_nat 2197175160 0 O_ O_;exact this
  rw[b,cU _ _ O_ O_,Zn c,Nat.xor_zero]
theorem XR(a:hJ)(w:World)(H:a.size<=35184372088832):
  Calls Tryz.prog 262 #[B_ a] w fun u y=>u=R_ (.int .u32 (Pg.crc a.data.toList))/\y=w:=by
 go_in;go_wp2_with fail
 go_loop [3,7] (fun f j=>∃b:Nat,b<=a.size/\j=J_ b/\f=.int .u32 (Kc (a.data.toList.take b))) (fun _ j=>a.size-(intOf j).toNat)
 case atStart=>exact⟨0,Y_,rfl,rfl⟩
 case round=>
  obtain⟨b,D,rfl,rfl⟩:=hrel;have i:=Xy (a.data.toList.take b);by_cases d:b<a.size
  ·have m:=Aa (NQ a b d);generalize z:Kc (a.data.toList.take b)=f at*;have C:(a[b]'d).toNat<256:=(a[b]'d).toNat_lt;have n:=cU f (a[b]'d).toNat i O_;have o:=CC (a:=f) (b:=(a[b]'d).toNat) i O_;have p:Hid (Pq f (a[b]'d)=Iq 8 (f^^^(a[b]'d).toNat)):=rfl;clear z;generalize A:f^^^(a[b]'d).toNat=g at*;clear A;go_wp2_with fail;clear n
   go_loop [3,16] (fun e k=>∃c:Nat,c<=8/\k=J_ c/\e=.int .u32 (Iq c g)) (fun _ k=>8-(intOf k).toNat)
   case atStart=>exact⟨0,Y_,rfl,rfl⟩
   case round=>
    obtain⟨c,F,rfl,rfl⟩:=hrel;have q:=Ps o c;have r:Hid (Iq (c+1) g=Ol (Iq c g)):=rfl;generalize l:Iq c g=B at*;by_cases G:c<8
    ·clear l;go_wp2_with fail
     go_round
     case rel=>exact⟨c+1,O_,W_,by rw[r.o];exact Je (Aaw B q)⟩
     case measure=>simp[intOf];omega
    ·have s:c=8:=O_;subst s;go_wp2_with fail
     go_round
     case rel=>exact⟨b+1,O_,W_,by rw[m.o,p.o,l]⟩
     case measure=>simp[intOf];omega
  ·have t:Hid (bits .xor .u32 IntKind.u32.max (Kc (a.data.toList.take b):Int)=(Pg.crc a.data.toList:Int)):=by
    show _=_;have:=cU 4294967295 (Kc (a.data.toList.take b)) O_ i;rw[show IntKind.u32.max=((4294967295:Nat):Int)from rfl,this,yY (by rw[Ah];omega),Nat.xor_comm];rfl
   go_wp2_with fail;go_ret;exact⟨Fr t.o,rfl⟩
theorem Ahg(a:Nat):∃b c d e:UInt8,b.toNat=a % 256/\c.toNat=a / 256 % 256/\d.toNat=a / 65536 % 256/\e.toNat=a / 16777216 % 256/\Pg.low a 4=[b,c,d,e]:=⟨UInt8.ofNat (a % 256),UInt8.ofNat (a / 256 % 256),UInt8.ofNat (a / 256 / 256 % 256),UInt8.ofNat (a / 256 / 256 / 256 % 256),D_,D_,K_,K_,rfl⟩
theorem CQ(b:Nat)(v:Value)(a:hE)(w:World)(d:Bp b w v a)(B:b<=w.heap.size)(C:a.length<=100000000000):
  Calls Tryz.prog 233 #[v] w fun j f=>∃c,j=R_ c/\Bp b f c (Pg.sealed a)/\Ku w f v c:=by
 have k:=Aa d;have l:=d.str;clear d;go_in;go_wp2_with fail;refine(XR ⟨a.toArray⟩ _ (by rw[Ba];omega)).mono ?_;rintro j y ⟨rfl,rfl⟩;have A:=Aap a;rw[show(⟨a.toArray⟩:hJ).data.toList=a from rfl];have m:Hid (Pg.sealed a=a++Pg.low (Pg.crc a) 4):=rfl;generalize Pg.crc a=z at*;obtain⟨s,t,u,e,c,d,f,g,i⟩:=Ahg z;have n:=Aa c;have o:=Aa d;have p:=Aa f;have q:=Aa g;have r:=Aa i;clear c d f g i l
 go_wp2_with (first
  | (at_builtin;refine Agl y rfl (.tmp 7) (.tmp 19) rfl b v _ rfl k.o s t u e _ _ _ _ ?_ ?_ ?_ ?_ rfl ?_ ?_ ?_))
 ·rw[n.o];omega
 ·rw[o.o];omega
 ·rw[p.o];omega
 ·rw[q.o];omega
 ·omega
 ·omega
 intro i l c d;have f:=Aa c;have g:=Aa d;clear c d;go_wp2_with fail;go_ret;exact⟨i,rfl,by rw[m.o,r.o];exact f.o,g.o⟩
theorem SI(h:w.ownsRow a m c v p n){t:Nat}(b:w.heap.size<=t):v.ownBlock≠some t:=fun e=>by have:=(xF h t e).2;omega
theorem NW{k:hE}(h:(Br q).length<q.length):Pg.Ar k q=Pg.sealed (k++Pg.low 1 1++Pg.num q.length++Pg.text (Br q)):=by unfold Pg.Ar;rw[xD h]
theorem SJ{k:hE}(h:¬(Br q).length<q.length):Pg.Ar k q=Pg.sealed (k++Pg.low 0 1++Pg.num q.length++Pg.text q):=by unfold Pg.Ar;rw[xB h]
theorem Ro(b:UInt8)(v:Value)(a:hE)(w:World)(T:∃c d,v=L_ c a.length d)(f:∀c:World,c.heap=w.heap->(convert 108 9 v).run Tryz.prog c=.ok (B_ ⟨a.toArray⟩) c)(Y:a.length<=10000000000):
  Calls Tryz.prog 178 #[.int .u8 (b.toNat:Int),v] w fun d c=>d=R_ (B_ ⟨(Pg.Ar [b] a).toArray⟩)/\Below w.heap.size w c:=by
 have U:b.toNat<256:=b.toNat_lt;have i:=f w rfl;have g:=f w.drew rfl;have j:∀c,(convert 108 9 v).run Tryz.prog (w.drewN c)=.ok (B_ ⟨a.toArray⟩) (w.drewN c):=fun c=>f (w.drewN c) rfl
 obtain⟨W,X,rfl⟩:=T;clear f;go_in;go_wp2_with fail;go_quiet (fail);clear i g j;go_wp2_with fail;refine(Zj ⟨a.toArray⟩ _ (by rw[Ba];omega)).mono ?_;rintro d c ⟨rfl,f⟩;rw[show(⟨a.toArray⟩:hJ).data.toList=a from rfl];have y:=Aa ((Ao (xA w.heap.size w) nq).trans (f.mono D_));have V:=BZ a;have F:=y.o.size;clear f;by_cases G:(Br a).length<a.length
 ·have z:=Aa (NW (k:=[b]) G);generalize S:Br a=f at*;have H:((f.length:Int)<(a.length:Int)):=O_;have I:=Ba f;go_wp2_with fail;have g:=Rm c c.heap.size X_ [b,1] #[.int .u8 (b.toNat:Int),.int .u8 1] (by simp[Lib.byteCells]) D_;refine(Sz c.heap.size _ [b,1] a.length _ g D_ D_ O_).mono ?_;rintro d M ⟨C,rfl,p,q⟩;have j:=Aa p;have k:=Aa (((xA c.heap.size c).alloc X_ _).trans (q.below g D_));have l:=k.o.size;clear p q g;have J:=Fj a.length O_;go_wp2_with fail;refine(Jg c.heap.size C _ ⟨f.toArray⟩ _ j.o l K_ (by rw[Ba];omega)).mono ?_;rintro d N ⟨D,rfl,r,s⟩;have m:=Aa r;have n:=Aa (k.o.trans (s.below j.o l));have o:=n.o.size;clear r s;go_wp2_with fail;have L:=El f O_;refine(CQ c.heap.size D _ _ m.o o K_).mono ?_;rintro d O ⟨R,rfl,t,u⟩;have i:=t.str;have A:=Aa (n.o.trans (u.below m.o o));clear t u;have B:Hid (Pg.sealed ([b,1]++Pg.num a.length++Pg.text f)=Pg.Ar [b] a):=by show _=_;rw[z.o];rfl
  rw[B.o]at i;go_wp2_with fail;go_ret;exact⟨rfl,y.o.trans (A.o.mono F)⟩
 ·have z:=Aa (SJ (k:=[b]) G);generalize S:Br a=f at*;have H:¬((f.length:Int)<(a.length:Int)):=O_;have I:=Ba f;go_wp2_with fail;have g:=Rm c c.heap.size X_ [b,0] #[.int .u8 (b.toNat:Int),.int .u8 0] (by simp[Lib.byteCells]) D_;refine(Sz c.heap.size _ [b,0] a.length _ g D_ D_ O_).mono ?_;rintro d M ⟨C,rfl,p,q⟩;have j:=Aa p;have k:=Aa (((xA c.heap.size c).alloc X_ _).trans (q.below g D_));have l:=k.o.size;clear p q g;have J:=Fj a.length O_;go_wp2_with fail;refine(Jg c.heap.size C _ ⟨a.toArray⟩ _ j.o l K_ (by rw[Ba];omega)).mono ?_;rintro d N ⟨D,rfl,r,s⟩;have m:=Aa r;have n:=Aa (k.o.trans (s.below j.o l));have o:=n.o.size;clear r s;go_wp2_with fail;have L:=El a O_;refine(CQ c.heap.size D _ _ m.o o K_).mono ?_;rintro d O ⟨R,rfl,t,u⟩;have i:=t.str;have A:=Aa (n.o.trans (u.below m.o o));clear t u;have B:Hid (Pg.sealed ([b,0]++Pg.num a.length++Pg.text a)=Pg.Ar [b] a):=by show _=_;rw[z.o];rfl
  rw[B.o]at i;go_wp2_with fail;go_ret;exact⟨rfl,y.o.trans (A.o.mono F)⟩
theorem Px(d:Nat)(c:UInt8)(v:Value)(a:hE)(w:World)(f:Bp d w v a)(i:a.length<=10000000000):
  Calls Tryz.prog 178 #[.int .u8 (c.toNat:Int),v] w fun g b=>g=R_ (B_ ⟨(Pg.Ar [c] a).toArray⟩)/\Below w.heap.size w b:=by
 refine Ro c v a w f.shape (fun b g=> ?_) i;have:Bp d b v a:=by unfold Bp World.ownsRow at*;rw[g];exact f
 exact this.str
theorem Wa(c:Nat)(v:Value)(a:hE)(w:World)(d:Bp c w v a)(q:c<=w.heap.size)(r:0<a.length)(A:a.length<=64):
  Calls Tryz.prog 184 #[v] w fun f g=>∃b,f=R_ b/\Bp c g b (Pg.sealed (a++List.replicate (64-a.length) 0))/\Ku w g v b:=by
 obtain⟨m,n,rfl⟩:=d.shape;have i:=Aa d;clear d;obtain⟨b,d⟩:∃b,b=64-a.length:=⟨_,rfl⟩;have s:(64:Int)-(a.length:Int)=(b:Int):=O_;have j:=Aa d;have t:b<=64:=O_;clear d;go_in
 go_wp2_with (first
  | (at_builtin;refine Afi w rfl (.tmp 3) (.tmp 6) rfl c (L_ m a.length n) a rfl i.o r b rfl O_ O_ q ?_))
 intro p z g d;have k:=Aa g;have l:=Aa d;have u:=d.size;clear g d;go_wp2_with fail;refine(CQ c p _ _ k.o O_ K_).mono ?_;rintro f y ⟨d,rfl,g,o⟩;go_wp2_with fail;go_ret;exact⟨d,rfl,by rw[<-j.o];exact g,l.o.trans o⟩
