import Derived.Test.YtolgpnaoaodepaaGreatWalkJm
set_option maxHeartbeats 2000000
set_option maxRecDepth 100000
namespace Go.Proofs.YtolgpnaoaodepaaGreat
open Go.RowKit Pg Sq
theorem Ae2(a:hJ)(w:World)(M:a.size<=35184372088832):
  Calls Tryz.prog 144 #[B_ a] w fun C D=>C=R_ (J_ (Pg.crc a.data.toList))/\D=w:=by
 go_in;go_wp2_with fail
 go_loop [3,4] (fun f l=>∃b:Nat,b<=a.size/\l=J_ b/\f=J_ (Kc (a.data.toList.take b))) (fun _ l=>a.size-(intOf l).toNat)
 case atStart=>exact⟨0,Y_,rfl,rfl⟩
 case round=>
  obtain⟨b,I,rfl,rfl⟩:=hrel;have j:=Xy (a.data.toList.take b);by_cases d:b<a.size
  ·have q:=Aa (NQ a b d);generalize F:Kc (a.data.toList.take b)=f at*;have H:(a[b]'d).toNat<256:=(a[b]'d).toNat_lt;have r:=Ri f (a[b]'d).toNat j O_;have s:=CC (a:=f) (b:=(a[b]'d).toNat) j O_;have t:Hid (Pq f (a[b]'d)=Iq 8 (f^^^(a[b]'d).toNat)):=rfl;clear F;generalize G:f^^^(a[b]'d).toNat=g at*;clear G;go_wp2_with fail;clear r
   go_loop [3,5] (fun e m=>∃c:Nat,c<=8/\m=J_ c/\e=J_ (Iq c g)) (fun _ m=>8-(intOf m).toNat)
   case atStart=>exact⟨0,Y_,rfl,rfl⟩
   case round=>
    obtain⟨c,J,rfl,rfl⟩:=hrel;have u:=Ps s c;have n:Hid (Iq (c+1) g=Ol (Iq c g)):=rfl;generalize p:Iq c g=i at*;by_cases L:c<8
    ·clear p;by_cases o:i % 2=1
     ·have k:=Aa (CH o);have y:=Aa (Aar i u);have z:((i:Int) % 2==1)=true:=K_;go_wp2_with fail
      go_round
      case rel=>exact⟨c+1,O_,W_,by rw[n.o,k.o,y.o]⟩
      case measure=>simp[intOf];omega
     ·have k:=Aa (Zn o);have z:((i:Int) % 2==1)=false:=K_;go_wp2_with fail
      go_round
      case rel=>exact⟨c+1,O_,W_,by rw[n.o,k.o];exact Je O_⟩
      case measure=>simp[intOf];omega
    ·have A:c=8:=O_;subst A;go_wp2_with fail
     go_round
     case rel=>exact⟨b+1,O_,W_,by rw[q.o,t.o,p]⟩
     case measure=>simp[intOf];omega
  ·have B:Hid (bits .xor .i64 (Kc (a.data.toList.take b):Int) 4294967295=(Pg.crc a.data.toList:Int)):=by
    show _=_;rw[Aas _ j,yY (by rw[Ah];omega)];rfl
   go_wp2_with fail;go_ret;exact⟨Fr B.o,rfl⟩
theorem Jp(a:Nat)(w:World)(f:a<=140737488355328):
  Calls Tryz.prog 90 #[J_ a] w fun b c=>b=R_ (B_ ⟨(List.replicate a 0).toArray⟩)/\Below w.heap.size w c:=by
 go_in
 go_wp2_with (first
  | (at_make;refine Adu w rfl (.tmp 3) (.tmp 3) rfl a rfl rfl f ?_))
 intro i b c _;have g:=b.str;have d:=Aa c;clear b c;generalize b:List.replicate a (0:UInt8)=j at*;have c:=Aa b;clear b;go_wp2_with fail;go_ret;exact⟨by rw[c.o];rfl,d.o⟩
theorem Gc(c b:Nat)(w:World)(J:c<=9223372036854775807)(C:b<=140737488355328):
  Calls Tryz.prog 89 #[J_ c,J_ b] w fun z A=>z=R_ (B_ ⟨(Pg.low c b).toArray⟩)/\Below w.heap.size w A:=by
 go_in
 go_wp2_with (first
  | (at_make;refine Adu w rfl (.tmp 7) (.tmp 7) rfl b rfl rfl C ?_))
 intro I n o _;have p:=Aa n;have q:=Aa o;clear n o;go_wp2_with fail
 go_loopw [0,6] (fun x k wr=>∃a:Nat,a<=b/\k=J_ a/\x=J_ (c / 256^a:Nat)/\Bp w.heap.size wr (L_ (P_ w.heap.size) b b) (Pg.low c a++List.replicate (b-a) 0)/\Below w.heap.size w wr) (fun _ k _=>b-(intOf k).toNat)
 case atStart=>exact⟨0,Y_,rfl,Je D_,by simpa[Pg.low]using p.o,q.o⟩
 case round=>
  obtain⟨a,G,rfl,rfl,d,j⟩:=hrel;have f:(Pg.low c a++List.replicate (b-a) 0).length=b:=by simp[Pg.Bo];omega
  by_cases B:a<b
  ·have D:c / 256^a<=c:=Nat.div_le_self _ _;have r:Hid (c / 256^(a+1)=c / 256^a / 256):=(by show _=_;rw[gS,vV]);have g:=Bp.stored (by rw[f];exact d) a (UInt8.ofNat (c / 256^a % 256)) (c:=b);rw[Adv c a b B,f]at g;have l:(wr.cell? (Q_ w.heap.size a)).isSome=true:=by
    rw[d.cellAt a _ (xW O_)];rfl
   have F:wr.frozen? (Q_ w.heap.size a)=false:=World.ownsRow.frozenAt (by have:=d;unfold Bp at this;rw[f]at this;exact this) a;have i:=j.setCell (p:=(Q_ w.heap.size a)) X_ (.int .u8 ((UInt8.ofNat (c / 256^a % 256)).toNat:Int));have m:((UInt8.ofNat (c / 256^a % 256)).toNat:Int)=((c / 256^a:Nat):Int) % 256:=D_;rw[m]at g i;have s:=Aa g;have t:=Aa i;obtain⟨H,u⟩:=Option.isSome_iff_exists.1 l;clear d j g i m l f;generalize c / 256^a=x at*;go_wp2_with fail
   go_roundw
   case rel=>exact⟨a+1,O_,W_,by rw[r.o];exact Je O_,s.o,t.o⟩
   case measure=>simp[intOf];omega
  ·have u:(convert 108 9 (L_ (P_ w.heap.size) b b)).run Tryz.prog wr=.ok (B_ ⟨(Pg.low c b).toArray⟩) wr:=by
    have y:a=b:=O_;subst y;have:=d.str;simpa using this
   clear d f;go_wp2_with fail;go_ret;exact⟨rfl,j⟩
theorem Jh(a:hJ)(w:World)(f:a.size<=35184372088832):
  Calls Tryz.prog 88 #[B_ a] w fun b c=>b=R_ (B_ ⟨(Pg.sealed a.data.toList).toArray⟩)/\Below w.heap.size w c:=by
 go_in;go_wp2_with fail;refine(Ae2 a _ f).mono ?_;rintro b j ⟨rfl,rfl⟩;have g:=Aap a.data.toList;go_wp2_with fail;refine(Gc (Pg.crc a.data.toList) 4 _ O_ O_).mono ?_;rintro b k ⟨rfl,c⟩;have d:=Aa c;clear c;have i:=Pg.Bo 4 (Pg.crc a.data.toList);have c:Hid (Pg.sealed a.data.toList=a.data.toList++Pg.low (Pg.crc a.data.toList) 4):=rfl;generalize Pg.low (Pg.crc a.data.toList) 4=l at*;go_wp2_with fail;go_ret;exact⟨Ib (by rw[c.o];simp),d.o⟩
theorem Pz(a:Nat):∀(w:World),a<=9223372036854775807->
  Calls Tryz.prog 84 #[J_ a] w fun c b=>c=R_ (B_ ⟨(Pg.num a).toArray⟩)/\Below w.heap.size w b:=by
 induction a using Nat.strongRecOn with
 | _ a ih=>
  intro w n;have i:=Aa ih;clear ih;by_cases g:a<128
  ·have d:=Aa (Pg.Lc a g);go_in;go_wp2_with fail;refine(Gc a 1 _ n O_).mono ?_;rintro c m ⟨rfl,b⟩;go_wp2_with fail;go_ret;exact⟨by rw[d.o];rfl,b⟩
  ·have d:=Aa (Pg.Vr a g);go_in;go_wp2_with fail;rw[show((128:Int)+(a:Int) % 128)=((128+a % 128:Nat):Int)by omega];refine(Gc (128+a % 128) 1 _ O_ O_).mono ?_;rintro c m ⟨rfl,b⟩;have j:=Aa b;have k:=b.size;clear b;have o:=Pg.Bo 1 (128+a % 128);generalize Pg.low (128+a % 128) 1=q at*;go_wp2_with fail;rw[show((a:Int) / 128)=((a / 128:Nat):Int)by omega];refine(i.o (a / 128) O_ _ O_).mono ?_;rintro c p ⟨rfl,f⟩;have l:=Aa (j.o.trans (f.mono k));clear f;have f:(Pg.num (a / 128)).length<=100:=by
    have:=Vs 9 (a / 128) (by show a / 128<128^10;omega);omega
   generalize Pg.num (a / 128)=r at*;go_wp2_with fail;go_ret;exact⟨Ib (by rw[d.o];simp),l.o⟩
theorem Kj(a:hJ)(w:World)(j:a.size<=35184372088832):
  Calls Tryz.prog 85 #[B_ a] w fun b c=>b=R_ (B_ ⟨(Pg.text a.data.toList).toArray⟩)/\Below w.heap.size w c:=by
 have d:Hid (Pg.text a.data.toList=Pg.num a.size++a.data.toList):=by show _=_;unfold Pg.text;rw[Ah]
 go_in;go_wp2_with fail;refine(Pz a.size _ O_).mono ?_;rintro b g ⟨rfl,c⟩;have f:=Aa c;clear c;have c:=Fj a.size O_;generalize Pg.num a.size=i at*;go_wp2_with fail;go_ret;exact⟨Ib (by rw[d.o];simp),f.o⟩
theorem Lt(c a:hJ)(w:World)(R:c.size<=1000)(S:a.size<=4398046511104):
  Calls Tryz.prog 86 #[B_ c,B_ a] w fun b d=>b=R_ (B_ ⟨(Pg.Ar c.data.toList a.data.toList).toArray⟩)/\Below w.heap.size w d:=by
 go_in;go_wp2_with fail;refine(Rq a _ O_).mono ?_;rintro b O ⟨rfl,d⟩;have u:=Aa d;have y:=d.size;clear d;have A:=BZ a.data.toList;rw[Ah]at A;by_cases z:(Br a.data.toList).length<a.size
 ·have o:Hid (Pg.Ar c.data.toList a.data.toList=Pg.sealed (c.data.toList++Pg.low 1 1++Pg.num a.size++Pg.text (Br a.data.toList))):=by
   show _=_;unfold Pg.Ar;rw[Ah,xD z]
  generalize Br a.data.toList=d at*;go_wp2_with fail;refine(Gc 1 1 _ O_ O_).mono ?_;rintro b F ⟨rfl,j⟩;have f:=Aa (u.o.trans (j.mono y));have p:=f.o.size;clear j;have B:=Pg.Bo 1 1;generalize Pg.low 1 1=J at*;go_wp2_with fail;refine(Pz a.size _ O_).mono ?_;rintro b G ⟨rfl,k⟩;have g:=Aa (f.o.trans (k.mono p));have q:=g.o.size;clear k;have C:=Fj a.size O_;generalize Pg.num a.size=L at*;go_wp2_with fail;refine(Kj ⟨d.toArray⟩ _ (by show d.toArray.size<=_;simp;omega)).mono ?_;rintro b H ⟨rfl,l⟩;have i:=Aa (g.o.trans (l.mono q));have r:=i.o.size;clear l;have D:(Pg.text (⟨d.toArray⟩:hJ).data.toList).length<=5000000000000:=by unfold Pg.text;simp;have:=Fj d.length O_;omega
  generalize Pg.text (⟨d.toArray⟩:hJ).data.toList=M at*;go_wp2_with fail;refine(Jh _ _ (by simp only[zO,Ba];omega)).mono ?_;rintro b I ⟨rfl,m⟩;have s:=Aa (i.o.trans (m.mono r));clear m;generalize n:Pg.sealed _=N;have t:=Aa n;clear n;go_wp2_with fail;go_ret;exact⟨Ib (by rw[o.o,<-t.o];simp),s.o⟩
 ·have o:Hid (Pg.Ar c.data.toList a.data.toList=Pg.sealed (c.data.toList++Pg.low 0 1++Pg.num a.size++Pg.text a.data.toList)):=by
   show _=_;unfold Pg.Ar;rw[Ah,xB z]
  generalize Br a.data.toList=d at*;go_wp2_with fail;refine(Gc 0 1 _ O_ O_).mono ?_;rintro b F ⟨rfl,j⟩;have f:=Aa (u.o.trans (j.mono y));have p:=f.o.size;clear j;have B:=Pg.Bo 1 0;generalize Pg.low 0 1=J at*;go_wp2_with fail;refine(Pz a.size _ O_).mono ?_;rintro b G ⟨rfl,k⟩;have g:=Aa (f.o.trans (k.mono p));have q:=g.o.size;clear k;have C:=Fj a.size O_;generalize Pg.num a.size=L at*;go_wp2_with fail;refine(Kj a _ O_).mono ?_;rintro b H ⟨rfl,l⟩;have i:=Aa (g.o.trans (l.mono q));have r:=i.o.size;clear l;have D:(Pg.text a.data.toList).length<=5000000000000:=by unfold Pg.text;rw[Ah,xC,Ah];have:=Fj a.size O_;omega
  generalize Pg.text a.data.toList=M at*;go_wp2_with fail;refine(Jh _ _ (by simp only[zO,Ba];omega)).mono ?_;rintro b I ⟨rfl,m⟩;have s:=Aa (i.o.trans (m.mono r));clear m;generalize n:Pg.sealed _=N;have t:=Aa n;clear n;go_wp2_with fail;go_ret;exact⟨Ib (by rw[o.o,<-t.o];simp),s.o⟩
theorem GZ(b c:hJ)(w:World)(z:b.size<=35184372088832):
  Calls Tryz.prog 145 #[B_ b,B_ c] w fun q r=>q=R_ (J_ (Pg.Du b.data.toList c.data.toList))/\∃g,r=w.drewN g:=by
 go_in
 go_wp2
 go_loopw [5] (fun l wr=>∃a:Nat,a<=b.size/\a<=c.size/\l=J_ a/\(∀d,d<a->∃x,b.data.toList[d]?=some x/\c.data.toList[d]?=some x)/\∃g,wr=w.drewN g) (fun l _=>b.size-(intOf l).toNat)
 case atStart=>exact⟨0,Y_,Y_,rfl,fun d h=>O_,0,rfl⟩
 case round=>
  obtain⟨a,u,y,rfl,k,g,rfl⟩:=hrel;have f:=Aa k;clear k;by_cases m:a<b.size
  ·by_cases n:a<c.size
   ·have o:(a:Int)<(b.size:Int):=O_;have t:(a:Int)<(c.size:Int):=O_
    go_wp2
    go_quiet (fail)
    go_wp2
    ·have i:=NR b c a m n V_
     go_roundw
     case rel=>
      refine⟨a+1,O_,O_,W_,fun d k=> ?_,_,rfl⟩;by_cases s:d=a
      ·rw[s];exact i
      ·exact f.o d O_
     case measure=>simp[intOf];omega
    ·have i:=NS b c a m n V_;go_ret;exact⟨Fr (by rw[Jm a _ _ f.o (.inr (.inr i))]),_,vC _ _ _⟩
   ·have o:(a:Int)<(b.size:Int):=O_;have p:decide ((a:Int)<(c.size:Int))=false:=K_;have j:=Aa (Jm a b.data.toList c.data.toList f.o (.inr (.inl (by rw[Ah];omega))))
    go_wp2
    go_quiet (fail)
    go_wp2
    go_ret;exact⟨Fr (by rw[j.o]),_,vC _ _ _⟩
  ·have p:decide ((a:Int)<(b.size:Int))=false:=K_;have j:=Aa (Jm a b.data.toList c.data.toList f.o (.inl (by rw[Ah];omega)))
   go_wp2
   go_quiet (fail)
   go_wp2
   go_ret;exact⟨Fr (by rw[j.o]),_,vC _ _ _⟩
theorem XW(a:hJ)(b:Nat)(w:World)(f:a.size<=35184372088832):
  Calls Tryz.prog 85 #[B_ (a.extract b a.size)] w fun c d=>c=R_ (B_ ⟨(Pg.text (a.data.toList.drop b)).toArray⟩)/\Below w.heap.size w d:=by
 have:=Kj (a.extract b a.size) w (by rw[zM];omega);rw[Jl]at this;exact this
theorem Wf(j m b4:Nat)(a:gY)(w:World)(d0:a.length<=1000)(J:Gr w j m a)(y:j<w.heap.size)(L:∀x∈a,x.1.size<=10000000/\x.2.size<=10000000):
  Calls Tryz.prog 91 #[.slice (some ⟨j,m,none⟩) a.length b4] w fun k t=>k=.returned (.string ⟨(Pg.Bl (Ab a)).toArray⟩)/\Below w.heap.size w t:=by
 have M:=Aa J;have N:=Aa L;clear J L;go_in;go_wp2_with fail;refine(Gc a.length 1 _ O_ O_).mono ?_;rintro k c7 ⟨rfl,H⟩;have O:=Aa H;have b5:=Pg.Bo 1 a.length;have R:Hid (Pg.low a.length 1++Pg.items [] (Ab a)=Pg.Bl (Ab a)):=by show _=_;unfold Pg.Bl Ab;rw[xP]
 clear H;generalize Pg.low a.length 1=b3 at*;go_wp2_with fail
 go_loopw [3,4,5] (fun b1 b2 u wr=>∃(b:Nat) (f g:hJ),b<=a.length/\u=.int .i64 b/\b1=.string f/\b2=.string g/\g.size<=10000000/\f.size<=1+b*20000100/\f.data.toList++Pg.items g.data.toList (Ab (a.drop b))=Pg.Bl (Ab a)/\Below w.heap.size w wr) (fun _ _ u _=>a.length-(intOf u).toNat)
 case atStart=>exact⟨0,⟨b3.toArray⟩,⟨#[]⟩,Y_,rfl,rfl,rfl,Do,by rw[Ba];omega,by simpa using R.o,O.o⟩
 case round=>
  obtain⟨b,f,g,c4,rfl,rfl,rfl,c5,c6,F,p⟩:=hrel;have z:=Aa F;have n:=Aa p;have S:=p.size;clear F p;by_cases l:b<a.length
  ·obtain⟨a8,G⟩:=M.o.below n.o y b l;have o:=N.o _ (yA l);have T:Hid (Ab (a.drop b)=((a[b]'l).1.data.toList,(a[b]'l).2.data.toList)::Ab (a.drop (b+1))):=by
    show _=_;rw[yM l];rfl
   generalize a[b]'l=x at*;obtain⟨d,i⟩:=x;simp only at a8 G o;go_wp2_with fail;refine(GZ g d _ O_).mono ?_;rintro k c8 ⟨rfl,I,rfl⟩;have U:=Pg.Ox g.data.toList d.data.toList;rw[Ah,Ah]at U;have V:Hid (Pg.items g.data.toList (Ab (a.drop b))=Pg.low (Pg.Du g.data.toList d.data.toList) 1++Pg.text (d.data.toList.drop (Pg.Du g.data.toList d.data.toList))++Pg.text i.data.toList++Pg.items d.data.toList (Ab (a.drop (b+1)))):=(by show _=_;rw[T.o];rfl);generalize Pg.Du g.data.toList d.data.toList=c at*;have b6:(0:Int)<=(c:Int):=O_;have b7:(c:Int)<=(d.size:Int):=O_;go_wp2_with fail;have W:j<wr.heap.size:=O_;have X:=Pg.Bo 1 c;have Y:=El (d.data.toList.drop c) (by rw[xY,Ah];omega);rw[xY,Ah]at Y;have Z:=El i.data.toList (by rw[Ah];omega);rw[Ah]at Z;have a0:=o.1;have b8:=o.2;have a1:(⟨(Pg.low c 1).toArray⟩:hJ).size=1:=(Ba _).trans X;have a2:=Ba (Pg.text (d.data.toList.drop c));have a3:=Ba (Pg.text i.data.toList);have b9:∀w,(Op.stringOp .add f ⟨(Pg.low c 1).toArray⟩).run Tryz.prog w=.ok (.string (f++⟨(Pg.low c 1).toArray⟩)) w:=fun w=>kA w _ _ O_
   have c0:∀w,(Op.stringOp .add (f++⟨(Pg.low c 1).toArray⟩) ⟨(Pg.text (d.data.toList.drop c)).toArray⟩).run Tryz.prog w=.ok (.string (f++⟨(Pg.low c 1).toArray⟩++⟨(Pg.text (d.data.toList.drop c)).toArray⟩)) w:=fun w=>kA w _ _ (by rw[zO];omega)
   have c1:∀w,(Op.stringOp .add (f++⟨(Pg.low c 1).toArray⟩++⟨(Pg.text (d.data.toList.drop c)).toArray⟩) ⟨(Pg.text i.data.toList).toArray⟩).run Tryz.prog w=.ok (.string (f++⟨(Pg.low c 1).toArray⟩++⟨(Pg.text (d.data.toList.drop c)).toArray⟩++⟨(Pg.text i.data.toList).toArray⟩)) w:=fun w=>kA w _ _ (by rw[zO,zO];omega)
   clear a1 a2 a3;have c2:(wr.drewN (I+1)).heap.size=wr.heap.size:=rfl
   go_region_held3 (fun t=>t.cell? ⟨j,m+b*2+1,none⟩=some (.string i)) (go_keep)
    (first
     | (go_at_call 89;refine(Gc c 1 _ O_ O_).mono ?_;rintro k a9 ⟨rfl,q⟩;have a4:=(q.cell (p:=⟨j,m+b*2+1,none⟩) (by exact W)).trans G;have A:=Aa ((Ao n.o (I+1)).trans (q.mono S));have B:w.heap.size<=a9.heap.size:=A.o.size;clear q)
     | (go_at_call_of 85 (Value.string i);refine(Kj i _ O_).mono ?_;rintro k c9 ⟨rfl,r⟩;have c3:=(r.cell (p:=⟨j,m+b*2+1,none⟩) (yF y D)).trans a6;have a5:=Aa (C.o.trans (r.mono D));clear r)
     | (go_at_call 85;refine(XW d c _ O_).mono ?_;rintro k b0 ⟨rfl,s⟩;have a6:=(s.cell (p:=⟨j,m+b*2+1,none⟩) (yF y B)).trans a4;have C:=Aa (A.o.trans (s.mono B));have D:w.heap.size<=b0.heap.size:=C.o.size;clear s))
   all_goals go_wp2_with fail
   go_roundw
   case rel=>
    refine⟨b+1,_,d,O_,W_,rfl,rfl,a0,?_,?_,a5.o⟩
    ·simp only[zO,Ba];omega
    ·rw[<-z.o,V.o];simp
   case measure=>simp[intOf];omega
  ·have a7:Hid (f.data.toList=Pg.Bl (Ab a)):=by
    show _=_;rw[<-z.o,zG O_];simp[Ab,Pg.items]
   go_wp2_with fail;go_ret;exact⟨Ib (by rw[a7.o]),n.o⟩
theorem SP(b c d f:Nat)(a:gY)(w:World)(j:a.length=f)(k:a.length<=1000)(l:Gr w b c a)(m:b<w.heap.size)(n:∀x∈a,x.1.size<=10000000/\x.2.size<=10000000):
  Calls Tryz.prog 91 #[L_ (some (Q_ b c)) f d] w fun g i=>g=R_ (B_ ⟨(Pg.Bl (Ab a)).toArray⟩)/\Below w.heap.size w i:=by
 subst j;exact Wf b c d a w k l m n
theorem KY(a:hE)(w:World)(d:a.length<=4398046511104):
  Calls Tryz.prog 86 #[B_ ⟨#[98]⟩,B_ ⟨a.toArray⟩] w fun b c=>b=R_ (B_ ⟨(Pg.Ar [98] a).toArray⟩)/\Below w.heap.size w c:=by
 have:=Lt ⟨#[98]⟩ ⟨a.toArray⟩ w Do (by rw[Ba];exact d);simpa using this
theorem Wg(p:Int)(v D F G:Value)(a:gY)(w:World)(f6:p≠2)(f7:Fa w v a)(h6:a.length<=16)(d0:∀x∈a,x.1.size<=12/\x.2.size<=16):
  Calls Tryz.prog 48 #[.agg #[J_ p,v,D,F,G]] w fun f e9=>f=R_ (B_ ⟨(Pg.Lx (Ab a)).toArray⟩)/\Below w.heap.size w e9:=by
 have a3:=Aa d0;clear d0;have f8:(p==2)=false:=by simpa using f6
 rcases f7 with⟨e6,e7,rfl,rfl⟩|⟨g,l,A,rfl,h2,h3,e8,c7⟩
 ·go_enter Tryz.func48,fJ;go_wp2_with fail
  go_loop [3,9,10,11] (fun a2 g f0 f1=>a2=B_ ⟨#[]⟩/\g=B_ ⟨#[]⟩/\f0=J_ 0/\f1=J_ 0) (fun _ _ _ _=>0)
  case atStart=>exact⟨rfl,rfl,rfl,rfl⟩
  case round=>
   obtain⟨rfl,rfl,rfl,rfl⟩:=hrel;have H:=Aa ((xA w.heap.size w).alloc X_ (C_ #[J_ p,L_ e6 0 e7,D,F,G] 79));go_wp2_with fail;refine(Gc 0 1 _ O_ O_).mono ?_;rintro f c3 ⟨rfl,j⟩;have i:=Aa (H.o.trans (j.mono D_));have q:=i.o.size;clear j;have N:Hid (Pg.Lx (Ab [])=Pg.sealed ([83,50,76]++Pg.low 0 1++List.replicate 60 0)):=(by show _=_;unfold Pg.Lx;simp[Ab,Pg.many,Pg.entries,Pg.Kx]);have a4:=Pg.Bo 1 0;generalize Pg.low 0 1=r at*;go_wp2_with fail;refine(Jp 60 _ O_).mono ?_;rintro f c4 ⟨rfl,k⟩;have n:=Aa (i.o.trans (k.mono q));have O:=n.o.size;clear k;have a5:(List.replicate 60 (0:UInt8)).length=60:=kD;generalize List.replicate 60 (0:UInt8)=s at*;go_wp2_with fail;refine(Jh _ _ (by simp only[zO,Ba,xH,yU];omega)).mono ?_;rintro f e5 ⟨rfl,z⟩;have R:=Aa (n.o.trans (z.mono O));clear z;have t:=Pg.Jb ((⟨#[83,50,76]⟩:hJ)++⟨r.toArray⟩++⟨#[]⟩++⟨s.toArray⟩).data.toList;rw[Ah]at t;simp only[zO,Ba,xH,yU]at t;generalize B:Pg.sealed ((⟨#[83,50,76]⟩:hJ)++⟨r.toArray⟩++⟨#[]⟩++⟨s.toArray⟩).data.toList=C at*;have S:=Aa B;clear B;go_wp2_with fail;go_ret;refine⟨Ib ?_,R.o⟩;rw[N.o];show(_:hJ).data.toList=_;simp only[qN,vD];rw[<-S.o];simp
 ·have d1:=Aa c7;clear c7;go_enter Tryz.func48,fJ;go_wp2_with fail
  go_loopw [3,9,10,11] (fun f2 f3 f4 f5 wr=>∃(b:Nat) (y d:hJ),b<=4/\4*b<a.length+4/\f5=J_ (4*b:Nat)/\f4=J_ b/\f2=B_ y/\f3=B_ d/\d.size=15*b/\y.size<=1000*b/\b<=Pg.many a.length/\d.data.toList++Pg.entries (Pg.many a.length-b) (Ab (a.drop (4*b)))=Pg.entries (Pg.many a.length) (Ab a)/\y.data.toList++Pg.Kx (Pg.many a.length-b) (Ab (a.drop (4*b)))=Pg.Kx (Pg.many a.length) (Ab a)/\Below (w.heap.size+1) (w.alloc (C_ #[J_ p,L_ (some (Q_ g l)) a.length A,D,F,G] 79)) wr) (fun _ _ _ a2 _=>20-(intOf a2).toNat)
  case atStart=>exact⟨0,⟨#[]⟩,⟨#[]⟩,O_,O_,rfl,rfl,rfl,rfl,rfl,Do,O_,D_,D_,xA _ _⟩
  case round=>
   obtain⟨b,y,d,g4,g5,rfl,rfl,rfl,rfl,e4,g6,g7,c1,c2,L⟩:=hrel;have a6:=Aa c1;have a7:=Aa c2;have T:=Aa L;have a8:wr.cell? (Q_ w.heap.size 1)=some (L_ (some (Q_ g l)) a.length A):=(by rw[L.cell (p:=(Q_ w.heap.size 1)) D_];simp);have a9:=L.size;simp only[aL]at a9;clear c1 c2 L;by_cases m:4*b<a.length
   ·have U:Hid (Gr wr g l a):=by
     have u:Gr (w.alloc (C_ #[J_ p,L_ (some (Q_ g l)) a.length A,D,F,G] 79)) g l a:=d1.o.below ((xA w.heap.size w).alloc X_ _) e8;exact u.below T.o O_
    have V:Pg.many a.length-b=(Pg.many a.length-(b+1))+1/\b+1<=Pg.many a.length:=(by unfold Pg.many at*;omega);have W:Ab (a.drop (4*b))≠[]:=(by intro e;have:(Ab (a.drop (4*b))).length=0:=(by rw[e];rfl);simp[Ab]at this;omega);have d2:=Aa (Vv (Pg.many a.length-(b+1)) _ W);have b0:=Aa (CK (Pg.many a.length-(b+1)) _ W);have b1:Hid ((Ab (a.drop (4*b))).drop 4=Ab (a.drop (4*(b+1)))):=(by show _=_;rw[<-CI,jG];rfl);obtain⟨c,M,o⟩:∃c M,a[4*b]?=some (c,M):=⟨(a[4*b]'m).1,(a[4*b]'m).2,xW m⟩;have I:(a[4*b]'m)=(c,M):=(by rw[xW m]at o;simpa using o);have X:=(U.o (4*b) m).1;rw[I]at X;have f9:c.size<=12:=(by have:=(a3.o _ (yA m)).1;rw[I]at this;exact this);have b2:Hid (IG (Ab (a.drop (4*b)))=Pg.low (Pg.base (Ab (a.drop (4*b)))).length 2++Pg.low c.size 1++c.data.toList++List.replicate (12-c.size) 0):=(by show _=_;have:Ab (a.drop (4*b))=(c.data.toList,M.data.toList)::Ab (a.drop (4*b+1)):=(by rw[yM m,I];rfl);rw[this];simp only[IG,Ah]);have d3:Hid (Pg.base (Ab (a.drop (4*b)))=Pg.Ar [98] (Pg.Bl (Ab ((a.drop (4*b)).take 4)))):=(by show _=_;unfold Pg.base;rw[CJ]);have Y:∀x∈(a.drop (4*b)).take 4,x.1.size<=12/\x.2.size<=16:=fun x o=>a3.o x (bJ (vU o))
    have g0:=Pg.Ir _ (NT Y);have g1:(Ab ((a.drop (4*b)).take 4)).length<=4:=(by simp[Ab];omega);have d4:=Pg.Ek [98] (Pg.Bl (Ab ((a.drop (4*b)).take 4))) O_;simp only[xH,yU]at d4;have d5:=Aa Y;have d6:=Aa (U.o.part (4*b) 4);clear Y o I W U;have d7:=V.2;have b3:=Aa V.1;clear V;have b4:g<wr.heap.size:=O_;have b5:((a.drop (4*b)).take 4).length=min 4 (a.length-4*b):=D_;have b6:=Aa b5;clear b5;generalize(a.drop (4*b)).take 4=c8 at*;by_cases h4:4*b+4<=a.length
    all_goals
     go_wp2_with fail;refine(SP g (l+4*b*2) (A-4*b) _ c8 _ (by rw[b6.o];omega) (by rw[b6.o];omega) d6.o b4 (fun x o=>by have:=d5.o x o;omega)).mono ?_;rintro f g8 ⟨rfl,a1⟩;have d8:=a1.size;have d9:=Aa a1;clear a1;generalize Pg.Bl (Ab c8)=c9 at*;go_wp2_with fail;refine(KY c9 _ O_).mono ?_;rintro f g9 ⟨rfl,c5⟩;have J:=d9.o.trans (c5.mono d8);have e0:=(J.cell (p:=(Q_ w.heap.size 1)) K_).trans a8;have e1:=(J.cell (p:=(Q_ g (l+4*b*2))) b4).trans X;have b7:=Aa (T.o.trans (J.mono a9));have b8:=b7.o.size;simp only[aL]at b8;clear c5 J a8 X;rw[d3.o]at b2 b0;generalize Pg.Ar [98] c9=C at*;go_wp2_with fail;refine(Gc C.length 2 _ O_ O_).mono ?_;rintro f c3 ⟨rfl,j⟩;have i:=Aa (b7.o.trans (j.mono b8));have q:=i.o.size;simp only[aL]at q;clear j e0 e1;have a4:=Pg.Bo 2 C.length;generalize Pg.low C.length 2=h5 at*;go_wp2_with fail;refine(Gc c.size 1 _ O_ O_).mono ?_;rintro f h1 ⟨rfl,c6⟩;have b9:=Aa (i.o.trans (c6.mono q));have c0:=b9.o.size;simp only[aL]at c0;clear c6;have g2:=Pg.Bo 1 c.size;generalize Pg.low c.size 1=r at*;go_wp2_with fail;rw[show((12:Int)-(c.size:Int))=((12-c.size:Nat):Int)by omega];refine(Jp (12-c.size) _ O_).mono ?_;rintro f c4 ⟨rfl,k⟩;have n:=Aa (b9.o.trans (k.mono c0));clear k;have a5:(List.replicate (12-c.size) (0:UInt8)).length=12-c.size:=kD;generalize List.replicate (12-c.size) (0:UInt8)=s at*;go_wp2_with fail
     go_roundw
     case rel=>
      refine⟨b+1,_,_,O_,O_,Je O_,W_,rfl,rfl,?_,?_,d7,?_,?_,n.o⟩
      ·simp only[zO,Ba];omega
      ·simp only[zO,Ba];omega
      ·rw[<-a6.o,b3.o,d2.o,b2.o,b1.o];simp
      ·rw[<-a7.o,b3.o,b0.o,b1.o];simp
     case measure=>simp[intOf];omega
   ·have Z:b=Pg.many a.length:=(by unfold Pg.many at*;omega);have N:Hid (Pg.Lx (Ab a)=Pg.sealed ([83,50,76]++Pg.low b 1++d.data.toList++List.replicate (60-d.size) 0)++y.data.toList):=by
     have u:=a6.o;have a0:=a7.o;rw[Z,bU]at u a0;simp only[Pg.entries,Pg.Kx,yC]at u a0;have e2:(Ab a).length=a.length:=(by simp[Ab]);show _=_;unfold Pg.Lx;rw[e2,<-u,<-a0,Ah,Z]
    have H:=Aa (((xA w.heap.size w).alloc X_ (C_ #[J_ p,L_ (some (Q_ g l)) a.length A,D,F,G] 79)).trans (T.o.mono O_));have e3:=H.o.size;have g3:d.size<=60:=O_;clear Z e4;go_wp2_with fail;refine(Gc b 1 _ O_ O_).mono ?_;rintro f c3 ⟨rfl,j⟩;have i:=Aa (H.o.trans (j.mono e3));have q:=i.o.size;clear j;have a4:=Pg.Bo 1 b;generalize Pg.low b 1=r at*;go_wp2_with fail;rw[show((60:Int)-(d.size:Int):Int)=((60-d.size:Nat):Int)by omega];refine(Jp (60-d.size) _ O_).mono ?_;rintro f c4 ⟨rfl,k⟩;have n:=Aa (i.o.trans (k.mono q));have O:=n.o.size;clear k;have a5:(List.replicate (60-d.size) (0:UInt8)).length=60-d.size:=kD;generalize List.replicate (60-d.size) (0:UInt8)=s at*;go_wp2_with fail;refine(Jh _ _ (by simp only[zO,Ba,xH,yU];omega)).mono ?_;rintro f e5 ⟨rfl,z⟩;have R:=Aa (n.o.trans (z.mono O));clear z;have t:=Pg.Jb ((⟨#[83,50,76]⟩:hJ)++⟨r.toArray⟩++d++⟨s.toArray⟩).data.toList;rw[Ah]at t;simp only[zO,Ba,xH,yU]at t;generalize B:Pg.sealed ((⟨#[83,50,76]⟩:hJ)++⟨r.toArray⟩++d++⟨s.toArray⟩).data.toList=C at*;have S:=Aa B;clear B;go_wp2_with fail;go_ret;refine⟨Ib ?_,R.o⟩;rw[N.o,<-S.o];simp
theorem OC(v O R S:Value)(a:gY)(w:World)(z:Fa w v a)(d7:a.length<=16)(T:∀x∈a,x.1.size<=12/\x.2.size<=16):
  Calls Tryz.prog 49 #[.agg #[.int .i64 1,v,O,R,S]] w fun m p=>m=.returned (.string ⟨(BI (Ab a)).toArray⟩)/\Below w.heap.size w p:=by
 have U:=Aa T;have V:=Aa z;clear T;obtain⟨l,k,rfl⟩:∃b6 r,v=.slice b6 a.length r:=by
  rcases z with⟨l,k,rfl,rfl⟩|⟨c,g,r,rfl,_⟩
  ·exact⟨l,k,rfl⟩
  ·exact⟨_,_,rfl⟩
 clear z;go_in;go_wp2_with fail;refine(Gc a.length 1 _ O_ O_).mono ?_;rintro m c9 ⟨rfl,J⟩;have W:=Aa J;clear J;have b7:=Pg.Bo 1 a.length;have X:Hid (BI (Ab a)=Pg.sealed ([83,49,76]++Pg.low a.length 1++Kd (Ab a))):=by show _=_;unfold BI;rw[show(Ab a).length=a.length by simp[Ab]]
 generalize Pg.low a.length 1=N at*;go_wp2_with fail
 go_loopw [3,4] (fun b5 y wr=>∃(b:Nat) (d:hJ),b<=a.length/\y=.int .i64 b/\b5=.string d/\d.size<=4+b*100/\d.data.toList++Kd (Ab (a.drop b))=[83,49,76]++N++Kd (Ab a)/\Below (w.heap.size+1) (w.alloc (.cells #[.int .i64 1,.slice l a.length k,O,R,S] 79)) wr) (fun _ y _=>a.length-(intOf y).toNat)
 case atStart=>exact⟨0,_,Y_,rfl,rfl,by simp only[zO,Ba,xH,yU];omega,D_,by simpa using W.o⟩
 case round=>
  obtain⟨b,d,c7,rfl,rfl,c8,G,q⟩:=hrel;have A:=Aa G;have s:=Aa q;have Y:wr.cell? ⟨w.heap.size,1,none⟩=some (.slice l a.length k):=by rw[q.cell (p:=⟨w.heap.size,1,none⟩) D_];simp
  have B:=q.size;simp only[aL]at B;clear G q;by_cases j:b<a.length
  ·rcases V.o with⟨d3,d4,u,b3⟩|⟨c,g,r,u,d5,d6,b4,M⟩
   ·subst b3;simp at j
   ·obtain⟨rfl,rfl⟩:l=some ⟨c,g,none⟩/\k=r:=(by simpa using u);clear u;have C:Gr wr c g a:=(M.below ((xA w.heap.size w).alloc X_ _) b4).below s.o O_;obtain⟨H,I⟩:=C b j;have t:=U.o _ (yA j);have Z:Hid (Ab (a.drop b)=((a[b]'j).1.data.toList,(a[b]'j).2.data.toList)::Ab (a.drop (b+1))):=by
     show _=_;rw[yM j];rfl
    clear M C;generalize a[b]'j=x at*;obtain⟨f,i⟩:=x;simp only at H I t;have a0:Hid (Kd (Ab (a.drop b))=Pg.text f.data.toList++Pg.text i.data.toList++Kd (Ab (a.drop (b+1)))):=(by show _=_;rw[Z.o];rfl);have b8:=t.1;have b9:=t.2;have a1:=El f.data.toList (by rw[Ah];omega);have a2:=El i.data.toList (by rw[Ah];omega);rw[Ah]at a1 a2;have a3:=Ba (Pg.text f.data.toList);have a4:=Ba (Pg.text i.data.toList);have c0:∀w,(Op.stringOp .add d ⟨(Pg.text f.data.toList).toArray⟩).run Tryz.prog w=.ok (.string (d++⟨(Pg.text f.data.toList).toArray⟩)) w:=fun w=>kA w _ _ O_
    have c1:∀w,(Op.stringOp .add (d++⟨(Pg.text f.data.toList).toArray⟩) ⟨(Pg.text i.data.toList).toArray⟩).run Tryz.prog w=.ok (.string (d++⟨(Pg.text f.data.toList).toArray⟩++⟨(Pg.text i.data.toList).toArray⟩)) w:=fun w=>kA w _ _ (by rw[zO];omega)
    clear a3 a4;have D:c<wr.heap.size:=O_;have a5:w.heap.size<wr.heap.size:=O_;have c2:(0:Int)<=(b:Int):=O_;have c3:(b:Int)<(a.length:Int):=O_;go_wp2_with fail
    go_region_held3 (fun p=>p.cell? ⟨w.heap.size,1,none⟩=some (.slice (some ⟨c,g,none⟩) a.length k)/\p.cell? ⟨c,g+b*2,none⟩=some (.string f)/\p.cell? ⟨c,g+b*2+1,none⟩=some (.string i)) (go_keep)
     (first
      | (go_at_call_of 85 (Value.string f);go_must (refine(Kj f _ O_).mono ?_;rintro m d0 ⟨rfl,n⟩;have a6:=(n.cell (p:=⟨w.heap.size,1,none⟩) (by exact a5)).trans Y;have a7:=(n.cell (p:=⟨c,g+b*2,none⟩) (by exact D)).trans H;have a8:=(n.cell (p:=⟨c,g+b*2+1,none⟩) (by exact D)).trans I;have F:=Aa (s.o.trans ((xA _ wr).drew.trans (n.mono B)));have a9:=XP F.o;clear n))
      | (go_at_call_of 85 (Value.string i);refine(Kj i _ O_).mono ?_;rintro m d1 ⟨rfl,o⟩;have c4:=(Ab1 o (w.heap.size) (1) O_).trans a6;have c5:=(Ab1 o (c) (g+b*2) O_).trans a7;have c6:=(Ab1 o (c) (g+b*2+1) O_).trans a8;have b0:=Aa (F.o.trans (o.mono a9));clear o))
    all_goals go_wp2_with fail
    go_roundw
    case rel=>
     refine⟨b+1,_,O_,W_,rfl,?_,?_,b0.o⟩
     ·simp only[zO,Ba];omega
     ·rw[<-A.o,a0.o];simp
    case measure=>simp[intOf];omega
  ·have b1:Hid (d.data.toList=[83,49,76]++N++Kd (Ab a)):=by
    show _=_;rw[<-A.o,zG O_];simp[Ab,Kd]
   go_wp2_with fail;refine(Jh d _ O_).mono ?_;rintro m d2 ⟨rfl,L⟩;have b2:=Aa ((((xA w.heap.size w).alloc X_ _).trans (s.o.mono O_)).trans (L.mono O_));clear L;go_wp2_with fail;go_ret;exact⟨Ib (by rw[X.o,<-b1.o]),b2.o⟩
