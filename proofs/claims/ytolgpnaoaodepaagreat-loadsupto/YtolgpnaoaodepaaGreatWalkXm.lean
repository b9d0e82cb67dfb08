import Derived.Test.YtolgpnaoaodepaaGreatWalkSm
set_option maxHeartbeats 4000000
set_option maxRecDepth 20000
namespace Go.Proofs.YtolgpnaoaodepaaGreat
open Go.RowKit Sq
variable {a c g i:Nat}{w b wr:World}{v m n:Value}{d x:hE}{f:hD}{α:Type}{j:Ending}{k:gY}{l:hF}
theorem TK(a b:Nat)(d:a<4294967296)(f:b<4294967296):bits .or .i64 (a:Int) (b:Int)=((a ||| b:Nat):Int):=by have c:a ||| b<2^32:=Nat.or_lt_two_pow O_ O_;show IntKind.i64.wrap ((BitVec.ofInt 64 (a:Int) ||| BitVec.ofInt 64 (b:Int)).toNat:Int)=_;rw[BitVec.toNat_or,cR a O_,cR b O_,yZ];omega
theorem Abn(a c b:Nat)(h:b<2^a):b ||| c*2^a=b+c*2^a:=by rw[Nat.or_comm,vJ,<-Nat.two_pow_add_eq_or_of_lt h,Nat.add_comm]
theorem Abo(b a:Nat)(g:b<256)(i:a<256):bits .or .i64 (wrap64 (b:Int)) (wrap64 (wrap64 (a:Int)*256))=((b+256*a:Nat):Int):=by
 have c:wrap64 (b:Int)=((b:Nat):Int):=by unfold wrap64;omega
 have d:wrap64 (a:Int)=((a:Nat):Int):=by unfold wrap64;omega
 have f:wrap64 (((a:Nat):Int)*256)=((a*2^8:Nat):Int):=by
  have:wrap64 (((a:Nat):Int)*256)=((a:Nat):Int)*256:=by unfold wrap64;omega
  rw[this];omega
 rw[c,d,f,TK _ _ O_ O_,Abn 8 a b g];omega
theorem Afw(b x a:Nat)(j:x<256)(k:a<=4)(l:b<128^a):bits .or .u64 (b:Int) (IntKind.u64.wrap (IntKind.u64.wrap (bits .andNot .u8 (x:Int) 128)*2^(7*a)))=((b+x % 128*128^a:Nat):Int):=by
 have d:bits .andNot .u8 (x:Int) 128=((x % 128:Nat):Int):=by have h:=u8_andNot_nat x 128 j O_;rw[show(255-128:Nat)=2^7-1 from rfl,Nat.and_two_pow_sub_one_eq_mod]at h;exact h
 have f:128^a<=128^4:=Nat.pow_le_pow_right Do k;have c:2^(7*a)=128^a:=by rw[Nat.pow_mul]
 have m:x % 128*2^(7*a)<34359738368:=by
  rw[c]
  calc x % 128*128^a<=x % 128*128^4:=wP _ f
   _<34359738368:=O_
 have g:IntKind.u64.wrap ((x % 128:Nat):Int)=((x % 128:Nat):Int):=by show((x % 128:Nat):Int) % 18446744073709551616=_;omega
 have i:IntKind.u64.wrap (((x % 128:Nat):Int)*2^(7*a))=((x % 128*2^(7*a):Nat):Int):=by rw[show(((x % 128:Nat):Int)*2^(7*a))=((x % 128*2^(7*a):Nat):Int)by rw[Int.natCast_mul,Int.natCast_pow];rfl];show((x % 128*2^(7*a):Nat):Int) % 18446744073709551616=_;omega
 rw[d,g,i,u64_or_nat _ _ O_ O_,Abn (7*a) _ b (by rw[c];exact l),c]
theorem Ux(f:Nat)(c:hE)(w:World)(a:Rd w f c):
  Calls Tryz.prog 247 #[A_ f] w fun k b=>RdQ nv f w (Pr.Gw c) k b:=by
 go_in;have m:=Aa (Hw f 2 c w a);clear a;go_wp2_with fail;refine m.o.mono ?_;rintro k r ⟨d,⟨a,rfl⟩|⟨x,p,j,rfl,l⟩⟩
 ·have g:Hid (Pr.Gw c=none):=by show _=_;unfold Pr.Gw;rw[a];rfl
  have i:=Aa d;clear d a;unfold Am;go_wp2_with fail;exact⟨rfl,i.o,.inl ⟨g.o,rfl⟩⟩
 ·obtain⟨a,b,rfl,g⟩:∃a b,x=[a,b]/\Hid (Pr.Gw c=some (a.toNat+256*b.toNat,p)):=by
   obtain⟨o,q⟩:=Pr.Er j
   match x,o with
   | [a,b],_=>exact⟨a,b,rfl,show _=_ by unfold Pr.Gw;rw[j];simp[Pg.Da]⟩
  have i:=Aa d;have n:=Aa l;clear d l j;have d:a.toNat<256:=a.toNat_lt;have j:b.toNat<256:=b.toNat_lt;unfold sv;go_wp2_with fail;go_quiet (fail);have l:=Aa (Abo a.toNat b.toNat d j);go_wp2_with fail;go_ret;refine⟨Aw i.o (Jn _ _ _),.inr ⟨_,_,g.o,?_,n.o.drewN _⟩⟩;unfold nv;rw[<-l.o];rfl
theorem Of(m:Nat)(f:hE)(w:World)(n:Rd w m f):
  Calls Tryz.prog 266 #[A_ m] w fun g Z=>RdQ nv m w (Pr.Ds f) g Z:=by
 have u:=Aa n;clear n;go_in;go_wp2_with fail
 go_loopw [3,4] (fun a0 t wr=>∃(b d:Nat) (l:hE),b<=4/\d<128^b/\a0=.int .u64 d/\t=J_ (7*b:Nat)/\Rd wr m l/\But m w wr/\Pr.Yd (5-b) (128^b) d l=Pr.Ds f) (fun _ t _=>28-(intOf t).toNat)
 case atStart=>exact⟨0,0,f,O_,Do,rfl,rfl,u.o,Rj _ _,rfl⟩
 case round=>
  obtain⟨b,d,l,X,F,rfl,rfl,n,G,H⟩:=hrel;have j:=Aa H;have y:=Aa G;have N:=Aa (Jv m l wr n);have z:=Aa F;clear n G H u F;go_wp2_with fail;refine N.o.mono ?_;rintro g a3 ⟨p,⟨I,rfl⟩|⟨x,u2,J,rfl,L⟩⟩
  ·have c:Hid (Pr.Ds f=none):=by
    show _=_;rw[<-j.o]
    cases l with
    | nil=>rw[show 5-b=(4-b)+1 by omega];rfl
    | cons a g=>simp[Pr.Ee]at I
   have i:=Aa (Aw y.o p);clear p I;unfold Am;go_wp2_with fail;exact⟨rfl,i.o,.inl ⟨c.o,rfl⟩⟩
  ·have A:=Pr.Lf J;have O:=Aa A;have i:=Aa (Aw y.o p);have s:=Aa L;have R:x.toNat<256:=x.toNat_lt;clear p L J A;unfold bv;have S:=Aa (Afw d x.toNat b R X z.o);have B:Hid (128^(b+1)=128*128^b):=(by show _=_;rw[vV,vJ]);have C:d+x.toNat % 128*128^b<128^(b+1):=by
    have a1:=z.o;have a2:x.toNat % 128*128^b<=127*128^b:=kW _ O_;rw[B.o];omega
   have T:=Aa C;have k:Hid (Pr.Yd (5-b) (128^b) d l=if 2147483647<d+x.toNat % 128*128^b then none else if x.toNat<128 then(if x.toNat=0/\128^b≠1 then none else some (d+x.toNat % 128*128^b,u2))else Pr.Yd (4-b) (128*128^b) (d+x.toNat % 128*128^b) u2):=(by show _=_;rw[O.o,show 5-b=(4-b)+1 by omega];rfl);clear C;go_wp2_with fail;rw[S.o];have D:Hid (b=0↔128^b=1):=by
    constructor
    ·rintro rfl;rfl
    ·intro h;by_cases h0:b=0
     ·exact h0
     ·have:128^1<=128^b:=Nat.pow_le_pow_right Do O_;omega
   generalize d+x.toNat % 128*128^b=v at*;generalize x.toNat=r at*;by_cases a4:v<=2147483647
   ·rw[show decide ((v:Int)<=2147483647)=true by simp;omega];refine(Bm _).mono ?_;rintro g Y ⟨rfl,rfl⟩;by_cases o:r<128
    ·by_cases a5:0<r
     ·have c:Hid (Pr.Ds f=some (v,u2)):=by
       show _=_;rw[<-j.o,k.o,xB O_,xD o,xB O_]
      go_wp2_with fail;refine(Bm _).mono ?_;rintro g q ⟨rfl,rfl⟩;go_wp2_with fail;go_ret;refine⟨i.o,.inr ⟨_,_,c.o,?_,s.o⟩⟩;rfl
     ·by_cases M:b=0
      ·have c:Hid (Pr.Ds f=some (v,u2)):=by
        show _=_;rw[<-j.o,k.o,xB O_,xD o,xB (by have:=D.o;omega)]
       have U:((7*(b:Int))==0)=true:=K_;have V:decide ((0:Int)<(r:Int))=false:=K_;clear M;go_wp2_with fail;refine(Bm _).mono ?_;rintro g q ⟨rfl,rfl⟩;go_wp2_with fail;go_ret;refine⟨i.o,.inr ⟨_,_,c.o,?_,s.o⟩⟩;rfl
      ·have c:Hid (Pr.Ds f=none):=by
        show _=_;rw[<-j.o,k.o,xB O_,xD o,xD ⟨O_,fun e=>M (D.o.2 e)⟩]
       have U:((7*(b:Int))==0)=false:=K_;have V:decide ((0:Int)<(r:Int))=false:=K_;go_wp2_with fail;refine(Bt _).mono ?_;rintro g q ⟨rfl,rfl⟩;unfold Am;go_wp2_with fail;exact⟨rfl,i.o,.inl ⟨c.o,rfl⟩⟩
    ·by_cases a6:b<4
     ·have c:Hid (Pr.Yd (5-(b+1)) (128^(b+1)) v u2=Pr.Ds f):=by
       show _=_;rw[<-j.o,k.o,xB O_,xB o,B.o,show 5-(b+1)=4-b by omega]
      have W:decide (7*(b:Int)<28)=true:=K_;go_wp2_with fail;refine(Bm _).mono ?_;rintro g q ⟨rfl,rfl⟩;go_wp2_with fail
      go_roundw
      case rel=>exact⟨b+1,v,u2,O_,T.o,rfl,Je O_,s.o,i.o,c.o⟩
      case measure=>simp[intOf];omega
     ·have c:Hid (Pr.Ds f=none):=by
       show _=_;rw[<-j.o,k.o,xB O_,xB o,show 4-b=0 by omega];rfl
      have W:decide (7*(b:Int)<28)=false:=K_;go_wp2_with fail;refine(Bt _).mono ?_;rintro g q ⟨rfl,rfl⟩;unfold Am;go_wp2_with fail;exact⟨rfl,i.o,.inl ⟨c.o,rfl⟩⟩
   ·have c:Hid (Pr.Ds f=none):=by
     show _=_;rw[<-j.o,k.o,xD O_]
    rw[show decide ((v:Int)<=2147483647)=false by simp;omega];refine(Bt _).mono ?_;rintro g Y ⟨rfl,rfl⟩;unfold Am;go_wp2_with fail;exact⟨rfl,i.o,.inl ⟨c.o,rfl⟩⟩
theorem Mr(d:Nat)(a:hE)(w:World)(b:Rd w d a)(C:a.length<=35184372088832):
  Calls Tryz.prog 268 #[A_ d] w fun i c=>RdQ sv d w (Pr.Fx a) i c:=by
 have p:=Aa (Of d a w b);clear b;go_in;go_wp2_with fail;refine p.o.mono ?_;rintro i y ⟨j,⟨c,rfl⟩|⟨o,m,b,rfl,k⟩⟩
 ·have f:Hid (Pr.Fx a=none):=by show _=_;unfold Pr.Fx;rw[c]
  have g:=Aa j;clear j c;unfold Am;go_wp2_with fail;exact⟨rfl,g.o,.inl ⟨f.o,rfl⟩⟩
 ·have f:Hid (Pr.Fx a=Pr.Di o m):=by show _=_;unfold Pr.Fx;rw[b]
  have z:=(Pr.Uo b).2;have g:=Aa j;have q:=Aa (Hw d o m y k);clear j b k;unfold nv;go_wp2_with fail;refine q.o.mono ?_;rintro i A ⟨j,⟨c,rfl⟩|⟨x,u2,b,rfl,n⟩⟩
  ·have k:Hid (Pr.Fx a=none):=(by show _=_;rw[f.o,c]);have l:=Aa (Aw g.o j);clear j c;unfold Am;go_wp2_with fail;exact⟨rfl,l.o,.inl ⟨k.o,rfl⟩⟩
  ·have k:Hid (Pr.Fx a=some (x,u2)):=(by show _=_;rw[f.o,b]);have r:x.length<=35184372088832:=by
    have:=(Pr.Er b).2;have:m.length=x.length+u2.length:=(by rw[this,xC]);omega
   have l:=Aa (Aw g.o j);have s:=Aa n;have t:=n.lt;clear j n b;unfold sv;go_wp2_with fail;refine(Yp ⟨x.toArray⟩ _ (by rw[Ba];exact r)).mono ?_;rintro i B ⟨rfl,j⟩;have n:=Aa (Aw l.o (Mo j));have u:=Aa (s.o.below j t);clear j;go_wp2_with fail;go_ret;exact⟨n.o,.inr ⟨_,_,k.o,rfl,u.o⟩⟩
theorem Hj{r:TypeId}{p:Nat}{s:hH}(h:w.ownsRow a r g v p s)(f:But c w b)(i:c<a):b.ownsRow a r g v p s:=by
 refine zP h f ?_
 cases e:v.ownBlock with
 | none=>exact .inl rfl
 | some k=>exact .inr (fun d=>by have:=(xF h k e).1;simp at d;omega)
theorem Aq{q:World}(h:Below c b w)(d:But a w q)(i:c<=a)(j:c<=w.heap.size):Below c b q:=
 h.trans ⟨d.os,d.tape,d.output,d.size,fun f g=>d.block f O_ K_⟩
theorem Rd.grown{t:Option Nat}(h:Rd w a d)(c:w.grownBy b t)(f:some a≠t):Rd b a d:=(c.block a h.lt f).trans h
def Ahh(w:World)(o:Option (List hE))(r:Ending)(w':World):Prop:=Below w.heap.size w w'/\((o=none/\r=Am)\/∃l v,o=some (Ag l)/\r=R_ v/\Bc w.heap.size w' v l)
theorem MB(h:Bc a w v f)(m:c<=a):Bc c w v f:=by
 refine⟨h.1,?_⟩;rcases h.2 with b|⟨d,g,i,j,k,l⟩
 ·exact .inl b
 ·exact .inr ⟨d,g,i,j,xI m k,l⟩
theorem AE(d:hE)(v:Value)(a:hF)(w:World)(b6:Ik w v a.length (Cl a))(c9:a.length<=1000):
  Calls Tryz.prog 215 #[B_ ⟨d.toArray⟩,v] w fun b b2=>Ahh w (Pr.Py d a) b b2:=by
 obtain⟨b9,c0,rfl,-,N⟩:=b6;have Z:=Aa N;clear N;go_in;go_wp2_with fail;refine(Fg d _).mono ?_;rintro b b0 ⟨rfl,rfl⟩;have G:=Aa (Sb w d);have y:=Aa ((xA w.heap.size w).alloc X_ (C_ #[B_ ⟨d.toArray⟩] 298));have a0:w.heap.size<(w.alloc (C_ #[B_ ⟨d.toArray⟩] 298)).heap.size:=D_;generalize w.alloc (C_ #[B_ ⟨d.toArray⟩] 298)=b4 at*;have j:=Aa (Hw w.heap.size 68 d b4 G.o);go_wp2_with fail;refine j.o.mono ?_;rintro b b0 ⟨o,⟨p,rfl⟩|⟨x,q,r,rfl,X⟩⟩
 ·have m:Hid (Pr.Py d a=none):=by show _=_;unfold Pr.Py;rw[p];rfl
  have g:=Aa (Aq y.o o X_ O_);clear o p;unfold Am;go_wp2_with fail;exact⟨rfl,g.o,.inl ⟨m.o,rfl⟩⟩
 ·have m:Hid (Pr.Py d a=(Pr.Ky a q).bind fun b=>if b.2=[]then some b.1 else none):=by show _=_;unfold Pr.Py;rw[r];rfl
  have g:=Aa (Aq y.o o X_ O_);have H:=Aa X;have a1:=o.size;clear o r X j G;unfold sv;go_wp2_with fail
  go_loopw [6,15] (fun b3 F wr=>∃(c:Nat) (f:hD) (i:hE),c<=a.length/\F=J_ c/\f.length<=c/\Bc (w.heap.size+1) wr b3 f/\Rd wr w.heap.size i/\Below w.heap.size w wr/\w.heap.size<wr.heap.size/\(Pr.Ky (a.drop c) i).map (fun b=>(Ag f++b.1,b.2))=Pr.Ky a q) (fun _ F _=>a.length-(intOf F).toNat)
  case atStart=>exact⟨0,[],q,Y_,rfl,D_,Bc.nil _ _,H.o,g.o,O_,by simp[Ag]⟩
  case round=>
   clear H g a1 a0 y;obtain⟨c,f,i,O,rfl,c1,C,R,S,c2,T⟩:=hrel;have I:=Aa C;have J:=Aa R;have g:=Aa S;have z:=Aa T;obtain⟨U,V,rfl⟩:=C.shape;clear C R S T;by_cases u:c<a.length
   ·obtain⟨c3,c4,a8,a9,W⟩:=Z.o.resolve_left O_;subst a8;have a2:=KV (pl:=a) W g.o a9 c u;clear W;have L:Hid (Pr.Ky (a.drop c) i=(Pr.Di (a[c]'u) i).bind fun x=>(Pr.Ky (a.drop (c+1)) x.2).map fun b=>(x.1::b.1,b.2)):=by
     show _=_;rw[yM u];rfl
    generalize a[c]'u=b5 at*;have j:=Aa (Hw w.heap.size b5 i wr J.o);go_wp2_with fail;refine j.o.mono ?_;rintro b s ⟨k,⟨p,rfl⟩|⟨x,u2,r,rfl,Y⟩⟩
    ·have n:Hid (Pr.Py d a=none):=by
      show _=_;rw[m.o,<-z.o,L.o,p];rfl
     have A:=Aa (Aq g.o k X_ O_);clear k p;unfold Am;go_wp2_with fail;exact⟨rfl,A.o,.inl ⟨n.o,rfl⟩⟩
    ·have a3:Hid ((Pr.Ky (a.drop (c+1)) u2).map (fun b=>(Ag (f++[⟨x.toArray⟩])++b.1,b.2))=Pr.Ky a q):=by
      show _=_;rw[<-z.o,L.o,r];simp only[xV,vX];congr 1
      funext b
      simp[Ag]
     have A:=Aa (Aq g.o k X_ O_);have a4:=Aa Y;have B:Hid (Bc (w.heap.size+1) s (L_ U f.length V) f):=Hj I.o k O_;have b7:=k.size;clear k r Y j a2;unfold sv
     go_wp2_with (first
      | (at_builtin;refine IJ s rfl (.tmp 19) (.tmp 23) rfl (w.heap.size+1) (L_ U f.length V) f rfl B.o ⟨x.toArray⟩ rfl O_ O_ ?_))
     intro c7 c8 D t b1;have a5:=Aa D;have a6:=Aa (a4.o.grown t (fun e=>by have:=(xF B.o _ e.symm).1;omega));have a7:=Aa (A.o.trans (((xA (w.heap.size+1) s).grown t O_ fun c O=>(xF B.o c O).1).mono O_));have b8:=t.size;obtain⟨c5,c6,rfl⟩:=D.shape;clear D t b1;go_wp2_with fail
     go_roundw
     case rel=>exact⟨c+1,_,u2,O_,W_,by rw[xC];simp;omega,a5.o,a6.o,a7.o,O_,a3.o⟩
     case measure=>simp[intOf];omega
   ·have M:Hid (Pr.Ky a q=some (Ag f,i)):=by
     show _=_;rw[<-z.o,zG O_];simp[Pr.Ky]
    have j:=Aa (EH w.heap.size i wr J.o);go_wp2_with fail;refine j.o.mono ?_;rintro b s ⟨rfl,rfl⟩;clear j;by_cases l:i=[]
    ·have n:Hid (Pr.Py d a=some (Ag f)):=by
      show _=_;rw[m.o,M.o];simp[l]
     rw[xD l];clear l;go_wp2_with fail;go_ret;exact⟨g.o,.inr ⟨f,_,n.o,rfl,MB I.o O_⟩⟩
    ·have n:Hid (Pr.Py d a=none):=by
      show _=_;rw[m.o,M.o];simp[l]
     rw[xB l];clear l;unfold Am;go_wp2_with fail;exact⟨rfl,g.o,.inl ⟨n.o,rfl⟩⟩
def Qj(o:Option hE):Ending:=match o with
 | some c=> R_ (B_ ⟨c.toArray⟩)
 | none=>Am
theorem EI(w b:World)(a:hJ)(f:Nat)(i:b.heap=(Lib.bytesWorld w 5 a).heap):(convert 108 9 (L_ (P_ w.heap.size) a.size f)).run Tryz.prog b=.ok (B_ a) b:=by
 have:=fW (P:=Tryz.prog) b 108 9 5 (Q_ w.heap.size 0) f a.data.toList jC wA jS (fun c d=>by
  rw[Gv];have g:b.cell? (Q_ w.heap.size c)=(Lib.bytesWorld w 5 a).cell? (Q_ w.heap.size c):=by unfold World.cell?;rw[i]
  rw[g,Lib.bytesWorld_cell w 5 a c (by rw[<-Ah];exact d),jH,xW d];rfl)
 rw[Ah]at this;exact this
theorem Og(w:World)(a:hJ):Below w.heap.size w (Lib.bytesWorld w 5 a):=by refine⟨rfl,rfl,rfl,?_,fun b c=>Lib.bytesWorld_at_old w 5 a b c⟩;rw[Lib.bytesWorld_size];omega
theorem Qu(m:UInt8)(d:hE)(w:World):
  Calls Tryz.prog 249 #[.int .u8 (m.toNat:Int),B_ ⟨d.toArray⟩] w fun i g=>i=Qj (Pr.Lz m d)/\Below w.heap.size w g:=by
 generalize c3:Qj (Pr.Lz m d)=E;have n:=Aa c3;clear c3;have d5:m.toNat<256:=m.toNat_lt;go_in;go_wp2_with fail;refine(Fg d _).mono ?_;rintro i a9 ⟨rfl,rfl⟩;have a0:=Aa (Sb w d);have L:=Aa ((xA w.heap.size w).alloc X_ (C_ #[B_ ⟨d.toArray⟩] 298));have d6:w.heap.size<(w.alloc (C_ #[B_ ⟨d.toArray⟩] 298)).heap.size:=D_;generalize w.alloc (C_ #[B_ ⟨d.toArray⟩] 298)=d4 at*;have a1:=Aa (Hw w.heap.size 1 d d4 a0.o);go_wp2_with fail;refine a1.o.mono ?_;rintro i a9 ⟨C,⟨k,rfl⟩|⟨x,b0,b1,rfl,b2⟩⟩
 ·have b:Hid (Am=E):=by show _=_;rw[<-n.o];unfold Pr.Lz Pr.Up;rw[k];rfl
  have p:=Aa (Aq L.o C X_ O_);clear C k;unfold Am;go_wp2_with fail;exact⟨rfl,b.o,p.o⟩
 have M:Hid (Pr.Up d=(Pr.Ee b0).bind fun h=>(Pr.Ds h.2).bind fun Y=>(Pr.Ds Y.2).bind fun f=>if 249<f.1 then none else(Pr.Di f.1 f.2).map fun a=>(h.1,a.1)):=by show _=_;unfold Pr.Up;rw[b1];rfl
 have N:=Aa (Aq L.o C X_ O_);have d7:=C.size;have a2:=Aa (Jv w.heap.size b0 a9 b2);clear C b1 b2 a1 a0 L;unfold sv;go_wp2_with fail;refine a2.o.mono ?_;rintro i c8 ⟨D,⟨k,rfl⟩|⟨q,b3,b4,rfl,b5⟩⟩
 ·have b:Hid (Am=E):=by show _=_;rw[<-n.o];unfold Pr.Lz;rw[M.o,k];rfl
  have p:=Aa (Aq N.o D X_ O_);clear D k;unfold Am;go_wp2_with fail;exact⟨rfl,b.o,p.o⟩
 have O:Hid (Pr.Up d=(Pr.Ds b3).bind fun Y=>(Pr.Ds Y.2).bind fun f=>if 249<f.1 then none else(Pr.Di f.1 f.2).map fun a=>(q,a.1)):=by show _=_;rw[M.o,b4];rfl
 have R:=Aa (Aq N.o D X_ O_);have d8:=D.size;have a3:=Aa (Of w.heap.size b3 c8 b5);clear D b4 b5 a2 M N;unfold bv;go_wp2_with fail;refine a3.o.mono ?_;rintro i c9 ⟨F,⟨k,rfl⟩|⟨e6,b6,b7,rfl,b8⟩⟩
 ·have b:Hid (Am=E):=by show _=_;rw[<-n.o];unfold Pr.Lz;rw[O.o,k];rfl
  have p:=Aa (Aq R.o F X_ O_);clear F k;unfold Am;go_wp2_with fail;exact⟨rfl,b.o,p.o⟩
 have S:Hid (Pr.Up d=(Pr.Ds b6).bind fun f=>if 249<f.1 then none else(Pr.Di f.1 f.2).map fun a=>(q,a.1)):=by show _=_;rw[O.o,b7];rfl
 have T:=Aa (Aq R.o F X_ O_);have d9:=F.size;have a4:=Aa (Of w.heap.size b6 c9 b8);clear F b7 b8 a3 O R;unfold nv;go_wp2_with fail;refine a4.o.mono ?_;rintro i d0 ⟨G,⟨k,rfl⟩|⟨f,b9,c0,rfl,c1⟩⟩
 ·have b:Hid (Am=E):=by show _=_;rw[<-n.o];unfold Pr.Lz;rw[S.o,k];rfl
  have p:=Aa (Aq T.o G X_ O_);clear G k;unfold Am;go_wp2_with fail;exact⟨rfl,b.o,p.o⟩
 have t:Hid (Pr.Up d=if 249<f then none else(Pr.Di f b9).map fun a=>(q,a.1)):=by show _=_;rw[S.o,c0];rfl
 have J:=Aa (Aq T.o G X_ O_);have e0:=G.size;have a5:=Aa (Hw w.heap.size f b9 d0 c1);clear G c0 c1 a4 S T;unfold nv;by_cases c2:249<f
 ·have b:Hid (Am=E):=by show _=_;rw[<-n.o];unfold Pr.Lz;rw[t.o,xD c2];rfl
  have c4:decide ((f:Int)<=249)=false:=K_;go_wp2_with fail;refine(Bt _).mono ?_;rintro i o ⟨rfl,rfl⟩;unfold Am;go_wp2_with fail;exact⟨rfl,b.o,J.o⟩
 rw[xB c2]at t;have c4:decide ((f:Int)<=249)=true:=K_;go_wp2_with fail;refine(Bm _).mono ?_;rintro i o ⟨rfl,rfl⟩;go_wp2_with fail;refine a5.o.mono ?_;rintro i o ⟨H,⟨k,rfl⟩|⟨a,e7,V,rfl,d1⟩⟩
 ·have b:Hid (Am=E):=by show _=_;rw[<-n.o];unfold Pr.Lz;rw[t.o,k];rfl
  have p:=Aa (Aq J.o H X_ O_);clear H k;unfold Am;go_wp2_with fail;exact⟨rfl,b.o,p.o⟩
 have u:Hid (Pr.Lz m d=(Pr.CR q a).bind fun c=>if Pg.Ar [m] c=d then some c else none):=by show _=_;unfold Pr.Lz;rw[t.o,V];rfl
 have e1:a.length<=249:=by rw[(Pr.Er V).1];omega
 have a6:=Aa (Aq J.o H X_ O_);have e2:=H.size;clear H V d1 a5 t J;unfold sv;by_cases Z:q=1
 ·subst Z;have a7:Hid (Pr.CR 1 a=Ev a):=rfl;go_wp2_with fail;refine(GV ⟨a.toArray⟩ _ (by rw[Ba];omega)).mono ?_;rintro i r ⟨rfl,W⟩;rw[show(⟨a.toArray⟩:hJ).data.toList=a from rfl];have a8:=Aa (a6.o.trans (W.mono O_));have e3:=W.size;clear W
  cases l:Ev a with
  | none=>
   have b:Hid (Am=E):=(by show _=_;rw[<-n.o,u.o,a7.o,l];rfl);rw[show Ht a=Am by unfold Ht;rw[l]];clear l;unfold Am;go_wp2_with fail;exact⟨rfl,b.o,a8.o⟩
  | some c=>
   have e4:c.length<=20000:=by
    unfold Ev at l;split at l
    ·rename_i e8 d3;have:=Mn _ _ _ d3;split at l
     ·simp at l;subst l;simp at this;omega
     ·simp at l
    ·simp at l
   have y:Hid (Pr.CR 1 a=some c):=(by show _=_;rw[a7.o,l]);rw[show Ht a=R_ (B_ ⟨c.toArray⟩)by unfold Ht;rw[l]];clear l;have c5:=Ba c;have z:=gD (P:=Tryz.prog) r 9 108 5 ⟨c.toArray⟩ jS jC wA;rw[Ba]at z;have U:=Aa (a8.o.trans ((Og r ⟨c.toArray⟩).mono O_));have A:Hid (∀(g:World) (s:Nat),g.heap=(Lib.bytesWorld r 5 ⟨c.toArray⟩).heap->(convert 108 9 (L_ (P_ r.heap.size) c.length s)).run Tryz.prog g=.ok (B_ ⟨c.toArray⟩) g):=fun g s j=>by have:=EI r g ⟨c.toArray⟩ s j;rw[Ba]at this;exact this
   have c6:r.heap.size<=(Lib.bytesWorld r 5 ⟨c.toArray⟩).heap.size:=(Og r ⟨c.toArray⟩).size;go_wp2_with fail;clear z;refine(Ro m _ c _ ⟨_,_,rfl⟩ (fun g j=>A.o g _ j) O_).mono ?_;rintro i d2 ⟨rfl,I⟩;have B:=Aa (U.o.trans (I.mono O_));clear I A;by_cases j:Pg.Ar [m] c=d
   ·have b:Hid (R_ (B_ ⟨c.toArray⟩)=E):=(by show _=_;rw[<-n.o,u.o,y.o];simp[j,Qj]);go_wp2_with fail;refine(Bm _).mono ?_;rintro i X ⟨rfl,rfl⟩;go_wp2_with fail;go_ret;exact⟨b.o,B.o⟩
   ·have b:Hid (Am=E):=(by show _=_;rw[<-n.o,u.o,y.o];simp[j,Qj]);have c7:(Pg.Ar [m] c==d)=false:=(by simpa using j);go_wp2_with fail;refine(Bt _).mono ?_;rintro i X ⟨rfl,rfl⟩;unfold Am;go_wp2_with fail;exact⟨rfl,b.o,B.o⟩
 ·have y:Hid (Pr.CR q a=some a):=by show _=_;unfold Pr.CR;rw[xB Z]
  have e5:((q.toNat:Int)==1)=false:=by simp only[fR,ne_eq];intro e;exact Z (fP.1 (by simpa using(by omega:q.toNat=1)))
  have c5:=Ba a;have z:=gD (P:=Tryz.prog) o 9 108 5 ⟨a.toArray⟩ jS jC wA;rw[Ba]at z;have U:=Aa (a6.o.trans ((Og o ⟨a.toArray⟩).mono O_));have A:Hid (∀(g:World) (s:Nat),g.heap=(Lib.bytesWorld o 5 ⟨a.toArray⟩).heap->(convert 108 9 (L_ (P_ o.heap.size) a.length s)).run Tryz.prog g=.ok (B_ ⟨a.toArray⟩) g):=fun g s j=>by have:=EI o g ⟨a.toArray⟩ s j;rw[Ba]at this;exact this
  have c6:o.heap.size<=(Lib.bytesWorld o 5 ⟨a.toArray⟩).heap.size:=(Og o ⟨a.toArray⟩).size;go_wp2_with fail;clear z;refine(Ro m _ a _ ⟨_,_,rfl⟩ (fun g j=>A.o g _ j) O_).mono ?_;rintro i d2 ⟨rfl,I⟩;have B:=Aa (U.o.trans (I.mono O_));clear I A;by_cases j:Pg.Ar [m] a=d
  ·have b:Hid (R_ (B_ ⟨a.toArray⟩)=E):=(by show _=_;rw[<-n.o,u.o,y.o];simp[j,Qj]);go_wp2_with fail;refine(Bm _).mono ?_;rintro i X ⟨rfl,rfl⟩;go_wp2_with fail;go_ret;exact⟨b.o,B.o⟩
  ·have b:Hid (Am=E):=(by show _=_;rw[<-n.o,u.o,y.o];simp[j,Qj]);have c7:(Pg.Ar [m] a==d)=false:=(by simpa using j);go_wp2_with fail;refine(Bt _).mono ?_;rintro i X ⟨rfl,rfl⟩;unfold Am;go_wp2_with fail;exact⟨rfl,b.o,B.o⟩
theorem Abp{u:α->Value}{i:Option (α×hE)}(h:RdQ u a w i j b)(f:i=none):j=Am/\But a w b:=by
 obtain⟨d,⟨_,c⟩|⟨x,g,c,_⟩⟩:=h
 ·exact⟨c,d⟩
 ·rw[f]at c;simp at c
theorem BN{f:α->Value}{i:Option (α×hE)}{x:α}(h:RdQ f a w i j b)(g:i=some (x,d)):j=R_ (f x)/\Rd b a d/\But a w b:=by
 obtain⟨k,⟨c,_⟩|⟨n,o,c,l,m⟩⟩:=h
 ·rw[g]at c;simp at c
 ·rw[g]at c;simp only[xX,kL]at c;rw[c.1,c.2];exact⟨l,m,k⟩
theorem Abq(a:Nat)(b:hE)(w:World)(f:Rd w a b)(g:b.length<=35184372088832)(h:Pr.Fx b=none):Calls Tryz.prog 268 #[A_ a] w fun c d=>c=Am/\But a w d:=(Mr a b w f g).mono fun _ _ c=>Abp c h
theorem YR(a:Nat)(b:hE)(w:World)(g:Rd w a b)(i:b.length<=35184372088832)(h:Pr.Fx b=some (x,d)):Calls Tryz.prog 268 #[A_ a] w fun f c=>f=R_ (B_ ⟨x.toArray⟩)/\Rd c a d/\But a w c:=(Mr a b w g i).mono fun _ _ c=>BN (f:=sv) c h
theorem Im(h:But a w.drew b):But a w b:=⟨h.os,h.tape,h.output,h.size,h.block⟩
def MC(w:World)(o:Option (List (hE×hE)))(r:Ending)(w':World):Prop:=Below w.heap.size w w'/\((o=none/\r=Am)\/∃l v,o=some (Ab l)/\r=R_ v/\Ap w.heap.size w' v l/\l.length<=255/\∀x∈l,x.1.size<=10000000/\x.2.size<=10000000)
theorem Lv(h:Ap a w v k):Fa w v k:=by
 rcases h.2 with⟨rfl,d⟩|⟨f,g,o,rfl,p,q,r,i,s,t⟩
 ·exact .inl ⟨none,0,rfl,zA.1 d⟩
 ·rcases h.isItems with⟨j,l,b,c⟩|⟨u,y,b,c,z,m,n⟩
  ·exact .inl ⟨j,l,b,c⟩
  ·injection b with e1 e2 e3;subst e3;simp only[xX,yT,yG]at e1;subst e1;exact .inr ⟨f,0,g,rfl,c,by unfold maxLen at i;omega,m,n⟩
theorem Qk(h:Ap a w v k)(m:c<=a):Ap c w v k:=by
 refine⟨h.1,?_⟩;rcases h.2 with b|⟨d,f,g,i,j,l⟩
 ·exact .inl b
 ·exact .inr ⟨d,f,g,i,xI m j,l⟩
theorem EJ(a:gY)(x:ByteArray×ByteArray):Ab (a++[x])=Ab a++[(x.1.data.toList,x.2.data.toList)]:=by simp[Ab]
theorem HJ(d:hE)(w:World)(i5:d.length<=1000000):
  Calls Tryz.prog 255 #[B_ ⟨d.toArray⟩] w fun a f5=>MC w (Pr.Qz d) a f5:=by
 go_in;go_wp2_with fail;refine(Fg d _).mono ?_;rintro a f0 ⟨rfl,rfl⟩;have b1:=Aa (Sb w d);have R:=Aa ((xA w.heap.size w).alloc X_ (C_ #[B_ ⟨d.toArray⟩] 298));have d5:w.heap.size<(w.alloc (C_ #[B_ ⟨d.toArray⟩] 298)).heap.size:=D_
 generalize w.alloc (C_ #[B_ ⟨d.toArray⟩] 298)=f7 at*;have k:=Aa (Jv w.heap.size d f7 b1.o);go_wp2_with fail;refine k.o.mono ?_;rintro a f0 ⟨H,⟨o,rfl⟩|⟨L,y,Z,rfl,c7⟩⟩
 ·have d6:Hid (Pr.Qz d=none):=by show _=_;unfold Pr.Qz;rw[o];rfl
  have C:=Aa (Aq R.o H X_ O_);clear H o;unfold Am;go_wp2_with fail;exact⟨rfl,C.o,.inl ⟨d6.o,rfl⟩⟩
 have s:Hid (Pr.Qz d=(Pr.Hz L.toNat [] y).bind fun a=>if Pg.Bl a.1=d then some a.1 else none):=by show _=_;unfold Pr.Qz;rw[Z];rfl
 have d7:y.length<=d.length:=by rw[Pr.Lf Z];simp
 have b2:=Aa (Aq R.o H X_ O_);have b3:=Aa c7;have d8:=H.size;have f8:L.toNat<256:=L.toNat_lt;clear H Z c7 k b1 R;unfold bv;generalize L.toNat=g at*;go_wp2_with fail
 go_loopw [4,5,12] (fun a5 f6 a6 wr=>∃(f:Nat) (b:gY) (l:hE) (c:hJ),f<=g/\a6=.int .u8 f/\f6=B_ c/\c.size<=2000000/\b.length<=f/\l.length<=d.length/\Ap (w.heap.size+1) wr a5 b/\Rd wr w.heap.size l/\Below w.heap.size w wr/\w.heap.size<wr.heap.size/\(∀x∈b,x.1.size<=10000000/\x.2.size<=10000000)/\(Pr.Hz (g-f) c.data.toList l).map (fun a=>(Ab b++a.1,a.2))=Pr.Hz g [] y) (fun _ _ a6 _=>g-(intOf a6).toNat)
 case atStart=>exact⟨0,[],y,⟨#[]⟩,Y_,rfl,rfl,Do,D_,d7,yP _ _ _ _,b3.o,b2.o,O_,D_,by simp[Ab]⟩
 case round=>
  clear b3 b2 d8 d5;obtain⟨f,b,l,c,b9,rfl,rfl,h7,h8,c0,Y,c1,c2,h9,c3,c4⟩:=hrel;have S:=Aa Y;have d9:=Aa c1;have C:=Aa c2;have t:=Aa c4;have T:=Aa c3;obtain⟨F,G,rfl⟩:=Ad Y;clear Y c1 c2 c4 c3;by_cases i4:f<g
  ·obtain⟨u,c5⟩:∃u,g-f=u+1:=⟨g-f-1,O_⟩;have e0:Hid (u=g-(f+1)):=(by show _=_;omega);have U:Hid (Pr.Hz (g-f) c.data.toList l=(Pr.Ee l).bind fun O=>if c.data.toList.length<O.1.toNat then none else(Pr.Fx O.2).bind fun x=>(Pr.Fx x.2).bind fun v=>(Pr.Hz u (c.data.toList.take O.1.toNat++x.1) v.2).map fun a=>((c.data.toList.take O.1.toNat++x.1,v.1)::a.1,a.2)):=by
    show _=_;rw[c5];rfl
   clear c5;have k:=Aa (Jv w.heap.size l wr d9.o);go_wp2_with fail;refine k.o.mono ?_;rintro a a0 ⟨m,⟨o,rfl⟩|⟨z,I,a1,rfl,c8⟩⟩
   ·have i:Hid (Pr.Qz d=none):=by
     show _=_;rw[s.o,<-t.o,U.o,o];rfl
    have n:=Aa (Aq C.o m X_ O_);clear m o;unfold Am;go_wp2_with fail;exact⟨rfl,n.o,.inl ⟨i.o,rfl⟩⟩
   have D:Hid (Pr.Hz (g-f) c.data.toList l=if c.size<z.toNat then none else(Pr.Fx I).bind fun x=>(Pr.Fx x.2).bind fun v=>(Pr.Hz u (c.data.toList.take z.toNat++x.1) v.2).map fun a=>((c.data.toList.take z.toNat++x.1,v.1)::a.1,a.2)):=(by show _=_;rw[U.o,a1];simp only[xV,Ah]);have f9:I.length<=d.length:=(by have:=Pr.Lf a1;rw[this]at c0;simp at c0;omega);have n:=Aa (Aq C.o m X_ O_);have b4:=Aa c8;have V:Hid (Ap (w.heap.size+1) a0 (L_ F b.length G) b):=Hj S.o m O_;have g0:=m.size;have g1:z.toNat<256:=z.toNat_lt;clear m a1 c8 k U;unfold bv;generalize z.toNat=j at*;by_cases d4:c.size<j
   ·have i:Hid (Pr.Qz d=none):=by
     show _=_;rw[s.o,<-t.o,D.o,xD d4];rfl
    have g2:decide (j<=c.size)=false:=xN O_;go_wp2_with fail;refine(Bt _).mono ?_;rintro a A ⟨rfl,rfl⟩;unfold Am;go_wp2_with fail;exact⟨rfl,n.o,.inl ⟨i.o,rfl⟩⟩
   rw[xB d4]at D;have g3:(0:Int)<=(j:Int):=O_;have g4:(j:Int)<=(c.size:Int):=O_;go_wp2_with fail;refine(Bm _).mono ?_;rintro a A ⟨rfl,rfl⟩
   cases r:Pr.Fx I with
   | none=>
    have i:Hid (Pr.Qz d=none):=(by show _=_;rw[s.o,<-t.o,D.o,r];rfl);have k:=Aa (fun a7 a8=>Abq w.heap.size I a7 a8 O_ r);clear r;go_wp2_with fail
    go_region_dies
    all_goals
     refine(k.o (World.drew A) b4.o).mono ?_;rintro a M ⟨rfl,p⟩;have J:=Aa (Aq n.o (Im p) X_ O_);clear p;unfold Am;go_wp2_with fail;exact⟨rfl,J.o,.inl ⟨i.o,rfl⟩⟩
   | some xu=>
    obtain⟨x,c6⟩:=xu;have b5:Hid (Pr.Hz (g-f) c.data.toList l=(Pr.Fx c6).bind fun v=>(Pr.Hz u (c.data.toList.take j++x) v.2).map fun a=>((c.data.toList.take j++x,v.1)::a.1,a.2)):=(by show _=_;rw[D.o,r];rfl);have g5:=Pr.Pa r;have k:=Aa (fun a7 a8=>YR w.heap.size I a7 a8 O_ r);clear r D;have g6:=Ba x;have g7:(c.extract 0 j).size<=300:=(by rw[zM];omega);have e1:∀w,(Op.stringOp .add (c.extract 0 j) ⟨x.toArray⟩).run Tryz.prog w=.ok (B_ (c.extract 0 j++⟨x.toArray⟩)) w:=fun w=>kA w _ _ O_
    go_wp2_with fail
    go_region_law (first
     | (go_simp
        refine(k.o (World.drew A) b4.o).mono ?_;rintro a M ⟨rfl,c9,p⟩;have e2:=Aa c9;have J:=Aa (Aq n.o (Im p) X_ O_);have e3:Hid (Ap (w.heap.size+1) M (L_ F b.length G) b):=Hj V.o (Im p) O_;have g8:A.heap.size<=M.heap.size:=(Im p).size;clear c9 p))
    all_goals
     go_wp2_with fail;have b6:=Aa (Mr w.heap.size c6 M e2.o O_);generalize b0:c.extract 0 j++(⟨x.toArray⟩:hJ)=q at*;have g9:q.size<=1000400:=(by rw[<-b0,zO];omega);have b7:Hid (q.data.toList=c.data.toList.take j++x):=(by show _=_;rw[<-b0];simp);clear b0 e1;refine b6.o.mono ?_;rintro a a2 ⟨B,⟨o,rfl⟩|⟨v,d0,a3,rfl,d1⟩⟩
     ·have i:Hid (Pr.Qz d=none):=by
       show _=_;rw[s.o,<-t.o,b5.o,o];rfl
      have W:=Aa (Aq J.o B X_ O_);clear B o;unfold Am;go_wp2_with fail;exact⟨rfl,W.o,.inl ⟨i.o,rfl⟩⟩
     ·have h1:=Pr.Pa a3;have e4:Hid ((Pr.Hz (g-(f+1)) q.data.toList d0).map (fun a=>(Ab (b++[(q,⟨v.toArray⟩)])++a.1,a.2))=Pr.Hz g [] y):=by
       show _=_;rw[<-t.o,b5.o,a3,<-e0.o,b7.o,EJ];simp only[xV,vX];congr 1
       funext a
       simp[b7.o]
      have W:=Aa (Aq J.o B X_ O_);have e5:=Aa d1;have X:Hid (Ap (w.heap.size+1) a2 (L_ F b.length G) b):=Hj e3.o B O_;have h2:=B.size;have h3:=Ba v;clear B a3 d1 b6 k;unfold sv
      go_wp2_with (first
       | (at_builtin;refine Ix a2 rfl (.tmp 28) (.tmp 33) 30 51 zC _ 2 32 Cg rfl Do Do rfl (w.heap.size+1) (L_ F b.length G) b.length (Al b) rfl X.o [B_ q,B_ ⟨v.toArray⟩] rfl (by intro i3 d3;simp at d3;rcases d3 with rfl|rfl<;>rfl) rfl O_ O_ ?_))
      intro f1 f2 a4 N f3;have e6:Hid (Ap (w.heap.size+1) f2 f1 (b++[(q,⟨v.toArray⟩)])):=(by show Ap _ _ _ _;unfold Ap;rw[xC,Jo];exact a4);have e7:=Aa (e5.o.grown N (fun e=>by have:=(xF X.o _ e.symm).1;omega));have e8:=Aa (W.o.trans (((xA (w.heap.size+1) a2).grown N O_ fun f b9=>(xF X.o f b9).1).mono O_));have h4:=N.size;obtain⟨i0,i1,rfl⟩:=Ad a4;clear a4 N f3;go_wp2_with fail
      go_roundw
      case rel=>
       refine⟨f+1,_,d0,q,O_,W_,rfl,O_,by rw[xC];simp;omega,O_,e6.o,e7.o,e8.o,O_,?_,e4.o⟩;intro a5 f4;rcases xE.1 f4 with h|h
       ·exact T.o a5 h
       ·rw[yR.1 h];exact⟨by simp only;omega,by simp only;omega⟩
      case measure=>simp[intOf];omega
  ·have b8:Hid (Pr.Hz g [] y=some (Ab b,l)):=by
    show _=_;rw[<-t.o,show g-f=0 by omega];simp[Pr.Hz]
   have e9:=Aa (Lv S.o);go_wp2_with fail;refine(NX _ b _ e9.o O_ T.o).mono ?_;rintro a a0 ⟨i2,rfl,d2,m⟩;have h5:=d2.str;have n:=Aa (C.o.trans (m.mono O_));have V:Hid (Ap w.heap.size a0 (L_ F b.length G) b):=Qk (Ae S.o m X_) O_;clear d2 m;by_cases a9:Pg.Bl (Ab b)=d
   ·have i:Hid (Pr.Qz d=some (Ab b)):=by
     show _=_;rw[s.o,b8.o];simp[a9]
    go_wp2_with fail;refine(Bm _).mono ?_;rintro a A ⟨rfl,rfl⟩;go_wp2_with fail;go_ret;exact⟨n.o,.inr ⟨b,_,i.o,rfl,V.o,O_,T.o⟩⟩
   ·have i:Hid (Pr.Qz d=none):=by
     show _=_;rw[s.o,b8.o];simp[a9]
    have h6:(Pg.Bl (Ab b)==d)=false:=(by simpa using a9);go_wp2_with fail;refine(Bt _).mono ?_;rintro a A ⟨rfl,rfl⟩;unfold Am;go_wp2_with fail;exact⟨rfl,n.o,.inl ⟨i.o,rfl⟩⟩
theorem TL(a:Nat)(b:hE)(w:World)(g:Rd w a b){x:Nat}(h:Pr.Gw b=some (x,d)):Calls Tryz.prog 247 #[A_ a] w fun f c=>f=R_ (J_ (x:Int))/\Rd c a d/\But a w c:=(Ux a b w g).mono fun _ _ c=>BN (f:=nv) c h
theorem JE(a:Nat)(b:hE)(w:World)(g:Rd w a b){x:UInt8}(h:Pr.Ee b=some (x,d)):Calls Tryz.prog 246 #[A_ a] w fun f c=>f=R_ (.int .u8 (x.toNat:Int))/\Rd c a d/\But a w c:=(Jv a b w g).mono fun _ _ c=>BN (f:=bv) c h
theorem Yq(a b:Nat)(c:hE)(w:World)(i:Rd w a c)(h:Pr.Di b c=some (x,d)):Calls Tryz.prog 245 #[A_ a,J_ b] w fun g f=>g=R_ (B_ ⟨x.toArray⟩)/\Rd f a d/\But a w f:=(Hw a b c w i).mono fun _ _ f=>BN (f:=sv) f h
theorem Abr(a b:Nat)(c:hE)(w:World)(g:Rd w a c)(h:Pr.Di b c=none):Calls Tryz.prog 245 #[A_ a,J_ b] w fun d f=>d=Am/\But a w f:=(Hw a b c w g).mono fun _ _ d=>Abp d h
theorem LHd.but(h:LHd a c w wr l f m n)(d:But g wr b)(j:a<=g)(p:g<c):LHd a c w b l f m n:=by have k:=h.lt;have i:=h.le;have o:=d.size;exact⟨(d.block c O_ K_).trans h.var,Hj h.szs d O_,Hj h.fst d O_,h.apart,Aq h.bel d j O_,i,O_⟩
theorem LHd.setOther(h:LHd a g w wr l f m n)(d:a<=c)(j:c<g)(b:Value):LHd a g w (wr.setCell (Q_ c i) b) l f m n:=h.but (Be c i wr b) d j
theorem Rd.setOther(h:Rd w a d)(b:a≠c)(f:Value):Rd (w.setCell (Q_ c i) f) a d:=(kS _ _ _ _ (by simpa using b)).trans h
theorem WG(w:World){y:Array Oper}{z:Oper}{A:Act}{K:Act->World->Prop}{Q:Exit->Act->World->Prop}{E:Prop}(C:z.guard=none)(j x:Operand)(D:z.op=Op.call {callee:=Callee.builtin Builtin.append,args:= #[j,x],argTypes:= #[25,25]})(g:Nat)(v:Value)(b:hF)(F:A.eval j=v)(G:w.ownsRow g 3 1 v b.length (Cl b))(d i:Nat)(H:A.eval x=L_ (P_ i) 1 1)(I:w.cell? (Q_ i 0)=some (J_ (d:Int)))(L:b.length+1<=1000000000)(J:g<=w.heap.size)(h:∀(a:Value) (c:World),c.ownsRow g 3 1 a (b.length+1) (Cl b++[J_ (d:Int)])->w.grownBy c v.ownBlock->(a.ownBlock=v.ownBlock\/∃f,w.heap.size<=f/\a.ownBlock=some f)->K (A.put z.dst a) c):if Region.wanted z (yielded y A.tmps)=true then Oper.wp Tryz.prog z A w K Q else E:=by
 have k:Region.wanted z (yielded y A.tmps)=true:=by simp[Region.wanted,C]
 rw[xD k];obtain⟨m,n,o,p,q⟩:=zB Rl;obtain⟨a,c,r,s,t,_,u⟩:=kY (P:=Tryz.prog) w g 25 z.type 3 m (J_ 0) 1 8 aK n o p q rfl Do v b.length (Cl b) G (Q_ i 0) 1 1 [J_ (d:Int)] rfl (fun l B f=>by
  match l,f with
  | 0,f=>simp at f;subst f;simpa[Addr.add]using I) (by intro B f;simp at f;subst f;rfl) (by unfold maxLen;omega) O_ J
 have l:K (A.put z.dst a) c:=h a c s t (u.imp_right fun e=>⟨w.heap.size,X_,e⟩);unfold Oper.wp;simp[execOp,D,resolve,invoke,builtin,F,H,r,Result.andThen];exact l
def Ah4(w:World)(o:Option (hF×List hE))(r:Ending)(w':World):Prop:=Below w.heap.size w w'/\((o=none/\r=Am)\/∃ss fs v,o=some (ss,Ag fs)/\r=R_ v/\GY w' v ss fs/\ss.length=fs.length/\fs.length<=4/\∀f∈fs,f.size<=12)
def EK(w:World)(b:Nat):Prop:=w.heap[b]?=some (C_ #[Z_,Z_] 233 (0,0))
theorem EK.cells{w:World}{a:Nat}(h:EK w a):w.cell? (Q_ a 0)=some Z_/\w.cell? (Q_ a 1)=some Z_/\w.frozen? (Q_ a 0)=false/\w.frozen? (Q_ a 1)=false:=by unfold EK at h;refine⟨?_,?_,?_,?_⟩<;>simp[World.cell?,World.frozen?,h]
theorem EK.but(h:EK w a)(d:But c w b)(f:a≠c):EK b a:=(d.block a ((xS.1 h).1) (by simpa using f)).trans h
theorem EK.below{B:Nat}(h:EK w a)(c:Below B w b)(d:a<B):EK b a:=(c.block a d).trans h
theorem MD(g:hE)(w:World):
  Calls Tryz.prog 214 #[B_ ⟨g.toArray⟩] w fun b o7=>Ah4 w (Pr.Jc g) b o7:=by
 go_in;go_wp2_with fail;have B:Hid (EK (w.alloc (C_ #[Z_,Z_] 233)) w.heap.size):=xK _ _;have e8:=Aa ((xA w.heap.size w).alloc X_ (C_ #[Z_,Z_] 233));have e9:w.heap.size<(w.alloc (C_ #[Z_,Z_] 233)).heap.size:=D_
 refine(Fg g _).mono ?_;rintro b d9 ⟨rfl,rfl⟩;generalize w.alloc (C_ #[Z_,Z_] 233)=u at*;have c4:=Aa (Sb u g);have c5:=Aa (e8.o.alloc O_ (C_ #[B_ ⟨g.toArray⟩] 298));have f0:=Aa (B.o.below ((xA u.heap.size u).alloc X_ (C_ #[B_ ⟨g.toArray⟩] 298)) e9);have k8:u.heap.size<(u.alloc (C_ #[B_ ⟨g.toArray⟩] 298)).heap.size:=D_;generalize u.alloc (C_ #[B_ ⟨g.toArray⟩] 298)=d9 at*;clear B e8
 cases V:Pr.Di 68 g with
 | none=>
  have b1:Hid (Pr.Jc g=none):=by show _=_;unfold Pr.Jc;rw[V];rfl
  have C:=Aa (Abr u.heap.size 68 g d9 c4.o V);clear V;go_wp2_with fail;refine C.o.mono ?_;rintro b s ⟨rfl,R⟩;have b2:=Aa (Aq c5.o R O_ O_);clear R;unfold Am;go_wp2_with fail;exact⟨rfl,b2.o,.inl ⟨b1.o,rfl⟩⟩
 | some fu=>
  obtain⟨f,q5⟩:=fu;have p0:f.length<=68/\68<=f.length:=by have:=(Pr.Er V).1;omega
  have b1:Hid (Pr.Jc g=(Pr.Di 3 f).bind fun a=>(Pr.Ee a.2).bind fun T=>if 4<T.1.toNat then none else(Pr.Ie T.1.toNat T.2).bind fun b=>if Pg.Az b.2 none=true then(if Pg.Fl b.1 b.2=f then some b else none)else none):=by show _=_;unfold Pr.Jc;rw[V];rfl
  have C:=Aa (Yq u.heap.size 68 g d9 c4.o V);clear V;go_wp2_with fail;refine C.o.mono ?_;rintro b s ⟨rfl,-,R⟩;have b2:=Aa (Aq c5.o R O_ O_);have f1:=Aa (f0.o.but R O_);have k9:=R.size;clear R C c4 f0 c5;go_wp2_with fail;refine(Fg f _).mono ?_;rintro b j4 ⟨rfl,rfl⟩;have f2:=Aa (Sb s f);have f3:=Aa (b2.o.alloc O_ (C_ #[B_ ⟨f.toArray⟩] 298));have f4:=Aa (f1.o.below ((xA s.heap.size s).alloc X_ (C_ #[B_ ⟨f.toArray⟩] 298)) O_);have l0:s.heap.size<(s.alloc (C_ #[B_ ⟨f.toArray⟩] 298)).heap.size:=D_;generalize s.alloc (C_ #[B_ ⟨f.toArray⟩] 298)=j4 at*;generalize s.heap.size=y at*;clear b2 f1;obtain⟨d1,m,b8⟩:∃d1 m,Pr.Di 3 f=some (d1,m):=⟨_,_,Pr.Mp O_⟩;have l1:m.length<=65/\65<=m.length:=by obtain⟨i1,d2⟩:=Pr.Er b8;have:f.length=d1.length+m.length:=(by rw[d2,xC]);omega
  have f5:Hid (Pr.Jc g=(Pr.Ee m).bind fun T=>if 4<T.1.toNat then none else(Pr.Ie T.1.toNat T.2).bind fun b=>if Pg.Az b.2 none=true then(if Pg.Fl b.1 b.2=f then some b else none)else none):=by show _=_;rw[b1.o,b8];rfl
  have C:=Aa (Yq y 3 f j4 f2.o b8);clear b8 b1;go_wp2_with fail;refine C.o.mono ?_;rintro b o2 ⟨rfl,j5,c2⟩;have f6:=Aa (Aq f3.o c2 O_ O_);have f7:=Aa (f4.o.but c2 O_);have l2:=c2.size;obtain⟨F,p,b9⟩:∃F p,Pr.Ee m=some (F,p):=by
   match m,l1 with
   | a::b,_=>exact⟨a,b,rfl⟩
  have p1:p.length<=64/\64<=p.length:=by have e:=Pr.Lf b9;have:m.length=p.length+1:=(by rw[e];rfl);omega
  have Z:Hid (Pr.Jc g=if 4<F.toNat then none else(Pr.Ie F.toNat p).bind fun b=>if Pg.Az b.2 none=true then(if Pg.Fl b.1 b.2=f then some b else none)else none):=by show _=_;rw[f5.o,b9];rfl
  have a0:=Aa (JE y m o2 j5 b9);have p2:F.toNat<256:=F.toNat_lt;clear b9 f5 c2 j5 C f3 f4 f2;go_wp2_with fail;refine a0.o.mono ?_;rintro b s4 ⟨rfl,j6,c3⟩;have c6:=Aa (Aq f6.o c3 O_ O_);have f8:=Aa (f7.o.but c3 O_);have b3:=Aa j6;have l3:=c3.size;generalize F.toNat=j at*;clear c3 j6 a0 f6 f7;by_cases k4:4<j
  ·rw[xD k4]at Z;have a1:decide ((j:Int)<=4)=false:=K_;go_wp2_with fail;refine(Bt _).mono ?_;rintro b q ⟨rfl,rfl⟩;unfold Am;go_wp2_with fail;exact⟨rfl,c6.o,.inl ⟨Z.o,rfl⟩⟩
  ·rw[xB k4]at Z;have a1:decide ((j:Int)<=4)=true:=K_;go_wp2_with fail;refine(Bm _).mono ?_;rintro b q ⟨rfl,rfl⟩;have f9:=Aa (IL w.heap.size w q c6.o O_);have g0:=Aa (b3.o.below ((xA q.heap.size q).alloc X_ (C_ #[Z_,Z_] 233)) b3.o.lt);have g1:=Aa (f8.o.below ((xA q.heap.size q).alloc X_ (C_ #[Z_,Z_] 233)) O_);have l4:=b3.o.lt;clear a1;go_wp2_with fail;generalize q.alloc (C_ #[Z_,Z_] 233)=t0 at*;have p3:y<q.heap.size/\w.heap.size<y:=O_;generalize q.heap.size=z at*;clear b3 c6 f8 e9 k8 k9 l0 l2 l3 l4
   go_loopw [23] (fun e6 wr=>∃(i:Nat) (l:hE) (d:hF) (c:hD) (i2 i3:Value),i<=j/\e6=J_ i/\l.length+15*i=64/\Rd wr y l/\LHd w.heap.size z w wr d c i2 i3/\EK wr w.heap.size/\d.length=i/\c.length=i/\(∀f∈c,f.size<=12)/\(Pr.Ie (j-i) l).map (fun b=>(d++b.1,Ag c++b.2))=Pr.Ie j p) (fun e6 _=>j-(intOf e6).toNat)
   case atStart=>exact⟨0,p,[],[],_,_,Y_,rfl,O_,g0.o,f9.o,g1.o,rfl,rfl,D_,by simp[Ag]⟩
   case round=>
    clear g0 f9 g1;obtain⟨i,l,d,c,i2,i3,q6,rfl,i4,i5,W,i6,i7,i8,i9,j0⟩:=hrel;have l5:=Aa i4;have l6:l.length<=64/\(i<j->19<=l.length):=O_;have g2:=Aa i5;have a2:=Aa W;have B:=Aa i6;have g3:=Aa i7;have g4:=Aa i8;have c7:=Aa i9;have c8:=Aa j0;have p4:=W.lt;have p5:d.length<=4/\c.length<=4:=O_;obtain⟨n6,n7,n8,n9⟩:=W.cells;obtain⟨G,H,rfl⟩:=Ad W.szs;obtain⟨I,J,rfl⟩:=W.fst.shape;clear i4 i5 W i6 i7 i8 i9 j0;by_cases s9:i<j
    ·obtain⟨c0,j1⟩:∃c0,j-i=c0+1:=⟨j-i-1,O_⟩;have l7:Hid (c0=j-(i+1)):=(by show _=_;omega);obtain⟨r,L,M⟩:∃r L,Pr.Gw l=some (r,L):=by
      unfold Pr.Gw;rw[Pr.Mp O_];exact⟨_,_,rfl⟩
     have g5:L.length+2=l.length:=(by unfold Pr.Gw at M;rw[Pr.Mp O_]at M;simp only[vY,xX,kL]at M;rw[<-M.2,xY];omega);obtain⟨N,X,c1⟩:∃N X,Pr.Ee L=some (N,X):=by
      match L,g5 with
      | a::b,_=>exact⟨a,b,rfl⟩
      | [],h=>simp at h;omega
     have l8:X.length+1=L.length:=(by rw[Pr.Lf c1];rfl);obtain⟨k,O,a7⟩:∃k O,Pr.Di 12 X=some (k,O):=⟨_,_,Pr.Mp O_⟩;have p6:k.length<=12/\12<=k.length:=(by have:=(Pr.Er a7).1;omega);have l9:O.length+15=l.length:=(by obtain⟨i1,d2⟩:=Pr.Er a7;have:X.length=k.length+O.length:=(by rw[d2,xC]);omega);have b4:Hid (Pr.Ie (j-i) l=if 12<N.toNat then none else(Pr.Ie c0 O).map fun b=>(r::b.1,k.take N.toNat::b.2)):=(by show _=_;rw[j1,Pr.Ie,M];simp only[xV];rw[c1];simp only[xV];rw[a7];rfl);have g6:=Aa (fun a9 b0=>TL y l a9 b0 M);have a0:=Aa (fun a9 b0=>JE y L a9 b0 c1);have g7:=Aa (fun a9 b0=>Yq y 12 X a9 b0 a7);have p7:N.toNat<256:=N.toNat_lt;have m0:Hid (O.length+15*(i+1)=64):=(by have:=l5.o;show _=_;omega);clear M c1 a7 j1 g5 l8 l9 l6;go_wp2_with fail
     go_region_law (first
      | (refine WG _ (by rfl) (.tmp 26) (.tmp 29) (by rfl) (z+1) (L_ G d.length H) d U_ a5.o.szs r Y.heap.size U_ m3.o O_ a5.o.lt ?_
         intro s6 j9 e4 k0 k1;obtain⟨d3,d4,rfl⟩:=Ad e4;have a3:=Aa (a5.o.apN e4 k0 k1);obtain⟨q7,i1,o0,o1⟩:=a5.o.mid a3.o.1;have g8:=Aa ((m1.o.below a3.o.1 O_).setOther (c:=z) (i:=0) O_ (L_ d3 (d.length+1) d4));have a4:=Aa ((m2.o.below a3.o.1 O_).but (Be z 0 _ (L_ d3 (d.length+1) d4)) O_);clear e4 k0 k1)
      | (go_simp
         refine(g6.o (World.drew wr) g2.o).mono ?_;rintro b Y ⟨rfl,e0,t⟩;have n:=Aa (a2.o.but (Im t) O_ O_);obtain⟨q8,q9,r0,r1⟩:=n.o.cells;have o:=(xA Y.heap.size Y).alloc X_ (C_ #[J_ (r:Int)] 3);have a5:=Aa (n.o.below o);have m1:=Aa (e0.below o e0.lt);have m2:=Aa ((B.o.but (Im t) O_).below o (by have p8:=(Im t).size;omega));have m3:Hid ((Y.alloc (C_ #[J_ (r:Int)] 3)).cell? (Q_ Y.heap.size 0)=some (J_ (r:Int))):=(by show _=_;simp);obtain⟨r2,r3,r4,r5⟩:=a5.o.cells;clear e0 t o))
     all_goals
      have g9:=Aa a3.o.2;clear a3 a2 g2 B;generalize j9.setCell (Q_ z 0) (L_ d3 (d.length+1) d4)=a8 at*;go_wp2_with fail;refine(a0.o a8 g8.o).mono ?_;rintro b o3 ⟨rfl,j7,e1⟩;have h1:=Aa (g9.o.but e1 O_ O_);have h2:=Aa (a4.o.but e1 O_);have h3:=Aa j7;clear j7 e1 g9 g8 a4 a0;generalize N.toNat=U at*;go_wp2_with fail;refine(g7.o o3 h3.o).mono ?_;rintro b s5 ⟨rfl,j8,e2⟩;have b5:=Aa (h1.o.but e2 O_ O_);have m4:=Aa (h2.o.but e2 O_);have h4:=Aa j8;have p9:=b5.o.lt;clear j8 e2 h1 h3 h2 g7 g6;have q0:=Ba k;by_cases k5:12<U
      ·rw[xD k5]at b4;have D:Hid (Pr.Jc g=none):=(by show _=_;rw[Z.o,<-c8.o,b4.o];rfl);have b6:=Aa b5.o.bel;have a1:decide (U<=k.length)=false:=xN O_;go_wp2_with fail;refine(Bt _).mono ?_;rintro b S ⟨rfl,rfl⟩;unfold Am;go_wp2_with fail;exact⟨rfl,b6.o,.inl ⟨D.o,rfl⟩⟩
      ·rw[xB k5]at b4;have a1:decide (U<=k.length)=true:=xQ O_;go_wp2_with fail;refine(Bm _).mono ?_;rintro b S ⟨rfl,rfl⟩;have q1:(0:Int)<=(U:Int):=O_;have q2:(U:Int)<=(k.length:Int):=O_;obtain⟨d5,d6,d7,d8⟩:=b5.o.cells;generalize k6:(⟨k.toArray⟩:hJ).extract 0 U=A at*;have m5:Hid (A.data.toList=k.take U):=(by show _=_;rw[<-k6,EG]);have m6:A.size<=12:=(by rw[<-k6,zM];omega);clear a1;have o:=((xA S.heap.size S).alloc X_ (C_ #[B_ A] 9)).drew;have a6:=Aa (b5.o.below o);have m7:=Aa (h4.o.below o h4.o.lt);have m8:=Aa (m4.o.below o O_);have m9:Hid (((S.alloc (C_ #[B_ A] 9)).drew).cell? (Q_ S.heap.size 0)=some (B_ A)):=Vx S _ _;obtain⟨-,r6,-,r7⟩:=a6.o.cells;clear o;go_wp2_with fail
       go_region_law (refine Vw _ (by rfl) (.tmp 43) (.tmp 47) (by rfl) (z+1) (L_ I c.length J) c U_ a6.o.fst A S.heap.size U_ m9.o O_ a6.o.lt ?_;intro s7 s8 e5 k2 k3;obtain⟨j2,j3,rfl⟩:=e5.shape;generalize o8:(c++[A]).length=k7 at*;clear o8;have b7:=Aa (a6.o.apF e5 k2 k3);obtain⟨r8,r9,s0,s1⟩:=a6.o.mid b7.o.1;have n0:=Aa ((m7.o.below b7.o.1 O_).setOther (c:=z) (i:=1) O_ (L_ j2 k7 j3));have n1:=Aa ((m8.o.below b7.o.1 O_).but (Be z 1 _ (L_ j2 k7 j3)) O_);clear e5 k2 k3)
       all_goals
        go_wp2_with fail
        go_roundw
        case rel=>
         refine⟨i+1,O,d++[r],c++[A],_,_,O_,W_,m0.o,n0.o,b7.o.2,n1.o,by rw[xC,g3.o];rfl,by rw[xC,g4.o];rfl,?_,?_⟩
         ·intro o5 o6;rcases xE.1 o6 with h|h
          ·exact c7.o o5 h
          ·rw[yR.1 h];exact m6
         ·rw[<-c8.o,b4.o,<-l7.o,AA,m5.o];simp only[vX];congr 1
          funext b
          simp
        case measure=>simp[intOf];omega
    ·have n2:Hid (Pr.Ie j p=some (d,Ag c)):=by
      show _=_;rw[<-c8.o,show j-i=0 by omega];simp[Pr.Ie]
     have h5:Hid (d.length=c.length):=(by show _=_;rw[g3.o,g4.o]);have c9:Hid (Pr.Jc g=if Pg.Az (Ag c) none=true then(if Pg.Fl d (Ag c)=f then some (d,Ag c)else none)else none):=(by show _=_;rw[Z.o,n2.o];rfl);have h6:=Aa (ownsRow.isRow a2.o.fst O_);go_wp2_with fail;refine(AC _ c _ h6.o).mono ?_;rintro b Y ⟨rfl,t⟩;have n:=Aa (a2.o.below t);have h7:=Aa (B.o.below t O_);obtain⟨d5,d6,d7,d8⟩:=n.o.cells;have q3:=n.o.lt;have b6:=Aa n.o.bel;clear t n6 n7 n8 n9 a2 B h6;generalize Pg.Az (Ag c) none=o9 at*
     cases o9
     ·have D:Hid (Pr.Jc g=none):=(by show _=_;rw[c9.o];rfl);go_wp2_with fail;refine(Bt _).mono ?_;rintro b o4 ⟨rfl,rfl⟩;unfold Am;go_wp2_with fail;exact⟨rfl,b6.o,.inl ⟨D.o,rfl⟩⟩
     ·have h8:=Aa (n.o.isLH O_ O_);go_wp2_with fail;refine(Bm _).mono ?_;rintro b o4 ⟨rfl,rfl⟩;go_wp2_with fail;refine(Tx _ d c _ h8.o h5.o O_ c7.o).mono ?_;rintro b j9 ⟨rfl,e3⟩;have d0:=Aa (n.o.below e3);have a4:=Aa (h7.o.below e3 O_);have n3:=Aa d0.o.bel;clear d5 d6 d7 d8;obtain⟨d5,d6,d7,d8⟩:=d0.o.cells;obtain⟨s2,s3,o0,o1⟩:=a4.o.cells;clear e3 n h7 h8 b6;by_cases e7:Pg.Fl d (Ag c)=f
      ·have D:Hid (Pr.Jc g=some (d,Ag c)):=(by show _=_;rw[c9.o];simp[e7]);have h9:=Aa ((d0.o.setOther (c:=w.heap.size) (i:=0) X_ O_ (L_ G d.length H)).setOther (c:=w.heap.size) (i:=1) X_ O_ (L_ I c.length J));have i0:=Aa (Ak (i:=1) (Ak (i:=0) a4.o (L_ G d.length H)) (L_ I c.length J));go_wp2_with fail;refine(Bm _).mono ?_;rintro b a8 ⟨rfl,rfl⟩;go_wp2_with fail;refine yS (v:=.agg #[L_ G d.length H,L_ I c.length J]) ?_ rfl ⟨h9.o.bel,.inr ⟨d,c,_,D.o,rfl,h9.o.isLH O_ O_,h5.o,O_,c7.o⟩⟩;have n4:((a8.setCell (Q_ w.heap.size 0) (L_ G d.length H)).setCell (Q_ w.heap.size 1) (L_ I c.length J)).cell? (Q_ w.heap.size 0)=some (L_ G d.length H):=(by unfold World.cell?;rw[i0.o];rfl);have n5:((a8.setCell (Q_ w.heap.size 0) (L_ G d.length H)).setCell (Q_ w.heap.size 1) (L_ I c.length J)).cell? (Q_ w.heap.size 1)=some (L_ I c.length J):=(by unfold World.cell?;rw[i0.o];rfl);simp[results,Tryz.results214,go_sem,n4,n5]
      ·have D:Hid (Pr.Jc g=none):=(by show _=_;rw[c9.o];simp[e7]);have q4:(Pg.Fl d (Ag c)==f)=false:=(by simpa using e7);go_wp2_with fail;refine(Bt _).mono ?_;rintro b a8 ⟨rfl,rfl⟩;unfold Am;go_wp2_with fail;exact⟨rfl,n3.o,.inl ⟨D.o,rfl⟩⟩
