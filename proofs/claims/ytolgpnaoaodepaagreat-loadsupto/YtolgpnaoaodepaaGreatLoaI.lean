/- THE STATEMENT: whatever script comes in (of bulk at most 1048576), siltlaw's Loads answers true, and the script reads behind the call as it read before. No condition of ours stands in it. -/
import Derived.Test.YtolgpnaoaodepaaGreatLoaGm
set_option maxRecDepth 100000
namespace Go.Proofs.YtolgpnaoaodepaaGreat
open Go.ChangeShapes Go.WideShapes Go.ChangeAt Go.RowKit Go.Deep
theorem IA(c:Type)(d:TypeId×Value->c)(a:World)(J:Nat)(b:Array Value)(f p:List (DataW c))(L:List MemPlace)(q:∀(g:Nat) i v,Tryz.f6.params[g]?=some i->b[g]?=some v->Value.okWide Tryz.prog a .any J i v)(r:DataW.Whole d Tryz.prog Tryz.f6.params.toList Rows.loadsSpec.vars false a b.toList f p L)(s:Rows.uptoSmall c (f++p)=true):
  Calls Tryz.prog 6 b a fun e o=>∃v,e=R_ v/\Rows.loadsSpec.post d Tryz.prog Tryz.f6 false true false false a b v o:=by
 have t:=r;obtain⟨A,M,j,B,rfl,N,O⟩:=r;have g:DataW.TrodAll d Tryz.prog a 0 (fun _=>true) true Tryz.f6.params.toList b.toList f A:=j;rw[Tryz.params6]at g q;obtain⟨k,R,C,S,D,T,U,rfl,rfl,h0,F⟩:=trodAll_cons g;obtain⟨rfl,rfl,rfl⟩:=trodAll_nil F;obtain rfl:b= #[k]:=by cases b;simp_all
 obtain⟨rfl,rfl⟩:=trodVars_none B;obtain⟨l,m,n,rfl⟩:=okWide_slice cI (q 0 22 k rfl rfl);have i:=h0;have u:∀x∈D,x.block<a.heap.size:=by obtain⟨G,H⟩:=i;exact DataW.trod_lt G _ _ _ H
 clear j;simp only[yC]at s;have y:Rows.uptoBulkAll [C]<=1048576:=jZ s;simp only[Rows.uptoBulkAll]at y;obtain⟨V,I⟩:=h0;have z:To a l m n:=VF (by simpa[Value.cells]using I) O_;refine(Aal l m n a z).mono fun e o ⟨o,j⟩=> ?_
 subst o;exact⟨_,rfl,_,_,_,[],_,[],t,trodAll_mk1 (shut_bool Tryz.underlying4 _),(trodAll_cons_mk (Below.trod laidOut S_ (jZ S_) i j u) trodAll_mk0),rfl,j.frame _,fun h=>by cases h⟩
theorem RZ(b:Os)(o:b.Started)(c:Type)(a:TypeId×Value->c)(p:Stop.Interp):
  ReturnsInHanded {} Tryz.checked b 6 .any ((Rows.OpenSpec.upto Rows.loadsSpec).pre6 a Tryz.prog Tryz.f6 Rows.loadsUptoRow.domain false) (((Rows.OpenSpec.upto Rows.loadsSpec).at p).post a Tryz.prog Tryz.f6 false true false false):=by
 refine returnsInHanded_of_cond (C:=Tryz.checked) (s:=Rows.OpenSpec.upto Rows.loadsSpec) (k:=Rows.uptoSmall) rfl own o S_ Tryz.func6
  (OpenSpec.witness (enc:=a) (C:=Tryz.checked) (s:=Rows.OpenSpec.upto Rows.loadsSpec) (k:=Rows.uptoSmall) rfl false ⟨#[],#[Z_],[]⟩ 8 S_ S_ S_
   (x:=([.nil],[],[])) S_ rfl S_) ?_
 intro d f g i j k l m _ n _;exact IA c a d f g i j k l m n
theorem loads_upto:Rows.LoadsUptoSaid:=
 OpenClaim.holds_of_cond 6 Tryz.f6 rfl rfl rfl rfl rfl rfl rfl ⟨rfl,rfl,rfl,rfl,rfl⟩ rfl rfl rfl rfl rfl S_ Tryz.func6 S_
  (jZ S_) (by unfold Func.isWrapper;first|(rw[xD (by decide+kernel)];kernel_rfl)|(rw[xB (by decide+kernel)];exact⟨rfl,rfl⟩))
  (fun a b c d _ f=>RZ a b c d f)
#print axioms loads_upto
