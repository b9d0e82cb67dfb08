/- THE STATEMENT: whatever raw numbers come in (of bulk at most 1048576 together), siltkeep's Imaged answers true, and each argument reads behind the call as it read before. No condition of ours stands in it. -/
import Derived.Test.YtolgpnaoaodepaaGreatKimRm
import Derived.Test.YtolgpnaoaodepaaGreatKimK
namespace Go.Proofs.YtolgpnaoaodepaaGreat
open Go.ChangeShapes Go.WideShapes Go.ChangeAt Go.RowKit Go.Deep
set_option maxRecDepth 100000 in
theorem imagedContract (H:Type) (enc:TypeId×Value→H) (W:World) (base:Nat) (args:Array Value) (u F:List (DataW H)) (b:List MemPlace)
  (a:∀(j:Nat) t v,Tryz.f7.params[j]?=some t→args[j]?=some v→Value.okWide Tryz.prog W .any base t v)
  (G:DataW.Whole enc Tryz.prog Tryz.f7.params.toList Rows.imagedSpec.vars false W args.toList u F b) (I:Rows.uptoSmall H (u++F)=true):
  Calls Tryz.prog 7 args W fun e W'=>∃v,e= .returned v∧Rows.imagedSpec.post enc Tryz.prog Tryz.f7 false true false false W args v W':=by
 have g:=G
 obtain ⟨p,q,f,J,rfl,L,M⟩:=G
 have y:DataW.TrodAll enc Tryz.prog W 0 (fun _=> true) true Tryz.f7.params.toList args.toList u p:=f
 rw [Tryz.params7] at y a
 obtain ⟨B,N,O,R,S,q0,n,rfl,rfl,h0,T⟩:=trodAll_cons y
 obtain ⟨v1,U,V,X,Y,q1,rfl,rfl,rfl,C,Z⟩:=trodAll_cons T
 obtain ⟨rfl,rfl,rfl⟩:=trodAll_nil Z
 obtain rfl:args= #[B,v1]:=by cases args;simp_all
 obtain ⟨rfl,rfl⟩:=trodVars_none J
 have z:=h0
 have A:=C
 have i:∀x∈S,x.block < W.heap.size:=by obtain ⟨m,o⟩:=z;exact DataW.trod_lt m _ _ _ o
 have k:∀x∈Y,x.block < W.heap.size:=by obtain ⟨m,o⟩:=A;exact DataW.trod_lt m _ _ _ o
 clear f
 simp only [List.append_nil] at I
 have c:Rows.uptoBulkAll [O,V]≤1048576:=of_decide_eq_true I
 simp only [Rows.uptoBulkAll] at c
 obtain ⟨n1,rfl,rfl,rfl,-⟩:=open_int Tryz.underlying3 (a 1 3 v1 rfl rfl) C
 obtain ⟨a0,r,s,rfl⟩:=okWide_slice Tryz.underlying25 (a 0 25 B rfl rfl)
 obtain ⟨l,hI,hl⟩:∃l,IsInts W (.slice a0 r s) l∧l.length≤1048576:=by
  obtain ⟨D,hf⟩:=h0
  exact ints_in hf (by omega)
 refine (imaged_any _ l n1 W hI hl).mono fun e W' ⟨he,d⟩=> ?_
 subst he
 exact ⟨_,rfl,_,_,_,[],_,[],g,trodAll_mk1 (shut_bool Tryz.underlying4 _),(trodAll_cons_mk (Below.trod laidOut (by kernel_rfl) (of_decide_eq_true (by kernel_rfl)) z d i) (trodAll_cons_mk (Below.trod laidOut (by kernel_rfl) (of_decide_eq_true (by kernel_rfl)) A d k) trodAll_mk0)),rfl,d.frame _,fun h=> by cases h⟩
set_option maxRecDepth 100000 in
theorem imagedLifted (d:Os) (a:d.Started) (H:Type) (enc:TypeId×Value→H) (F:Stop.Interp):
  ReturnsInHanded {} Tryz.checked d 7 .any ((Rows.OpenSpec.upto Rows.imagedSpec).pre6 enc Tryz.prog Tryz.f7 Rows.imagedUptoRow.domain false) (((Rows.OpenSpec.upto Rows.imagedSpec).at F).post enc Tryz.prog Tryz.f7 false true false false):=by
 refine returnsInHanded_of_cond (C:=Tryz.checked) (s:=Rows.OpenSpec.upto Rows.imagedSpec) (k:=Rows.uptoSmall) rfl own a (by kernel_rfl) Tryz.func7
  (OpenSpec.witness (enc:=enc) (C:=Tryz.checked) (s:=Rows.OpenSpec.upto Rows.imagedSpec) (k:=Rows.uptoSmall) rfl false ⟨#[],#[.slice none 0 0,.int .i64 0],[]⟩ 8 (by kernel_rfl) (by kernel_rfl) (by kernel_rfl)
   (x:=([.nil,.lit (.int .i64 0)],[],[])) (by kernel_rfl) rfl (by kernel_rfl)) ?_
 intro W base args f g b c i _ j _
 exact imagedContract H enc W base args f g b c i j
theorem imaged_upto:Rows.ImagedUptoSaid:=
 OpenClaim.holds_of_cond 7 Tryz.f7 rfl rfl rfl rfl rfl rfl rfl ⟨rfl,rfl,rfl,rfl,rfl⟩ rfl rfl rfl rfl rfl (by kernel_rfl) Tryz.func7 (by kernel_rfl)
  (of_decide_eq_true (by kernel_rfl)) (by unfold Func.isWrapper;first | (rw [if_pos (by decide+kernel)];kernel_rfl) | (rw [if_neg (by decide+kernel)];exact ⟨rfl,rfl⟩))
  (fun b a H enc _ F=> imagedLifted b a H enc F)
#print axioms imaged_upto
end Go.Proofs.YtolgpnaoaodepaaGreat
