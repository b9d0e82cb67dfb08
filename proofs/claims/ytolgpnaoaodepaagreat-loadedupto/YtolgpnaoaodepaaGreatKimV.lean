/- THE STATEMENT: whatever raw numbers come in (of bulk at most 1048576 together), siltkeep's Loaded answers true, and each argument reads behind the call as it read before. No condition of ours stands in it. -/
import Derived.Test.YtolgpnaoaodepaaGreatKimSm
import Derived.Test.YtolgpnaoaodepaaGreatKimK
namespace Go.Proofs.YtolgpnaoaodepaaGreat
open Go.ChangeShapes Go.WideShapes Go.ChangeAt Go.RowKit Go.Deep
set_option maxRecDepth 100000 in
theorem Aa1 (H:Type) (enc:TypeId×Value->H) (W:World) (base:Nat) (args:Array Value) (F R:List (DataW H)) (c:List MemPlace)
  (a:∀(j:Nat) t v,Tryz.f8.params[j]?=some t->args[j]?=some v->Value.okWide Tryz.prog W .any base t v)
  (S:DataW.Whole enc Tryz.prog Tryz.f8.params.toList Rows.loadedSpec.vars false W args.toList F R c) (T:Rows.uptoSmall H (F++R)=true):
  Calls Tryz.prog 8 args W fun e W'=>∃v,e= .returned v/\Rows.loadedSpec.post enc Tryz.prog Tryz.f8 false true false false W args v W':=by
 have r:=S;obtain ⟨p,q,f,U,rfl,V,X⟩:=S;have G:DataW.TrodAll enc Tryz.prog W 0 (fun _=> true) true Tryz.f8.params.toList args.toList F p:=f;rw [Tryz.params8] at G a;obtain ⟨M,Y,Z,a1,p0,q0,z,rfl,rfl,h0,r0⟩:=trodAll_cons G;obtain ⟨v1,a3,d1,a4,p1,q1,rfl,rfl,rfl,N,r1⟩:=trodAll_cons r0;obtain ⟨v2,a5,d2,a6,p2,q2,rfl,rfl,rfl,O,r2⟩:=trodAll_cons r1;obtain ⟨rfl,rfl,rfl⟩:=trodAll_nil r2;obtain rfl:args= #[M,v1,v2]:=by cases args;simp_all
 obtain ⟨rfl,rfl⟩:=trodVars_none U;have I:=h0;have J:=N;have L:=O;have s:∀x∈p0,x.block < W.heap.size:=by obtain ⟨m,g⟩:=I;exact DataW.trod_lt m _ _ _ g
 have u:∀x∈p1,x.block < W.heap.size:=by obtain ⟨m,g⟩:=J;exact DataW.trod_lt m _ _ _ g
 have y:∀x∈p2,x.block < W.heap.size:=by obtain ⟨m,g⟩:=L;exact DataW.trod_lt m _ _ _ g
 clear f;simp only [List.append_nil] at T;have d:Rows.uptoBulkAll [Z,d1,d2]<=1048576:=of_decide_eq_true T;simp only [Rows.uptoBulkAll] at d;obtain ⟨n1,rfl,rfl,rfl,A⟩:=open_int Tryz.underlying3 (a 1 3 v1 rfl rfl) N;obtain ⟨a0,B,C,rfl⟩:=okWide_slice Tryz.underlying25 (a 0 25 M rfl rfl);obtain ⟨a2,i,k,rfl⟩:=okWide_slice Tryz.underlying25 (a 2 25 v2 rfl rfl);obtain ⟨b1,b2⟩:=Aa0 A;obtain ⟨l,hI,-⟩:∃l,Ge W (.slice a0 B C) l/\l.length<=1048576:=by
  obtain ⟨n,D⟩:=h0;exact Ajb D (by omega)
 obtain ⟨o,hM,hl⟩:∃l,Ge W (.slice a2 i k) l/\l.length<=1048576:=by
  obtain ⟨n,D⟩:=O;exact Ajb D (by omega)
 refine (Ag9 _ l n1 _ o W hI hM hl b1 b2).mono fun e W' ⟨he,b⟩=> ?_
 subst he;exact ⟨_,rfl,_,_,_,[],_,[],r,trodAll_mk1 (shut_bool Tryz.underlying4 _),(trodAll_cons_mk (Below.trod laidOut (by kernel_rfl) (of_decide_eq_true (by kernel_rfl)) I b s) (trodAll_cons_mk (Below.trod laidOut (by kernel_rfl) (of_decide_eq_true (by kernel_rfl)) J b u) (trodAll_cons_mk (Below.trod laidOut (by kernel_rfl) (of_decide_eq_true (by kernel_rfl)) L b y) trodAll_mk0))),rfl,b.frame _,fun h=> by cases h⟩
set_option maxRecDepth 100000 in
theorem Adi (d:Os) (a:d.Started) (H:Type) (enc:TypeId×Value->H) (F:Stop.Interp):
  ReturnsInHanded {} Tryz.checked d 8 .any ((Rows.OpenSpec.upto Rows.loadedSpec).pre6 enc Tryz.prog Tryz.f8 Rows.loadedUptoRow.domain false) (((Rows.OpenSpec.upto Rows.loadedSpec).at F).post enc Tryz.prog Tryz.f8 false true false false):=by
 refine returnsInHanded_of_cond (C:=Tryz.checked) (s:=Rows.OpenSpec.upto Rows.loadedSpec) (k:=Rows.uptoSmall) rfl own a (by kernel_rfl) Tryz.func8
  (OpenSpec.witness (enc:=enc) (C:=Tryz.checked) (s:=Rows.OpenSpec.upto Rows.loadedSpec) (k:=Rows.uptoSmall) rfl false ⟨#[],#[.slice none 0 0,.int .i64 0,.slice none 0 0],[]⟩ 8 (by kernel_rfl) (by kernel_rfl) (by kernel_rfl)
   (x:=([.nil,.lit (.int .i64 0),.nil],[],[])) (by kernel_rfl) rfl (by kernel_rfl)) ?_
 intro W base args f g b c i _ j _;exact Aa1 H enc W base args f g b c i j
theorem loaded_upto:Rows.LoadedUptoSaid:=
 OpenClaim.holds_of_cond 8 Tryz.f8 rfl rfl rfl rfl rfl rfl rfl ⟨rfl,rfl,rfl,rfl,rfl⟩ rfl rfl rfl rfl rfl (by kernel_rfl) Tryz.func8 (by kernel_rfl)
  (of_decide_eq_true (by kernel_rfl)) (by unfold Func.isWrapper;first | (rw [if_pos (by decide+kernel)];kernel_rfl) | (rw [if_neg (by decide+kernel)];exact ⟨rfl,rfl⟩))
  (fun b a H enc _ F=> Adi b a H enc F)
#print axioms loaded_upto
end Go.Proofs.YtolgpnaoaodepaaGreat
