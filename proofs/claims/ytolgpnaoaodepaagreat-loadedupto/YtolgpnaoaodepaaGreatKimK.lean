import Derived.Test.YtolgpnaoaodepaaGreatKimRm
import Derived.ProofKit
import Derived.OpenShut
import Derived.ShutString
import Derived.ChangeOld
import Derived.JoinedCond
import Derived.ChangeMaps5
import Derived.Deep.Slices
import Derived.ChangeSlices
namespace Go.Proofs.YtolgpnaoaodepaaGreat
open Go.ChangeShapes Go.WideShapes Go.ChangeAt Go.RowKit Go.Deep
theorem own:ownKnob Tryz.prog.godebug=none:=by kernel_rfl
theorem laidOut:laidOutB Tryz.prog=true:=by kernel_rfl
theorem Aoc:Tryz.prog.cellsOf 3=1:=by kernel_rfl
theorem Aa0 {k:Int} (h:(Lit.int .i64 k).wf=true): -9223372036854775808<=k/\k<=9223372036854775807:=by
 have a:(decide ((-9223372036854775808:Int)<=k)&&decide (k<=9223372036854775807))=true:=h;simpa using a
theorem Apr {W:World} {a:Addr} {c l:Nat} {j:List Int} (q:c<=j.length) (r:c<=1000000000000000) (d:∀i,i < j.length->W.cell? (a.add i)=some (.int .i64 (j.getD i 0))) (o:∀n∈j,(Lit.int .i64 n).wf=true):Ge W (.slice (some a) c l) (j.take c):=by
 have f:(j.take c).length=c:=by rw [List.length_take];omega
 refine ⟨some a,l,by rw [f],by rw [f];omega,fun x p=> Aa0 (o x (List.mem_of_mem_take p)),?_⟩;by_cases h0:c=0
 ·left;rw [f];exact h0
 ·right;obtain ⟨b,m,k⟩:=a;have g:k=none:=by simpa [Addr.add] using World.cell?_spot (d 0 (by omega))
  subst g;refine ⟨b,m,rfl,?_,fun i hi=> ?_⟩
  ·have:=d 0 (by omega);rw [Cw,Nat.add_zero] at this;unfold World.cell? at this;simp only at this;rcases Nat.lt_or_ge b W.heap.size with h | h
   ·exact h
   ·rw [Array.getElem?_eq_none h] at this;simp at this
  ·rw [f] at hi;have:=d i (by omega);rw [Cw] at this;rw [this,List.getD_eq_getElem?_getD,List.getElem?_eq_getElem (by omega),List.getElem_take];rfl
theorem Aga {H:Type} (f:Int->DataW H) (b:∀z,Rows.uptoBulk (f z)=1):∀a:List Int,Rows.uptoBulkAll (a.map f)=a.length
 | []=> rfl
 | z::a=> by
  rw [List.map_cons,Rows.uptoBulkAll,b,Aga f b a,List.length_cons];omega
theorem Ac7 {H:Type} (a:List Int):Rows.uptoBulkAll (lits (H:=H) .i64 a)=a.length:=Aga _ (fun _=> rfl) a
theorem Ajb {H:Type} {enc:TypeId×Value->H} {W:World} {o:Option Addr} {f g i:Nat} {d:DataW H} {p:List MemPlace} (h:DataW.trod enc Tryz.prog W 0 (fun _=> true) true i 25 (Value.slice o f g).cells.toList=some (d,p)) (r:Rows.uptoBulk d<=1048576):∃l,Ge W (.slice o f g) l/\l.length<=1048576:=by
 rcases open_ints Tryz.underlying25 Tryz.underlying3 Aoc h with ⟨b,j⟩ | ⟨a,m,n,s,b,_,t,u,q,j,c,k⟩
 ·simp [Value.cells] at b;obtain ⟨rfl,rfl,rfl⟩:=b;exact ⟨[],⟨none,0,rfl,by simp,by simp,.inl rfl⟩,by simp⟩
 ·simp [Value.cells] at b;obtain ⟨rfl,rfl,rfl⟩:=b;simp only [Prod.mk.injEq] at j;obtain ⟨rfl,-⟩:=j;simp only [if_true] at q;rw [Rows.uptoBulk,Ac7,Ac7,List.length_take] at r;exact ⟨_,Apr (by omega) (by omega) c k,by rw [List.length_take];omega⟩
end Go.Proofs.YtolgpnaoaodepaaGreat
