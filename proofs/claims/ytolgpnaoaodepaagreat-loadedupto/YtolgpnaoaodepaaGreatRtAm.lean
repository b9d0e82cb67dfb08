import Derived.Test.YtolgpnaoaodepaaGreatAidBm
namespace Go.Proofs.YtolgpnaoaodepaaGreat
open Go.RowKit
theorem Aql {α:Type} {l A D:List α} {x:α} (e:l=A++x::D) (h:A.length < l.length):l[A.length]'h=x:=by
 subst e;simp
theorem Aqm {il:List (ByteArray×ByteArray)} {key:ByteArray} {j:Nat} (f:∀x∈il.take j,x.1.data.toList < key.data.toList) (g:j<=il.length) (c:∀h:j < il.length,¬(il[j]'h).1.data.toList < key.data.toList):Fw il key=il.take j/\Cv il key=il.drop j:=by
 unfold Fw Cv;have e:il=il.take j++il.drop j:=(List.take_append_drop j il).symm;have a:∀x∈il.take j,decide (x.1.data.toList < key.data.toList)=true:=fun x d=> decide_eq_true (f x d)
 have b:(il.drop j).takeWhile (fun x=> decide (x.1.data.toList < key.data.toList))=[]/\(il.drop j).dropWhile (fun x=> decide (x.1.data.toList < key.data.toList))=il.drop j:=by
  by_cases h:j < il.length
  ·rw [List.drop_eq_getElem_cons h];exact ⟨List.takeWhile_cons_of_neg (by rw [decide_eq_true_eq];exact c h),List.dropWhile_cons_of_neg (by rw [decide_eq_true_eq];exact c h)⟩
  ·rw [List.drop_of_length_le (by omega)];simp
 constructor
 ·conv=> lhs;rw [e]
  rw [List.takeWhile_append_of_pos a,b.1,List.append_nil]
 ·conv=> lhs;rw [e]
  rw [List.dropWhile_append_of_pos a,b.2]
theorem Ak.pre {w:World} {a:Option Addr} {n c:Nat} {A C:List (ByteArray×ByteArray)} (h:Ak 0 w (.slice a n c) (A++C)):Ak 0 w (.slice a A.length c) A:=by
 rcases h.2 with ⟨e,j⟩ | ⟨g,k,b,e,l,m,o,p,d,f⟩
 ·simp only [Value.slice.injEq] at e;obtain ⟨rfl,-,rfl⟩:=e;have i:A=[]:=List.eq_nil_of_length_eq_zero (by rw [List.length_append] at j;omega);subst i;exact World.ownsRow_nil _ _ _ _
 ·simp only [Value.slice.injEq] at e;obtain ⟨rfl,-,rfl⟩:=e;refine ⟨Bf A,.inr ⟨g,c,b,rfl,l,m,?_,p,d,?_⟩⟩
  ·rw [List.length_append] at o;omega
  ·have:=congrArg (List.take (A.length*2)) f;rw [List.take_take,List.length_append,Nat.min_eq_left (by omega),Cj,List.take_left' (by rw [Bf])] at this;exact this
theorem Ak.rest {w:World} {g a:Nat} {il:List (ByteArray×ByteArray)} (h:Ak 0 w (.slice (some ⟨g,0,none⟩) il.length a) il) (i:Nat) (hi:i<=il.length):∀j u,(icells (il.drop i))[j]?=some u->w.cell? ((⟨g,i*2,none⟩:Addr).add j)=some u:=fun j u d=> by
 have h0:=h.cells rfl;have e:icells il=icells (il.take i)++icells (il.drop i):=by rw [<-Cj,List.take_append_drop]
 have c:(icells il)[i*2+j]?=some u:=by
  rw [e,List.getElem?_append_right (by rw [Bf,List.length_take];omega),Bf,List.length_take,Nat.min_eq_left hi];rw [show i*2+j - i*2=j by omega];exact d
 have b:=h0 (i*2+j) u c;rw [Cw] at b ⊢;simpa using b
def Kd (il:List (ByteArray×ByteArray)) (k:Int) (key x:ByteArray):Tr.Key:=if Cx (Cv il key) key/\k=3 then Tr.Gq ((Fr (Cv il key) key).getD []++x.data.toList) else x.data.toList
theorem Ai3 {C:List (ByteArray×ByteArray)} {key:ByteArray} (h:Cx C key=false):Fr C key=none:=by
 cases C with
 | nil=> rfl
 | cons y D=> exact if_neg (of_decide_eq_false h)
theorem Aku {il:List (ByteArray×ByteArray)} (f:Tr.Bi (plain il)) (k:Int) (key x:ByteArray) (g:x.size<=16) (i:k=1\/k=2\/k=3):
  Tr.Ik (plain il) (chP k key x)=plain (Fw il key)++((if k=2 then [] else [(key.data.toList,Kd il k key x)])++plain (if Cx (Cv il key) key then (Cv il key).drop 1 else Cv il key)):=by
 have c:=Xd (Lt il key f) f;unfold Tr.Ik;show Tr.Lf (plain il) key.data.toList (Tr.Di (Tr.Bj (plain il) key.data.toList) (chP k key x))=_;rw [c];have d:∀s,s=Fr (Cv il key) key->((Tr.Di s (chP k key x)).map fun v=> (key.data.toList,v)).toList=if k=2 then [] else [(key.data.toList,Kd il k key x)]:=by
  rintro s rfl;unfold Tr.Di Kd;show (Option.map _ (if k=2 then none else if k=3 then some (Tr.Gq ((Fr (Cv il key) key).getD []++x.data.toList)) else some x.data.toList)).toList=_;rcases i with rfl | rfl | rfl
  ·simp
  ·simp
  ·cases a:Cx (Cv il key) key with
   | true=> simp
   | false=>
    rw [Ai3 a];simp only [Option.getD_none,List.nil_append];rw [Tr.Lp (by rw [len_size];exact g)];simp
 cases a:Cx (Cv il key) key with
 | false=> rw [Alw rfl rfl a,d _ rfl];rfl
 | true=>
  cases b:Cv il key with
  | nil=> rw [b] at a;cases a
  | cons y D=>
   rw [b] at a;rw [<-b,Aii rfl b (of_decide_eq_true a),d _ rfl,b];rfl
end Go.Proofs.YtolgpnaoaodepaaGreat
