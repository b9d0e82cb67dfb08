import Derived.Test.YtolgpnaoaodepaaGreatTreEm
import Derived.BigQuiet
import Derived.Deep.DeepCutAuto
import Derived.Test.YtolgpnaoaodepaaGreatAidBm
import Derived.Test.YtolgpnaoaodepaaGreatSilBm
import Derived.Test.YtolgpnaoaodepaaGreatMathAm
import Derived.Test.YtolgpnaoaodepaaGreatWalkCm
namespace Go.Proofs.YtolgpnaoaodepaaGreat
open Go.RowKit
theorem at_mid {α:Type} {l A D:List α} {x:α} (e:l=A++x::D) (h:A.length < l.length):l[A.length]'h=x:=by
 subst e;simp
theorem cut_at {il:List (ByteArray×ByteArray)} {key:ByteArray} {j:Nat} (f:∀x∈il.take j,x.1.data.toList < key.data.toList) (g:j≤il.length) (c:∀h:j < il.length,¬(il[j]'h).1.data.toList < key.data.toList):cutA il key=il.take j∧cutC il key=il.drop j:=by
 unfold cutA cutC
 have e:il=il.take j++il.drop j:=(List.take_append_drop j il).symm
 have a:∀x∈il.take j,decide (x.1.data.toList < key.data.toList)=true:=fun x d=> decide_eq_true (f x d)
 have b:(il.drop j).takeWhile (fun x=> decide (x.1.data.toList < key.data.toList))=[]∧(il.drop j).dropWhile (fun x=> decide (x.1.data.toList < key.data.toList))=il.drop j:=by
  by_cases h:j < il.length
  ·rw [List.drop_eq_getElem_cons h]
   exact ⟨List.takeWhile_cons_of_neg (by rw [decide_eq_true_eq];exact c h),List.dropWhile_cons_of_neg (by rw [decide_eq_true_eq];exact c h)⟩
  ·rw [List.drop_of_length_le (by omega)];simp
 constructor
 ·conv=> lhs;rw [e]
  rw [List.takeWhile_append_of_pos a,b.1,List.append_nil]
 ·conv=> lhs;rw [e]
  rw [List.dropWhile_append_of_pos a,b.2]
end Go.Proofs.YtolgpnaoaodepaaGreat
namespace Go.Proofs.YtolgpnaoaodepaaGreat
open Go.RowKit
theorem OwnsI.pre {w:World} {a:Option Addr} {n c:Nat} {A C:List (ByteArray×ByteArray)} (h:OwnsI 0 w (.slice a n c) (A++C)):OwnsI 0 w (.slice a A.length c) A:=by
 rcases h.2 with ⟨e,j⟩ | ⟨g,k,b,e,l,m,o,p,d,f⟩
 ·simp only [Value.slice.injEq] at e
  obtain ⟨rfl,-,rfl⟩:=e
  have i:A=[]:=List.eq_nil_of_length_eq_zero (by rw [List.length_append] at j;omega)
  subst i
  exact World.ownsRow_nil _ _ _ _
 ·simp only [Value.slice.injEq] at e
  obtain ⟨rfl,-,rfl⟩:=e
  refine ⟨icells_len2 A,.inr ⟨g,c,b,rfl,l,m,?_,p,d,?_⟩⟩
  ·rw [List.length_append] at o;omega
  ·have:=congrArg (List.take (A.length*2)) f
   rw [List.take_take,List.length_append,Nat.min_eq_left (by omega),icells_append,List.take_left' (by rw [icells_len2])] at this
   exact this
theorem OwnsI.rest {w:World} {g a:Nat} {il:List (ByteArray×ByteArray)} (h:OwnsI 0 w (.slice (some ⟨g,0,none⟩) il.length a) il) (i:Nat) (hi:i≤il.length):∀j u,(icells (il.drop i))[j]?=some u→w.cell? ((⟨g,i*2,none⟩:Addr).add j)=some u:=fun j u d=> by
 have h0:=h.cells rfl
 have e:icells il=icells (il.take i)++icells (il.drop i):=by rw [←icells_append,List.take_append_drop]
 have c:(icells il)[i*2+j]?=some u:=by
  rw [e,List.getElem?_append_right (by rw [icells_len2,List.length_take];omega),icells_len2,List.length_take,Nat.min_eq_left hi]
  rw [show i*2+j - i*2=j by omega];exact d
 have b:=h0 (i*2+j) u c
 rw [off_add] at b ⊢
 simpa using b
def newVal (il:List (ByteArray×ByteArray)) (k:Int) (key x:ByteArray):Tr.Key:=if headIs (cutC il key) key∧k=3 then Tr.last16 ((headVal (cutC il key) key).getD []++x.data.toList) else x.data.toList
theorem headVal_no {C:List (ByteArray×ByteArray)} {key:ByteArray} (h:headIs C key=false):headVal C key=none:=by
 cases C with
 | nil=> rfl
 | cons y D=> exact if_neg (of_decide_eq_false h)
theorem make_list {il:List (ByteArray×ByteArray)} (e:Tr.Rising (plain il)) (k:Int) (key x:ByteArray) (f:x.size≤16) (g:k=1∨k=2∨k=3):
  Tr.leaf1 (plain il) (chP k key x)=plain (cutA il key)++((if k=2 then [] else [(key.data.toList,newVal il k key x)])++plain (if headIs (cutC il key) key then (cutC il key).drop 1 else cutC il key)):=by
 have c:=look_cut (cut_parted il key e) e
 unfold Tr.leaf1
 show Tr.putK (plain il) key.data.toList (Tr.after (Tr.look (plain il) key.data.toList) (chP k key x))=_
 rw [c]
 have d:∀s,s=headVal (cutC il key) key→((Tr.after s (chP k key x)).map fun v=> (key.data.toList,v)).toList=if k=2 then [] else [(key.data.toList,newVal il k key x)]:=by
  rintro s rfl
  unfold Tr.after newVal
  show (Option.map _ (if k=2 then none else if k=3 then some (Tr.last16 ((headVal (cutC il key) key).getD []++x.data.toList)) else some x.data.toList)).toList=_
  rcases g with rfl | rfl | rfl
  ·simp
  ·simp
  ·cases a:headIs (cutC il key) key with
   | true=> simp
   | false=>
    rw [headVal_no a]
    simp only [Option.getD_none,List.nil_append]
    rw [Tr.last16_short (by rw [len_size];exact f)]
    simp
 cases a:headIs (cutC il key) key with
 | false=> rw [put_no rfl rfl a,d _ rfl];rfl
 | true=>
  cases b:cutC il key with
  | nil=> rw [b] at a;cases a
  | cons y D=>
   rw [b] at a
   rw [←b,put_yes rfl b (of_decide_eq_true a),d _ rfl,b];rfl
end Go.Proofs.YtolgpnaoaodepaaGreat
namespace Go.Proofs.YtolgpnaoaodepaaGreat
open Go.RowKit
end Go.Proofs.YtolgpnaoaodepaaGreat
namespace Go.Proofs.YtolgpnaoaodepaaGreat
open Go.RowKit
end Go.Proofs.YtolgpnaoaodepaaGreat
