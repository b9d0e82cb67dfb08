import Derived.Test.YtolgpnaoaodepaaGreatMathAm
import Derived.Deep.RegionLaw
namespace Go.Proofs.YtolgpnaoaodepaaGreat
open Go.RowKit
theorem len_size (t:ByteArray):t.data.toList.length=t.size:=by simp
theorem drop_data (t:ByteArray) (n:Nat):(t.extract n t.size).data.toList=t.data.toList.drop n:=by
 rw [Lib.extract_data,List.take_of_length_le (by rw [List.length_drop,len_size];exact Nat.le_refl _)]
theorem run_step (t:ByteArray) (n:Nat) (b:n=min t.size 128) (h:0 < t.size):Sq.runOf t.data.toList=UInt8.ofNat (n - 1)::(t.data.toList.take n++Sq.runOf (t.extract n t.size).data.toList):=by
 have a:=len_size t
 rw [drop_data]
 generalize t.data.toList=l at*
 rw [Sq.runOf_cons l (by intro e;rw [e] at a;simp at a;omega),a,←b]
 by_cases c:t.size≤128
 ·have e:n=t.size:=by omega
  rw [List.take_of_length_le (show l.length≤128 by omega),List.take_of_length_le (show l.length≤n by omega),List.drop_eq_nil_of_le (show l.length≤128 by omega),List.drop_eq_nil_of_le (show l.length≤n by omega)]
 ·have e:n=128:=by omega
  rw [e]
set_option maxHeartbeats 1000000 in
theorem run_any (B:Nat) (s:ByteArray) (v:Value) (l:List UInt8) (w:World) (m:Owns B w v l) (M:B≤w.heap.size) (J:l.length+2*s.size≤140737488355328):
  Calls Tryz.prog 203 #[v,.string s] w fun r w'=>∃D,r= .returned D∧Owns B w' D (l++Sq.runOf s.data.toList)∧Below B w w':=by
 go_enter Tryz.func203,Tryz.ntmps203
 go_wp2_with fail
 go_loopw [0,1] (fun u x wr=>∃(t:ByteArray) (k:List UInt8),x= .string t∧Owns B wr u k∧Below B w wr∧k.length+2*t.size≤140737488355328∧k++Sq.runOf t.data.toList=l++Sq.runOf s.data.toList) (fun _ x _=> match x with | .string t=> t.size | _=> 0)
 case atStart=> exact ⟨s,l,rfl,m,Below.refl _ _,J,rfl⟩
 case round=>
  obtain ⟨t,k,rfl,e,a,H,f⟩:=hrel
  have d:=hid f
  have b:=hid e
  clear f e
  have E:=a.size
  by_cases z:0 < t.size
  ·obtain ⟨n,K,C⟩:∃n:Nat,min (t.size:Int) 128=(n:Int)∧Hid (n=min t.size 128):=⟨min t.size 128,by omega,rfl⟩
   have F:1≤n∧n≤128∧n≤t.size:=by have:=C.out;omega
   have G:(0:Int)≤(n:Int) - 1∧(n:Int) - 1≤255:=by omega
   go_wp2_with (first
    | (at_builtin;refine wpAp1 wr rfl (.tmp 12) (.tmp 16) rfl B u0 k rfl b.out (UInt8.ofNat (n - 1)) ((n:Int) - 1) ?_ rfl (by omega) (by omega) ?_))
   ·simp;omega
   intro v1 I g h _
   have c:=a.trans (below_of_grown b.out (by omega) h)
   have o:=hid g
   have p:=hid c
   have A:=c.size
   clear g h b a c
   go_wp2_with (first
    | (at_builtin;refine wpApS I rfl (.tmp 18) (.tmp 21) rfl B v1 _ rfl o.out _ rfl ?_ ?_ ?_))
   ·simp [ByteArray.size_extract];omega
   ·omega
   intro v2 L i j
   have q:=hid i
   have y:=hid (p.out.trans j)
   clear i j
   go_wp2_with fail
   go_roundw
   case rel=>
    refine ⟨_,_,rfl,q.out,y.out,?_,?_⟩
    ·simp [ByteArray.size_extract];omega
    ·rw [←d.out,run_step t n C.out z];simp
   case measure=> simp [ByteArray.size_extract];omega
  ·go_wp2_with fail
   go_ret
   refine ⟨u0,rfl,?_,a⟩
   have:t.data.toList=[]:=List.length_eq_zero_iff.1 (by rw [len_size];omega)
   rw [←d.out,this,Sq.runOf_nil,List.append_nil]
   exact b.out
end Go.Proofs.YtolgpnaoaodepaaGreat
namespace Go.Proofs.YtolgpnaoaodepaaGreat
open Go.RowKit
theorem blen_zero (l:List UInt8) (a:Nat) (h:blen l a=0):(Sq.best l a).2=0:=by
 unfold blen at h
 by_cases e:(Sq.best l a).2=0
 ·exact e
 ·rw [if_neg e] at h;have:=Sq.best_len l a e;omega
theorem blen_pos (l:List UInt8) (a:Nat) (h:blen l a≠0):(Sq.best l a).2≠0∧blen l a=(Sq.best l a).1:=by
 unfold blen at*
 by_cases e:(Sq.best l a).2=0
 ·rw [if_pos e] at h;exact absurd rfl h
 ·exact ⟨e,if_neg e⟩
theorem blen_bd (l:List UInt8) (a:Nat) (c:a≤l.length):blen l a≤66∧a+blen l a≤l.length∧bfar l a≤255:=by
 have b:=(Sq.best_far l a).1
 unfold blen bfar
 by_cases e:(Sq.best l a).2=0
 ·rw [if_pos e];omega
 ·rw [if_neg e];have:=Sq.best_len l a e;omega
theorem part_single (l:List UInt8) (k a:Nat) (b:k≤a) (c:a < l.length):(l.drop k).take (a+1 - k)=(l.drop k).take (a - k)++[l[a]]:=by
 rw [show a+1 - k=(a - k)+1 by omega,List.take_succ_eq_append_getElem (by simp;omega)]
 simp [show k+(a - k)=a by omega]
set_option maxHeartbeats 1000000 in
theorem squeeze_any (s:ByteArray) (w:World) (V:s.size≤35184372088832):
  Calls Tryz.prog 146 #[.string s] w fun r w'=> r= .returned (.string ⟨(Sq.squeeze s.data.toList).toArray⟩)∧Below w.heap.size w w':=by
 have o:=hid (len_size s)
 go_enter Tryz.func146,Tryz.ntmps146
 go_wp2_with fail
 go_loopw [3,4,5] (fun u k i wr=>∃(b:List UInt8) (p a:Nat),p≤a∧a≤s.size∧k= .int .i64 p∧i= .int .i64 a∧Owns w.heap.size wr u b∧Below w.heap.size w wr∧b.length≤2*p∧b++Sq.rest s.data.toList a ((s.data.toList.drop p).take (a - p))=Sq.squeeze s.data.toList) (fun _ _ i _=> s.size - (intOf i).toNat)
 case atStart=> exact ⟨[],0,0,Nat.le_refl _,Nat.zero_le _,rfl,rfl,Owns.nil _ _,Below.refl _ _,by simp,by simp [Sq.squeeze]⟩
 case round=>
  obtain ⟨b,p,a,K,Q,rfl,rfl,m,g,z,A⟩:=hrel
  have q:=hid A
  have d:=hid m
  have e:=hid g
  have v:=g.size
  clear A m g
  by_cases t:a < s.size
  ·have F:=blen_bd s.data.toList a (by rw [o.out];omega)
   rw [o.out] at F
   go_wp2_with fail
   refine (longest_any s a _ (by omega) (by omega)).mono ?_
   rintro r R ⟨rfl,S,rfl⟩
   by_cases h0:blen s.data.toList a=0
   ·have E:=hid (blen_zero _ _ h0)
    go_wp2_with fail
    go_roundw
    case rel=>
     refine ⟨b,p,a+1,by omega,by omega,rfl,by go_num,d.out.drewN _,below_drewN e.out _,z,?_⟩
     rw [part_single _ _ _ K (by rw [o.out];exact t),←Sq.rest_single _ _ _ (by rw [o.out];exact t) E.out]
     exact q.out
    case measure=> simp [intOf];omega
   ·have E:=hid (blen_pos _ _ h0)
    have M:=hid (show (Sq.best s.data.toList a).2=bfar s.data.toList a from rfl)
    have N:=(Sq.best_len s.data.toList a (blen_pos _ _ h0).1).1
    rw [←(blen_pos _ _ h0).2] at N
    generalize blen s.data.toList a=n at*
    generalize bfar s.data.toList a=f at*
    have O:((n:Int)==0)=false:=by simpa using h0
    go_wp2_with fail
    refine (run_any w.heap.size (s.extract p a) u3 b _ (d.out.drewN _) (by simpa using v) (by simp [ByteArray.size_extract];omega)).mono ?_
    rintro r L ⟨v2,rfl,c,h⟩
    have x:=hid c
    have j:=hid ((below_drewN e.out _).trans h)
    have l:=j.out.size
    have G:=Sq.runOf_le _ (s.extract p a).data.toList (Nat.le_refl _)
    rw [len_size,ByteArray.size_extract] at G
    clear c h
    generalize D:Sq.runOf (s.extract p a).data.toList=U at*
    have H:=hid D
    clear D
    go_wp2_with (first
     | (at_builtin;refine wpAp2 L rfl (.tmp 28) (.tmp 34) rfl w.heap.size v2 _ rfl x.out (UInt8.ofNat (125+n)) (UInt8.ofNat f) _ _ ?_ ?_ rfl ?_ ?_ ?_))
    ·simp;omega
    ·simp;omega
    ·simp;omega
    ·exact l
    intro v3 T B C _
    have I:=hid B
    have J:=hid (j.out.trans (below_of_grown x.out l C))
    clear B C
    go_wp2_with fail
    go_roundw
    case rel=>
     refine ⟨_,a+n,a+n,Nat.le_refl _,by omega,by go_num,by go_num,I.out,J.out,by simp;omega,?_⟩
     rw [←q.out,Sq.rest_match _ _ _ (by rw [o.out];exact t) E.out.1,M.out,←E.out.2,←H.out,Lib.extract_data]
     simp
    case measure=> simp [intOf];omega
  ·go_wp2_with fail
   refine (run_any w.heap.size (s.extract p s.size) u3 b _ d.out v (by simp [ByteArray.size_extract];omega)).mono ?_
   rintro r L ⟨v2,rfl,c,h⟩
   have j:=hid (e.out.trans h)
   have y:Hid (b++Sq.runOf (s.extract p s.size).data.toList=Sq.squeeze s.data.toList):=by
    show _=_
    rw [←q.out,Sq.rest_end _ _ _ (by rw [o.out];omega),drop_data,List.take_of_length_le (by rw [List.length_drop,o.out];omega)]
   rw [y.out] at c
   have P:=c.str
   clear c h
   go_wp2_with fail
   go_ret
   exact ⟨rfl,j.out⟩
end Go.Proofs.YtolgpnaoaodepaaGreat
namespace Go.Proofs.YtolgpnaoaodepaaGreat
open Go.RowKit
def Apart (u v:Value):Prop:=∀k,u.ownBlock=some k→v.ownBlock≠some k
theorem grown_after_alloc {w w':World} {c:Obj} {r:Option Nat} (h:(w.alloc c).grownBy w' r):w.grownBy w' r:=
 ⟨h.os,h.tape,h.output,by have:=h.size;simp at this;omega,fun k a b=> (h.block k (by simp;omega) b).trans (Below.heap_alloc _ _ _ a)⟩
theorem Owns.shape_pos {B:Nat} {w:World} {v:Value} {l:List UInt8} (h:Owns B w v l) (f:0 < l.length):∃g a,v= .slice (some ⟨g,0,none⟩) l.length a∧B≤g∧g < w.heap.size:=by
 rcases h.2 with ⟨rfl,e⟩ | ⟨g,a,b,rfl,c,d,_⟩
 ·omega
 ·exact ⟨g,a,rfl,c,(Array.getElem?_eq_some_iff.1 d).1⟩
theorem Owns.cells {B:Nat} {w:World} {g n c:Nat} {l:List UInt8} (h:Owns B w (.slice (some ⟨g,0,none⟩) n c) l):∀j u,(Lib.byteCells l)[j]?=some u→w.cell? ((⟨g,0,none⟩:Addr).add j)=some u:=World.ownsRow.cells h rfl
theorem Apart.symm {u v:Value} (h:Apart u v):Apart v u:=fun k a e=> h k e a
theorem apart_nil (u:Value):Apart u (.slice none 0 0):=fun k _ e=> by simp [Value.ownBlock] at e
end Go.Proofs.YtolgpnaoaodepaaGreat
namespace Go.Proofs.YtolgpnaoaodepaaGreat
open Go.RowKit
theorem stepApS (w:World) {e:Array Oper} {o:Oper} {a:Act} {K:Act→World→Prop} {Q:Exit→Act→World→Prop} {E:Prop} (n:o.guard=none) (p x:Operand)
  (A:o.op=Op.call {callee:=Callee.builtin Builtin.append,args:= #[p,x],argTypes:= #[108,9]}) (B:Nat) (v:Value) (l:List UInt8) (C:a.eval p=v) (b:Owns B w v l)
  (s:ByteArray) (D:a.eval x= .string s) (F:l.length+s.size≤140737488355328) (q:B≤w.heap.size)
  (h:∀(c:Value) (w':World),Owns B w' c (l++s.data.toList)→Below B w w'→K (a.put o.dst c) w'):if Region.wanted o (yielded e a.tmps)=true then Oper.wp Tryz.prog o a w K Q else E:=by
 have r:Region.wanted o (yielded e a.tmps)=true:=by simp [Region.wanted,n]
 rw [if_pos r]
 obtain ⟨i,hi,f,g,j⟩:=info_parts info_u8
 obtain ⟨c,w',d,m,y,_⟩:=Lib.run_append_own_string w B 108 9 o.type 5 i Tryz.underlying108 Tryz.underlying9 hi f g j v l.length (Lib.byteCells l) b s (by unfold maxLen;omega) F q
 have t:Lib.byteCells (l++s.data.toList)=Lib.byteCells l++Lib.strCells s:=by rw [Lib.byteCells_append];rfl
 have u:K (a.put o.dst c) w':=by
  refine h c w' ?_ ((Below.refl B w).grown y q fun k z=> (World.ownsRow.lt b k z).1)
  unfold Owns
  rw [t,List.length_append,show s.data.toList.length=s.size by simp]
  exact m
 unfold Oper.wp
 simp [execOp,A,resolve,invoke,builtin,C,D,d,Result.andThen]
 exact u
end Go.Proofs.YtolgpnaoaodepaaGreat
