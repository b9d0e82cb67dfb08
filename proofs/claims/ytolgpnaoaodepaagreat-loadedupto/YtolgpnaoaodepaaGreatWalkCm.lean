import Derived.Test.YtolgpnaoaodepaaGreatMathAm
import Derived.Deep.RegionLaw
namespace Go.Proofs.YtolgpnaoaodepaaGreat
open Go.RowKit
theorem len_size (t:ByteArray):t.data.toList.length=t.size:=by simp
theorem Jc (t:ByteArray) (n:Nat):(t.extract n t.size).data.toList=t.data.toList.drop n:=by
 rw [Lib.extract_data,List.take_of_length_le (by rw [List.length_drop,len_size];exact Nat.le_refl _)]
theorem Ala (t:ByteArray) (n:Nat) (b:n=min t.size 128) (h:0 < t.size):Sq.Hn t.data.toList=UInt8.ofNat (n - 1)::(t.data.toList.take n++Sq.Hn (t.extract n t.size).data.toList):=by
 have a:=len_size t;rw [Jc];generalize t.data.toList=l at*;rw [Sq.Po l (by intro e;rw [e] at a;simp at a;omega),a,<-b];by_cases c:t.size<=128
 ·have e:n=t.size:=by omega
  rw [List.take_of_length_le (show l.length<=128 by omega),List.take_of_length_le (show l.length<=n by omega),List.drop_eq_nil_of_le (show l.length<=128 by omega),List.drop_eq_nil_of_le (show l.length<=n by omega)]
 ·have e:n=128:=by omega
  rw [e]
set_option maxHeartbeats 1000000 in
theorem Aia (B:Nat) (s:ByteArray) (v:Value) (l:List UInt8) (w:World) (p:Bh B w v l) (S:B<=w.heap.size) (N:l.length+2*s.size<=140737488355328):
  Calls Tryz.prog 203 #[v,.string s] w fun r w'=>∃G,r= .returned G/\Bh B w' G (l++Sq.Hn s.data.toList)/\Below B w w':=by
 go_enter Tryz.func203,Tryz.ntmps203;go_wp2_with fail
 go_loopw [0,1] (fun u x wr=>∃(t:ByteArray) (k:List UInt8),x= .string t/\Bh B wr u k/\Below B w wr/\k.length+2*t.size<=140737488355328/\k++Sq.Hn t.data.toList=l++Sq.Hn s.data.toList) (fun _ x _=> match x with | .string t=> t.size | _=> 0)
 case atStart=> exact ⟨s,l,rfl,p,Below.refl _ _,N,rfl⟩
 case round=>
  obtain ⟨t,k,rfl,f,a,L,g⟩:=hrel;have d:=hid g;have b:=hid f;clear g f;have H:=a.size;by_cases C:0 < t.size
  ·obtain ⟨n,O,F⟩:∃n:Nat,min (t.size:Int) 128=(n:Int)/\Hid (n=min t.size 128):=⟨min t.size 128,by omega,rfl⟩;have I:1<=n/\n<=128/\n<=t.size:=(by have:=F.out;omega);have J:(0:Int)<=(n:Int) - 1/\(n:Int) - 1<=255:=(by omega);go_wp2_with (first
    | (at_builtin;refine Aat wr rfl (.tmp 12) (.tmp 16) rfl B u0 k rfl b.out (UInt8.ofNat (n - 1)) ((n:Int) - 1) ?_ rfl (by omega) (by omega) ?_))
   ·simp;omega
   intro v1 M i j _;have c:=a.trans (Jk b.out (by omega) j);have q:=hid i;have y:=hid c;have D:=c.size;clear i j b a c;go_wp2_with (first
    | (at_builtin;refine Aqp M rfl (.tmp 18) (.tmp 21) rfl B v1 _ rfl q.out _ rfl ?_ ?_ ?_))
   ·simp [ByteArray.size_extract];omega
   ·omega
   intro v2 R m o;have z:=hid m;have A:=hid (y.out.trans o);clear m o;go_wp2_with fail
   go_roundw
   case rel=>
    refine ⟨_,_,rfl,z.out,A.out,?_,?_⟩
    ·simp [ByteArray.size_extract];omega
    ·rw [<-d.out,Ala t n F.out C];simp
   case measure=> simp [ByteArray.size_extract];omega
  ·go_wp2_with fail;go_ret;refine ⟨u0,rfl,?_,a⟩;have:t.data.toList=[]:=List.length_eq_zero_iff.1 (by rw [len_size];omega);rw [<-d.out,this,Sq.La,List.append_nil];exact b.out
theorem Ajc (l:List UInt8) (a:Nat) (h:Pq l a=0):(Sq.Dq l a).2=0:=by
 unfold Pq at h;by_cases e:(Sq.Dq l a).2=0
 ·exact e
 ·rw [if_neg e] at h;have:=Sq.Kz l a e;omega
theorem Wm (l:List UInt8) (a:Nat) (h:Pq l a≠0):(Sq.Dq l a).2≠0/\Pq l a=(Sq.Dq l a).1:=by
 unfold Pq at*;by_cases e:(Sq.Dq l a).2=0
 ·rw [if_pos e] at h;exact absurd rfl h
 ·exact ⟨e,if_neg e⟩
theorem Aoi (l:List UInt8) (a:Nat) (c:a<=l.length):Pq l a<=66/\a+Pq l a<=l.length/\Ac9 l a<=255:=by
 have b:=(Sq.Wh l a).1;unfold Pq Ac9;by_cases e:(Sq.Dq l a).2=0
 ·rw [if_pos e];omega
 ·rw [if_neg e];have:=Sq.Kz l a e;omega
theorem Adn (l:List UInt8) (k a:Nat) (b:k<=a) (c:a < l.length):(l.drop k).take (a+1 - k)=(l.drop k).take (a - k)++[l[a]]:=by
 rw [show a+1 - k=(a - k)+1 by omega,List.take_succ_eq_append_getElem (by simp;omega)];simp [show k+(a - k)=a by omega]
set_option maxHeartbeats 1000000 in
theorem Ud (s:ByteArray) (w:World) (hs:s.size<=35184372088832):
  Calls Tryz.prog 146 #[.string s] w fun r w'=> r= .returned (.string ⟨(Sq.Ca s.data.toList).toArray⟩)/\Below w.heap.size w w':=by
 have t:=hid (len_size s);go_enter Tryz.func146,Tryz.ntmps146;go_wp2_with fail
 go_loopw [3,4,5] (fun u k i wr=>∃(b:List UInt8) (p a:Nat),p<=a/\a<=s.size/\k= .int .i64 p/\i= .int .i64 a/\Bh w.heap.size wr u b/\Below w.heap.size w wr/\b.length<=2*p/\b++Sq.rest s.data.toList a ((s.data.toList.drop p).take (a - p))=Sq.Ca s.data.toList) (fun _ _ i _=> s.size - (intOf i).toNat)
 case atStart=> exact ⟨[],0,0,Nat.le_refl _,Nat.zero_le _,rfl,rfl,Bh.nil _ _,Below.refl _ _,by simp,by simp [Sq.Ca]⟩
 case round=>
  obtain ⟨b,p,a,S,Y,rfl,rfl,q,j,D,F⟩:=hrel;have y:=hid F;have d:=hid q;have g:=hid j;have A:=j.size;clear F q j;by_cases z:a < s.size
  ·have L:=Aoi s.data.toList a (by rw [t.out];omega);rw [t.out] at L;go_wp2_with fail;refine (Adm s a _ (by omega) (by omega)).mono ?_;rintro r Z ⟨rfl,q1,rfl⟩;by_cases h0:Pq s.data.toList a=0
   ·have J:=hid (Ajc _ _ h0);go_wp2_with fail
    go_roundw
    case rel=>
     refine ⟨b,p,a+1,by omega,by omega,rfl,by go_num,d.out.drewN _,Am g.out _,D,?_⟩;rw [Adn _ _ _ S (by rw [t.out];exact z),<-Sq.Uc _ _ _ (by rw [t.out];exact z) J.out];exact y.out
    case measure=> simp [intOf];omega
   ·have J:=hid (Wm _ _ h0);have U:=hid (show (Sq.Dq s.data.toList a).2=Ac9 s.data.toList a from rfl);have V:=(Sq.Kz s.data.toList a (Wm _ _ h0).1).1;rw [<-(Wm _ _ h0).2] at V;generalize Pq s.data.toList a=n at*;generalize Ac9 s.data.toList a=f at*;have W:((n:Int)==0)=false:=(by simpa using h0);go_wp2_with fail;refine (Aia w.heap.size (s.extract p a) u3 b _ (d.out.drewN _) (by simpa using A) (by simp [ByteArray.size_extract];omega)).mono ?_;rintro r T ⟨v2,rfl,c,l⟩;have B:=hid c;have m:=hid ((Am g.out _).trans l);have o:=m.out.size;have M:=Sq.Qs _ (s.extract p a).data.toList (Nat.le_refl _);rw [len_size,ByteArray.size_extract] at M;clear c l;generalize I:Sq.Hn (s.extract p a).data.toList=ru at*;have N:=hid I;clear I;go_wp2_with (first
     | (at_builtin;refine Aps T rfl (.tmp 28) (.tmp 34) rfl w.heap.size v2 _ rfl B.out (UInt8.ofNat (125+n)) (UInt8.ofNat f) _ _ ?_ ?_ rfl ?_ ?_ ?_))
    ·simp;omega
    ·simp;omega
    ·simp;omega
    ·exact o
    intro v3 w3 G H _;have O:=hid G;have R:=hid (m.out.trans (Jk B.out o H));clear G H;go_wp2_with fail
    go_roundw
    case rel=>
     refine ⟨_,a+n,a+n,Nat.le_refl _,by omega,by go_num,by go_num,O.out,R.out,by simp;omega,?_⟩;rw [<-y.out,Sq.Wj _ _ _ (by rw [t.out];exact z) J.out.1,U.out,<-J.out.2,<-N.out,Lib.extract_data];simp
    case measure=> simp [intOf];omega
  ·go_wp2_with fail;refine (Aia w.heap.size (s.extract p s.size) u3 b _ d.out A (by simp [ByteArray.size_extract];omega)).mono ?_;rintro r T ⟨v2,rfl,c,l⟩;have m:=hid (g.out.trans l);have C:Hid (b++Sq.Hn (s.extract p s.size).data.toList=Sq.Ca s.data.toList):=by
    show _=_;rw [<-y.out,Sq.Adl _ _ _ (by rw [t.out];omega),Jc,List.take_of_length_le (by rw [List.length_drop,t.out];omega)]
   rw [C.out] at c;have X:=c.str;clear c l;go_wp2_with fail;go_ret;exact ⟨rfl,m.out⟩
def Ir (u v:Value):Prop:=∀k,u.ownBlock=some k->v.ownBlock≠some k
theorem Fp {w w':World} {c:Obj} {r:Option Nat} (h:(w.alloc c).grownBy w' r):w.grownBy w' r:=
 ⟨h.os,h.tape,h.output,by have:=h.size;simp at this;omega,fun k a b=> (h.block k (by simp;omega) b).trans (Below.heap_alloc _ _ _ a)⟩
theorem Bh.shape_pos {B:Nat} {w:World} {v:Value} {l:List UInt8} (h:Bh B w v l) (i:0 < l.length):∃g a,v= .slice (some ⟨g,0,none⟩) l.length a/\B<=g/\g < w.heap.size:=by
 rcases h.2 with ⟨rfl,f⟩ | ⟨g,a,b,rfl,c,d,_⟩
 ·omega
 ·exact ⟨g,a,rfl,c,(Array.getElem?_eq_some_iff.1 d).1⟩
theorem Bh.cells {B:Nat} {w:World} {g n c:Nat} {l:List UInt8} (h:Bh B w (.slice (some ⟨g,0,none⟩) n c) l):∀j u,(Lib.byteCells l)[j]?=some u->w.cell? ((⟨g,0,none⟩:Addr).add j)=some u:=World.ownsRow.cells h rfl
theorem Ir.symm {u v:Value} (h:Ir u v):Ir v u:=fun k a e=> h k e a
theorem Ajd (u:Value):Ir u (.slice none 0 0):=fun k _ e=> by simp [Value.ownBlock] at e
theorem Aoj (w:World) {f:Array Oper} {o:Oper} {a:Act} {K:Act->World->Prop} {Q:Exit->Act->World->Prop} {E:Prop} (p:o.guard=none) (q x:Operand)
  (C:o.op=Op.call {callee:=Callee.builtin Builtin.append,args:= #[q,x],argTypes:= #[108,9]}) (B:Nat) (v:Value) (l:List UInt8) (D:a.eval q=v) (b:Bh B w v l)
  (s:ByteArray) (F:a.eval x= .string s) (G:l.length+s.size<=140737488355328) (r:B<=w.heap.size)
  (h:∀(c:Value) (w':World),Bh B w' c (l++s.data.toList)->Below B w w'->K (a.put o.dst c) w'):if Region.wanted o (yielded f a.tmps)=true then Oper.wp Tryz.prog o a w K Q else E:=by
 have t:Region.wanted o (yielded f a.tmps)=true:=by simp [Region.wanted,p]
 rw [if_pos t];obtain ⟨i,hi,g,j,m⟩:=info_parts Iz;obtain ⟨c,w',d,n,z,_⟩:=Lib.run_append_own_string w B 108 9 o.type 5 i Tryz.underlying108 Tryz.underlying9 hi g j m v l.length (Lib.byteCells l) b s (by unfold maxLen;omega) G r;have u:Lib.byteCells (l++s.data.toList)=Lib.byteCells l++Lib.strCells s:=by rw [Lib.byteCells_append];rfl
 have y:K (a.put o.dst c) w':=by
  refine h c w' ?_ ((Below.refl B w).grown z r fun k A=> (World.ownsRow.lt b k A).1);unfold Bh;rw [u,List.length_append,show s.data.toList.length=s.size by simp];exact n
 unfold Oper.wp;simp [execOp,C,resolve,invoke,builtin,D,F,d,Result.andThen];exact y
end Go.Proofs.YtolgpnaoaodepaaGreat
