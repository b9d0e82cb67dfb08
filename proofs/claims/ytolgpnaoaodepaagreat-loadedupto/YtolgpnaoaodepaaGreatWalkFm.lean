import Derived.Test.YtolgpnaoaodepaaGreatWalkCm
import Derived.Defers
import Derived.Recover
import Derived.Laws.Pointers
namespace Go.Proofs.YtolgpnaoaodepaaGreat
open Go.RowKit
theorem Bh.cellAt {B:Nat} {w:World} {g n c:Nat} {l:List UInt8} (h:Bh B w (.slice (some ⟨g,0,none⟩) n c) l) (j:Nat) (b:UInt8) (a:l[j]?=some b):w.cell? ⟨g,j,none⟩=some (.int .u8 (b.toNat:Int)):=by
 have:=h.cells j (.int .u8 (b.toNat:Int)) (by simp [Lib.byteCells,a]);by_cases h0:j=0
 ·subst h0;simpa [Addr.add] using this
 ·simpa [Addr.add,h0] using this
def Ae:Ending:= .panicked [{v:= .iface 148 (.agg #[]),recovered:=false}]
set_option maxHeartbeats 400000 in
theorem Aw (w:World):Calls Tryz.prog 73 #[.bool true] w fun r w'=> r= .returned (.tuple #[])/\w'=w:=by
 go_enter Tryz.func73,Tryz.ntmps73
 go_wp2
 go_end0;exact ⟨rfl,rfl⟩
set_option maxHeartbeats 400000 in
theorem Ay (w:World):Calls Tryz.prog 73 #[.bool false] w fun r w'=> r=Ae/\w'=w:=by
 go_enter Tryz.func73,Tryz.ntmps73
 go_wp2
 simp [bodyPost,Ae]
set_option maxHeartbeats 1000000 in
theorem Alb (s:ByteArray) (v:Value) (w:World) (h0:0 < s.size) (c:s.size < (s[0]'h0).toNat+2):
  Calls Tryz.prog 253 #[v,.string s] w fun r w'=> r=Ae/\w'=w:=by
 have a:((s[0]'h0).toNat:Int) < 256:=by have:=(s[0]'h0).toNat_lt;omega
 go_enter Tryz.func253,Tryz.ntmps253;go_wp2_with fail;rw [show decide ((((s[0]'h0).toNat:Nat):Int)+2<=(s.size:Int))=false by simp;omega];refine (Ay _).mono ?_;rintro r b ⟨rfl,rfl⟩;unfold Ae;go_wp2_with fail;simp [bodyPost,Ae]
set_option maxHeartbeats 1000000 in
theorem Aje (B:Nat) (s:ByteArray) (v:Value) (l:List UInt8) (w:World) (t:s.size<=35184372088832) (h0:0 < s.size) (u:(s[0]'h0).toNat+2<=s.size) (b:Bh B w v l) (k:B<=w.heap.size) (y:l.length<=70368744177664):
  Calls Tryz.prog 253 #[v,.string s] w fun r w'=>∃g,r= .returned (.tuple #[g,.string (s.extract ((s[0]'h0).toNat+2) s.size)])/\Bh B w' g (l++(s.data.toList.drop 1).take ((s[0]'h0).toNat+1))/\Below B w w':=by
 have m:((s[0]'h0).toNat:Int) < 256:=by have:=(s[0]'h0).toNat_lt;omega
 have a:=hid b;clear b;go_enter Tryz.func253,Tryz.ntmps253;go_wp2_with fail;rw [show decide ((((s[0]'h0).toNat:Nat):Int)+2<=(s.size:Int))=true by simp;omega];refine (Aw _).mono ?_;rintro r j ⟨rfl,rfl⟩;generalize f:(s[0]'h0).toNat=n at*;have d:=hid f;clear f;have o:(1:Int)<=(n:Int)+2:=by omega
 have p:(n:Int)+2<=(s.size:Int):=by omega
 have q:(0:Int)<=(n:Int)+2:=by omega
 go_wp2_with fail
 go_region_law (refine Aoj _ (by rfl) (.tmp 16) (.tmp 19) (by rfl) B v l (by simp [Act.eval,Act.put]) (by first | exact a.out | exact a.out.drew) (s.extract 1 ((n:Int)+2).toNat) (by simp [Act.eval,Act.put]) (by rw [ByteArray.size_extract];omega) (by first | exact k | exact (show B<=(World.drew j).heap.size from k)) ?_;intro g w' c i)
 all_goals go_wp2_with fail
 go_ret2;refine ⟨g,?_,?_,(Below.refl B j).drew.trans i⟩
 ·rw [d.out];rfl
 ·rw [d.out];rw [Lib.extract_data] at c;rw [show ((n:Int)+2).toNat - 1=n+1 by omega] at c;exact c
set_option maxHeartbeats 1000000 in
theorem Ado (s:ByteArray) (v:Value) (w:World) (h:s.size < 2):
  Calls Tryz.prog 254 #[v,.string s] w fun r w'=> r=Ae/\w'=w:=by
 go_enter Tryz.func254,Tryz.ntmps254;go_wp2_with fail;rw [show decide ((2:Int)<=(s.size:Int))=false by simp;omega];refine (Ay _).mono ?_;rintro r a ⟨rfl,rfl⟩;unfold Ae;go_wp2_with fail;simp [bodyPost,Ae]
set_option maxHeartbeats 1000000 in
theorem Alc (B:Nat) (s:ByteArray) (v:Value) (l:List UInt8) (w:World) (a:Bh B w v l) (b:1 < s.size) (j:128<=(s[0]'(by omega)).toNat) (C:¬((s[0]'(by omega)).toNat<=191/\1<=(s[1]'b).toNat/\(s[1]'b).toNat<=l.length)):
  Calls Tryz.prog 254 #[v,.string s] w fun r w'=> r=Ae/\∃q,w'=w.drewN q:=by
 obtain ⟨z,vc,rfl⟩:=a.shape;have k:=(s[0]'(by omega)).toNat_lt;have m:=(s[1]'b).toNat_lt;go_enter Tryz.func254,Tryz.ntmps254;go_wp2_with fail;rw [show decide ((2:Int)<=(s.size:Int))=true by simp;omega];refine (Aw _).mono ?_;rintro r c ⟨rfl,rfl⟩;have o:(0:Int) < (s.size:Int):=by omega
 have p:0 < s.size:=by omega
 have t:(1:Int) < (s.size:Int):=by omega
 go_wp2_with fail;go_quiet (fail);generalize f:(s[0]'(by omega)).toNat=n at*;generalize g:(s[1]'b).toNat=d at*;clear f g;go_wp2_with fail;by_cases i:n<=191
 ·rw [show decide ((n:Int) - 125<=66)=true by simp;omega];refine (Aw _).mono ?_;rintro r A ⟨rfl,rfl⟩;by_cases y:1<=d
  ·go_wp2_with fail;rw [show decide (d<=l.length)=false by simp;omega];refine (Ay _).mono ?_;rintro r c ⟨rfl,rfl⟩;unfold Ae;go_wp2_with fail;simp [bodyPost,Ae];exact ⟨nq,rfl⟩
  ·have u:decide ((1:Int)<=(d:Int))=false:=(by simp;omega);go_wp2_with fail;refine (Ay _).mono ?_;rintro r c ⟨rfl,rfl⟩;unfold Ae;go_wp2_with fail;simp [bodyPost,Ae];exact ⟨nq,rfl⟩
 ·rw [show decide ((n:Int) - 125<=66)=false by simp;omega];refine (Ay _).mono ?_;rintro r c ⟨rfl,rfl⟩;unfold Ae;go_wp2_with fail;simp [bodyPost,Ae];exact ⟨nq,rfl⟩
set_option maxHeartbeats 2000000 in
theorem Ajf (B:Nat) (s:ByteArray) (v:Value) (l:List UInt8) (w:World) (hs:s.size<=35184372088832) (a:Bh B w v l) (hB:B<=w.heap.size) (hl:l.length<=70368744177664) (D:1 < s.size) (U:128<=(s[0]'(by omega)).toNat) (hn:(s[0]'(by omega)).toNat<=191/\1<=(s[1]'D).toNat/\(s[1]'D).toNat<=l.length):
  Calls Tryz.prog 254 #[v,.string s] w fun r w'=>∃T,r= .returned (.tuple #[T,.string (s.extract 2 s.size)])/\Bh B w' T (Sq.Ho l (s[1]'D).toNat ((s[0]'(by omega)).toNat - 125))/\Below B w w':=by
 obtain ⟨va,vc,rfl⟩:=a.shape;have p:=hid a;clear a;have V:=(s[0]'(by omega)).toNat_lt;have W:=(s[1]'D).toNat_lt;go_enter Tryz.func254,Tryz.ntmps254;go_wp2_with fail;rw [show decide ((2:Int)<=(s.size:Int))=true by simp;omega];refine (Aw _).mono ?_;rintro r w1 ⟨rfl,rfl⟩;have X:(0:Int) < (s.size:Int):=by omega
 have Y:0 < s.size:=by omega
 have Z:(1:Int) < (s.size:Int):=by omega
 go_wp2_with fail;go_quiet (fail);generalize z:(s[0]'(by omega)).toNat=n at*;generalize A:(s[1]'D).toNat=d at*;have F:=hid z;have G:=hid A;clear z A;go_wp2_with fail;rw [show decide ((n:Int) - 125<=66)=true by simp;omega];refine (Aw _).mono ?_;rintro r S ⟨rfl,rfl⟩;go_wp2_with fail;refine (Aw _).mono ?_;rintro r S ⟨rfl,rfl⟩;go_wp2_with fail
 go_loopw [0,32] (fun u i wr=>∃k:Nat,k+125<=n/\i= .int .i64 k/\Bh B wr u (Sq.Ho l d k)/\Below B w1 wr) (fun _ i _=> n - (intOf i).toNat)
 case atStart=> exact ⟨0,by omega,rfl,p.out.drewN _,Am (Below.refl _ _) _⟩
 case round=>
  obtain ⟨k,hk,rfl,R,j⟩:=hrel;have q:=hid (Sq.Oj k l d);have t:=hid R;have O:=hid j;have a0:=j.size;clear R j;by_cases a6:k+125 < n
  ·have HS:=hid (Sq.Pp k l d);generalize N:Sq.Ho l d k=f at*;have a1:d<=f.length/\f.length<=140737488355000/\1<=f.length:=(by have:=q.out;omega);obtain ⟨b,j⟩:∃b,f[f.length - d]?=some b:=⟨f[f.length - d]'(by omega),List.getElem?_eq_getElem _⟩;obtain ⟨g,c,hv,a5,o⟩:=t.out.shape_pos (by omega);subst hv;have H:=t.out.cellAt (f.length - d) b j;have I:=hid j;clear j N;generalize C:f.length=m at*;have J:=hid C;clear C;have a2:(0:Int)<=(m:Int) - (d:Int):=(by omega);have a3:(m:Int) - (d:Int) < (m:Int):=(by omega);go_wp2_with (first
    | (at_builtin;refine Aat wr rfl (.tmp 34) (.tmp 42) rfl B (.slice (some ⟨g,0,none⟩) m c) f rfl t.out b _ rfl rfl (by rw [J.out];omega) (by omega) ?_))
   intro v2 S y o _;have L:=hid y;have M:=hid (O.out.trans (Jk t.out (by omega) o));clear y o;go_wp2_with fail
   go_roundw
   case rel=>
    refine ⟨k+1,by omega,by go_num,?_,M.out⟩;rw [HS.out,List.getD_eq_getElem?_getD,I.out];exact L.out
   case measure=> simp [intOf];omega
  ·go_wp2_with fail;have a4:(2:Int)<=(s.size:Int):=(by omega);go_quiet (fail);go_wp2_with fail;go_ret2;refine ⟨_,rfl,?_,Am O.out _⟩;rw [F.out,G.out,show n - 125=k by omega];exact t.out.drewN _
theorem Ah (s:ByteArray):s.toList=s.data.toList:=by
 have h:=ByteArray.toList_mk s.data.toList;simpa using h
def Eo (l:List UInt8):Ending:=match Sq.Bm l [] with
 | some t=> .returned (.string ⟨t.toArray⟩)
 | none=> Ae
theorem Ok (t:ByteArray) (h:0 < t.size):t.data.toList=t[0]::t.data.toList.drop 1:=by
 have a:0 < t.data.toList.length:=by rw [len_size];exact h
 have:=List.drop_eq_getElem_cons a;rw [List.drop_zero] at this;exact this
theorem Wo (t:ByteArray) (h:1 < t.size):t.data.toList=t[0]::t[1]::t.data.toList.drop 2:=by
 rw [Ok t (by omega)];have a:1 < t.data.toList.length:=by rw [len_size];exact h
 have:=List.drop_eq_getElem_cons a;rw [this];rfl
theorem Aca {s t:ByteArray} {o:List UInt8} (h0:0 < t.size) (h:Sq.Bm t.data.toList o=Sq.Bm s.data.toList []) (a:(t[0]'h0).toNat < 128) (b:(t[0]'h0).toNat+2<=t.size):
  Sq.Bm (t.extract ((t[0]'h0).toNat+2) t.size).data.toList (o++(t.data.toList.drop 1).take ((t[0]'h0).toNat+1))=Sq.Bm s.data.toList []:=by
 rw [<-h,Jc]
 conv=> rhs;rw [Ok t h0]
 rw [Sq.Wl _ _ _ a (by rw [List.length_drop,len_size];omega),List.drop_drop,show 1+((t[0]'h0).toNat+1)=(t[0]'h0).toNat+2 by omega]
theorem Vo {s t:ByteArray} {o:List UInt8} (h0:0 < t.size) (h:Sq.Bm t.data.toList o=Sq.Bm s.data.toList []) (a:(t[0]'h0).toNat < 128) (b:t.size < (t[0]'h0).toNat+2):Eo s.data.toList=Ae:=by
 rw [Ok t h0,Sq.Aa2 _ _ _ a (by rw [List.length_drop,len_size];omega)] at h;unfold Eo;rw [<-h]
theorem Acb {s t:ByteArray} {o:List UInt8} (h0:1 < t.size) (h:Sq.Bm t.data.toList o=Sq.Bm s.data.toList []) (a:¬(t[0]'(by omega)).toNat < 128) (b:(t[0]'(by omega)).toNat<=191/\1<=(t[1]'h0).toNat/\(t[1]'h0).toNat<=o.length):
  Sq.Bm (t.extract 2 t.size).data.toList (Sq.Ho o (t[1]'h0).toNat ((t[0]'(by omega)).toNat - 125))=Sq.Bm s.data.toList []:=by
 rw [<-h,Jc]
 conv=> rhs;rw [Wo t h0]
 rw [Sq.Qv _ _ _ _ a b]
theorem Vp {s t:ByteArray} {o:List UInt8} (h0:1 < t.size) (h:Sq.Bm t.data.toList o=Sq.Bm s.data.toList []) (a:¬(t[0]'(by omega)).toNat < 128) (b:¬((t[0]'(by omega)).toNat<=191/\1<=(t[1]'h0).toNat/\(t[1]'h0).toNat<=o.length)):Eo s.data.toList=Ae:=by
 rw [Wo t h0,Sq.Vn _ _ _ _ a b] at h;unfold Eo;rw [<-h]
theorem Sn {s t:ByteArray} {o:List UInt8} (h0:0 < t.size) (b:t.size < 2) (h:Sq.Bm t.data.toList o=Sq.Bm s.data.toList []) (a:¬(t[0]'h0).toNat < 128):Eo s.data.toList=Ae:=by
 rw [Ok t h0,List.drop_eq_nil_of_le (by rw [len_size];omega),Sq.Sl _ _ a] at h;unfold Eo;rw [<-h]
theorem Acc {s t:ByteArray} {o:List UInt8} (h0:¬0 < t.size) (h:Sq.Bm t.data.toList o=Sq.Bm s.data.toList []):Eo s.data.toList= .returned (.string ⟨o.toArray⟩):=by
 have:t.data.toList=[]:=List.length_eq_zero_iff.1 (by rw [len_size];omega);rw [this,Sq.Wk] at h;unfold Eo;rw [<-h]
set_option maxHeartbeats 2000000 in
set_option maxRecDepth 20000 in
theorem Agg (s:ByteArray) (w:World) (I:s.size<=68719476736):
  Calls Tryz.prog 205 #[.string s] w fun r w'=> r=Eo s.data.toList/\Below w.heap.size w w':=by
 go_enter Tryz.func205,Tryz.ntmps205;go_wp2_with fail
 go_loopw [0,3] (fun x u wr=>∃(t:ByteArray) (o:List UInt8),x= .string t/\Bh w.heap.size wr u o/\Below w.heap.size w wr/\t.size<=s.size/\o.length+66*t.size<=66*s.size/\Sq.Bm t.data.toList o=Sq.Bm s.data.toList []) (fun x _ _=> match x with | .string t=> t.size | _=> 0)
 case atStart=> exact ⟨s,[],rfl,Bh.nil _ _,Below.refl _ _,Nat.le_refl _,by simp,rfl⟩
 case round=>
  obtain ⟨t,o,rfl,B,A,G,H,n⟩:=hrel;have b:=hid n;have y:=hid B;have k:=hid A;have m:=A.size;clear n B A;by_cases h0:0 < t.size
  ·have C:(t[0]'h0).toNat < 256:=(t[0]'h0).toNat_lt;have D:(0:Int) < (t.size:Int):=(by omega);by_cases a:(t[0]'h0).toNat < 128
   ·by_cases p:(t[0]'h0).toNat+2<=t.size
    ·go_wp2_with fail;refine (Aje w.heap.size t u3 o _ (by omega) h0 p y.out m (by omega)).mono ?_;rintro r z ⟨v1,rfl,c,d⟩;have g:=hid c;have i:=hid (k.out.trans d);clear c d;go_wp2_with fail
     go_roundw
     case rel=> exact ⟨_,_,rfl,g.out,i.out,by simp [ByteArray.size_extract];omega,by simp [ByteArray.size_extract];omega,Aca h0 b.out a p⟩
     case measure=> simp [ByteArray.size_extract];omega
    ·go_wp2_with fail;refine (Alb t u3 _ h0 (by omega)).mono ?_;rintro r z ⟨rfl,rfl⟩;have j:=hid (Vo h0 b.out a (by omega));unfold Ae;go_wp2_with fail;exact ⟨rfl,j.out.symm,k.out⟩
   ·by_cases l:1 < t.size
    ·by_cases f:(t[0]'h0).toNat<=191/\1<=(t[1]'l).toNat/\(t[1]'l).toNat<=o.length
     ·go_wp2_with fail;refine (Ajf w.heap.size t u3 o _ (by omega) y.out m (by omega) l (by omega) f).mono ?_;rintro r z ⟨v1,rfl,c,d⟩;have g:=hid c;have i:=hid (k.out.trans d);clear c d;go_wp2_with fail
      go_roundw
      case rel=> exact ⟨_,_,rfl,g.out,i.out,by simp [ByteArray.size_extract];omega,by simp [ByteArray.size_extract,Sq.Oj];omega,Acb l b.out a f⟩
      case measure=> simp [ByteArray.size_extract];omega
     ·go_wp2_with fail;refine (Alc w.heap.size t u3 o _ y.out l (by omega) f).mono ?_;rintro r z ⟨rfl,q,rfl⟩;have j:=hid (Vp l b.out a f);unfold Ae;go_wp2_with fail;exact ⟨rfl,j.out.symm,Am k.out _⟩
    ·go_wp2_with fail;refine (Ado t u3 _ (by omega)).mono ?_;rintro r z ⟨rfl,rfl⟩;have j:=hid (Sn h0 (by omega) b.out a);unfold Ae;go_wp2_with fail;exact ⟨rfl,j.out.symm,k.out⟩
  ·have F:=y.out.str;have j:=hid (Acc h0 b.out);go_wp2_with fail;go_ret;exact ⟨j.out.symm,k.out⟩
def Fh (l:List UInt8):Ending:=match Sq.Kt l with
 | some t=> .returned (.string ⟨t.toArray⟩)
 | none=> Ae
theorem Ue {l:List UInt8} (h:Sq.Bm l []=none):Fh l=Ae/\Eo l=Ae:=by
 unfold Fh Eo Sq.Kt;rw [h];exact ⟨rfl,rfl⟩
theorem Uf {l t:List UInt8} (h:Sq.Bm l []=some t):Eo l= .returned (.string ⟨t.toArray⟩)/\(Sq.Ca t=l->Fh l= .returned (.string ⟨t.toArray⟩))/\(Sq.Ca t≠l->Fh l=Ae):=by
 unfold Fh Eo Sq.Kt;rw [h];exact ⟨rfl,fun e=> by simp only [if_pos e],fun e=> by simp only [if_neg e]⟩
set_option maxHeartbeats 2000000 in
theorem Aa3 (s:ByteArray) (w:World) (n:s.size<=68719476736):
  Calls Tryz.prog 150 #[.string s] w fun r w'=> r=Fh s.data.toList/\Below w.heap.size w w':=by
 go_enter Tryz.func150,Tryz.ntmps150;go_wp2_with fail;refine (Agg s _ n).mono ?_;rintro r o ⟨rfl,g⟩;have b:=hid g;clear g
 cases c:Sq.Bm s.data.toList [] with
 | none=>
  have j:=hid (Ue c).1;rw [(Ue c).2];clear c;unfold Ae;go_wp2_with fail;exact ⟨rfl,j.out.symm,b.out⟩
 | some t=>
  have a:=Sq.Sm _ _ _ c;rw [len_size] at a;have d:=hid (Uf c);rw [(Uf c).1];clear c;go_wp2_with fail;refine (Ud ⟨t.toArray⟩ _ (by show t.toArray.size<=_;simp at a ⊢;omega)).mono ?_;rintro r p ⟨rfl,i⟩;have f:=hid (b.out.trans (i.mono b.out.size));clear i;by_cases l:Sq.Ca t=s.data.toList
  ·have k:=hid (d.out.2.1 l);go_wp2_with fail;refine (Aw _).mono ?_;rintro r m ⟨rfl,rfl⟩;go_wp2_with fail;go_ret;exact ⟨k.out.symm,f.out⟩
  ·have k:=hid (d.out.2.2 l);go_wp2_with fail;rw [show (Sq.Ca t==s.toList)=false by rw [Ah];simpa using l];refine (Ay _).mono ?_;rintro r m ⟨rfl,rfl⟩;unfold Ae;go_wp2_with fail;exact ⟨rfl,k.out.symm,f.out⟩
theorem ta (w:World):(Instr.typeAssert (.iface 148 (.agg #[])) 20 148 true).run Tryz.prog w= .ok (.tuple #[.agg #[],.bool true]) w:=by
 simp [Instr.typeAssert,run_underlying Tryz.underlying148]
end Go.Proofs.YtolgpnaoaodepaaGreat
namespace Go.Proofs.YtolgpnaoaodepaaGreat.Pg
def low (n:Nat):Nat->List UInt8
 | 0=> []
 | k+1=> UInt8.ofNat (n % 256)::low (n / 256) k
theorem Cp:∀(k n:Nat),(low n k).length=k
 | 0,_=> rfl
 | k+1,n=> by rw [low,List.length_cons,Cp k]
def Ll (c:Nat):Nat:=if c % 2=1 then (c / 2)^^^2197175160 else c / 2
def Kh:Nat->Nat->Nat
 | 0,c=> c
 | k+1,c=> Ll (Kh k c)
def Ol (c:Nat) (b:UInt8):Nat:=Kh 8 (c^^^b.toNat)
def Jl (l:List UInt8):Nat:=l.foldl Ol 4294967295
def crc (l:List UInt8):Nat:=Jl l^^^4294967295
theorem Acd {a b:Nat} (c:a < 4294967296) (d:b < 4294967296):a^^^b < 4294967296:=Nat.xor_lt_two_pow (n:=32) c d
theorem Ajg {c:Nat} (h:c < 4294967296):Ll c < 4294967296:=by
 unfold Ll;split
 ·exact Acd (by omega) (by omega)
 ·omega
theorem Ps {c:Nat} (h:c < 4294967296):∀k,Kh k c < 4294967296
 | 0=> h
 | k+1=> Ajg (Ps h k)
theorem Agh {c:Nat} (h:c < 4294967296) (b:UInt8):Ol c b < 4294967296:=by
 refine Ps (Acd h ?_) 8;have:b.toNat < 256:=b.toNat_lt;omega
theorem Wp:∀(l:List UInt8) (c:Nat),c < 4294967296->l.foldl Ol c < 4294967296
 | [],_,h=> h
 | b::l,_,h=> Wp l _ (Agh h b)
theorem Aau (l:List UInt8):Jl l < 4294967296:=Wp l _ (by decide)
theorem Aq3 (l:List UInt8):crc l < 4294967296:=Acd (Aau l) (by decide)
theorem Adp (l:List UInt8) (b:UInt8):Jl (l++[b])=Ol (Jl l) b:=by simp [Jl]
def sealed (l:List UInt8):List UInt8:=l++low (crc l) 4
theorem Lb (l:List UInt8):(sealed l).length=l.length+4:=by simp [sealed,Cp]
def Agi:Nat->Nat->List UInt8
 | 0,_=> []
 | f+1,n=> if n < 128 then low n 1 else low (128+n % 128) 1++Agi f (n / 128)
def num (n:Nat):List UInt8:=Agi (n+1) n
theorem Aav:∀(f g n:Nat),n < f->n < g->Agi f n=Agi g n
 | 0,_,_,h,_=> by omega
 | _+1,0,_,_,h=> by omega
 | f+1,g+1,n,h1,h2=> by
  unfold Agi;split
  ·rfl
  ·rw [Aav f g (n / 128) (by omega) (by omega)]
theorem Lc (n:Nat) (h:n < 128):num n=low n 1:=by unfold num Agi;rw [if_pos h]
theorem Ace (n:Nat) (h:¬n < 128):num n=low (128+n % 128) 1++num (n / 128):=by
 unfold num;rw [Agi,if_neg h,Aav n (n / 128+1) (n / 128) (by omega) (by omega)]
theorem Wq:∀(k n:Nat),n < 128^(k+1)->(num n).length<=k+1
 | 0,n,h=> by rw [Lc n (by simpa using h)];simp [Cp]
 | k+1,n,h=> by
  by_cases a:n < 128
  ·rw [Lc n a];simp [Cp]
  ·rw [Ace n a];have b:n / 128 < 128^(k+1):=(by rw [Nat.div_lt_iff_lt_mul (by decide)];rw [Nat.pow_succ] at h;exact h);have:=Wq k (n / 128) b;simp [Cp];omega
theorem Acf (n:Nat) (h:n < 34359738368):(num n).length<=5:=Wq 4 n (by show n < 128^5;exact h)
def Ef (l:List UInt8):List UInt8:=num l.length++l
def Bg (kind content:List UInt8):List UInt8:=
 if (Sq.Ca content).length < content.length then sealed (kind++low 1 1++num content.length++Ef (Sq.Ca content))
 else sealed (kind++low 0 1++num content.length++Ef content)
def Ds:List UInt8->List UInt8->Nat
 | x::xs,y::ys=> if x=y then Ds xs ys+1 else 0
 | _,_=> 0
theorem So:∀(a b:List UInt8),Ds a b<=a.length/\Ds a b<=b.length
 | [],_=> by simp [Ds]
 | _::_,[]=> by simp [Ds]
 | x::xs,y::ys=> by
  unfold Ds;split
  ·have:=So xs ys;simp;omega
  ·simp
theorem Mx:∀(n:Nat) (a b:List UInt8),(∀k,k < n->∃x,a[k]?=some x/\b[k]?=some x)->(a.length=n\/b.length=n\/a[n]?≠b[n]?)->Ds a b=n
 | 0,[],_,_,_=> by simp [Ds]
 | 0,_::_,[],_,_=> by simp [Ds]
 | 0,x::xs,y::ys,_,h=> by
  unfold Ds;rw [if_neg];rcases h with h | h | h
  ·simp at h
  ·simp at h
  ·simpa using h
 | n+1,[],b,h,_=> by obtain ⟨x,c,_⟩:=h 0 (by omega);simp at c
 | n+1,x::xs,[],h,_=> by obtain ⟨x,_,c⟩:=h 0 (by omega);simp at c
 | n+1,x::xs,y::ys,h,hs=> by
  obtain ⟨z,d,f⟩:=h 0 (by omega);simp at d f;unfold Ds;rw [if_pos (by rw [d,f]),Mx n xs ys (fun k g=> by have:=h (k+1) (by omega);simpa using this) (by simpa using hs)]
def Iu:List UInt8->List (List UInt8×List UInt8)->List UInt8
 | _,[]=> []
 | last,(k,v)::r=> low (Ds last k) 1++Ef (k.drop (Ds last k))++Ef v++Iu k r
def Bx (l:List (List UInt8×List UInt8)):List UInt8:=low l.length 1++Iu [] l
end Go.Proofs.YtolgpnaoaodepaaGreat.Pg
