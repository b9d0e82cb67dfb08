import Derived.Test.YtolgpnaoaodepaaGreatWalkCm
import Derived.Defers
import Derived.Recover
import Derived.Laws.Pointers
import Derived.Test.YtolgpnaoaodepaaGreatMathAm
namespace Go.Proofs.YtolgpnaoaodepaaGreat
open Go.RowKit
theorem Owns.cellAt {B:Nat} {w:World} {g n c:Nat} {l:List UInt8} (h:Owns B w (.slice (some ⟨g,0,none⟩) n c) l) (j:Nat) (b:UInt8) (a:l[j]?=some b):w.cell? ⟨g,j,none⟩=some (.int .u8 (b.toNat:Int)):=by
 have:=h.cells j (.int .u8 (b.toNat:Int)) (by simp [Lib.byteCells,a])
 by_cases h0:j=0
 ·subst h0;simpa [Addr.add] using this
 ·simpa [Addr.add,h0] using this
def gaveUp:Ending:= .panicked [{v:= .iface 148 (.agg #[]),recovered:=false}]
set_option maxHeartbeats 400000 in
theorem unless_yes (w:World):Calls Tryz.prog 73 #[.bool true] w fun r w'=> r= .returned (.tuple #[])∧w'=w:=by
 go_enter Tryz.func73,Tryz.ntmps73
 go_wp2
 go_end0
 exact ⟨rfl,rfl⟩
set_option maxHeartbeats 400000 in
theorem unless_no (w:World):Calls Tryz.prog 73 #[.bool false] w fun r w'=> r=gaveUp∧w'=w:=by
 go_enter Tryz.func73,Tryz.ntmps73
 go_wp2
 simp [bodyPost,gaveUp]
set_option maxHeartbeats 1000000 in
theorem unrun_no (s:ByteArray) (v:Value) (w:World) (h0:0 < s.size) (c:s.size < (s[0]'h0).toNat+2):
  Calls Tryz.prog 253 #[v,.string s] w fun r w'=> r=gaveUp∧w'=w:=by
 have a:((s[0]'h0).toNat:Int) < 256:=by have:=(s[0]'h0).toNat_lt;omega
 go_enter Tryz.func253,Tryz.ntmps253
 go_wp2_with fail
 rw [show decide ((((s[0]'h0).toNat:Nat):Int)+2≤(s.size:Int))=false by simp;omega]
 refine (unless_no _).mono ?_
 rintro r b ⟨rfl,rfl⟩
 unfold gaveUp
 go_wp2_with fail
 simp [bodyPost,gaveUp]
set_option maxHeartbeats 1000000 in
theorem unrun_yes (B:Nat) (s:ByteArray) (v:Value) (l:List UInt8) (w:World) (p:s.size≤35184372088832) (h0:0 < s.size) (q:(s[0]'h0).toNat+2≤s.size) (b:Owns B w v l) (i:B≤w.heap.size) (t:l.length≤70368744177664):
  Calls Tryz.prog 253 #[v,.string s] w fun r w'=>∃f,r= .returned (.tuple #[f,.string (s.extract ((s[0]'h0).toNat+2) s.size)])∧Owns B w' f (l++(s.data.toList.drop 1).take ((s[0]'h0).toNat+1))∧Below B w w':=by
 have j:((s[0]'h0).toNat:Int) < 256:=by have:=(s[0]'h0).toNat_lt;omega
 have a:=hid b
 clear b
 go_enter Tryz.func253,Tryz.ntmps253
 go_wp2_with fail
 rw [show decide ((((s[0]'h0).toNat:Nat):Int)+2≤(s.size:Int))=true by simp;omega]
 refine (unless_yes _).mono ?_
 rintro r h ⟨rfl,rfl⟩
 generalize e:(s[0]'h0).toNat=n at*
 have d:=hid e
 clear e
 have k:(1:Int)≤(n:Int)+2:=by omega
 have m:(n:Int)+2≤(s.size:Int):=by omega
 have o:(0:Int)≤(n:Int)+2:=by omega
 go_wp2_with fail
 go_region_law (refine stepApS _ (by rfl) (.tmp 16) (.tmp 19) (by rfl) B v l (by simp [Act.eval,Act.put]) (by first | exact a.out | exact a.out.drew) (s.extract 1 ((n:Int)+2).toNat) (by simp [Act.eval,Act.put]) (by rw [ByteArray.size_extract];omega) (by first | exact i | exact (show B≤(World.drew h).heap.size from i)) ?_;intro f w' c g)
 all_goals go_wp2_with fail
 go_ret2
 refine ⟨f,?_,?_,(Below.refl B h).drew.trans g⟩
 ·rw [d.out];rfl
 ·rw [d.out]
  rw [Lib.extract_data] at c
  rw [show ((n:Int)+2).toNat - 1=n+1 by omega] at c
  exact c
set_option maxHeartbeats 1000000 in
theorem unmat_short (s:ByteArray) (v:Value) (w:World) (h:s.size < 2):
  Calls Tryz.prog 254 #[v,.string s] w fun r w'=> r=gaveUp∧w'=w:=by
 go_enter Tryz.func254,Tryz.ntmps254
 go_wp2_with fail
 rw [show decide ((2:Int)≤(s.size:Int))=false by simp;omega]
 refine (unless_no _).mono ?_
 rintro r a ⟨rfl,rfl⟩
 unfold gaveUp
 go_wp2_with fail
 simp [bodyPost,gaveUp]
set_option maxHeartbeats 1000000 in
theorem unmat_no (B:Nat) (s:ByteArray) (v:Value) (l:List UInt8) (w:World) (a:Owns B w v l) (b:1 < s.size) (h:128≤(s[0]'(by omega)).toNat) (y:¬((s[0]'(by omega)).toNat≤191∧1≤(s[1]'b).toNat∧(s[1]'b).toNat≤l.length)):
  Calls Tryz.prog 254 #[v,.string s] w fun r w'=> r=gaveUp∧∃q,w'=w.drewN q:=by
 obtain ⟨u,vc,rfl⟩:=a.shape
 have i:=(s[0]'(by omega)).toNat_lt
 have j:=(s[1]'b).toNat_lt
 go_enter Tryz.func254,Tryz.ntmps254
 go_wp2_with fail
 rw [show decide ((2:Int)≤(s.size:Int))=true by simp;omega]
 refine (unless_yes _).mono ?_
 rintro r c ⟨rfl,rfl⟩
 have k:(0:Int) < (s.size:Int):=by omega
 have m:0 < s.size:=by omega
 have o:(1:Int) < (s.size:Int):=by omega
 go_wp2_with fail
 go_quiet (fail)
 generalize e:(s[0]'(by omega)).toNat=n at*
 generalize f:(s[1]'b).toNat=d at*
 clear e f
 go_wp2_with fail
 by_cases g:n≤191
 ·rw [show decide ((n:Int) - 125≤66)=true by simp;omega]
  refine (unless_yes _).mono ?_
  rintro r x ⟨rfl,rfl⟩
  by_cases t:1≤d
  ·go_wp2_with fail
   rw [show decide (d≤l.length)=false by simp;omega]
   refine (unless_no _).mono ?_
   rintro r c ⟨rfl,rfl⟩
   unfold gaveUp
   go_wp2_with fail
   simp [bodyPost,gaveUp]
   exact ⟨nq,rfl⟩
  ·have p:decide ((1:Int)≤(d:Int))=false:=by simp;omega
   go_wp2_with fail
   refine (unless_no _).mono ?_
   rintro r c ⟨rfl,rfl⟩
   unfold gaveUp
   go_wp2_with fail
   simp [bodyPost,gaveUp]
   exact ⟨nq,rfl⟩
 ·rw [show decide ((n:Int) - 125≤66)=false by simp;omega]
  refine (unless_no _).mono ?_
  rintro r c ⟨rfl,rfl⟩
  unfold gaveUp
  go_wp2_with fail
  simp [bodyPost,gaveUp]
  exact ⟨nq,rfl⟩
set_option maxHeartbeats 2000000 in
theorem unmat_yes (B:Nat) (s:ByteArray) (v:Value) (l:List UInt8) (w:World) (hs:s.size≤35184372088832) (a:Owns B w v l) (hB:B≤w.heap.size) (hl:l.length≤70368744177664) (z:1 < s.size) (N:128≤(s[0]'(by omega)).toNat) (hn:(s[0]'(by omega)).toNat≤191∧1≤(s[1]'z).toNat∧(s[1]'z).toNat≤l.length):
  Calls Tryz.prog 254 #[v,.string s] w fun r w'=>∃M,r= .returned (.tuple #[M,.string (s.extract 2 s.size)])∧Owns B w' M (Sq.copyN l (s[1]'z).toNat ((s[0]'(by omega)).toNat - 125))∧Below B w w':=by
 obtain ⟨va,vc,rfl⟩:=a.shape
 have j:=hid a
 clear a
 have O:=(s[0]'(by omega)).toNat_lt
 have P:=(s[1]'z).toNat_lt
 go_enter Tryz.func254,Tryz.ntmps254
 go_wp2_with fail
 rw [show decide ((2:Int)≤(s.size:Int))=true by simp;omega]
 refine (unless_yes _).mono ?_
 rintro r w1 ⟨rfl,rfl⟩
 have Q:(0:Int) < (s.size:Int):=by omega
 have R:0 < s.size:=by omega
 have S:(1:Int) < (s.size:Int):=by omega
 go_wp2_with fail
 go_quiet (fail)
 generalize t:(s[0]'(by omega)).toNat=n at*
 generalize x:(s[1]'z).toNat=d at*
 have A:=hid t
 have C:=hid x
 clear t x
 go_wp2_with fail
 rw [show decide ((n:Int) - 125≤66)=true by simp;omega]
 refine (unless_yes _).mono ?_
 rintro r L ⟨rfl,rfl⟩
 go_wp2_with fail
 refine (unless_yes _).mono ?_
 rintro r L ⟨rfl,rfl⟩
 go_wp2_with fail
 go_loopw [0,32] (fun u i wr=>∃k:Nat,k+125≤n∧i= .int .i64 k∧Owns B wr u (Sq.copyN l d k)∧Below B w1 wr) (fun _ i _=> n - (intOf i).toNat)
 case atStart=> exact ⟨0,by omega,rfl,j.out.drewN _,below_drewN (Below.refl _ _) _⟩
 case round=>
  obtain ⟨k,hk,rfl,K,f⟩:=hrel
  have o:=hid (Sq.copyN_len k l d)
  have p:=hid K
  have J:=hid f
  have T:=f.size
  clear K f
  by_cases a1:k+125 < n
  ·have U:=hid (Sq.copyN_succ k l d)
   generalize I:Sq.copyN l d k=e at*
   have V:d≤e.length∧e.length≤140737488355000∧1≤e.length:=by have:=o.out;omega
   obtain ⟨b,f⟩:∃b,e[e.length - d]?=some b:=⟨e[e.length - d]'(by omega),List.getElem?_eq_getElem _⟩
   obtain ⟨g,c,Z,a0,h⟩:=p.out.shape_pos (by omega)
   subst Z
   have D:=p.out.cellAt (e.length - d) b f
   have E:=hid f
   clear f I
   generalize y:e.length=m at*
   have F:=hid y
   clear y
   have W:(0:Int)≤(m:Int) - (d:Int):=by omega
   have X:(m:Int) - (d:Int) < (m:Int):=by omega
   go_wp2_with (first
    | (at_builtin;refine wpAp1 wr rfl (.tmp 34) (.tmp 42) rfl B (.slice (some ⟨g,0,none⟩) m c) e rfl p.out b _ rfl rfl (by rw [F.out];omega) (by omega) ?_))
   intro v2 L q h _
   have G:=hid q
   have H:=hid (J.out.trans (below_of_grown p.out (by omega) h))
   clear q h
   go_wp2_with fail
   go_roundw
   case rel=>
    refine ⟨k+1,by omega,by go_num,?_,H.out⟩
    rw [U.out,List.getD_eq_getElem?_getD,E.out]
    exact G.out
   case measure=> simp [intOf];omega
  ·go_wp2_with fail
   have Y:(2:Int)≤(s.size:Int):=by omega
   go_quiet (fail)
   go_wp2_with fail
   go_ret2
   refine ⟨_,rfl,?_,below_drewN J.out _⟩
   rw [A.out,C.out,show n - 125=k by omega]
   exact p.out.drewN _
end Go.Proofs.YtolgpnaoaodepaaGreat
namespace Go.Proofs.YtolgpnaoaodepaaGreat
open Go.RowKit
theorem toList_is (s:ByteArray):s.toList=s.data.toList:=by
 have h:=ByteArray.toList_mk s.data.toList
 simpa using h
def unpacked (l:List UInt8):Ending:=match Sq.decode l [] with
 | some t=> .returned (.string ⟨t.toArray⟩)
 | none=> gaveUp
theorem cons_data (t:ByteArray) (h:0 < t.size):t.data.toList=t[0]::t.data.toList.drop 1:=by
 have a:0 < t.data.toList.length:=by rw [len_size];exact h
 have:=List.drop_eq_getElem_cons a
 rw [List.drop_zero] at this
 exact this
theorem cons_data2 (t:ByteArray) (h:1 < t.size):t.data.toList=t[0]::t[1]::t.data.toList.drop 2:=by
 rw [cons_data t (by omega)]
 have a:1 < t.data.toList.length:=by rw [len_size];exact h
 have:=List.drop_eq_getElem_cons a
 rw [this];rfl
theorem unpacked_run {s t:ByteArray} {o:List UInt8} (h0:0 < t.size) (h:Sq.decode t.data.toList o=Sq.decode s.data.toList []) (a:(t[0]'h0).toNat < 128) (b:(t[0]'h0).toNat+2≤t.size):
  Sq.decode (t.extract ((t[0]'h0).toNat+2) t.size).data.toList (o++(t.data.toList.drop 1).take ((t[0]'h0).toNat+1))=Sq.decode s.data.toList []:=by
 rw [←h,drop_data]
 conv=> rhs;rw [cons_data t h0]
 rw [Sq.decode_run _ _ _ a (by rw [List.length_drop,len_size];omega),List.drop_drop,show 1+((t[0]'h0).toNat+1)=(t[0]'h0).toNat+2 by omega]
theorem unpacked_run_no {s t:ByteArray} {o:List UInt8} (h0:0 < t.size) (h:Sq.decode t.data.toList o=Sq.decode s.data.toList []) (a:(t[0]'h0).toNat < 128) (b:t.size < (t[0]'h0).toNat+2):unpacked s.data.toList=gaveUp:=by
 rw [cons_data t h0,Sq.decode_run_no _ _ _ a (by rw [List.length_drop,len_size];omega)] at h
 unfold unpacked;rw [←h]
theorem unpacked_mat {s t:ByteArray} {o:List UInt8} (h0:1 < t.size) (h:Sq.decode t.data.toList o=Sq.decode s.data.toList []) (a:¬(t[0]'(by omega)).toNat < 128) (b:(t[0]'(by omega)).toNat≤191∧1≤(t[1]'h0).toNat∧(t[1]'h0).toNat≤o.length):
  Sq.decode (t.extract 2 t.size).data.toList (Sq.copyN o (t[1]'h0).toNat ((t[0]'(by omega)).toNat - 125))=Sq.decode s.data.toList []:=by
 rw [←h,drop_data]
 conv=> rhs;rw [cons_data2 t h0]
 rw [Sq.decode_match _ _ _ _ a b]
theorem unpacked_mat_no {s t:ByteArray} {o:List UInt8} (h0:1 < t.size) (h:Sq.decode t.data.toList o=Sq.decode s.data.toList []) (a:¬(t[0]'(by omega)).toNat < 128) (b:¬((t[0]'(by omega)).toNat≤191∧1≤(t[1]'h0).toNat∧(t[1]'h0).toNat≤o.length)):unpacked s.data.toList=gaveUp:=by
 rw [cons_data2 t h0,Sq.decode_match_no _ _ _ _ a b] at h
 unfold unpacked;rw [←h]
theorem unpacked_mat_end {s t:ByteArray} {o:List UInt8} (h0:0 < t.size) (b:t.size < 2) (h:Sq.decode t.data.toList o=Sq.decode s.data.toList []) (a:¬(t[0]'h0).toNat < 128):unpacked s.data.toList=gaveUp:=by
 rw [cons_data t h0,List.drop_eq_nil_of_le (by rw [len_size];omega),Sq.decode_match_end _ _ a] at h
 unfold unpacked;rw [←h]
theorem unpacked_end {s t:ByteArray} {o:List UInt8} (h0:¬0 < t.size) (h:Sq.decode t.data.toList o=Sq.decode s.data.toList []):unpacked s.data.toList= .returned (.string ⟨o.toArray⟩):=by
 have:t.data.toList=[]:=List.length_eq_zero_iff.1 (by rw [len_size];omega)
 rw [this,Sq.decode_nil] at h
 unfold unpacked;rw [←h]
set_option maxHeartbeats 2000000 in
set_option maxRecDepth 20000 in
theorem unpack_any (s:ByteArray) (w:World) (E:s.size≤68719476736):
  Calls Tryz.prog 205 #[.string s] w fun r w'=> r=unpacked s.data.toList∧Below w.heap.size w w':=by
 go_enter Tryz.func205,Tryz.ntmps205
 go_wp2_with fail
 go_loopw [0,3] (fun x u wr=>∃(t:ByteArray) (o:List UInt8),x= .string t∧Owns w.heap.size wr u o∧Below w.heap.size w wr∧t.size≤s.size∧o.length+66*t.size≤66*s.size∧Sq.decode t.data.toList o=Sq.decode s.data.toList []) (fun x _ _=> match x with | .string t=> t.size | _=> 0)
 case atStart=> exact ⟨s,[],rfl,Owns.nil _ _,Below.refl _ _,Nat.le_refl _,by simp,rfl⟩
 case round=>
  obtain ⟨t,o,rfl,y,v,C,D,l⟩:=hrel
  have b:=hid l
  have n:=hid y
  have i:=hid v
  have k:=v.size
  clear l y v
  by_cases h0:0 < t.size
  ·have z:(t[0]'h0).toNat < 256:=(t[0]'h0).toNat_lt
   have A:(0:Int) < (t.size:Int):=by omega
   by_cases a:(t[0]'h0).toNat < 128
   ·by_cases m:(t[0]'h0).toNat+2≤t.size
    ·go_wp2_with fail
     refine (unrun_yes w.heap.size t u3 o _ (by omega) h0 m n.out k (by omega)).mono ?_
     rintro r p ⟨v1,rfl,c,d⟩
     have f:=hid c
     have g:=hid (i.out.trans d)
     clear c d
     go_wp2_with fail
     go_roundw
     case rel=> exact ⟨_,_,rfl,f.out,g.out,by simp [ByteArray.size_extract];omega,by simp [ByteArray.size_extract];omega,unpacked_run h0 b.out a m⟩
     case measure=> simp [ByteArray.size_extract];omega
    ·go_wp2_with fail
     refine (unrun_no t u3 _ h0 (by omega)).mono ?_
     rintro r p ⟨rfl,rfl⟩
     have h:=hid (unpacked_run_no h0 b.out a (by omega))
     unfold gaveUp
     go_wp2_with fail
     exact ⟨rfl,h.out.symm,i.out⟩
   ·by_cases j:1 < t.size
    ·by_cases e:(t[0]'h0).toNat≤191∧1≤(t[1]'j).toNat∧(t[1]'j).toNat≤o.length
     ·go_wp2_with fail
      refine (unmat_yes w.heap.size t u3 o _ (by omega) n.out k (by omega) j (by omega) e).mono ?_
      rintro r p ⟨v1,rfl,c,d⟩
      have f:=hid c
      have g:=hid (i.out.trans d)
      clear c d
      go_wp2_with fail
      go_roundw
      case rel=> exact ⟨_,_,rfl,f.out,g.out,by simp [ByteArray.size_extract];omega,by simp [ByteArray.size_extract,Sq.copyN_len];omega,unpacked_mat j b.out a e⟩
      case measure=> simp [ByteArray.size_extract];omega
     ·go_wp2_with fail
      refine (unmat_no w.heap.size t u3 o _ n.out j (by omega) e).mono ?_
      rintro r p ⟨rfl,q,rfl⟩
      have h:=hid (unpacked_mat_no j b.out a e)
      unfold gaveUp
      go_wp2_with fail
      exact ⟨rfl,h.out.symm,below_drewN i.out _⟩
    ·go_wp2_with fail
     refine (unmat_short t u3 _ (by omega)).mono ?_
     rintro r p ⟨rfl,rfl⟩
     have h:=hid (unpacked_mat_end h0 (by omega) b.out a)
     unfold gaveUp
     go_wp2_with fail
     exact ⟨rfl,h.out.symm,i.out⟩
  ·have B:=n.out.str
   have h:=hid (unpacked_end h0 b.out)
   go_wp2_with fail
   go_ret
   exact ⟨h.out.symm,i.out⟩
def spreadEnd (l:List UInt8):Ending:=match Sq.spread l with
 | some t=> .returned (.string ⟨t.toArray⟩)
 | none=> gaveUp
theorem spread_none {l:List UInt8} (h:Sq.decode l []=none):spreadEnd l=gaveUp∧unpacked l=gaveUp:=by
 unfold spreadEnd unpacked Sq.spread;rw [h];exact ⟨rfl,rfl⟩
theorem spread_some {l t:List UInt8} (h:Sq.decode l []=some t):unpacked l= .returned (.string ⟨t.toArray⟩)∧(Sq.squeeze t=l→spreadEnd l= .returned (.string ⟨t.toArray⟩))∧(Sq.squeeze t≠l→spreadEnd l=gaveUp):=by
 unfold spreadEnd unpacked Sq.spread;rw [h]
 exact ⟨rfl,fun e=> by simp only [if_pos e],fun e=> by simp only [if_neg e]⟩
set_option maxHeartbeats 2000000 in
theorem pkgSpread_any (s:ByteArray) (w:World) (l:s.size≤68719476736):
  Calls Tryz.prog 150 #[.string s] w fun r w'=> r=spreadEnd s.data.toList∧Below w.heap.size w w':=by
 go_enter Tryz.func150,Tryz.ntmps150
 go_wp2_with fail
 refine (unpack_any s _ l).mono ?_
 rintro r m ⟨rfl,f⟩
 have b:=hid f
 clear f
 cases c:Sq.decode s.data.toList [] with
 | none=>
  have h:=hid (spread_none c).1
  rw [(spread_none c).2]
  clear c
  unfold gaveUp
  go_wp2_with fail
  exact ⟨rfl,h.out.symm,b.out⟩
 | some t=>
  have a:=Sq.decode_le _ _ _ c
  rw [len_size] at a
  have d:=hid (spread_some c)
  rw [(spread_some c).1]
  clear c
  go_wp2_with fail
  refine (squeeze_any ⟨t.toArray⟩ _ (by show t.toArray.size≤_;simp at a ⊢;omega)).mono ?_
  rintro r n ⟨rfl,g⟩
  have e:=hid (b.out.trans (g.mono b.out.size))
  clear g
  by_cases j:Sq.squeeze t=s.data.toList
  ·have i:=hid (d.out.2.1 j)
   go_wp2_with fail
   refine (unless_yes _).mono ?_
   rintro r k ⟨rfl,rfl⟩
   go_wp2_with fail
   go_ret
   exact ⟨i.out.symm,e.out⟩
  ·have i:=hid (d.out.2.2 j)
   go_wp2_with fail
   rw [show (Sq.squeeze t==s.toList)=false by rw [toList_is];simpa using j]
   refine (unless_no _).mono ?_
   rintro r k ⟨rfl,rfl⟩
   unfold gaveUp
   go_wp2_with fail
   exact ⟨rfl,i.out.symm,e.out⟩
end Go.Proofs.YtolgpnaoaodepaaGreat
namespace Go.Proofs.YtolgpnaoaodepaaGreat
open Go.RowKit
theorem ta (w:World):(Instr.typeAssert (.iface 148 (.agg #[])) 20 148 true).run Tryz.prog w= .ok (.tuple #[.agg #[],.bool true]) w:=by
 simp [Instr.typeAssert,run_underlying Tryz.underlying148]
end Go.Proofs.YtolgpnaoaodepaaGreat
namespace Go.Proofs.YtolgpnaoaodepaaGreat.Pg
def low (n:Nat):Nat→List UInt8
 | 0=> []
 | k+1=> UInt8.ofNat (n % 256)::low (n / 256) k
theorem low_len:∀(k n:Nat),(low n k).length=k
 | 0,_=> rfl
 | k+1,n=> by rw [low,List.length_cons,low_len k]
def crcBit (c:Nat):Nat:=if c % 2=1 then (c / 2)^^^2197175160 else c / 2
def crcBits:Nat→Nat→Nat
 | 0,c=> c
 | k+1,c=> crcBit (crcBits k c)
def crcByte (c:Nat) (b:UInt8):Nat:=crcBits 8 (c^^^b.toNat)
def crcAll (l:List UInt8):Nat:=l.foldl crcByte 4294967295
def crc (l:List UInt8):Nat:=crcAll l^^^4294967295
theorem xor_lt {a b:Nat} (c:a < 4294967296) (d:b < 4294967296):a^^^b < 4294967296:=Nat.xor_lt_two_pow (n:=32) c d
theorem crcBit_lt {c:Nat} (h:c < 4294967296):crcBit c < 4294967296:=by
 unfold crcBit;split
 ·exact xor_lt (by omega) (by omega)
 ·omega
theorem crcBits_lt {c:Nat} (h:c < 4294967296):∀k,crcBits k c < 4294967296
 | 0=> h
 | k+1=> crcBit_lt (crcBits_lt h k)
theorem crcByte_lt {c:Nat} (h:c < 4294967296) (b:UInt8):crcByte c b < 4294967296:=by
 refine crcBits_lt (xor_lt h ?_) 8
 have:b.toNat < 256:=b.toNat_lt
 omega
theorem crcFold_lt:∀(l:List UInt8) (c:Nat),c < 4294967296→l.foldl crcByte c < 4294967296
 | [],_,h=> h
 | b::l,_,h=> crcFold_lt l _ (crcByte_lt h b)
theorem crcAll_lt (l:List UInt8):crcAll l < 4294967296:=crcFold_lt l _ (by decide)
theorem crc_lt (l:List UInt8):crc l < 4294967296:=xor_lt (crcAll_lt l) (by decide)
theorem crcAll_snoc (l:List UInt8) (b:UInt8):crcAll (l++[b])=crcByte (crcAll l) b:=by simp [crcAll]
def sealed (l:List UInt8):List UInt8:=l++low (crc l) 4
theorem seal_len (l:List UInt8):(sealed l).length=l.length+4:=by simp [sealed,low_len]
def numF:Nat→Nat→List UInt8
 | 0,_=> []
 | f+1,n=> if n < 128 then low n 1 else low (128+n % 128) 1++numF f (n / 128)
def num (n:Nat):List UInt8:=numF (n+1) n
theorem numF_fuel:∀(f g n:Nat),n < f→n < g→numF f n=numF g n
 | 0,_,_,h,_=> by omega
 | _+1,0,_,_,h=> by omega
 | f+1,g+1,n,h1,h2=> by
  unfold numF
  split
  ·rfl
  ·rw [numF_fuel f g (n / 128) (by omega) (by omega)]
theorem num_small (n:Nat) (h:n < 128):num n=low n 1:=by unfold num numF;rw [if_pos h]
theorem num_big (n:Nat) (h:¬n < 128):num n=low (128+n % 128) 1++num (n / 128):=by
 unfold num;rw [numF,if_neg h,numF_fuel n (n / 128+1) (n / 128) (by omega) (by omega)]
theorem num_len':∀(k n:Nat),n < 128^(k+1)→(num n).length≤k+1
 | 0,n,h=> by rw [num_small n (by simpa using h)];simp [low_len]
 | k+1,n,h=> by
  by_cases a:n < 128
  ·rw [num_small n a];simp [low_len]
  ·rw [num_big n a]
   have b:n / 128 < 128^(k+1):=by rw [Nat.div_lt_iff_lt_mul (by decide)];rw [Nat.pow_succ] at h;exact h
   have:=num_len' k (n / 128) b
   simp [low_len];omega
theorem num_len (n:Nat) (h:n < 34359738368):(num n).length≤5:=num_len' 4 n (by show n < 128^5;exact h)
def text (l:List UInt8):List UInt8:=num l.length++l
def section_ (kind content:List UInt8):List UInt8:=
 if (Sq.squeeze content).length < content.length then sealed (kind++low 1 1++num content.length++text (Sq.squeeze content))
 else sealed (kind++low 0 1++num content.length++text content)
end Go.Proofs.YtolgpnaoaodepaaGreat.Pg
namespace Go.Proofs.YtolgpnaoaodepaaGreat.Pg
def common:List UInt8→List UInt8→Nat
 | x::xs,y::ys=> if x=y then common xs ys+1 else 0
 | _,_=> 0
theorem common_le:∀(a b:List UInt8),common a b≤a.length∧common a b≤b.length
 | [],_=> by simp [common]
 | _::_,[]=> by simp [common]
 | x::xs,y::ys=> by
  unfold common;split
  ·have:=common_le xs ys;simp;omega
  ·simp
theorem common_stop:∀(n:Nat) (a b:List UInt8),(∀k,k < n→∃x,a[k]?=some x∧b[k]?=some x)→(a.length=n∨b.length=n∨a[n]?≠b[n]?)→common a b=n
 | 0,[],_,_,_=> by simp [common]
 | 0,_::_,[],_,_=> by simp [common]
 | 0,x::xs,y::ys,_,h=> by
  unfold common;rw [if_neg]
  rcases h with h | h | h
  ·simp at h
  ·simp at h
  ·simpa using h
 | n+1,[],b,h,_=> by obtain ⟨x,c,_⟩:=h 0 (by omega);simp at c
 | n+1,x::xs,[],h,_=> by obtain ⟨x,_,c⟩:=h 0 (by omega);simp at c
 | n+1,x::xs,y::ys,h,hs=> by
  obtain ⟨z,d,e⟩:=h 0 (by omega)
  simp at d e
  unfold common;rw [if_pos (by rw [d,e]),common_stop n xs ys (fun k f=> by have:=h (k+1) (by omega);simpa using this) (by simpa using hs)]
def items:List UInt8→List (List UInt8×List UInt8)→List UInt8
 | _,[]=> []
 | last,(k,v)::r=> low (common last k) 1++text (k.drop (common last k))++text v++items k r
def basement (l:List (List UInt8×List UInt8)):List UInt8:=low l.length 1++items [] l
end Go.Proofs.YtolgpnaoaodepaaGreat.Pg
