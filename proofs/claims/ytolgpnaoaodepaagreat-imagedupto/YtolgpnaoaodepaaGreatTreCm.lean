import Derived.Test.YtolgpnaoaodepaaGreatGenm
namespace Go.Proofs.YtolgpnaoaodepaaGreat
open Go.RowKit
def NodT (w:World) (p:Nat) (vi vp vc:Value):Prop:=w.heap[p]?=some (.cells #[vi,vp,vc] 123 (0,0))
theorem NodT.cells {w:World} {p:Nat} {a vp vc:Value} (h:NodT w p a vp vc):w.cell? ⟨p,0,none⟩=some a∧w.cell? ⟨p,1,none⟩=some vp∧w.cell? ⟨p,2,none⟩=some vc∧w.frozen? ⟨p,0,none⟩=false∧w.frozen? ⟨p,1,none⟩=false∧w.frozen? ⟨p,2,none⟩=false:=by
 unfold NodT at h
 refine ⟨?_,?_,?_,?_,?_,?_⟩ <;> simp [World.cell?,World.frozen?,h]
theorem NodT.lt {w:World} {p:Nat} {a vp vc:Value} (h:NodT w p a vp vc):p < w.heap.size:=(Array.getElem?_eq_some_iff.1 h).1
def pcells:List (ByteArray×Nat)→List Value
 | []=> []
 | x::r=> [.string x.1,.pointer (some ⟨x.2,0,none⟩)]++pcells r
theorem pcells_len:∀l:List (ByteArray×Nat),(pcells l).length=l.length*2
 | []=> rfl
 | x::r=> by rw [pcells,List.length_append,pcells_len r];simp;omega
theorem pcells_append:∀a b:List (ByteArray×Nat),pcells (a++b)=pcells a++pcells b
 | [],_=> rfl
 | x::r,b=> by rw [List.cons_append,pcells,pcells,pcells_append r b];simp
theorem pcells_at:∀(l:List (ByteArray×Nat)) (i:Nat) (h:i < l.length),(pcells l)[i*2]?=some (.string (l[i]'h).1)∧(pcells l)[i*2+1]?=some (.pointer (some ⟨(l[i]'h).2,0,none⟩))
 | x::r,0,_=> ⟨rfl,rfl⟩
 | x::r,i+1,h=> by
  obtain ⟨a,b⟩:=pcells_at r i (by simpa using h)
  rw [pcells,show (i+1)*2=i*2+2 by omega]
  exact ⟨by simpa using a,by simpa using b⟩
def OwnsP (B:Nat) (w:World) (v:Value) (l:List (ByteArray×Nat)):Prop:=w.ownsRow B 132 2 v l.length (pcells l)
theorem OwnsP.at {B:Nat} {w:World} {v:Value} {l:List (ByteArray×Nat)} (h:OwnsP B w v l) (i:Nat) (hi:i < l.length):∃g a,v= .slice (some ⟨g,0,none⟩) l.length a∧l.length≤a∧B≤g∧g < w.heap.size∧w.cell? ⟨g,i*2,none⟩=some (.string (l[i]'hi).1)∧w.cell? ⟨g,i*2+1,none⟩=some (.pointer (some ⟨(l[i]'hi).2,0,none⟩)):=by
 rcases h.2 with ⟨_,n⟩ | ⟨g,a,f,rfl,j,k,m,_⟩
 ·omega
 ·obtain ⟨d,e⟩:=pcells_at l i hi
  have b:=World.ownsRow.cells h (g:=g) rfl _ _ d
  have c:=World.ownsRow.cells h (g:=g) rfl _ _ e
  rw [add_at] at b c
  exact ⟨g,a,rfl,m,j,(Array.getElem?_eq_some_iff.1 k).1,by simpa using b,by simpa using c⟩
theorem OwnsI.at {B:Nat} {w:World} {v:Value} {l:List (ByteArray×ByteArray)} (h:OwnsI B w v l) (i:Nat) (hi:i < l.length):∃g a,v= .slice (some ⟨g,0,none⟩) l.length a∧l.length≤a∧B≤g∧g < w.heap.size∧w.cell? ⟨g,i*2,none⟩=some (.string (l[i]'hi).1)∧w.cell? ⟨g,i*2+1,none⟩=some (.string (l[i]'hi).2):=by
 rcases h.2 with ⟨_,n⟩ | ⟨g,a,f,rfl,j,k,m,_⟩
 ·omega
 ·obtain ⟨d,e⟩:=icells_at l i hi
  have b:=World.ownsRow.cells h (g:=g) rfl _ _ d
  have c:=World.ownsRow.cells h (g:=g) rfl _ _ e
  rw [add_at] at b c
  exact ⟨g,a,rfl,m,j,(Array.getElem?_eq_some_iff.1 k).1,by simpa using b,by simpa using c⟩
set_option maxHeartbeats 1000000 in
theorem tIsLeaf_any (p:Nat) (c vc:Value) (a:Option Addr) (n b:Nat) (w:World) (h:NodT w p c (.slice a n b) vc):
  Calls Tryz.prog 76 #[.pointer (some ⟨p,0,none⟩)] w fun r w'=> r= .returned (.bool (decide (n=0)))∧w'=w:=by
 obtain ⟨d,f,g,-⟩:=h.cells
 have e:((n:Int)==0)=decide (n=0):=by by_cases q:n=0 <;> simp [q]
 go_enter Tryz.func76,Tryz.ntmps76
 go_wp2
 go_ret
 exact ⟨by simp,rfl⟩
set_option maxHeartbeats 1000000 in
theorem tIsIdle_any (p:Nat) (i:Value) (a j:Option Addr) (n d b c:Nat) (w:World) (h:NodT w p i (.slice a n d) (.slice j b c)):
  Calls Tryz.prog 65 #[.pointer (some ⟨p,0,none⟩)] w fun r w'=> r= .returned (.bool (decide (n=1)&&decide (b=0)))∧w'=w:=by
 obtain ⟨k,l,m,-⟩:=h.cells
 by_cases f:n=1
 ·subst f
  have e:((b:Int)==0)=decide (b=0):=by by_cases q:b=0 <;> simp [q]
  go_enter Tryz.func65,Tryz.ntmps65
  go_wp2
  go_ret
  exact ⟨by simp,rfl⟩
 ·have g:((n:Int)==1)=false:=by simp;omega
  go_enter Tryz.func65,Tryz.ntmps65
  go_wp2
  go_ret
  exact ⟨by simp [f],rfl⟩
theorem less_yes {a b:ByteArray} (h:a.data.toList < b.data.toList):Op.bytesLess a.toList b.toList=true:=by rw [toList_is,toList_is,less_is];exact decide_eq_true h
theorem less_no {a b:ByteArray} (h:¬a.data.toList < b.data.toList):Op.bytesLess a.toList b.toList=false:=by rw [toList_is,toList_is,less_is];exact decide_eq_false h
theorem eq_no {a b:ByteArray} (h:¬a=b):(a.toList==b.toList)=false:=by
 rw [toList_is,toList_is]
 exact beq_false_of_ne fun q=> h (bytes_ext q)
theorem ne_of_lt {a b:ByteArray} (h:a.data.toList < b.data.toList):¬b=a:=by rintro rfl;exact Tr.lt_ir _ h
theorem ix_drop (l:List (List UInt8)) (k:List UInt8) (j:Nat) (a:j+1 < l.length) (b:¬k < l[j+1]):Tr.ix (l.drop j) k=Tr.ix (l.drop (j+1)) k+1:=by
 rw [List.drop_eq_getElem_cons (by omega:j < l.length),List.drop_eq_getElem_cons a,Tr.ix,if_neg b]
theorem ix_stop (l:List (List UInt8)) (k:List UInt8) (j:Nat) (a:j+1 < l.length) (b:k < l[j+1]):Tr.ix (l.drop j) k=0:=by
 rw [List.drop_eq_getElem_cons (by omega:j < l.length),List.drop_eq_getElem_cons a,Tr.ix,if_pos b]
theorem ix_last (l:List (List UInt8)) (k:List UInt8) (j:Nat) (a:l.length≤j+1):Tr.ix (l.drop j) k=0:=by
 by_cases h:j < l.length
 ·rw [List.drop_eq_getElem_cons h,List.drop_of_length_le a,Tr.ix]
 ·rw [List.drop_of_length_le (by omega),Tr.ix]
def pkeys (l:List (ByteArray×Nat)):List (List UInt8):=l.map fun x=> x.1.data.toList
set_option maxHeartbeats 1000000 in
set_option maxRecDepth 20000 in
theorem tFind_any (p B:Nat) (z vp vc:Value) (a:List (ByteArray×Nat)) (key:ByteArray) (w:World) (h:NodT w p z vp vc) (u:OwnsP B w vp a) (M:a.length≤1000000000):
  Calls Tryz.prog 77 #[.pointer (some ⟨p,0,none⟩),.string key] w fun r w'=> r= .returned (.int .i64 (Tr.ix (pkeys a) key.data.toList:Nat))∧w'=w:=by
 obtain ⟨A,C,D,-⟩:=h.cells
 obtain ⟨E,F,rfl⟩:=rowShape u
 have v:=hid u
 clear u h
 go_enter Tryz.func77,Tryz.ntmps77
 go_wp2_with fail
 go_loop [5] (fun i=>∃j:Nat,i= .int .i64 j∧j≤a.length∧Hid (Tr.ix (pkeys a) key.data.toList=j+Tr.ix ((pkeys a).drop j) key.data.toList)) (fun i=> a.length - (intOf i).toNat)
 case atStart=> exact ⟨0,rfl,Nat.zero_le _,by show _=_;simp⟩
 case round=>
  obtain ⟨j,rfl,G,b⟩:=hrel
  have d:(pkeys a).length=a.length:=by simp [pkeys]
  by_cases c:j+1 < a.length
  ·obtain ⟨g,y,e,H,I,J,K,L⟩:=v.out.at (j+1) c
   simp only [Value.slice.injEq] at e
   obtain ⟨rfl,-,rfl⟩:=e
   generalize m:(a[j+1]'c).1=o at*
   have f:(pkeys a)[j+1]'(by rw [d];exact c)=o.data.toList:=by simp [pkeys,m]
   by_cases l:key.data.toList < o.data.toList
   ·have s:=less_no (fun q=> Tr.lt_ir _ (Tr.lt_tr l q))
    have t:¬o=key:=ne_of_lt l
    have x:=eq_no t
    have n:Hid (Tr.ix (pkeys a) key.data.toList=j):=by
     show _=_;rw [b.out,ix_stop _ _ _ (by rw [d];exact c) (by rw [f];exact l)];omega
    clear b f m l
    go_wp2_with fail
    go_ret
    exact ⟨by rw [n.out];rfl,rfl⟩
   ·have n:Hid (Tr.ix (pkeys a) key.data.toList=(j+1:Nat)+Tr.ix ((pkeys a).drop (j+1)) key.data.toList):=by
     show _=_;rw [b.out,ix_drop _ _ _ (by rw [d];exact c) (by rw [f];exact l)];omega
    clear b f m
    by_cases k:o.data.toList < key.data.toList
    ·have s:=less_yes k
     clear l k
     go_wp2_with fail
     go_round
     case rel=> exact ⟨j+1,by go_num,by omega,n.out⟩
     case measure=> simp [intOf];omega
    ·obtain rfl:o=key:=bytes_ext (Tr.tri _ _ k l)
     clear l k
     go_wp2_with fail
     go_round
     case rel=> exact ⟨j+1,by go_num,by omega,n.out⟩
     case measure=> simp [intOf];omega
  ·have n:Hid (Tr.ix (pkeys a) key.data.toList=j):=by
    show _=_;rw [b.out,ix_last _ _ _ (by rw [d];omega)];omega
   clear b
   go_wp2_with fail
   go_ret
   exact ⟨by rw [n.out];rfl,rfl⟩
end Go.Proofs.YtolgpnaoaodepaaGreat
namespace Go.Proofs.YtolgpnaoaodepaaGreat
open Go.RowKit
set_option maxRecDepth 10000 in
theorem or128:∀a,a < 256→a ||| 128=128+a % 128:=by decide
theorem u8_or128 (m:Nat):bits .or .u8 ((m:Int) % 256) 128=((128+m % 128:Nat):Int):=by
 have h:=u8_or_nat (m % 256) 128 (by omega) (by omega)
 rw [or128 _ (by omega),show m % 256 % 128=m % 128 by omega] at h
 rw [←h];rfl
theorem low1 (n:Nat):∃b:UInt8,b.toNat=n % 256∧Pg.low n 1=[b]:=⟨UInt8.ofNat (n % 256),by simp,rfl⟩
set_option maxHeartbeats 1000000 in
set_option maxRecDepth 20000 in
theorem apNum_any (B:Nat) (v:Value) (l:List UInt8) (n:Nat) (w:World) (f:Owns B w v l) (N:B≤w.heap.size) (O:l.length≤100000000000) (L:n≤9223372036854775807):
  Calls Tryz.prog 232 #[v,.int .i64 n] w fun r w'=>∃A,r= .returned A∧Owns B w' A (l++Pg.num n)∧Grew w w' v A:=by
 have q:=hid f
 have H:=num_short n L
 clear f
 go_enter Tryz.func232,Tryz.ntmps232
 go_wp2_with fail
 go_loopw [0,1] (fun u i wr=>∃(o:List UInt8) (m:Nat),m≤n∧i= .int .i64 m∧Owns B wr u o∧Grew w wr v u∧o++Pg.num m=l++Pg.num n∧o.length≤l.length+10) (fun _ i _=> (intOf i).toNat)
 case atStart=> exact ⟨l,n,Nat.le_refl _,rfl,q.out,Grew.refl _ _,rfl,by omega⟩
 case round=>
  obtain ⟨o,m,M,rfl,E,y,p,K⟩:=hrel
  have s:=hid p
  have C:=hid E
  have D:=hid y
  have I:=y.size
  have t:=hid (show (o++Pg.num m).length≤l.length+10 by rw [p,List.length_append];omega)
  clear p E y
  by_cases G:128≤m
  ·have J:=hid (u8_or128 m)
   obtain ⟨z,b,c⟩:=low1 (128+m % 128)
   have g:=hid c
   have h:=hid b
   clear c b
   go_wp2_with (first
    | (at_builtin;refine wpAp1 wr rfl (.tmp 7) (.tmp 11) rfl B u0 o rfl C.out z _ ?_ rfl ?_ ?_ ?_))
   ·rw [J.out,h.out];omega
   ·omega
   ·omega
   intro v2 F d e a
   have j:=hid d
   have k:=hid (D.out.trans (grew_alloc e a))
   clear d e a
   go_wp2_with fail
   go_roundw
   case rel=>
    have x:=Pg.num_big m (by omega)
    refine ⟨_,m / 128,by omega,by go_num,j.out,k.out,?_,?_⟩
    ·rw [←s.out,x,List.append_assoc,g.out]
    ·have:=t.out
     rw [x] at this
     simp only [List.length_append,Pg.low_len] at this
     simp;omega
   case measure=> simp [intOf];omega
  ·obtain ⟨z,b,c⟩:=low1 m
   have g:=hid c
   have h:=hid b
   clear c b
   go_wp2_with (first
    | (at_builtin;refine wpAp1 wr rfl (.tmp 15) (.tmp 18) rfl B u0 o rfl C.out z _ ?_ rfl ?_ ?_ ?_))
   ·rw [h.out];omega
   ·omega
   ·omega
   intro v2 F d e a
   have k:=hid (D.out.trans (grew_alloc e a))
   have j:Hid (Owns B F v2 (l++Pg.num n)):=by
    show Owns _ _ _ _
    rw [←s.out,Pg.num_small m (by omega),g.out];exact d
   clear d e a
   go_wp2_with fail
   go_ret
   exact ⟨v2,rfl,j.out,k.out⟩
set_option maxHeartbeats 1000000 in
set_option maxRecDepth 20000 in
theorem apText_any (B:Nat) (v:Value) (l:List UInt8) (s:ByteArray) (w:World) (a:Owns B w v l) (q:B≤w.heap.size) (t:l.length≤100000000000) (x:s.size≤35184372088832):
  Calls Tryz.prog 234 #[v,.string s] w fun r w'=>∃k,r= .returned k∧Owns B w' k (l++Pg.text s.data.toList)∧Grew w w' v k:=by
 have c:=hid a
 have m:Hid (Pg.text s.data.toList=Pg.num s.size++s.data.toList):=by show _=_;unfold Pg.text;rw [len_size]
 have n:=num_short s.size (by omega)
 clear a
 go_enter Tryz.func234,Tryz.ntmps234
 go_wp2_with fail
 refine (apNum_any B v l s.size _ c.out q t (by omega)).mono ?_
 rintro r p ⟨v1,rfl,d,b⟩
 have g:=hid d
 have h:=hid b
 have o:=b.size
 clear d b
 go_wp2_with (first
  | (at_builtin;refine wpApSg p rfl (.tmp 8) (.tmp 9) rfl B v1 _ rfl g.out s rfl (by rw [List.length_append];omega) (by omega) ?_))
 intro v2 u e f
 have i:=hid e
 have j:=hid (h.out.trans f)
 clear e f
 go_wp2_with fail
 go_ret
 exact ⟨v2,rfl,by rw [m.out];exact i.out,j.out⟩
set_option maxHeartbeats 1000000 in
set_option maxRecDepth 20000 in
theorem apShort_any (B:Nat) (v:Value) (l:List UInt8) (n:Nat) (w:World) (b:Owns B w v l) (j:B≤w.heap.size) (k:l.length≤100000000000):
  Calls Tryz.prog 183 #[v,.int .i64 n] w fun r w'=>∃h,r= .returned h∧Owns B w' h (l++Pg.low n 2)∧Grew w w' v h:=by
 have c:=hid b
 clear b
 go_enter Tryz.func183,Tryz.ntmps183
 go_wp2_with (first
  | (at_builtin;refine wpAp2 w rfl (.tmp 5) (.tmp 11) rfl B v _ rfl c.out (UInt8.ofNat (n % 256)) (UInt8.ofNat (n / 256 % 256)) _ _ ?_ ?_ rfl ?_ ?_ ?_))
 ·simp
 ·simp
 ·omega
 ·omega
 intro v2 i d e a
 have f:=hid d
 have g:=hid (grew_alloc e a)
 clear d e a
 go_wp2_with fail
 go_ret
 exact ⟨v2,rfl,f.out,g.out⟩
theorem crc_step (f:Nat) (h:f < 4294967296):bits .xor .u32 ((f:Int) / 2) (bits .and .u32 2197175160 (-bits .and .u32 (f:Int) 1 % 4294967296))=((Pg.crcBit f:Nat):Int):=by
 have c:=u32_and_nat f 1 h (by omega)
 rw [Nat.and_one_is_mod] at c
 have d:bits .and .u32 (f:Int) 1=((f % 2:Nat):Int):=c
 have e:(f:Int) / 2=((f / 2:Nat):Int):=by omega
 rw [d,e]
 by_cases b:f % 2=1
 ·rw [b,show -((1:Nat):Int) % 4294967296=((4294967295:Nat):Int) by decide]
  have a:bits .and .u32 2197175160 ((4294967295:Nat):Int)=((2197175160:Nat):Int):=by
   have:=u32_and_nat 2197175160 4294967295 (by omega) (by omega)
   exact this
  rw [a,u32_xor_nat _ _ (by omega) (by omega),crcBit_one b]
 ·rw [show f % 2=0 by omega,show -((0:Nat):Int) % 4294967296=((0:Nat):Int) by decide]
  have a:bits .and .u32 2197175160 ((0:Nat):Int)=((0:Nat):Int):=by
   have:=u32_and_nat 2197175160 0 (by omega) (by omega)
   exact this
  rw [a,u32_xor_nat _ _ (by omega) (by omega),crcBit_zero b,Nat.xor_zero]
set_option maxHeartbeats 1000000 in
set_option maxRecDepth 20000 in
theorem check_any (s:ByteArray) (w:World) (E:s.size≤35184372088832):
  Calls Tryz.prog 262 #[.string s] w fun r w'=> r= .returned (.int .u32 (Pg.crc s.data.toList))∧w'=w:=by
 go_enter Tryz.func262,Tryz.ntmps262
 go_wp2_with fail
 go_loop [3,7] (fun c i=>∃k:Nat,k≤s.size∧i= .int .i64 k∧c= .int .u32 (Pg.crcAll (s.data.toList.take k))) (fun _ i=> s.size - (intOf i).toNat)
 case atStart=> exact ⟨0,Nat.zero_le _,rfl,rfl⟩
 case round=>
  obtain ⟨k,C,rfl,rfl⟩:=hrel
  have h:=Pg.crcAll_lt (s.data.toList.take k)
  by_cases g:k < s.size
  ·have q:=hid (crc_next s k g)
   generalize z:Pg.crcAll (s.data.toList.take k)=c at*
   have B:(s[k]'g).toNat < 256:=(s[k]'g).toNat_lt
   have t:=u32_xor_nat c (s[k]'g).toNat h (by omega)
   have n:=Pg.xor_lt (a:=c) (b:=(s[k]'g).toNat) h (by omega)
   have u:Hid (Pg.crcByte c (s[k]'g)=Pg.crcBits 8 (c^^^(s[k]'g).toNat)):=rfl
   clear z
   generalize A:c^^^(s[k]'g).toNat=d at*
   clear A
   go_wp2_with fail
   clear t
   go_loop [3,16] (fun e j=>∃m:Nat,m≤8∧j= .int .i64 m∧e= .int .u32 (Pg.crcBits m d)) (fun _ j=> 8 - (intOf j).toNat)
   case atStart=> exact ⟨0,Nat.zero_le _,rfl,rfl⟩
   case round=>
    obtain ⟨m,D,rfl,rfl⟩:=hrel
    have l:=Pg.crcBits_lt n m
    have v:Hid (Pg.crcBits (m+1) d=Pg.crcBit (Pg.crcBits m d)):=rfl
    generalize p:Pg.crcBits m d=f at*
    by_cases y:m < 8
    ·clear p
     go_wp2_with fail
     go_round
     case rel=> exact ⟨m+1,by omega,by go_num,by rw [v.out];exact int_eq (crc_step f l)⟩
     case measure=> simp [intOf];omega
    ·have o:m=8:=by omega
     subst o
     go_wp2_with fail
     go_round
     case rel=> exact ⟨k+1,by omega,by go_num,by rw [q.out,u.out,p]⟩
     case measure=> simp [intOf];omega
  ·have x:Hid (bits .xor .u32 IntKind.u32.max (Pg.crcAll (s.data.toList.take k):Int)=(Pg.crc s.data.toList:Int)):=by
    show _=_
    have:=u32_xor_nat 4294967295 (Pg.crcAll (s.data.toList.take k)) (by omega) h
    rw [show IntKind.u32.max=((4294967295:Nat):Int) from rfl,this,List.take_of_length_le (by rw [len_size];omega),Nat.xor_comm];rfl
   go_wp2_with fail
   go_ret
   exact ⟨ret_int x.out,rfl⟩
theorem low4 (n:Nat):∃b c d e:UInt8,b.toNat=n % 256∧c.toNat=n / 256 % 256∧d.toNat=n / 65536 % 256∧e.toNat=n / 16777216 % 256∧Pg.low n 4=[b,c,d,e]:=⟨UInt8.ofNat (n % 256),UInt8.ofNat (n / 256 % 256),UInt8.ofNat (n / 256 / 256 % 256),UInt8.ofNat (n / 256 / 256 / 256 % 256),by simp,by simp,by simp;omega,by simp;omega,rfl⟩
set_option maxHeartbeats 1000000 in
set_option maxRecDepth 20000 in
theorem seal_any (B:Nat) (v:Value) (l:List UInt8) (w:World) (a:Owns B w v l) (G:B≤w.heap.size) (H:l.length≤100000000000):
  Calls Tryz.prog 233 #[v] w fun r w'=>∃o,r= .returned o∧Owns B w' o (Pg.sealed l)∧Grew w w' v o:=by
 have f:=hid a
 have j:=a.str
 clear a
 go_enter Tryz.func233,Tryz.ntmps233
 go_wp2_with fail
 refine (check_any ⟨l.toArray⟩ _ (by rw [size_mk];omega)).mono ?_
 rintro r E ⟨rfl,rfl⟩
 have u:=Pg.crc_lt l
 rw [show (⟨l.toArray⟩:ByteArray).data.toList=l from rfl]
 have x:Hid (Pg.sealed l=l++Pg.low (Pg.crc l) 4):=rfl
 generalize Pg.crc l=n at*
 obtain ⟨b,c,d,e,p,q,s,t,g⟩:=low4 n
 have y:=hid p
 have z:=hid q
 have A:=hid s
 have C:=hid t
 have D:=hid g
 clear p q s t g j
 go_wp2_with (first
  | (at_builtin;refine wpAp4 E rfl (.tmp 7) (.tmp 19) rfl B v _ rfl f.out b c d e _ _ _ _ ?_ ?_ ?_ ?_ rfl ?_ ?_ ?_))
 ·rw [y.out];omega
 ·rw [z.out];omega
 ·rw [A.out];omega
 ·rw [C.out];omega
 ·omega
 ·omega
 intro v2 F h i
 have k:=hid h
 have m:=hid i
 clear h i
 go_wp2_with fail
 go_ret
 exact ⟨v2,rfl,by rw [x.out,D.out];exact k.out,m.out⟩
end Go.Proofs.YtolgpnaoaodepaaGreat
namespace Go.Proofs.YtolgpnaoaodepaaGreat
open Go.RowKit
theorem own_lt {B:Nat} {w:World} {v:Value} {T:TypeId} {a n:Nat} {xs:List Value} (h:w.ownsRow B T a v n xs) {k:Nat} (b:w.heap.size≤k):v.ownBlock≠some k:=fun e=> by
 have:=(World.ownsRow.lt h k e).2;omega
theorem section_yes {k c:List UInt8} (h:(Sq.squeeze c).length < c.length):Pg.section_ k c=Pg.sealed (k++Pg.low 1 1++Pg.num c.length++Pg.text (Sq.squeeze c)):=by unfold Pg.section_;rw [if_pos h]
theorem section_no {k c:List UInt8} (h:¬(Sq.squeeze c).length < c.length):Pg.section_ k c=Pg.sealed (k++Pg.low 0 1++Pg.num c.length++Pg.text c):=by unfold Pg.section_;rw [if_neg h]
set_option maxHeartbeats 1000000 in
set_option maxRecDepth 20000 in
theorem writeSec_cv (k:UInt8) (v:Value) (l:List UInt8) (w:World) (N:∃a c,v= .slice a l.length c) (y:∀w':World,w'.heap=w.heap→(convert 108 9 v).run Tryz.prog w'= .ok (.string ⟨l.toArray⟩) w') (U:l.length≤10000000000):
  Calls Tryz.prog 178 #[.int .u8 (k.toNat:Int),v] w fun r w'=> r= .returned (.string ⟨(Pg.section_ [k] l).toArray⟩)∧Below w.heap.size w w':=by
 have O:k.toNat < 256:=k.toNat_lt
 have g:=y w rfl
 have D:=y w.drew rfl
 have E:∀q,(convert 108 9 v).run Tryz.prog (w.drewN q)= .ok (.string ⟨l.toArray⟩) (w.drewN q):=fun q=> y (w.drewN q) rfl
 obtain ⟨T,vc,rfl⟩:=N
 clear y
 go_enter Tryz.func178,Tryz.ntmps178
 go_wp2_with fail
 go_quiet (fail)
 clear g D E
 go_wp2_with fail
 refine (squeeze_any ⟨l.toArray⟩ _ (by rw [size_mk];omega)).mono ?_
 rintro r f ⟨rfl,G⟩
 rw [show (⟨l.toArray⟩:ByteArray).data.toList=l from rfl]
 have B:=hid ((below_drewN (Below.refl w.heap.size w) nq).trans (G.mono (by simp)))
 have P:=Sq.squeeze_le l
 have z:=B.out.size
 clear G
 by_cases H:(Sq.squeeze l).length < l.length
 ·have I:=hid (section_yes (k:=[k]) H)
  generalize M:Sq.squeeze l=A at*
  have F:((A.length:Int) < (l.length:Int)):=by omega
  have J:=size_mk A
  go_wp2_with fail
  have b:=owns_lit f f.heap.size (Nat.le_refl _) [k,1] #[.int .u8 (k.toNat:Int),.int .u8 1] (by simp [Lib.byteCells]) (by simp)
  refine (apNum_any f.heap.size _ [k,1] l.length _ b (by simp) (by simp) (by omega)).mono ?_
  rintro r Q ⟨v2,rfl,o,p⟩
  have h:=hid o
  have i:=hid (((Below.refl f.heap.size f).alloc (Nat.le_refl _) _).trans (p.below b (by simp)))
  have d:=i.out.size
  clear o p b
  have K:=num_short l.length (by omega)
  go_wp2_with fail
  refine (apText_any f.heap.size v2 _ ⟨A.toArray⟩ _ h.out d (by simp;omega) (by rw [size_mk];omega)).mono ?_
  rintro r R ⟨v3,rfl,s,t⟩
  have j:=hid s
  have m:=hid (i.out.trans (t.below h.out d))
  have e:=m.out.size
  clear s t
  go_wp2_with fail
  have L:=text_len A (by omega)
  refine (seal_any f.heap.size v3 _ _ j.out e (by simp;omega)).mono ?_
  rintro r S ⟨v4,rfl,u,x⟩
  have g:=u.str
  have C:=hid (m.out.trans (x.below j.out e))
  clear u x
  have n:Hid (Pg.sealed ([k,1]++Pg.num l.length++Pg.text A)=Pg.section_ [k] l):=by
   show _=_;rw [I.out];rfl
  rw [n.out] at g
  go_wp2_with fail
  go_ret
  exact ⟨rfl,B.out.trans (C.out.mono z)⟩
 ·have I:=hid (section_no (k:=[k]) H)
  generalize M:Sq.squeeze l=A at*
  have F:¬((A.length:Int) < (l.length:Int)):=by omega
  have J:=size_mk A
  go_wp2_with fail
  have b:=owns_lit f f.heap.size (Nat.le_refl _) [k,0] #[.int .u8 (k.toNat:Int),.int .u8 0] (by simp [Lib.byteCells]) (by simp)
  refine (apNum_any f.heap.size _ [k,0] l.length _ b (by simp) (by simp) (by omega)).mono ?_
  rintro r Q ⟨v2,rfl,o,p⟩
  have h:=hid o
  have i:=hid (((Below.refl f.heap.size f).alloc (Nat.le_refl _) _).trans (p.below b (by simp)))
  have d:=i.out.size
  clear o p b
  have K:=num_short l.length (by omega)
  go_wp2_with fail
  refine (apText_any f.heap.size v2 _ ⟨l.toArray⟩ _ h.out d (by simp;omega) (by rw [size_mk];omega)).mono ?_
  rintro r R ⟨v3,rfl,s,t⟩
  have j:=hid s
  have m:=hid (i.out.trans (t.below h.out d))
  have e:=m.out.size
  clear s t
  go_wp2_with fail
  have L:=text_len l (by omega)
  refine (seal_any f.heap.size v3 _ _ j.out e (by simp;omega)).mono ?_
  rintro r S ⟨v4,rfl,u,x⟩
  have g:=u.str
  have C:=hid (m.out.trans (x.below j.out e))
  clear u x
  have n:Hid (Pg.sealed ([k,0]++Pg.num l.length++Pg.text l)=Pg.section_ [k] l):=by
   show _=_;rw [I.out];rfl
  rw [n.out] at g
  go_wp2_with fail
  go_ret
  exact ⟨rfl,B.out.trans (C.out.mono z)⟩
theorem writeSec_any (B:Nat) (k:UInt8) (v:Value) (l:List UInt8) (w:World) (a:Owns B w v l) (c:l.length≤10000000000):
  Calls Tryz.prog 178 #[.int .u8 (k.toNat:Int),v] w fun r w'=> r= .returned (.string ⟨(Pg.section_ [k] l).toArray⟩)∧Below w.heap.size w w':=by
 refine writeSec_cv k v l w a.shape (fun w' b=> ?_) c
 have:Owns B w' v l:=by unfold Owns World.ownsRow at*;rw [b];exact a
 exact this.str
set_option maxHeartbeats 1000000 in
set_option maxRecDepth 20000 in
theorem sealHead_any (B:Nat) (v:Value) (l:List UInt8) (w:World) (a:Owns B w v l) (s:B≤w.heap.size) (t:0 < l.length) (y:l.length≤64):
  Calls Tryz.prog 184 #[v] w fun r w'=>∃j,r= .returned j∧Owns B w' j (Pg.sealed (l++List.replicate (64 - l.length) 0))∧Grew w w' v j:=by
 obtain ⟨q,vc,rfl⟩:=a.shape
 have c:=hid a
 clear a
 obtain ⟨d,m⟩:∃d,d=64 - l.length:=⟨_,rfl⟩
 have n:(64:Int) - (l.length:Int)=(d:Int):=by omega
 have o:=hid m
 have p:d≤64:=by omega
 clear m
 go_enter Tryz.func184,Tryz.ntmps184
 go_wp2_with (first
  | (at_builtin;refine wpApZ w rfl (.tmp 3) (.tmp 6) rfl B (.slice q l.length vc) l rfl c.out t d rfl (by omega) (by omega) s ?_))
 intro v2 x e b
 have f:=hid e
 have g:=hid b
 have k:=b.size
 clear e b
 go_wp2_with fail
 refine (seal_any B v2 _ _ f.out (by omega) (by simp;omega)).mono ?_
 rintro r u ⟨v3,rfl,h,i⟩
 go_wp2_with fail
 go_ret
 exact ⟨v3,rfl,by rw [←o.out];exact h,g.out.trans i⟩
end Go.Proofs.YtolgpnaoaodepaaGreat
namespace Go.Proofs.YtolgpnaoaodepaaGreat
open Go.RowKit
theorem Grew.ne {w w':World} {v b:Value} (h:Grew w w' v b) {k:Nat} (f:k < w.heap.size) (a:v.ownBlock≠some k):b.ownBlock≠some k:=by
 rcases h.2 with e | ⟨j,d,e⟩
 ·rw [e];exact a
 ·rw [e];intro c;have:j=k:=by simpa using c
  omega
set_option maxHeartbeats 1000000 in
set_option maxRecDepth 20000 in
theorem front_any (s t:ByteArray) (w:World) (z:s.size≤35184372088832):
  Calls Tryz.prog 235 #[.string s,.string t] w fun r w'=> r= .returned (.int .i64 (Pg.common s.data.toList t.data.toList))∧∃q,w'=w.drewN q:=by
 obtain ⟨m,g⟩:∃m:Nat,m=min s.size t.size:=⟨_,rfl⟩
 have d:min (s.size:Int) (t.size:Int)=(m:Int):=by omega
 have e:m≤s.size∧m≤t.size∧(m=s.size∨m=t.size):=by omega
 clear g
 go_enter Tryz.func235,Tryz.ntmps235
 go_wp2_with fail
 go_loopw [5] (fun i wr=>∃k:Nat,k≤m∧i= .int .i64 k∧(∀j,j < k→∃x,s.data.toList[j]?=some x∧t.data.toList[j]?=some x)∧∃q,wr=w.drewN q) (fun i _=> m - (intOf i).toNat)
 case atStart=> exact ⟨0,Nat.zero_le _,rfl,fun j h=> by omega,0,rfl⟩
 case round=>
  obtain ⟨k,l,rfl,c,q,rfl⟩:=hrel
  have a:=hid c
  clear c
  by_cases n:k < m
  ·have p:(k:Int) < (s.size:Int):=by omega
   have u:(k:Int) < (t.size:Int):=by omega
   have v:decide ((k:Int) < (m:Int))=true:=by simp;omega
   go_wp2_with fail
   go_quiet (fail)
   go_wp2_with fail
   ·have b:=byte_eq2 s t k (by omega) (by omega) (by assumption)
    go_roundw
    case rel=>
     refine ⟨k+1,by omega,by go_num,fun j c=> ?_,_,rfl⟩
     by_cases o:j=k
     ·rw [o];exact b
     ·exact a.out j (by omega)
    case measure=> simp [intOf];omega
   ·have b:=byte_ne2 s t k (by omega) (by omega) (by assumption)
    go_ret
    exact ⟨ret_int (by rw [Pg.common_stop k _ _ a.out (.inr (.inr b))]),_,World.drewN_drewN _ _ _⟩
  ·have y:decide ((k:Int) < (m:Int))=false:=by simp;omega
   have f:=hid (Pg.common_stop k s.data.toList t.data.toList a.out (by rw [len_size,len_size];omega))
   go_wp2_with fail
   go_quiet (fail)
   go_wp2_with fail
   go_ret
   exact ⟨ret_int (by rw [f.out]),_,World.drewN_drewN _ _ _⟩
set_option maxHeartbeats 2000000 in
set_option maxRecDepth 20000 in
theorem base_at (b Q a9:Nat) (l:List (ByteArray×ByteArray)) (w:World) (hl:l.length≤1000) (R:ItemsAt w b Q l) (hb:b < w.heap.size) (S:∀x∈l,x.1.size≤10000000∧x.2.size≤10000000):
  Calls Tryz.prog 179 #[.slice (some ⟨b,Q,none⟩) l.length a9] w fun r w'=>∃v',r= .returned v'∧Owns w.heap.size w' v' (Pg.basement (plain l))∧Below w.heap.size w w':=by
 have T:=hid R
 have U:=hid S
 clear R S
 obtain ⟨bt,I,h⟩:=low1 l.length
 have V:=hid I
 have W:Hid ([bt]++Pg.items [] (plain l)=Pg.basement (plain l)):=by show _=_;unfold Pg.basement plain;rw [List.length_map,h]
 clear I h
 go_enter Tryz.func179,Tryz.ntmps179
 go_wp2_with fail
 have p:=owns_lit w w.heap.size (Nat.le_refl _) [bt] #[.int .u8 ((l.length:Int) % 256)] (by simp [Lib.byteCells];rw [V.out];omega) (by simp)
 have s:=hid p
 have n:=hid ((Below.refl w.heap.size w).alloc (Nat.le_refl _) (.cells #[.int .u8 ((l.length:Int) % 256)] 5))
 clear p
 go_loopw [3,4,14] (fun u O i wr=>∃(k:Nat) (o:List UInt8) (lb:ByteArray),k≤l.length∧i= .int .i64 k∧O= .string lb∧lb.size≤10000000∧o.length≤1+k*20000100∧Owns w.heap.size wr u o∧Below w.heap.size w wr∧o++Pg.items lb.data.toList (plain (l.drop k))=Pg.basement (plain l)) (fun _ _ i _=> l.length - (intOf i).toNat)
 case atStart=> exact ⟨0,[bt],⟨#[]⟩,Nat.zero_le _,rfl,rfl,by decide,by simp,s.out,n.out,by simpa using W.out⟩
 case round=>
  clear s n
  obtain ⟨k,o,lb,hk,rfl,rfl,b5,b6,t,j,J⟩:=hrel
  have C:=hid J
  have f:=hid j
  have g:=hid t
  have D:=j.size
  clear J j t
  by_cases e:k < l.length
  ·obtain ⟨c0,c1⟩:=T.out.below f.out hb k e
   have E:=U.out _ (List.getElem_mem e)
   have X:Hid (plain (l.drop k)=((l[k]'e).1.data.toList,(l[k]'e).2.data.toList)::plain (l.drop (k+1))):=by
    show _=_;rw [List.drop_eq_getElem_cons e];rfl
   generalize l[k]'e=x at*
   obtain ⟨a,m⟩:=x
   simp only at c0 c1 E
   go_wp2_with fail
   refine (front_any lb a _ (by omega)).mono ?_
   rintro r w2 ⟨rfl,q,rfl⟩
   have Y:=Pg.common_le lb.data.toList a.data.toList
   rw [len_size,len_size] at Y
   have Z:Hid (Pg.items lb.data.toList (plain (l.drop k))=Pg.low (Pg.common lb.data.toList a.data.toList) 1++Pg.text (a.data.toList.drop (Pg.common lb.data.toList a.data.toList))++Pg.text m.data.toList++Pg.items a.data.toList (plain (l.drop (k+1)))):=by
    show _=_;rw [X.out];rfl
   generalize Pg.common lb.data.toList a.data.toList=P at*
   have d0:((wr.alloc (.cells #[.string a,.string m] 51)).drewN q).cell? ⟨wr.heap.size,0,none⟩=some (.string a):=by simp
   have d1:((wr.alloc (.cells #[.string a,.string m] 51)).drewN q).cell? ⟨wr.heap.size,1,none⟩=some (.string m):=by simp
   have y:=hid (own_lt g.out (Nat.le_refl wr.heap.size))
   have F:=hid ((g.out.alloc (.cells #[.string a,.string m] 51)).drewN q)
   have a0:=hid (below_drewN (f.out.alloc D (.cells #[.string a,.string m] 51)) q)
   have b0:((wr.alloc (.cells #[.string a,.string m] 51)).drewN q).heap.size > wr.heap.size:=by simp
   generalize (wr.alloc (.cells #[.string a,.string m] 51)).drewN q=w2 at*
   obtain ⟨bc,K,h⟩:=low1 P
   have a1:=hid K
   have n:=hid h
   clear K h c0 c1
   go_wp2_with (first
    | (at_builtin;refine wpAp1 w2 rfl (.tmp 22) (.tmp 25) rfl w.heap.size u3 o rfl F.out bc _ ?_ rfl ?_ ?_ ?_))
   ·rw [a1.out];omega
   ·omega
   ·omega
   intro v3 w3 M N v
   have G:=hid M
   have c:=grew_alloc N v
   have a2:=hid (a0.out.trans (c.below F.out (by omega)))
   have b1:=c.size
   have e0:=c.cell d0 y.out
   have e1:=c.cell d1 y.out
   have z:=hid (c.ne (by omega) y.out)
   clear M N v c d0 d1
   have b2:(0:Int)≤(P:Int):=by omega
   have b3:(P:Int)≤(a.size:Int):=by omega
   go_wp2_with fail
   refine (apText_any w.heap.size v3 _ (a.extract P a.size) _ G.out (by omega) (by simp;omega) (by rw [ByteArray.size_extract];omega)).mono ?_
   rintro r w4 ⟨v4,rfl,A,d⟩
   have a3:=text_len (a.data.toList.drop P) (by rw [List.length_drop,len_size];omega)
   rw [List.length_drop,len_size] at a3
   rw [drop_data] at A
   have H:=hid A
   have a4:=hid (a2.out.trans (d.below G.out (by omega)))
   have b4:=d.size
   have f0:=d.cell e0 z.out
   have f1:=d.cell e1 z.out
   have a5:=hid (d.ne (by omega) z.out)
   clear A d e0 e1
   go_wp2_with fail
   refine (apText_any w.heap.size v4 _ m _ H.out (by omega) (by simp;omega) (by omega)).mono ?_
   rintro r w5 ⟨v5,rfl,L,B⟩
   have a6:=text_len m.data.toList (by rw [len_size];omega)
   rw [len_size] at a6
   have a7:=hid L
   have a8:=hid (a4.out.trans (B.below H.out (by omega)))
   have g0:=B.cell f0 a5.out
   clear L B f0 f1
   go_wp2_with fail
   go_roundw
   case rel=>
    refine ⟨k+1,_,a,by omega,by go_num,rfl,E.1,?_,a7.out,a8.out,?_⟩
    ·simp only [List.length_append,List.length_singleton];omega
    ·rw [←C.out,Z.out,n.out];simp
   case measure=> simp [intOf];omega
  ·have HF:Hid (o=Pg.basement (plain l)):=by
    show _=_;rw [←C.out,List.drop_eq_nil_of_le (by omega)];simp [plain,Pg.items]
   go_wp2_with fail
   go_ret
   exact ⟨_,rfl,by rw [←HF.out];exact g.out,f.out⟩
set_option maxHeartbeats 1000000 in
set_option maxRecDepth 20000 in
theorem base_nil (a:Option Addr) (e:Nat) (w:World):
  Calls Tryz.prog 179 #[.slice a 0 e] w fun r w'=>∃f,r= .returned f∧Owns w.heap.size w' f (Pg.basement [])∧Below w.heap.size w w':=by
 have b:=owns_lit w w.heap.size (Nat.le_refl _) [0] #[.int .u8 0] (by simp [Lib.byteCells]) (by simp)
 have c:=hid b
 have d:=hid ((Below.refl w.heap.size w).alloc (Nat.le_refl _) (.cells #[.int .u8 0] 5))
 clear b
 go_enter Tryz.func179,Tryz.ntmps179
 go_wp2_with fail
 go_loopw [3,4,14] (fun u _ i wr=> i= .int .i64 0∧Owns w.heap.size wr u [0]∧Below w.heap.size w wr) (fun _ _ _ _=> 0)
 case atStart=> exact ⟨rfl,c.out,d.out⟩
 case round=>
  obtain ⟨rfl,g,h⟩:=hrel
  go_wp2_with fail
  go_ret
  exact ⟨_,rfl,g,h⟩
theorem base_any (v:Value) (l:List (ByteArray×ByteArray)) (w:World) (i:IsItems w v l) (j:l.length≤1000) (f:∀x∈l,x.1.size≤10000000∧x.2.size≤10000000):
  Calls Tryz.prog 179 #[v] w fun r w'=>∃g,r= .returned g∧Owns w.heap.size w' g (Pg.basement (plain l))∧Below w.heap.size w w':=by
 rcases i with ⟨a,c,rfl,rfl⟩ | ⟨b,d,c,rfl,-,-,h,e⟩
 ·exact base_nil a c w
 ·exact base_at b d c l w j e h f
end Go.Proofs.YtolgpnaoaodepaaGreat
