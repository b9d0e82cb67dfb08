import Derived.Test.YtolgpnaoaodepaaGreatGenm
namespace Go.Proofs.YtolgpnaoaodepaaGreat
open Go.RowKit
def An (w:World) (p:Nat) (vi vp vc:Value):Prop:=w.heap[p]?=some (.cells #[vi,vp,vc] 123 (0,0))
theorem An.cells {w:World} {p:Nat} {a vp vc:Value} (h:An w p a vp vc):w.cell? ⟨p,0,none⟩=some a/\w.cell? ⟨p,1,none⟩=some vp/\w.cell? ⟨p,2,none⟩=some vc/\w.frozen? ⟨p,0,none⟩=false/\w.frozen? ⟨p,1,none⟩=false/\w.frozen? ⟨p,2,none⟩=false:=by
 unfold An at h;refine ⟨?_,?_,?_,?_,?_,?_⟩ <;> simp [World.cell?,World.frozen?,h]
theorem An.lt {w:World} {p:Nat} {a vp vc:Value} (h:An w p a vp vc):p < w.heap.size:=(Array.getElem?_eq_some_iff.1 h).1
def pcells:List (ByteArray×Nat)->List Value
 | []=> []
 | x::r=> [.string x.1,.pointer (some ⟨x.2,0,none⟩)]++pcells r
theorem Ar:∀l:List (ByteArray×Nat),(pcells l).length=l.length*2
 | []=> rfl
 | x::r=> by rw [pcells,List.length_append,Ar r];simp;omega
theorem Cg:∀a b:List (ByteArray×Nat),pcells (a++b)=pcells a++pcells b
 | [],_=> rfl
 | x::r,b=> by rw [List.cons_append,pcells,pcells,Cg r b];simp
theorem Ab5:∀(l:List (ByteArray×Nat)) (i:Nat) (h:i < l.length),(pcells l)[i*2]?=some (.string (l[i]'h).1)/\(pcells l)[i*2+1]?=some (.pointer (some ⟨(l[i]'h).2,0,none⟩))
 | x::r,0,_=> ⟨rfl,rfl⟩
 | x::r,i+1,h=> by
  obtain ⟨a,b⟩:=Ab5 r i (by simpa using h);rw [pcells,show (i+1)*2=i*2+2 by omega];exact ⟨by simpa using a,by simpa using b⟩
def Ap (B:Nat) (w:World) (v:Value) (l:List (ByteArray×Nat)):Prop:=w.ownsRow B 132 2 v l.length (pcells l)
theorem Ap.at {B:Nat} {w:World} {v:Value} {l:List (ByteArray×Nat)} (h:Ap B w v l) (i:Nat) (hi:i < l.length):∃g a,v= .slice (some ⟨g,0,none⟩) l.length a/\l.length<=a/\B<=g/\g < w.heap.size/\w.cell? ⟨g,i*2,none⟩=some (.string (l[i]'hi).1)/\w.cell? ⟨g,i*2+1,none⟩=some (.pointer (some ⟨(l[i]'hi).2,0,none⟩)):=by
 rcases h.2 with ⟨_,o⟩ | ⟨g,a,j,rfl,k,m,n,_⟩
 ·omega
 ·obtain ⟨d,f⟩:=Ab5 l i hi;have b:=World.ownsRow.cells h (g:=g) rfl _ _ d;have c:=World.ownsRow.cells h (g:=g) rfl _ _ f;rw [Dm] at b c;exact ⟨g,a,rfl,n,k,(Array.getElem?_eq_some_iff.1 m).1,by simpa using b,by simpa using c⟩
theorem Ak.at {B:Nat} {w:World} {v:Value} {l:List (ByteArray×ByteArray)} (h:Ak B w v l) (i:Nat) (hi:i < l.length):∃g a,v= .slice (some ⟨g,0,none⟩) l.length a/\l.length<=a/\B<=g/\g < w.heap.size/\w.cell? ⟨g,i*2,none⟩=some (.string (l[i]'hi).1)/\w.cell? ⟨g,i*2+1,none⟩=some (.string (l[i]'hi).2):=by
 rcases h.2 with ⟨_,o⟩ | ⟨g,a,j,rfl,k,m,n,_⟩
 ·omega
 ·obtain ⟨d,f⟩:=Sr l i hi;have b:=World.ownsRow.cells h (g:=g) rfl _ _ d;have c:=World.ownsRow.cells h (g:=g) rfl _ _ f;rw [Dm] at b c;exact ⟨g,a,rfl,n,k,(Array.getElem?_eq_some_iff.1 m).1,by simpa using b,by simpa using c⟩
set_option maxHeartbeats 1000000 in
theorem Et (p:Nat) (c vc:Value) (a:Option Addr) (n b:Nat) (w:World) (h:An w p c (.slice a n b) vc):
  Calls Tryz.prog 76 #[.pointer (some ⟨p,0,none⟩)] w fun r w'=> r= .returned (.bool (decide (n=0)))/\w'=w:=by
 obtain ⟨d,f,g,-⟩:=h.cells;have e:((n:Int)==0)=decide (n=0):=by by_cases q:n=0 <;> simp [q]
 go_enter Tryz.func76,Tryz.ntmps76
 go_wp2
 go_ret;exact ⟨by simp,rfl⟩
set_option maxHeartbeats 1000000 in
theorem Ul (p:Nat) (i:Value) (a j:Option Addr) (n d b c:Nat) (w:World) (h:An w p i (.slice a n d) (.slice j b c)):
  Calls Tryz.prog 65 #[.pointer (some ⟨p,0,none⟩)] w fun r w'=> r= .returned (.bool (decide (n=1)&&decide (b=0)))/\w'=w:=by
 obtain ⟨k,l,m,-⟩:=h.cells;by_cases f:n=1
 ·subst f;have e:((b:Int)==0)=decide (b=0):=by by_cases q:b=0 <;> simp [q]
  go_enter Tryz.func65,Tryz.ntmps65
  go_wp2
  go_ret;exact ⟨by simp,rfl⟩
 ·have g:((n:Int)==1)=false:=by simp;omega
  go_enter Tryz.func65,Tryz.ntmps65
  go_wp2
  go_ret;exact ⟨by simp [f],rfl⟩
theorem All {a b:ByteArray} (h:a.data.toList < b.data.toList):Op.bytesLess a.toList b.toList=true:=by rw [Ah,Ah,Db];exact decide_eq_true h
theorem Aol {a b:ByteArray} (h:¬a.data.toList < b.data.toList):Op.bytesLess a.toList b.toList=false:=by rw [Ah,Ah,Db];exact decide_eq_false h
theorem Aqs {a b:ByteArray} (h:¬a=b):(a.toList==b.toList)=false:=by
 rw [Ah,Ah];exact beq_false_of_ne fun q=> h (Gf q)
theorem ne_of_lt {a b:ByteArray} (h:a.data.toList < b.data.toList):¬b=a:=by rintro rfl;exact Tr.lt_ir _ h
theorem Aom (l:List (List UInt8)) (k:List UInt8) (j:Nat) (a:j+1 < l.length) (b:¬k < l[j+1]):Tr.ix (l.drop j) k=Tr.ix (l.drop (j+1)) k+1:=by
 rw [List.drop_eq_getElem_cons (by omega:j < l.length),List.drop_eq_getElem_cons a,Tr.ix,if_neg b]
theorem Aon (l:List (List UInt8)) (k:List UInt8) (j:Nat) (a:j+1 < l.length) (b:k < l[j+1]):Tr.ix (l.drop j) k=0:=by
 rw [List.drop_eq_getElem_cons (by omega:j < l.length),List.drop_eq_getElem_cons a,Tr.ix,if_pos b]
theorem Aoo (l:List (List UInt8)) (k:List UInt8) (j:Nat) (a:l.length<=j+1):Tr.ix (l.drop j) k=0:=by
 by_cases h:j < l.length
 ·rw [List.drop_eq_getElem_cons h,List.drop_of_length_le a,Tr.ix]
 ·rw [List.drop_of_length_le (by omega),Tr.ix]
def pkeys (l:List (ByteArray×Nat)):List (List UInt8):=l.map fun x=> x.1.data.toList
set_option maxHeartbeats 1000000 in
set_option maxRecDepth 20000 in
theorem Jd (p B:Nat) (C vp vc:Value) (a:List (ByteArray×Nat)) (key:ByteArray) (w:World) (h:An w p C vp vc) (u:Ap B w vp a) (S:a.length<=1000000000):
  Calls Tryz.prog 77 #[.pointer (some ⟨p,0,none⟩),.string key] w fun r w'=> r= .returned (.int .i64 (Tr.ix (pkeys a) key.data.toList:Nat))/\w'=w:=by
 obtain ⟨D,F,G,-⟩:=h.cells;obtain ⟨H,I,rfl⟩:=Ab u;have y:=hid u;clear u h;go_enter Tryz.func77,Tryz.ntmps77;go_wp2_with fail
 go_loop [5] (fun i=>∃j:Nat,i= .int .i64 j/\j<=a.length/\Hid (Tr.ix (pkeys a) key.data.toList=j+Tr.ix ((pkeys a).drop j) key.data.toList)) (fun i=> a.length - (intOf i).toNat)
 case atStart=> exact ⟨0,rfl,Nat.zero_le _,by show _=_;simp⟩
 case round=>
  obtain ⟨j,rfl,J,b⟩:=hrel;have d:(pkeys a).length=a.length:=by simp [pkeys]
  by_cases c:j+1 < a.length
  ·obtain ⟨g,A,e,L,M,N,O,R⟩:=y.out.at (j+1) c;simp only [Value.slice.injEq] at e;obtain ⟨rfl,-,rfl⟩:=e;generalize m:(a[j+1]'c).1=o at*;have f:(pkeys a)[j+1]'(by rw [d];exact c)=o.data.toList:=(by simp [pkeys,m]);by_cases l:key.data.toList < o.data.toList
   ·have s:=Aol (fun q=> Tr.lt_ir _ (Tr.Cz l q));have t:¬o=key:=ne_of_lt l;have z:=Aqs t;have n:Hid (Tr.ix (pkeys a) key.data.toList=j):=by
     show _=_;rw [b.out,Aon _ _ _ (by rw [d];exact c) (by rw [f];exact l)];omega
    clear b f m l;go_wp2_with fail;go_ret;exact ⟨by rw [n.out];rfl,rfl⟩
   ·have n:Hid (Tr.ix (pkeys a) key.data.toList=(j+1:Nat)+Tr.ix ((pkeys a).drop (j+1)) key.data.toList):=by
     show _=_;rw [b.out,Aom _ _ _ (by rw [d];exact c) (by rw [f];exact l)];omega
    clear b f m;by_cases k:o.data.toList < key.data.toList
    ·have s:=All k;clear l k;go_wp2_with fail
     go_round
     case rel=> exact ⟨j+1,by go_num,by omega,n.out⟩
     case measure=> simp [intOf];omega
    ·obtain rfl:o=key:=Gf (Tr.tri _ _ k l);clear l k;go_wp2_with fail
     go_round
     case rel=> exact ⟨j+1,by go_num,by omega,n.out⟩
     case measure=> simp [intOf];omega
  ·have n:Hid (Tr.ix (pkeys a) key.data.toList=j):=by
    show _=_;rw [b.out,Aoo _ _ _ (by rw [d];omega)];omega
   clear b;go_wp2_with fail;go_ret;exact ⟨by rw [n.out];rfl,rfl⟩
set_option maxRecDepth 10000 in
theorem Aqt:∀a,a < 256->a ||| 128=128+a % 128:=by decide
theorem Alm (m:Nat):bits .or .u8 ((m:Int) % 256) 128=((128+m % 128:Nat):Int):=by
 have h:=u8_or_nat (m % 256) 128 (by omega) (by omega);rw [Aqt _ (by omega),show m % 256 % 128=m % 128 by omega] at h;rw [<-h];rfl
theorem Acj (n:Nat):∃b:UInt8,b.toNat=n % 256/\Pg.low n 1=[b]:=⟨UInt8.ofNat (n % 256),by simp,rfl⟩
set_option maxHeartbeats 1000000 in
set_option maxRecDepth 20000 in
theorem On (B:Nat) (v:Value) (l:List UInt8) (n:Nat) (w:World) (g:Bh B w v l) (U:B<=w.heap.size) (V:l.length<=100000000000) (S:n<=9223372036854775807):
  Calls Tryz.prog 232 #[v,.int .i64 n] w fun r w'=>∃F,r= .returned F/\Bh B w' F (l++Pg.num n)/\Hl w w' v F:=by
 have t:=hid g;have M:=Hu n S;clear g;go_enter Tryz.func232,Tryz.ntmps232;go_wp2_with fail
 go_loopw [0,1] (fun u i wr=>∃(o:List UInt8) (m:Nat),m<=n/\i= .int .i64 m/\Bh B wr u o/\Hl w wr v u/\o++Pg.num m=l++Pg.num n/\o.length<=l.length+10) (fun _ i _=> (intOf i).toNat)
 case atStart=> exact ⟨l,n,Nat.le_refl _,rfl,t.out,Hl.refl _ _,rfl,by omega⟩
 case round=>
  obtain ⟨o,m,T,rfl,I,C,s,R⟩:=hrel;have y:=hid s;have G:=hid I;have H:=hid C;have N:=C.size;have z:=hid (show (o++Pg.num m).length<=l.length+10 by rw [s,List.length_append];omega);clear s I C;by_cases L:128<=m
  ·have O:=hid (Alm m);obtain ⟨D,b,c⟩:=Acj (128+m % 128);have j:=hid c;have k:=hid b;clear c b;go_wp2_with (first
    | (at_builtin;refine Aat wr rfl (.tmp 7) (.tmp 11) rfl B u0 o rfl G.out D _ ?_ rfl ?_ ?_ ?_))
   ·rw [O.out,k.out];omega
   ·omega
   ·omega
   intro v2 J d f a;have p:=hid d;have q:=hid (H.out.trans (Hv f a));clear d f a;go_wp2_with fail
   go_roundw
   case rel=>
    have A:=Pg.Ace m (by omega);refine ⟨_,m / 128,by omega,by go_num,p.out,q.out,?_,?_⟩
    ·rw [<-y.out,A,List.append_assoc,j.out]
    ·have:=z.out;rw [A] at this;simp only [List.length_append,Pg.Cp] at this;simp;omega
   case measure=> simp [intOf];omega
  ·obtain ⟨D,b,c⟩:=Acj m;have j:=hid c;have k:=hid b;clear c b;go_wp2_with (first
    | (at_builtin;refine Aat wr rfl (.tmp 15) (.tmp 18) rfl B u0 o rfl G.out D _ ?_ rfl ?_ ?_ ?_))
   ·rw [k.out];omega
   ·omega
   ·omega
   intro v2 J d f a;have q:=hid (H.out.trans (Hv f a));have p:Hid (Bh B J v2 (l++Pg.num n)):=by
    show Bh _ _ _ _;rw [<-y.out,Pg.Lc m (by omega),j.out];exact d
   clear d f a;go_wp2_with fail;go_ret;exact ⟨v2,rfl,p.out,q.out⟩
set_option maxHeartbeats 1000000 in
set_option maxRecDepth 20000 in
theorem Gr (B:Nat) (v:Value) (l:List UInt8) (s:ByteArray) (w:World) (a:Bh B w v l) (u:B<=w.heap.size) (y:l.length<=100000000000) (A:s.size<=35184372088832):
  Calls Tryz.prog 234 #[v,.string s] w fun r w'=>∃n,r= .returned n/\Bh B w' n (l++Pg.Ef s.data.toList)/\Hl w w' v n:=by
 have c:=hid a;have o:Hid (Pg.Ef s.data.toList=Pg.num s.size++s.data.toList):=by show _=_;unfold Pg.Ef;rw [len_size]
 have p:=Hu s.size (by omega);clear a;go_enter Tryz.func234,Tryz.ntmps234;go_wp2_with fail;refine (On B v l s.size _ c.out u y (by omega)).mono ?_;rintro r t ⟨v1,rfl,d,b⟩;have i:=hid d;have j:=hid b;have q:=b.size;clear d b;go_wp2_with (first
  | (at_builtin;refine Alk t rfl (.tmp 8) (.tmp 9) rfl B v1 _ rfl i.out s rfl (by rw [List.length_append];omega) (by omega) ?_))
 intro v2 z f g;have k:=hid f;have m:=hid (j.out.trans g);clear f g;go_wp2_with fail;go_ret;exact ⟨v2,rfl,by rw [o.out];exact k.out,m.out⟩
set_option maxHeartbeats 1000000 in
set_option maxRecDepth 20000 in
theorem Nb (B:Nat) (v:Value) (l:List UInt8) (n:Nat) (w:World) (b:Bh B w v l) (m:B<=w.heap.size) (o:l.length<=100000000000):
  Calls Tryz.prog 183 #[v,.int .i64 n] w fun r w'=>∃j,r= .returned j/\Bh B w' j (l++Pg.low n 2)/\Hl w w' v j:=by
 have c:=hid b;clear b;go_enter Tryz.func183,Tryz.ntmps183;go_wp2_with (first
  | (at_builtin;refine Aps w rfl (.tmp 5) (.tmp 11) rfl B v _ rfl c.out (UInt8.ofNat (n % 256)) (UInt8.ofNat (n / 256 % 256)) _ _ ?_ ?_ rfl ?_ ?_ ?_))
 ·simp
 ·simp
 ·omega
 ·omega
 intro v2 k d f a;have g:=hid d;have i:=hid (Hv f a);clear d f a;go_wp2_with fail;go_ret;exact ⟨v2,rfl,g.out,i.out⟩
theorem Aln (f:Nat) (h:f < 4294967296):bits .xor .u32 ((f:Int) / 2) (bits .and .u32 2197175160 (-bits .and .u32 (f:Int) 1 % 4294967296))=((Pg.Ll f:Nat):Int):=by
 have c:=u32_and_nat f 1 h (by omega);rw [Nat.and_one_is_mod] at c;have d:bits .and .u32 (f:Int) 1=((f % 2:Nat):Int):=c;have g:(f:Int) / 2=((f / 2:Nat):Int):=by omega
 rw [d,g];by_cases b:f % 2=1
 ·rw [b,show -((1:Nat):Int) % 4294967296=((4294967295:Nat):Int) by decide];have a:bits .and .u32 2197175160 ((4294967295:Nat):Int)=((2197175160:Nat):Int):=by
   have:=u32_and_nat 2197175160 4294967295 (by omega) (by omega);exact this
  rw [a,u32_xor_nat _ _ (by omega) (by omega),Agj b]
 ·rw [show f % 2=0 by omega,show -((0:Nat):Int) % 4294967296=((0:Nat):Int) by decide];have a:bits .and .u32 2197175160 ((0:Nat):Int)=((0:Nat):Int):=by
   have:=u32_and_nat 2197175160 0 (by omega) (by omega);exact this
  rw [a,u32_xor_nat _ _ (by omega) (by omega),Adr b,Nat.xor_zero]
set_option maxHeartbeats 1000000 in
set_option maxRecDepth 20000 in
theorem Aji (s:ByteArray) (w:World) (I:s.size<=35184372088832):
  Calls Tryz.prog 262 #[.string s] w fun r w'=> r= .returned (.int .u32 (Pg.crc s.data.toList))/\w'=w:=by
 go_enter Tryz.func262,Tryz.ntmps262;go_wp2_with fail
 go_loop [3,7] (fun c i=>∃k:Nat,k<=s.size/\i= .int .i64 k/\c= .int .u32 (Pg.Jl (s.data.toList.take k))) (fun _ i=> s.size - (intOf i).toNat)
 case atStart=> exact ⟨0,Nat.zero_le _,rfl,rfl⟩
 case round=>
  obtain ⟨k,G,rfl,rfl⟩:=hrel;have l:=Pg.Aau (s.data.toList.take k);by_cases g:k < s.size
  ·have t:=hid (Alf s k g);generalize C:Pg.Jl (s.data.toList.take k)=c at*;have F:(s[k]'g).toNat < 256:=(s[k]'g).toNat_lt;have u:=u32_xor_nat c (s[k]'g).toNat l (by omega);have o:=Pg.Acd (a:=c) (b:=(s[k]'g).toNat) l (by omega);have y:Hid (Pg.Ol c (s[k]'g)=Pg.Kh 8 (c^^^(s[k]'g).toNat)):=rfl;clear C;generalize D:c^^^(s[k]'g).toNat=d at*;clear D;go_wp2_with fail;clear u
   go_loop [3,16] (fun e j=>∃m:Nat,m<=8/\j= .int .i64 m/\e= .int .u32 (Pg.Kh m d)) (fun _ j=> 8 - (intOf j).toNat)
   case atStart=> exact ⟨0,Nat.zero_le _,rfl,rfl⟩
   case round=>
    obtain ⟨m,H,rfl,rfl⟩:=hrel;have n:=Pg.Ps o m;have z:Hid (Pg.Kh (m+1) d=Pg.Ll (Pg.Kh m d)):=rfl;generalize q:Pg.Kh m d=f at*;by_cases B:m < 8
    ·clear q;go_wp2_with fail
     go_round
     case rel=> exact ⟨m+1,by omega,by go_num,by rw [z.out];exact Al8 (Aln f n)⟩
     case measure=> simp [intOf];omega
    ·have p:m=8:=(by omega);subst p;go_wp2_with fail
     go_round
     case rel=> exact ⟨k+1,by omega,by go_num,by rw [t.out,y.out,q]⟩
     case measure=> simp [intOf];omega
  ·have A:Hid (bits .xor .u32 IntKind.u32.max (Pg.Jl (s.data.toList.take k):Int)=(Pg.crc s.data.toList:Int)):=by
    show _=_;have:=u32_xor_nat 4294967295 (Pg.Jl (s.data.toList.take k)) (by omega) l;rw [show IntKind.u32.max=((4294967295:Nat):Int) from rfl,this,List.take_of_length_le (by rw [len_size];omega),Nat.xor_comm];rfl
   go_wp2_with fail;go_ret;exact ⟨Lj A.out,rfl⟩
theorem Arc (n:Nat):∃b c d e:UInt8,b.toNat=n % 256/\c.toNat=n / 256 % 256/\d.toNat=n / 65536 % 256/\e.toNat=n / 16777216 % 256/\Pg.low n 4=[b,c,d,e]:=⟨UInt8.ofNat (n % 256),UInt8.ofNat (n / 256 % 256),UInt8.ofNat (n / 256 / 256 % 256),UInt8.ofNat (n / 256 / 256 / 256 % 256),by simp,by simp,by simp;omega,by simp;omega,rfl⟩
set_option maxHeartbeats 1000000 in
set_option maxRecDepth 20000 in
theorem Xa (B:Nat) (v:Value) (l:List UInt8) (w:World) (a:Bh B w v l) (J:B<=w.heap.size) (L:l.length<=100000000000):
  Calls Tryz.prog 233 #[v] w fun r w'=>∃p,r= .returned p/\Bh B w' p (Pg.sealed l)/\Hl w w' v p:=by
 have f:=hid a;have k:=a.str;clear a;go_enter Tryz.func233,Tryz.ntmps233;go_wp2_with fail;refine (Aji ⟨l.toArray⟩ _ (by rw [Ck];omega)).mono ?_;rintro r H ⟨rfl,rfl⟩;have y:=Pg.Aq3 l;rw [show (⟨l.toArray⟩:ByteArray).data.toList=l from rfl];have z:Hid (Pg.sealed l=l++Pg.low (Pg.crc l) 4):=rfl;generalize Pg.crc l=n at*;obtain ⟨b,c,d,e,q,s,t,u,g⟩:=Arc n;have A:=hid q;have C:=hid s;have D:=hid t;have F:=hid u;have G:=hid g;clear q s t u g k;go_wp2_with (first
  | (at_builtin;refine Aqr H rfl (.tmp 7) (.tmp 19) rfl B v _ rfl f.out b c d e _ _ _ _ ?_ ?_ ?_ ?_ rfl ?_ ?_ ?_))
 ·rw [A.out];omega
 ·rw [C.out];omega
 ·rw [D.out];omega
 ·rw [F.out];omega
 ·omega
 ·omega
 intro v2 I i j;have m:=hid i;have o:=hid j;clear i j;go_wp2_with fail;go_ret;exact ⟨v2,rfl,by rw [z.out,G.out];exact m.out,o.out⟩
theorem Agq {B:Nat} {w:World} {v:Value} {T:TypeId} {a n:Nat} {xs:List Value} (h:w.ownsRow B T a v n xs) {k:Nat} (b:w.heap.size<=k):v.ownBlock≠some k:=fun e=> by
 have:=(World.ownsRow.lt h k e).2;omega
theorem Adv {k c:List UInt8} (h:(Sq.Ca c).length < c.length):Pg.Bg k c=Pg.sealed (k++Pg.low 1 1++Pg.num c.length++Pg.Ef (Sq.Ca c)):=by unfold Pg.Bg;rw [if_pos h]
theorem Agr {k c:List UInt8} (h:¬(Sq.Ca c).length < c.length):Pg.Bg k c=Pg.sealed (k++Pg.low 0 1++Pg.num c.length++Pg.Ef c):=by unfold Pg.Bg;rw [if_neg h]
set_option maxHeartbeats 1000000 in
set_option maxRecDepth 20000 in
theorem Nc (k:UInt8) (v:Value) (l:List UInt8) (w:World) (U:∃a c,v= .slice a l.length c) (B:∀w':World,w'.heap=w.heap->(convert 108 9 v).run Tryz.prog w'= .ok (.string ⟨l.toArray⟩) w') (hl:l.length<=10000000000):
  Calls Tryz.prog 178 #[.int .u8 (k.toNat:Int),v] w fun r w'=> r= .returned (.string ⟨(Pg.Bg [k] l).toArray⟩)/\Below w.heap.size w w':=by
 have V:k.toNat < 256:=k.toNat_lt;have i:=B w rfl;have H:=B w.drew rfl;have I:∀q,(convert 108 9 v).run Tryz.prog (w.drewN q)= .ok (.string ⟨l.toArray⟩) (w.drewN q):=fun q=> B (w.drewN q) rfl
 obtain ⟨va,vc,rfl⟩:=U;clear B;go_enter Tryz.func178,Tryz.ntmps178;go_wp2_with fail;go_quiet (fail);clear i H I;go_wp2_with fail;refine (Ud ⟨l.toArray⟩ _ (by rw [Ck];omega)).mono ?_;rintro r g ⟨rfl,L⟩;rw [show (⟨l.toArray⟩:ByteArray).data.toList=l from rfl];have F:=hid ((Am (Below.refl w.heap.size w) nq).trans (L.mono (by simp)));have W:=Sq.Agc l;have C:=F.out.size;clear L;by_cases M:(Sq.Ca l).length < l.length
 ·have N:=hid (Adv (k:=[k]) M);generalize T:Sq.Ca l=D at*;have J:((D.length:Int) < (l.length:Int)):=by omega
  have O:=Ck D;go_wp2_with fail;have b:=Na g g.heap.size (Nat.le_refl _) [k,1] #[.int .u8 (k.toNat:Int),.int .u8 1] (by simp [Lib.byteCells]) (by simp);refine (On g.heap.size _ [k,1] l.length _ b (by simp) (by simp) (by omega)).mono ?_;rintro r X ⟨v2,rfl,s,t⟩;have j:=hid s;have m:=hid (((Below.refl g.heap.size g).alloc (Nat.le_refl _) _).trans (t.below b (by simp)));have d:=m.out.size;clear s t b;have R:=Hu l.length (by omega);go_wp2_with fail;refine (Gr g.heap.size v2 _ ⟨D.toArray⟩ _ j.out d (by simp;omega) (by rw [Ck];omega)).mono ?_;rintro r Y ⟨v3,rfl,u,y⟩;have n:=hid u;have o:=hid (m.out.trans (y.below j.out d));have f:=o.out.size;clear u y;go_wp2_with fail;have S:=Gl D (by omega);refine (Xa g.heap.size v3 _ _ n.out f (by simp;omega)).mono ?_;rintro r Z ⟨v4,rfl,z,A⟩;have i:=z.str;have G:=hid (o.out.trans (A.below n.out f));clear z A;have p:Hid (Pg.sealed ([k,1]++Pg.num l.length++Pg.Ef D)=Pg.Bg [k] l):=by
   show _=_;rw [N.out];rfl
  rw [p.out] at i;go_wp2_with fail;go_ret;exact ⟨rfl,F.out.trans (G.out.mono C)⟩
 ·have N:=hid (Agr (k:=[k]) M);generalize T:Sq.Ca l=D at*;have J:¬((D.length:Int) < (l.length:Int)):=by omega
  have O:=Ck D;go_wp2_with fail;have b:=Na g g.heap.size (Nat.le_refl _) [k,0] #[.int .u8 (k.toNat:Int),.int .u8 0] (by simp [Lib.byteCells]) (by simp);refine (On g.heap.size _ [k,0] l.length _ b (by simp) (by simp) (by omega)).mono ?_;rintro r X ⟨v2,rfl,s,t⟩;have j:=hid s;have m:=hid (((Below.refl g.heap.size g).alloc (Nat.le_refl _) _).trans (t.below b (by simp)));have d:=m.out.size;clear s t b;have R:=Hu l.length (by omega);go_wp2_with fail;refine (Gr g.heap.size v2 _ ⟨l.toArray⟩ _ j.out d (by simp;omega) (by rw [Ck];omega)).mono ?_;rintro r Y ⟨v3,rfl,u,y⟩;have n:=hid u;have o:=hid (m.out.trans (y.below j.out d));have f:=o.out.size;clear u y;go_wp2_with fail;have S:=Gl l (by omega);refine (Xa g.heap.size v3 _ _ n.out f (by simp;omega)).mono ?_;rintro r Z ⟨v4,rfl,z,A⟩;have i:=z.str;have G:=hid (o.out.trans (A.below n.out f));clear z A;have p:Hid (Pg.sealed ([k,0]++Pg.num l.length++Pg.Ef l)=Pg.Bg [k] l):=by
   show _=_;rw [N.out];rfl
  rw [p.out] at i;go_wp2_with fail;go_ret;exact ⟨rfl,F.out.trans (G.out.mono C)⟩
theorem Lr (B:Nat) (k:UInt8) (v:Value) (l:List UInt8) (w:World) (a:Bh B w v l) (c:l.length<=10000000000):
  Calls Tryz.prog 178 #[.int .u8 (k.toNat:Int),v] w fun r w'=> r= .returned (.string ⟨(Pg.Bg [k] l).toArray⟩)/\Below w.heap.size w w':=by
 refine Nc k v l w a.shape (fun w' b=> ?_) c;have:Bh B w' v l:=by unfold Bh World.ownsRow at*;rw [b];exact a
 exact this.str
set_option maxHeartbeats 1000000 in
set_option maxRecDepth 20000 in
theorem Qy (B:Nat) (v:Value) (l:List UInt8) (w:World) (a:Bh B w v l) (u:B<=w.heap.size) (y:0 < l.length) (C:l.length<=64):
  Calls Tryz.prog 184 #[v] w fun r w'=>∃m,r= .returned m/\Bh B w' m (Pg.sealed (l++List.replicate (64 - l.length) 0))/\Hl w w' v m:=by
 obtain ⟨t,vc,rfl⟩:=a.shape;have c:=hid a;clear a;obtain ⟨d,o⟩:∃d,d=64 - l.length:=⟨_,rfl⟩;have p:(64:Int) - (l.length:Int)=(d:Int):=by omega
 have q:=hid o;have s:d<=64:=by omega
 clear o;go_enter Tryz.func184,Tryz.ntmps184;go_wp2_with (first
  | (at_builtin;refine Apt w rfl (.tmp 3) (.tmp 6) rfl B (.slice t l.length vc) l rfl c.out y d rfl (by omega) (by omega) u ?_))
 intro v2 A f b;have g:=hid f;have i:=hid b;have n:=b.size;clear f b;go_wp2_with fail;refine (Xa B v2 _ _ g.out (by omega) (by simp;omega)).mono ?_;rintro r z ⟨v3,rfl,j,k⟩;go_wp2_with fail;go_ret;exact ⟨v3,rfl,by rw [<-q.out];exact j,i.out.trans k⟩
theorem Hl.ne {w w':World} {v b:Value} (h:Hl w w' v b) {k:Nat} (f:k < w.heap.size) (a:v.ownBlock≠some k):b.ownBlock≠some k:=by
 rcases h.2 with e | ⟨j,d,e⟩
 ·rw [e];exact a
 ·rw [e];intro c;have:j=k:=by simpa using c
  omega
set_option maxHeartbeats 1000000 in
set_option maxRecDepth 20000 in
theorem Ajj (s t:ByteArray) (w:World) (B:s.size<=35184372088832):
  Calls Tryz.prog 235 #[.string s,.string t] w fun r w'=> r= .returned (.int .i64 (Pg.Ds s.data.toList t.data.toList))/\∃q,w'=w.drewN q:=by
 obtain ⟨m,l⟩:∃m:Nat,m=min s.size t.size:=⟨_,rfl⟩;have d:min (s.size:Int) (t.size:Int)=(m:Int):=by omega
 have f:m<=s.size/\m<=t.size/\(m=s.size\/m=t.size):=by omega
 clear l;go_enter Tryz.func235,Tryz.ntmps235;go_wp2_with fail
 go_loopw [5] (fun i wr=>∃k:Nat,k<=m/\i= .int .i64 k/\(∀j,j < k->∃x,s.data.toList[j]?=some x/\t.data.toList[j]?=some x)/\∃q,wr=w.drewN q) (fun i _=> m - (intOf i).toNat)
 case atStart=> exact ⟨0,Nat.zero_le _,rfl,fun j h=> by omega,0,rfl⟩
 case round=>
  obtain ⟨k,n,rfl,c,q,rfl⟩:=hrel;have a:=hid c;clear c;by_cases o:k < m
  ·have u:(k:Int) < (s.size:Int):=(by omega);have y:(k:Int) < (t.size:Int):=(by omega);have z:decide ((k:Int) < (m:Int))=true:=(by simp;omega);go_wp2_with fail;go_quiet (fail);go_wp2_with fail
   ·have b:=Alg s t k (by omega) (by omega) (by assumption)
    go_roundw
    case rel=>
     refine ⟨k+1,by omega,by go_num,fun j c=> ?_,_,rfl⟩;by_cases p:j=k
     ·rw [p];exact b
     ·exact a.out j (by omega)
    case measure=> simp [intOf];omega
   ·have b:=Alh s t k (by omega) (by omega) (by assumption);go_ret;exact ⟨Lj (by rw [Pg.Mx k _ _ a.out (.inr (.inr b))]),_,World.drewN_drewN _ _ _⟩
  ·have A:decide ((k:Int) < (m:Int))=false:=(by simp;omega);have g:=hid (Pg.Mx k s.data.toList t.data.toList a.out (by rw [len_size,len_size];omega));go_wp2_with fail;go_quiet (fail);go_wp2_with fail;go_ret;exact ⟨Lj (by rw [g.out]),_,World.drewN_drewN _ _ _⟩
set_option maxHeartbeats 2000000 in
set_option maxRecDepth 20000 in
theorem Aop (b X b6:Nat) (l:List (ByteArray×ByteArray)) (w:World) (hl:l.length<=1000) (Y:Hb w b X l) (hb:b < w.heap.size) (Z:∀x∈l,x.1.size<=10000000/\x.2.size<=10000000):
  Calls Tryz.prog 179 #[.slice (some ⟨b,X,none⟩) l.length b6] w fun r w'=>∃v',r= .returned v'/\Bh w.heap.size w' v' (Pg.Bx (plain l))/\Below w.heap.size w w':=by
 have a0:=hid Y;have a1:=hid Z;clear Y Z;obtain ⟨bt,N,m⟩:=Acj l.length;have a2:=hid N;have a3:Hid ([bt]++Pg.Iu [] (plain l)=Pg.Bx (plain l)):=by show _=_;unfold Pg.Bx plain;rw [List.length_map,m]
 clear N m;go_enter Tryz.func179,Tryz.ntmps179;go_wp2_with fail;have t:=Na w w.heap.size (Nat.le_refl _) [bt] #[.int .u8 ((l.length:Int) % 256)] (by simp [Lib.byteCells];rw [a2.out];omega) (by simp);have y:=hid t;have s:=hid ((Below.refl w.heap.size w).alloc (Nat.le_refl _) (.cells #[.int .u8 ((l.length:Int) % 256)] 5));clear t
 go_loopw [3,4,14] (fun u V i wr=>∃(k:Nat) (o:List UInt8) (lb:ByteArray),k<=l.length/\i= .int .i64 k/\V= .string lb/\lb.size<=10000000/\o.length<=1+k*20000100/\Bh w.heap.size wr u o/\Below w.heap.size w wr/\o++Pg.Iu lb.data.toList (plain (l.drop k))=Pg.Bx (plain l)) (fun _ _ i _=> l.length - (intOf i).toNat)
 case atStart=> exact ⟨0,[bt],⟨#[]⟩,Nat.zero_le _,rfl,rfl,by decide,by simp,y.out,s.out,by simpa using a3.out⟩
 case round=>
  clear y s;obtain ⟨k,o,lb,hk,rfl,rfl,c4,c5,z,n,O⟩:=hrel;have G:=hid O;have g:=hid n;have j:=hid z;have H:=n.size;clear O n z;by_cases f:k < l.length
  ·obtain ⟨c0,c1⟩:=a0.out.below g.out hb k f;have I:=a1.out _ (List.getElem_mem f);have a4:Hid (plain (l.drop k)=((l[k]'f).1.data.toList,(l[k]'f).2.data.toList)::plain (l.drop (k+1))):=by
    show _=_;rw [List.drop_eq_getElem_cons f];rfl
   generalize l[k]'f=x at*;obtain ⟨a,p⟩:=x;simp only at c0 c1 I;go_wp2_with fail;refine (Ajj lb a _ (by omega)).mono ?_;rintro r w2 ⟨rfl,q,rfl⟩;have a5:=Pg.So lb.data.toList a.data.toList;rw [len_size,len_size] at a5;have a6:Hid (Pg.Iu lb.data.toList (plain (l.drop k))=Pg.low (Pg.Ds lb.data.toList a.data.toList) 1++Pg.Ef (a.data.toList.drop (Pg.Ds lb.data.toList a.data.toList))++Pg.Ef p.data.toList++Pg.Iu a.data.toList (plain (l.drop (k+1)))):=by
    show _=_;rw [a4.out];rfl
   generalize Pg.Ds lb.data.toList a.data.toList=W at*;have d0:((wr.alloc (.cells #[.string a,.string p] 51)).drewN q).cell? ⟨wr.heap.size,0,none⟩=some (.string a):=(by simp);have d1:((wr.alloc (.cells #[.string a,.string p] 51)).drewN q).cell? ⟨wr.heap.size,1,none⟩=some (.string p):=(by simp);have B:=hid (Agq j.out (Nat.le_refl wr.heap.size));have J:=hid ((j.out.alloc (.cells #[.string a,.string p] 51)).drewN q);have a7:=hid (Am (g.out.alloc H (.cells #[.string a,.string p] 51)) q);have b7:((wr.alloc (.cells #[.string a,.string p] 51)).drewN q).heap.size > wr.heap.size:=(by simp);generalize (wr.alloc (.cells #[.string a,.string p] 51)).drewN q=w2 at*;obtain ⟨bc,R,m⟩:=Acj W;have a8:=hid R;have s:=hid m;clear R m c0 c1;go_wp2_with (first
    | (at_builtin;refine Aat w2 rfl (.tmp 22) (.tmp 25) rfl w.heap.size u3 o rfl J.out bc _ ?_ rfl ?_ ?_ ?_))
   ·rw [a8.out];omega
   ·omega
   ·omega
   intro v3 w3 T U A;have L:=hid T;have c:=Hv U A;have a9:=hid (a7.out.trans (c.below J.out (by omega)));have b8:=c.size;have e0:=c.cell d0 B.out;have e1:=c.cell d1 B.out;have C:=hid (c.ne (by omega) B.out);clear T U A c d0 d1;have b9:(0:Int)<=(W:Int):=(by omega);have c2:(W:Int)<=(a.size:Int):=(by omega);go_wp2_with fail;refine (Gr w.heap.size v3 _ (a.extract W a.size) _ L.out (by omega) (by simp;omega) (by rw [ByteArray.size_extract];omega)).mono ?_;rintro r w4 ⟨v4,rfl,D,d⟩;have b0:=Gl (a.data.toList.drop W) (by rw [List.length_drop,len_size];omega);rw [List.length_drop,len_size] at b0;rw [Jc] at D;have M:=hid D;have b1:=hid (a9.out.trans (d.below L.out (by omega)));have c3:=d.size;have f0:=d.cell e0 C.out;have f1:=d.cell e1 C.out;have b2:=hid (d.ne (by omega) C.out);clear D d e0 e1;go_wp2_with fail;refine (Gr w.heap.size v4 _ p _ M.out (by omega) (by simp;omega) (by omega)).mono ?_;rintro r w5 ⟨v5,rfl,S,F⟩;have b3:=Gl p.data.toList (by rw [len_size];omega);rw [len_size] at b3;have b4:=hid S;have b5:=hid (b1.out.trans (F.below M.out (by omega)));have g0:=F.cell f0 b2.out;clear S F f0 f1;go_wp2_with fail
   go_roundw
   case rel=>
    refine ⟨k+1,_,a,by omega,by go_num,rfl,I.1,?_,b4.out,b5.out,?_⟩
    ·simp only [List.length_append,List.length_singleton];omega
    ·rw [<-G.out,a6.out,s.out];simp
   case measure=> simp [intOf];omega
  ·have HF:Hid (o=Pg.Bx (plain l)):=by
    show _=_;rw [<-G.out,List.drop_eq_nil_of_le (by omega)];simp [plain,Pg.Iu]
   go_wp2_with fail;go_ret;exact ⟨_,rfl,by rw [<-HF.out];exact j.out,g.out⟩
set_option maxHeartbeats 1000000 in
set_option maxRecDepth 20000 in
theorem Alo (a:Option Addr) (f:Nat) (w:World):
  Calls Tryz.prog 179 #[.slice a 0 f] w fun r w'=>∃g,r= .returned g/\Bh w.heap.size w' g (Pg.Bx [])/\Below w.heap.size w w':=by
 have b:=Na w w.heap.size (Nat.le_refl _) [0] #[.int .u8 0] (by simp [Lib.byteCells]) (by simp);have c:=hid b;have d:=hid ((Below.refl w.heap.size w).alloc (Nat.le_refl _) (.cells #[.int .u8 0] 5));clear b;go_enter Tryz.func179,Tryz.ntmps179;go_wp2_with fail
 go_loopw [3,4,14] (fun u _ i wr=> i= .int .i64 0/\Bh w.heap.size wr u [0]/\Below w.heap.size w wr) (fun _ _ _ _=> 0)
 case atStart=> exact ⟨rfl,c.out,d.out⟩
 case round=>
  obtain ⟨rfl,j,k⟩:=hrel;go_wp2_with fail;go_ret;exact ⟨_,rfl,j,k⟩
theorem Adw (v:Value) (l:List (ByteArray×ByteArray)) (w:World) (k:Eu w v l) (m:l.length<=1000) (g:∀x∈l,x.1.size<=10000000/\x.2.size<=10000000):
  Calls Tryz.prog 179 #[v] w fun r w'=>∃i,r= .returned i/\Bh w.heap.size w' i (Pg.Bx (plain l))/\Below w.heap.size w w':=by
 rcases k with ⟨a,c,rfl,rfl⟩ | ⟨b,d,c,rfl,-,-,j,f⟩
 ·exact Alo a c w
 ·exact Aop b d c l w m f j g
end Go.Proofs.YtolgpnaoaodepaaGreat
