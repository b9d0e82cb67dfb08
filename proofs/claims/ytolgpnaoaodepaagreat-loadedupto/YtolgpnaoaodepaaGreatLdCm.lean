import Derived.Test.YtolgpnaoaodepaaGreatGetCm
namespace Go.Proofs.YtolgpnaoaodepaaGreat
open Go.RowKit
def De (lo hi k:List UInt8):Bool:= !decide (k < lo)&&(decide (hi=[]) || decide (k < hi))
theorem Ov (lo hi k:List UInt8):De lo hi k=true↔Ld.Im lo hi k:=by
 unfold De Ld.Im;simp
set_option maxHeartbeats 400000 in
theorem Ad4 (n:Int) (q:Nat) (lo hi key:ByteArray) (w:World):
  Calls Tryz.prog 188 #[.agg #[.int .i64 n,.pointer (some ⟨q,0,none⟩),.string lo,.string hi],.string key] w fun r w'=> r= .returned (.bool (De lo.data.toList hi.data.toList key.data.toList))/\Below w.heap.size w w':=by
 have c:=hid ((Below.refl w.heap.size w).alloc (Nat.le_refl _) (.cells #[.int .i64 n,.pointer (some ⟨q,0,none⟩),.string lo,.string hi] 154));have d:Op.bytesLess lo.toList key.toList=decide (lo.data.toList < key.data.toList):=by rw [Ah,Ah,Db]
 have f:(lo.toList==key.toList)=decide (lo.data.toList=key.data.toList):=by
  rw [Ah,Ah];by_cases e:lo.data.toList=key.data.toList
  ·rw [e];simp
  ·rw [decide_eq_false e];exact beq_eq_false_iff_ne.2 e
 have g:hi.toList.isEmpty=decide (hi.data.toList=[]):=by
  rw [Ah];cases hi.data.toList <;> simp
 have i:Op.bytesLess key.toList hi.toList=decide (key.data.toList < hi.data.toList):=by rw [Ah,Ah,Db]
 have j:Hid (De lo.data.toList hi.data.toList key.data.toList=((decide (lo.data.toList < key.data.toList) || decide (lo.data.toList=key.data.toList))&&(decide (hi.data.toList=[]) || decide (key.data.toList < hi.data.toList)))):=by
  show _=_;unfold De;congr 1;by_cases a:key.data.toList < lo.data.toList
  ·have k:¬lo.data.toList < key.data.toList:=fun z=> Tr.lt_ir _ (Tr.Cz z a)
   have l:¬lo.data.toList=key.data.toList:=fun z=> by rw [z] at a;exact Tr.lt_ir _ a
   simp [a,k,l]
  ·by_cases b:lo.data.toList < key.data.toList
   ·simp [a,b]
   ·have:=Tr.tri _ _ b a;simp [this]
 generalize decide (lo.data.toList < key.data.toList)=m at*;generalize decide (lo.data.toList=key.data.toList)=o at*;generalize decide (hi.data.toList=[])=p at*;generalize decide (key.data.toList < hi.data.toList)=s at*
 cases m <;> cases o <;> cases p <;> cases s
 all_goals
  go_enter Tryz.func188,Tryz.ntmps188;go_wp2_with fail;go_ret;exact ⟨by rw [j.out];rfl,c.out⟩
set_option maxHeartbeats 400000 in
theorem Afe (n:Int) (q:Nat) (lo hi:ByteArray) (w:World):
  Calls Tryz.prog 191 #[.agg #[.int .i64 n,.pointer (some ⟨q,0,none⟩),.string lo,.string hi]] w fun r w'=> r= .returned (.bool (Ld.Br lo.data.toList hi.data.toList))/\Below w.heap.size w w':=by
 have d:=hid ((Below.refl w.heap.size w).alloc (Nat.le_refl _) (.cells #[.int .i64 n,.pointer (some ⟨q,0,none⟩),.string lo,.string hi] 154));by_cases b:hi.data.toList=[]
 ·have f:hi.toList.isEmpty=true:=by rw [Ah,b];rfl
  have c:Hid (Ld.Br lo.data.toList hi.data.toList=true):=by show _=_;unfold Ld.Br;simp only [decide_eq_true b];rfl
  go_enter Tryz.func191,Tryz.ntmps191;go_wp2_with fail;go_ret;exact ⟨by rw [c.out];rfl,d.out⟩
 ·have f:hi.toList.isEmpty=false:=by rw [Ah];cases h:hi.data.toList with
                                | nil=> exact absurd h b
                                | cons a l=> rfl
  have g:Op.bytesLess lo.toList hi.toList=decide (lo.data.toList < hi.data.toList):=by rw [Ah,Ah,Db]
  have c:Hid (Ld.Br lo.data.toList hi.data.toList=decide (lo.data.toList < hi.data.toList)):=by show _=_;unfold Ld.Br;simp only [decide_eq_false b];simp
  generalize decide (lo.data.toList < hi.data.toList)=i at*;go_enter Tryz.func191,Tryz.ntmps191;go_wp2_with fail;go_ret;exact ⟨by rw [c.out];rfl,d.out⟩
def TkB (w:World) (b:Nat) (n:Int) (q:Nat) (lo hi:ByteArray):Prop:=w.heap[b]?=some (.cells #[.int .i64 n,.pointer (some ⟨q,0,none⟩),.string lo,.string hi] 154 (0,0))
theorem TkB.lt {w:World} {b:Nat} {n:Int} {q:Nat} {lo hi:ByteArray} (h:TkB w b n q lo hi):b < w.heap.size:=(Array.getElem?_eq_some_iff.1 h).1
theorem TkB.cells {w:World} {b:Nat} {n:Int} {q:Nat} {lo hi:ByteArray} (h:TkB w b n q lo hi):w.cell? ⟨b,0,none⟩=some (.int .i64 n)/\w.cell? ⟨b,1,none⟩=some (.pointer (some ⟨q,0,none⟩))/\w.cell? ⟨b,2,none⟩=some (.string lo)/\w.cell? ⟨b,3,none⟩=some (.string hi)/\∀i,w.frozen? ⟨b,i,none⟩=false:=by
 unfold TkB at h;refine ⟨?_,?_,?_,?_,fun i=> ?_⟩ <;> simp [World.cell?,World.frozen?,h]
theorem TkB.keep {w w':World} {b:Nat} {n:Int} {q:Nat} {lo hi:ByteArray} (h:TkB w b n q lo hi) (a:Below w.heap.size w w'):TkB w' b n q lo hi:=(a.block b h.lt).trans h
theorem Av.at {B:Nat} {w:World} {v:Value} {l:List ByteArray} (h:Av B w v l) (i:Nat) (hi:i < l.length):∃g a,v= .slice (some ⟨g,0,none⟩) l.length a/\l.length<=a/\B<=g/\g < w.heap.size/\w.cell? ⟨g,i,none⟩=some (.string (l[i]'hi)):=by
 rcases h.2 with ⟨_,h0⟩ | ⟨g,a,b,e,c,d,f,-⟩
 ·omega
 ·refine ⟨g,a,e,f,c,(Array.getElem?_eq_some_iff.1 d).1,?_⟩;have:=World.ownsRow.cells h (g:=g) (by rw [e];rfl) i (.string (l[i]'hi)) (by simp [strs,hi]);rw [Cw] at this;simpa using this
set_option maxHeartbeats 400000 in
theorem Ad5 (b:Nat) (n:Int) (q:Nat) (lo hi key:ByteArray) (w:World) (h:TkB w b n q lo hi):
  Calls Tryz.prog 190 #[.string key,.pointer (some ⟨b,0,none⟩)] w fun r w'=> r= .returned (.bool (!De lo.data.toList hi.data.toList key.data.toList))/\Below w.heap.size w w':=by
 obtain ⟨d,f,g,i,-⟩:=h.cells;have c:=hid (Ad4 n q lo hi key w);clear h;go_enter Tryz.func190,Tryz.ntmps190;go_wp2_with fail;refine c.out.mono ?_;rintro r j ⟨rfl,a⟩;go_wp2_with fail;go_ret;exact ⟨rfl,a⟩
set_option maxHeartbeats 400000 in
theorem Ad6 (v:Value) (pl:List ByteArray) (b:Nat) (n:Int) (q:Nat) (lo hi:ByteArray) (w:World) (h:Av 0 w v pl) (T:pl.length<=1000) (I:TkB w b n q lo hi):
  Calls Tryz.prog 241 #[v,.func (.func 190) #[] #[.pointer (some ⟨b,0,none⟩)]] w fun r w'=> Below w.heap.size w w'/\((r= .returned (.int .i64 (-1))/\∀c∈pl,De lo.data.toList hi.data.toList c.data.toList=true)\/∃(i:Nat),r= .returned (.int .i64 (i:Nat))/\i<=1000/\∃c∈pl,De lo.data.toList hi.data.toList c.data.toList=false):=by
 have H:=hid h;have C:=hid I;obtain ⟨a,c,rfl⟩:=Ab h;clear h I;go_enter Tryz.func241,Tryz.ntmps241;go_wp2_with fail
 go_loopw [8] (fun B wr=>∃i:Nat,B= .int .i64 (i:Nat)/\i<=pl.length/\(∀c∈pl.take i,De lo.data.toList hi.data.toList c.data.toList=true)/\Below w.heap.size w wr) (fun B _=> pl.length - (intOf B).toNat)
 case atStart=> exact ⟨0,rfl,Nat.zero_le _,fun c t=> by simp at t,Below.refl _ _⟩
 case round=>
  obtain ⟨i,rfl,M,F,A⟩:=hrel;have D:=hid F;have m:=hid A;have o:=A.size;clear F A;by_cases d:i < pl.length
  ·obtain ⟨g,N,e,O,-,R,G⟩:=H.out.at i d;simp only [Value.slice.injEq] at e;obtain ⟨rfl,-,rfl⟩:=e;have J:=(m.out.cell (p:=⟨g,i,none⟩) R).trans G;have s:=hid (Ad5 b n q lo hi (pl[i]'d) wr ((m.out.block b C.out.lt).trans C.out));have u:Hid (pl.take (i+1)=pl.take i++[pl[i]'d]):=by
    show _=_;rw [List.take_add_one,List.getElem?_eq_getElem d];rfl
   have L:=hid (List.getElem_mem d);clear G
   cases f:De lo.data.toList hi.data.toList (pl[i]'d).data.toList with
   | false=>
    rw [f] at s;have y:=hid f;clear f;go_wp2_with fail;refine s.out.mono ?_;rintro r S ⟨rfl,j⟩;have k:=hid (m.out.trans (j.mono o));clear j;go_wp2_with fail;go_ret;exact ⟨k.out,.inr ⟨i,rfl,by omega,_,L.out,y.out⟩⟩
   | true=>
    rw [f] at s;have l:Hid (∀c∈pl.take (i+1),De lo.data.toList hi.data.toList c.data.toList=true):=fun c t=> by
     rw [u.out] at t;rcases List.mem_append.1 t with q | q
     ·exact D.out c q
     ·rw [List.mem_singleton.1 q];exact f
    clear f;go_wp2_with fail;refine s.out.mono ?_;rintro r S ⟨rfl,j⟩;have k:=hid (m.out.trans (j.mono o));clear j;go_wp2_with fail;exact ⟨⟨i+1,by go_num,by omega,l.out,k.out⟩,by simp [intOf];omega⟩
  ·have z:i=pl.length:=(by omega);subst z;have l:Hid (∀c∈pl,De lo.data.toList hi.data.toList c.data.toList=true):=by
    have:=D.out;rw [List.take_length] at this;exact this
   go_wp2_with fail;go_ret;exact ⟨m.out,.inl ⟨rfl,l.out⟩⟩
def Aah (lo hi:List UInt8) (il:List (ByteArray×ByteArray)) (ml:List (Int×ByteArray×ByteArray)) (pl:List ByteArray):Bool:=il.all (fun x=> De lo hi x.1.data.toList)&&ml.all (fun c=> De lo hi c.2.1.data.toList)&&pl.all (fun p=> De lo hi p.data.toList)
set_option maxHeartbeats 400000 in
theorem Aff (v:Value) (pl:List ByteArray) (b:Nat) (n:Int) (q:Nat) (lo hi:ByteArray) (w:World) (h:Av 0 w v pl) (u:pl.length<=1000) (m:TkB w b n q lo hi):
  Calls Tryz.prog 189 #[v,.func (.func 190) #[] #[.pointer (some ⟨b,0,none⟩)]] w fun r w'=> r= .returned (.bool (!pl.all (fun p=> De lo.data.toList hi.data.toList p.data.toList)))/\Below w.heap.size w w':=by
 have o:=hid (Ad6 v pl b n q lo hi w h u m);obtain ⟨a,c,rfl⟩:=Ab h;clear h m;go_enter Tryz.func189,Tryz.ntmps189;go_wp2_with fail;refine o.out.mono ?_;rintro r y ⟨d,⟨rfl,f⟩ | ⟨i,rfl,t,x,l,j⟩⟩
 ·have k:Hid (pl.all (fun p=> De lo.data.toList hi.data.toList p.data.toList)=true):=List.all_eq_true.2 f;have g:=hid d;clear d f;go_wp2_with fail;go_ret;exact ⟨by rw [k.out];rfl,g.out⟩
 ·have k:Hid (pl.all (fun p=> De lo.data.toList hi.data.toList p.data.toList)=false):=by
   refine Bool.eq_false_iff.2 fun z=> ?_
   have:=List.all_eq_true.1 z x l;rw [j] at this;cases this
  have g:=hid d;have s:(0:Int)<=(i:Int):=by omega
  clear d l j;go_wp2_with fail;go_ret;exact ⟨by rw [k.out];rfl,g.out⟩
def Rd (w:World) (b:Nat) (t:List UInt8):Prop:=w.heap[b]?=some (.cells #[.string ⟨t.toArray⟩] 298 (0,0))
theorem Rd.cells {w:World} {b:Nat} {t:List UInt8} (h:Rd w b t):w.cell? ⟨b,0,none⟩=some (.string ⟨t.toArray⟩)/\w.frozen? ⟨b,0,none⟩=false:=by
 unfold Rd at h;constructor <;> simp [World.cell?,World.frozen?,h]
theorem Rd.lt {w:World} {b:Nat} {t:List UInt8} (h:Rd w b t):b < w.heap.size:=(Array.getElem?_eq_some_iff.1 h).1
theorem Rd.below {w w':World} {b B:Nat} {t:List UInt8} (h:Rd w b t) (c:Below B w w') (a:b < B):Rd w' b t:=(c.block b a).trans h
theorem Rd.set {w:World} {b:Nat} {t:List UInt8} (h:Rd w b t) (u:List UInt8):Rd (w.setCell ⟨b,0,none⟩ (.string ⟨u.toArray⟩)) b u:=by
 unfold Rd at*;rw [Ad (i:=0) h];rfl
theorem Rd.drewN {w:World} {b:Nat} {t:List UInt8} (h:Rd w b t) (q:Nat):Rd (w.drewN q) b t:=h
theorem Nv (w:World) (t:List UInt8):Rd (w.alloc (.cells #[.string ⟨t.toArray⟩] 298)) w.heap.size t:=heap_alloc_new _ _
def RdQ {α:Type} (f:α->Value) (b:Nat) (w:World) (o:Option (α×List UInt8)) (r:Ending) (w':World):Prop:=But b w w'/\((o=none/\r=Ae)\/∃x u,o=some (x,u)/\r= .returned (f x)/\Rd w' b u)
def sv (x:List UInt8):Value:= .string ⟨x.toArray⟩
def nv (n:Nat):Value:= .int .i64 (n:Int)
def bv (b:UInt8):Value:= .int .u8 (b.toNat:Int)
theorem Yw (t:List UInt8) (n:Nat):(⟨t.toArray⟩:ByteArray).extract 0 n=⟨(t.take n).toArray⟩:=Gf (by rw [Lib.extract_data];simp)
theorem An8 (t:List UInt8) (n m:Nat) (h:m=t.length):(⟨t.toArray⟩:ByteArray).extract n m=⟨(t.drop n).toArray⟩:=by
 have:=Jc ⟨t.toArray⟩ n;rw [Ck] at this;subst h;exact Gf (by rw [this])
set_option maxHeartbeats 1000000 in
theorem Dx (t:List UInt8) (w:World):
  Calls Tryz.prog 244 #[.string ⟨t.toArray⟩] w fun r w'=> r= .returned (.pointer (some ⟨w.heap.size,0,none⟩))/\w'=w.alloc (.cells #[.string ⟨t.toArray⟩] 298):=by
 go_enter Tryz.func244,Tryz.ntmps244;go_wp2_with fail;go_ret;exact ⟨rfl,rfl⟩
set_option maxHeartbeats 1000000 in
set_option maxRecDepth 20000 in
theorem Fk (b n:Nat) (t:List UInt8) (w:World) (f:Rd w b t):
  Calls Tryz.prog 245 #[.pointer (some ⟨b,0,none⟩),.int .i64 n] w fun r w'=> RdQ sv b w (Pr.Da n t) r w':=by
 obtain ⟨o,p⟩:=f.cells;have i:=hid f;clear f;have j:=Ck t;go_enter Tryz.func245,Tryz.ntmps245;by_cases g:n<=t.length
 ·have a:=hid (Pr.Je g);have c:=hid (Yw t n);have d:=hid (An8 t n t.length rfl);go_wp2_with fail;refine (Aw _).mono ?_;rintro r m ⟨rfl,rfl⟩;have k:(0:Int)<=(n:Int):=by omega
  have l:(n:Int)<=(t.length:Int):=by omega
  go_wp2_with fail;go_ret;refine ⟨Gn _ _ _ _,.inr ⟨_,_,a.out,?_,?_⟩⟩
  ·unfold sv;rw [<-c.out];rfl
  ·rw [d.out];exact i.out.set _
 ·have a:=hid (Pr.Alp g);go_wp2_with fail;refine (Ay _).mono ?_;rintro r m ⟨rfl,rfl⟩;unfold Ae;go_wp2_with fail;exact ⟨rfl,Qw _ _,.inl ⟨a.out,rfl⟩⟩
set_option maxHeartbeats 1000000 in
set_option maxRecDepth 20000 in
theorem Ha (b:Nat) (t:List UInt8) (w:World) (k:Rd w b t):
  Calls Tryz.prog 246 #[.pointer (some ⟨b,0,none⟩)] w fun r w'=> RdQ bv b w (Pr.Dw t) r w':=by
 go_enter Tryz.func246,Tryz.ntmps246;have l:=hid (Fk b 1 t w k);clear k;go_wp2_with fail;refine l.out.mono ?_;rintro r p ⟨c,⟨i,rfl⟩ | ⟨x,u,j,rfl,d⟩⟩
 ·have f:Hid (Pr.Dw t=none):=by
   show _=_
   cases t with
   | nil=> rfl
   | cons a r=> simp [Pr.Da] at i
  have g:=hid c;clear c i;unfold Ae;go_wp2_with fail;exact ⟨rfl,g.out,.inl ⟨f.out,rfl⟩⟩
 ·obtain ⟨a,rfl,f⟩:∃a,x=[a]/\Hid (Pr.Dw t=some (a,u)):=by
   obtain ⟨n,o⟩:=Pr.Eh j
   match x,n with
   | [a],_=> exact ⟨a,rfl,by rw [o];exact rfl⟩
  have g:=hid c;have m:=hid d;clear c d j;unfold sv;go_wp2_with fail;go_ret;exact ⟨g.out,.inr ⟨_,_,f.out,rfl,m.out⟩⟩
set_option maxHeartbeats 1000000 in
theorem Yx (b:Nat) (t:List UInt8) (w:World) (f:Rd w b t):
  Calls Tryz.prog 251 #[.pointer (some ⟨b,0,none⟩)] w fun r w'=> r=(if t=[] then .returned (.tuple #[]) else Ae)/\w'=w:=by
 obtain ⟨i,j⟩:=f.cells;clear f;go_enter Tryz.func251,Tryz.ntmps251;generalize d:(if t=[] then Ending.returned (.tuple #[]) else Ae)=E;have c:=hid d;clear d
 cases t with
 | nil=>
  go_wp2_with fail;refine (Aw _).mono ?_;rintro r g ⟨rfl,rfl⟩;go_wp2_with fail;go_end0;exact ⟨c.out,rfl⟩
 | cons a r=>
  go_wp2_with fail;refine (Ay _).mono ?_;rintro r g ⟨rfl,rfl⟩;unfold Ae;go_wp2_with fail;exact ⟨rfl,c.out,rfl⟩
theorem Ahm (a b:Nat) (d:a < 4294967296) (f:b < 4294967296):bits .or .i64 (a:Int) (b:Int)=((a ||| b:Nat):Int):=by
 have c:a ||| b < 2^32:=Nat.or_lt_two_pow (by omega) (by omega);show IntKind.i64.wrap ((BitVec.ofInt 64 (a:Int) ||| BitVec.ofInt 64 (b:Int)).toNat:Int)=_;rw [BitVec.toNat_or,ofInt_u64 a (by omega),ofInt_u64 b (by omega),IntKind.wrap_i64];omega
theorem An9 (i a b:Nat) (h:b < 2^i):b ||| a*2^i=b+a*2^i:=by
 rw [Nat.or_comm,Nat.mul_comm,<-Nat.two_pow_add_eq_or_of_lt h,Nat.add_comm]
theorem Ana (a c:Nat) (g:a < 256) (i:c < 256):bits .or .i64 (wrap64 (a:Int)) (wrap64 (wrap64 (c:Int)*256))=((a+256*c:Nat):Int):=by
 have b:wrap64 (a:Int)=((a:Nat):Int):=by unfold wrap64;omega
 have d:wrap64 (c:Int)=((c:Nat):Int):=by unfold wrap64;omega
 have f:wrap64 (((c:Nat):Int)*256)=((c*2^8:Nat):Int):=by
  have:wrap64 (((c:Nat):Int)*256)=((c:Nat):Int)*256:=by unfold wrap64;omega
  rw [this];omega
 rw [b,d,f,Ahm _ _ (by omega) (by omega),An9 8 c a g];omega
theorem Aqd (m x k:Nat) (g:x < 256) (i:k<=4) (j:m < 128^k):bits .or .u64 (m:Int) (IntKind.u64.wrap (IntKind.u64.wrap (bits .andNot .u8 (x:Int) 128)*2^(7*k)))=((m+x % 128*128^k:Nat):Int):=by
 have b:bits .andNot .u8 (x:Int) 128=((x % 128:Nat):Int):=by
  have h:=u8_andNot_nat x 128 g (by omega);rw [show (255 - 128:Nat)=2^7 - 1 from rfl,Nat.and_two_pow_sub_one_eq_mod] at h;exact h
 have c:128^k<=128^4:=Nat.pow_le_pow_right (by decide) i;have a:2^(7*k)=128^k:=by rw [Nat.pow_mul]
 have l:x % 128*2^(7*k) < 34359738368:=by
  rw [a]
  calc x % 128*128^k<=x % 128*128^4:=Nat.mul_le_mul_left _ c
   _ < 34359738368:=by omega
 have d:IntKind.u64.wrap ((x % 128:Nat):Int)=((x % 128:Nat):Int):=by
  show ((x % 128:Nat):Int) % 18446744073709551616=_;omega
 have f:IntKind.u64.wrap (((x % 128:Nat):Int)*2^(7*k))=((x % 128*2^(7*k):Nat):Int):=by
  rw [show (((x % 128:Nat):Int)*2^(7*k))=((x % 128*2^(7*k):Nat):Int) by rw [Int.natCast_mul,Int.natCast_pow];rfl];show ((x % 128*2^(7*k):Nat):Int) % 18446744073709551616=_;omega
 rw [b,d,f,u64_or_nat _ _ (by omega) (by omega),An9 (7*k) _ m (by rw [a];exact j),a]
set_option maxHeartbeats 1000000 in
set_option maxRecDepth 20000 in
theorem Qg (b:Nat) (t:List UInt8) (w:World) (m:Rd w b t):
  Calls Tryz.prog 247 #[.pointer (some ⟨b,0,none⟩)] w fun r w'=> RdQ nv b w (Pr.Gk t) r w':=by
 go_enter Tryz.func247,Tryz.ntmps247;have n:=hid (Fk b 2 t w m);clear m;go_wp2_with fail;refine n.out.mono ?_;rintro r z ⟨d,⟨l,rfl⟩ | ⟨x,u,k,rfl,f⟩⟩
 ·have g:Hid (Pr.Gk t=none):=by show _=_;unfold Pr.Gk;rw [l];rfl
  have i:=hid d;clear d l;unfold Ae;go_wp2_with fail;exact ⟨rfl,i.out,.inl ⟨g.out,rfl⟩⟩
 ·obtain ⟨a,c,rfl,g⟩:∃a c,x=[a,c]/\Hid (Pr.Gk t=some (a.toNat+256*c.toNat,u)):=by
   obtain ⟨s,y⟩:=Pr.Eh k
   match x,s with
   | [a,c],_=> exact ⟨a,c,rfl,show _=_ by unfold Pr.Gk;rw [k];simp [Pg.Ald]⟩
  have i:=hid d;have o:=hid f;clear d f k;have p:a.toNat < 256:=a.toNat_lt;have q:c.toNat < 256:=c.toNat_lt;unfold sv;go_wp2_with fail;go_quiet (fail);have j:=hid (Ana a.toNat c.toNat p q);go_wp2_with fail;go_ret;refine ⟨Cu i.out (Ajh _ _ _),.inr ⟨_,_,g.out,?_,o.out.drewN _⟩⟩;unfold nv;rw [<-j.out];rfl
set_option maxHeartbeats 2000000 in
set_option maxRecDepth 20000 in
theorem Kq (b:Nat) (t:List UInt8) (w:World) (z:Rd w b t):
  Calls Tryz.prog 266 #[.pointer (some ⟨b,0,none⟩)] w fun r w'=> RdQ nv b w (Pr.Cq t) r w':=by
 have o:=hid z;clear z;go_enter Tryz.func266,Tryz.ntmps266;go_wp2_with fail
 go_loopw [3,4] (fun n s wr=>∃(k m:Nat) (u:List UInt8),k<=4/\m < 128^k/\n= .int .u64 m/\s= .int .i64 (7*k:Nat)/\Rd wr b u/\But b w wr/\Pr.Sv (5 - k) (128^k) m u=Pr.Cq t) (fun _ s _=> 28 - (intOf s).toNat)
 case atStart=> exact ⟨0,0,t,by omega,by decide,rfl,rfl,o.out,Qw _ _,rfl⟩
 case round=>
  obtain ⟨k,m,u,Y,R,rfl,rfl,z,S,A⟩:=hrel;have f:=hid A;have M:=hid S;have V:=hid (Ha b u wr z);have N:=hid R;clear z S A o R;go_wp2_with fail;refine V.out.mono ?_;rintro r w1 ⟨j,⟨T,rfl⟩ | ⟨x,u2,U,rfl,B⟩⟩
  ·have g:Hid (Pr.Cq t=none):=by
    show _=_;rw [<-f.out]
    cases u with
    | nil=> rw [show 5 - k=(4 - k)+1 by omega];rfl
    | cons a r=> simp [Pr.Dw] at T
   have d:=hid (Cu M.out j);clear j T;unfold Ae;go_wp2_with fail;exact ⟨rfl,d.out,.inl ⟨g.out,rfl⟩⟩
  ·have O:=Pr.Hw U;have W:=hid O;have d:=hid (Cu M.out j);have l:=hid B;have G:x.toNat < 256:=x.toNat_lt;clear j B U O;unfold bv;have X:=hid (Aqd m x.toNat k G Y N.out);have p:Hid (128^(k+1)=128*128^k):=(by show _=_;rw [Nat.pow_succ,Nat.mul_comm]);have q:m+x.toNat % 128*128^k < 128^(k+1):=by
    have h1:=N.out;have h2:x.toNat % 128*128^k<=127*128^k:=Nat.mul_le_mul_right _ (by omega);rw [p.out];omega
   have H:=hid q;have i:Hid (Pr.Sv (5 - k) (128^k) m u=if 2147483647 < m+x.toNat % 128*128^k then none else if x.toNat < 128 then (if x.toNat=0/\128^k≠1 then none else some (m+x.toNat % 128*128^k,u2)) else Pr.Sv (4 - k) (128*128^k) (m+x.toNat % 128*128^k) u2):=by
    show _=_;rw [W.out,show 5 - k=(4 - k)+1 by omega];rfl
   clear q;go_wp2_with fail;rw [X.out];have y:Hid (k=0↔128^k=1):=by
    constructor
    ·rintro rfl;rfl
    ·intro h;by_cases h0:k=0
     ·exact h0
     ·have:128^1<=128^k:=Nat.pow_le_pow_right (by decide) (by omega);omega
   generalize m+x.toNat % 128*128^k=v at*;generalize x.toNat=F at*;by_cases hv:v<=2147483647
   ·rw [show decide ((v:Int)<=2147483647)=true by simp;omega];refine (Aw _).mono ?_;rintro r Z ⟨rfl,rfl⟩;by_cases c:F < 128
    ·by_cases a0:0 < F
     ·have g:Hid (Pr.Cq t=some (v,u2)):=by
       show _=_;rw [<-f.out,i.out,if_neg (by omega),if_pos c,if_neg (by omega)]
      go_wp2_with fail;refine (Aw _).mono ?_;rintro r D ⟨rfl,rfl⟩;go_wp2_with fail;go_ret;refine ⟨d.out,.inr ⟨_,_,g.out,?_,l.out⟩⟩;rfl
     ·by_cases C:k=0
      ·have g:Hid (Pr.Cq t=some (v,u2)):=by
        show _=_;rw [<-f.out,i.out,if_neg (by omega),if_pos c,if_neg (by have:=y.out;omega)]
       have I:((7*(k:Int))==0)=true:=(by simp;omega);have J:decide ((0:Int) < (F:Int))=false:=(by simp;omega);clear C;go_wp2_with fail;refine (Aw _).mono ?_;rintro r D ⟨rfl,rfl⟩;go_wp2_with fail;go_ret;refine ⟨d.out,.inr ⟨_,_,g.out,?_,l.out⟩⟩;rfl
      ·have g:Hid (Pr.Cq t=none):=by
        show _=_;rw [<-f.out,i.out,if_neg (by omega),if_pos c,if_pos ⟨by omega,fun e=> C (y.out.2 e)⟩]
       have I:((7*(k:Int))==0)=false:=(by simp;omega);have J:decide ((0:Int) < (F:Int))=false:=(by simp;omega);go_wp2_with fail;refine (Ay _).mono ?_;rintro r D ⟨rfl,rfl⟩;unfold Ae;go_wp2_with fail;exact ⟨rfl,d.out,.inl ⟨g.out,rfl⟩⟩
    ·by_cases a1:k < 4
     ·have g:Hid (Pr.Sv (5 - (k+1)) (128^(k+1)) v u2=Pr.Cq t):=by
       show _=_;rw [<-f.out,i.out,if_neg (by omega),if_neg c,p.out,show 5 - (k+1)=4 - k by omega]
      have L:decide (7*(k:Int) < 28)=true:=(by simp;omega);go_wp2_with fail;refine (Aw _).mono ?_;rintro r D ⟨rfl,rfl⟩;go_wp2_with fail
      go_roundw
      case rel=> exact ⟨k+1,v,u2,by omega,H.out,rfl,Al8 (by omega),l.out,d.out,g.out⟩
      case measure=> simp [intOf];omega
     ·have g:Hid (Pr.Cq t=none):=by
       show _=_;rw [<-f.out,i.out,if_neg (by omega),if_neg c,show 4 - k=0 by omega];rfl
      have L:decide (7*(k:Int) < 28)=false:=(by simp;omega);go_wp2_with fail;refine (Ay _).mono ?_;rintro r D ⟨rfl,rfl⟩;unfold Ae;go_wp2_with fail;exact ⟨rfl,d.out,.inl ⟨g.out,rfl⟩⟩
   ·have g:Hid (Pr.Cq t=none):=by
     show _=_;rw [<-f.out,i.out,if_pos (by omega)]
    rw [show decide ((v:Int)<=2147483647)=false by simp;omega];refine (Ay _).mono ?_;rintro r Z ⟨rfl,rfl⟩;unfold Ae;go_wp2_with fail;exact ⟨rfl,d.out,.inl ⟨g.out,rfl⟩⟩
set_option maxHeartbeats 1000000 in
set_option maxRecDepth 20000 in
theorem Ji (b:Nat) (t:List UInt8) (w:World) (B:Rd w b t) (I:t.length<=35184372088832):
  Calls Tryz.prog 268 #[.pointer (some ⟨b,0,none⟩)] w fun r w'=> RdQ sv b w (Pr.Ee t) r w':=by
 have C:=hid (Kq b t w B);clear B;go_enter Tryz.func268,Tryz.ntmps268;go_wp2_with fail;refine C.out.mono ?_;rintro r F ⟨a,⟨k,rfl⟩ | ⟨n,u,g,rfl,l⟩⟩
 ·have m:Hid (Pr.Ee t=none):=by show _=_;unfold Pr.Ee;rw [k]
  have o:=hid a;clear a k;unfold Ae;go_wp2_with fail;exact ⟨rfl,o.out,.inl ⟨m.out,rfl⟩⟩
 ·have m:Hid (Pr.Ee t=Pr.Da n u):=by show _=_;unfold Pr.Ee;rw [g]
  have D:=(Pr.Pw g).2;have o:=hid a;have p:=hid (Fk b n u F l);clear a g l;unfold nv;go_wp2_with fail;refine p.out.mono ?_;rintro r G ⟨c,⟨k,rfl⟩ | ⟨x,u2,g,rfl,i⟩⟩
  ·have d:Hid (Pr.Ee t=none):=(by show _=_;rw [m.out,k]);have f:=hid (Cu o.out c);clear c k;unfold Ae;go_wp2_with fail;exact ⟨rfl,f.out,.inl ⟨d.out,rfl⟩⟩
  ·have d:Hid (Pr.Ee t=some (x,u2)):=(by show _=_;rw [m.out,g]);have q:x.length<=35184372088832:=by
    have:=(Pr.Eh g).2;have:u.length=x.length+u2.length:=(by rw [this,List.length_append]);omega
   have f:=hid (Cu o.out c);have s:=hid i;have y:=i.lt;clear c i g;unfold sv;go_wp2_with fail;refine (Tc ⟨x.toArray⟩ _ (by rw [Ck];exact q)).mono ?_;rintro r H ⟨rfl,j⟩;have z:=hid (Cu f.out (Aay j));have A:=hid (s.out.below j y);clear j;go_wp2_with fail;go_ret;exact ⟨z.out,.inr ⟨_,_,d.out,rfl,A.out⟩⟩
theorem Gp {B b:Nat} {w w':World} {v:Value} {T:TypeId} {s n:Nat} {xs:List Value} (h:w.ownsRow B T s v n xs) (c:But b w w') (d:b < B):w'.ownsRow B T s v n xs:=by
 refine World.ownsRow.kept h c ?_
 cases e:v.ownBlock with
 | none=> exact .inl rfl
 | some k=> exact .inr (fun a=> by have:=(World.ownsRow.lt h k e).1;simp at a;omega)
theorem Ai {b B:Nat} {a w w':World} (h:Below B a w) (c:But b w w') (f:B<=b) (g:B<=w.heap.size):Below B a w':=
 h.trans ⟨c.os,c.tape,c.output,c.size,fun k d=> c.block k (by omega) (by simp;omega)⟩
theorem Rd.grown {w w':World} {b:Nat} {t:List UInt8} {a:Option Nat} (h:Rd w b t) (d:w.grownBy w' a) (c:some b≠a):Rd w' b t:=(d.block b h.lt c).trans h
def Arf (w:World) (o:Option (List (List UInt8))) (r:Ending) (w':World):Prop:=Below w.heap.size w w'/\((o=none/\r=Ae)\/∃l v,o=some (lists l)/\r= .returned v/\Av w.heap.size w' v l)
theorem Ad7 {B C:Nat} {w:World} {v:Value} {l:List ByteArray} (h:Av B w v l) (i:C<=B):Av C w v l:=by
 refine ⟨h.1,?_⟩;rcases h.2 with d | ⟨g,a,b,f,c,r⟩
 ·exact .inl d
 ·exact .inr ⟨g,a,b,f,Nat.le_trans i c,r⟩
set_option maxHeartbeats 2000000 in
set_option maxRecDepth 20000 in
theorem Ve (t:List UInt8) (v:Value) (a:List Nat) (w:World) (hv:Iv w v a.length (Bk a)) (hl:a.length<=1000):
  Calls Tryz.prog 215 #[.string ⟨t.toArray⟩,v] w fun r w'=> Arf w (Pr.Mr t a) r w':=by
 obtain ⟨va,vc,rfl,-,n⟩:=hv;have HV:=hid n;clear n;go_enter Tryz.func215,Tryz.ntmps215;go_wp2_with fail;refine (Dx t _).mono ?_;rintro r w1 ⟨rfl,rfl⟩;have D:=hid (Nv w t);have o:=hid ((Below.refl w.heap.size w).alloc (Nat.le_refl _) (.cells #[.string ⟨t.toArray⟩] 298));have V:w.heap.size < (w.alloc (.cells #[.string ⟨t.toArray⟩] 298)).heap.size:=by simp
 generalize w.alloc (.cells #[.string ⟨t.toArray⟩] 298)=w0 at*;have m:=hid (Fk w.heap.size 68 t w0 D.out);go_wp2_with fail;refine m.out.mono ?_;rintro r w1 ⟨d,⟨N,rfl⟩ | ⟨x,u,O,rfl,R⟩⟩
 ·have F:Hid (Pr.Mr t a=none):=by show _=_;unfold Pr.Mr;rw [N];rfl
  have f:=hid (Ai o.out d (Nat.le_refl _) (by omega));clear d N;unfold Ae;go_wp2_with fail;exact ⟨rfl,f.out,.inl ⟨F.out,rfl⟩⟩
 ·have F:Hid (Pr.Mr t a=(Pr.Hr a u).bind fun r=> if r.2=[] then some r.1 else none):=by show _=_;unfold Pr.Mr;rw [O];rfl
  have f:=hid (Ai o.out d (Nat.le_refl _) (by omega));have G:=hid R;have W:=d.size;clear d O R m D;unfold sv;go_wp2_with fail
  go_loopw [6,15] (fun y i wr=>∃(k:Nat) (l:List ByteArray) (q:List UInt8),k<=a.length/\i= .int .i64 k/\l.length<=k/\Av (w.heap.size+1) wr y l/\Rd wr w.heap.size q/\Below w.heap.size w wr/\w.heap.size < wr.heap.size/\(Pr.Hr (a.drop k) q).map (fun r=> (lists l++r.1,r.2))=Pr.Hr a u) (fun _ i _=> a.length - (intOf i).toNat)
  case atStart=> exact ⟨0,[],u,Nat.zero_le _,rfl,by simp,Av.nil _ _,G.out,f.out,by omega,by simp [lists]⟩
  case round=>
   clear G f W V o;obtain ⟨k,l,q,hk,rfl,a5,ho,hr,hb,a6,L⟩:=hrel;have HO:=hid ho;have HR:=hid hr;have f:=hid hb;have p:=hid L;obtain ⟨ya,yc,rfl⟩:=ho.shape;clear ho hr hb L;by_cases j:k < a.length
   ·obtain ⟨b,a7,a1,a2,M⟩:=HV.out.resolve_left (by omega);subst a1;have c0:=Agn (pl:=a) M f.out a2 k j;clear M;have H:Hid (Pr.Hr (a.drop k) q=(Pr.Da (a[k]'j) q).bind fun x=> (Pr.Hr (a.drop (k+1)) x.2).map fun r=> (x.1::r.1,r.2)):=by
     show _=_;rw [List.drop_eq_getElem_cons j];rfl
    generalize a[k]'j=s at*;have m:=hid (Fk w.heap.size s q wr HR.out);go_wp2_with fail;refine m.out.mono ?_;rintro r U ⟨c,⟨N,rfl⟩ | ⟨x,u2,O,rfl,S⟩⟩
    ·have I:Hid (Pr.Mr t a=none):=by
      show _=_;rw [F.out,<-p.out,H.out,N];rfl
     have z:=hid (Ai f.out c (Nat.le_refl _) (by omega));clear c N;unfold Ae;go_wp2_with fail;exact ⟨rfl,z.out,.inl ⟨I.out,rfl⟩⟩
    ·have HG:Hid ((Pr.Hr (a.drop (k+1)) u2).map (fun r=> (lists (l++[⟨x.toArray⟩])++r.1,r.2))=Pr.Hr a u):=by
      show _=_;rw [<-p.out,H.out,O];simp only [Option.bind_some,Option.map_map];congr 1;funext r;simp [lists]
     have z:=hid (Ai f.out c (Nat.le_refl _) (by omega));have X:=hid S;have A:Hid (Av (w.heap.size+1) U (.slice ya l.length yc) l):=Gp HO.out c (by omega);have a3:=c.size;clear c O S m c0;unfold sv;go_wp2_with (first
      | (at_builtin;refine Aaz U rfl (.tmp 19) (.tmp 23) rfl (w.heap.size+1) (.slice ya l.length yc) l rfl A.out ⟨x.toArray⟩ rfl (by omega) (by omega) ?_))
     intro v3 w3 B g T;have Y:=hid B;have Z:=hid (X.out.grown g (fun e=> by have:=(World.ownsRow.lt A.out _ e.symm).1;omega));have a0:=hid (z.out.trans (((Below.refl (w.heap.size+1) U).grown g (by omega) fun k hk=> (World.ownsRow.lt A.out k hk).1).mono (by omega)));have a4:=g.size;obtain ⟨a8,a9,rfl⟩:=B.shape;clear B g T;go_wp2_with fail
     go_roundw
     case rel=> exact ⟨k+1,_,u2,by omega,by go_num,by rw [List.length_append];simp;omega,Y.out,Z.out,a0.out,by omega,HG.out⟩
     case measure=> simp [intOf];omega
   ·have J:Hid (Pr.Hr a u=some (lists l,q)):=by
     show _=_;rw [<-p.out,List.drop_eq_nil_of_le (by omega)];simp [Pr.Hr]
    have m:=hid (Yx w.heap.size q wr HR.out);go_wp2_with fail;refine m.out.mono ?_;rintro r U ⟨rfl,rfl⟩;clear m;by_cases C:q=[]
    ·have I:Hid (Pr.Mr t a=some (lists l)):=by
      show _=_;rw [F.out,J.out];simp [C]
     rw [if_pos C];clear C;go_wp2_with fail;go_ret;exact ⟨f.out,.inr ⟨l,_,I.out,rfl,Ad7 HO.out (by omega)⟩⟩
    ·have I:Hid (Pr.Mr t a=none):=by
      show _=_;rw [F.out,J.out];simp [C]
     rw [if_neg C];clear C;unfold Ae;go_wp2_with fail;exact ⟨rfl,f.out,.inl ⟨I.out,rfl⟩⟩
end Go.Proofs.YtolgpnaoaodepaaGreat
