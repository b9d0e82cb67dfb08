import Derived.Test.YtolgpnaoaodepaaGreatMathCm
import Derived.Laws.BitsAllLaws
import Derived.Laws.Concat
import Derived.Deep.RegionHeld3
import Derived.Lib.QuietBelow
import Derived.Lib.AppendZerosOnto
import Derived.Laws.OwnMore
import Derived.Lib.Bytealg
namespace Go.Proofs.YtolgpnaoaodepaaGreat
open Go.RowKit
theorem Agj {c:Nat} (h:c % 2=1):Pg.Ll c=(c / 2)^^^2197175160:=by unfold Pg.Ll;rw [if_pos h]
theorem Adr {c:Nat} (h:¬c % 2=1):Pg.Ll c=c / 2:=by unfold Pg.Ll;rw [if_neg h]
theorem Alf (s:ByteArray) (k:Nat) (h:k < s.size):Pg.Jl (s.data.toList.take (k+1))=Pg.Ol (Pg.Jl (s.data.toList.take k)) (s[k]'h):=by
 have a:k < s.data.toList.length:=by rw [len_size];exact h
 rw [List.take_succ_eq_append_getElem a,Pg.Adp];rfl
theorem Ck (l:List UInt8):(⟨l.toArray⟩:ByteArray).size=l.length:=by show l.toArray.size=_;simp
theorem Gf {a b:ByteArray} (h:a.data.toList=b.data.toList):a=b:=ByteArray.ext (Array.toList_inj.1 h)
theorem Aic {a b:ByteArray} (h:a.data.toList=b.data.toList):Ending.returned (.string a)= .returned (.string b):=by rw [Gf h]
theorem Hu (n:Nat) (h:n<=9223372036854775807):(Pg.num n).length<=10:=Pg.Wq 9 n (by show n < 128^10;omega)
theorem Alg (s t:ByteArray) (i:Nat) (hi:i < s.size) (a:i < t.size) (h:(((s[i]'hi).toNat:Int)==((t[i]'a).toNat:Int))=true):∃x,s.data.toList[i]?=some x/\t.data.toList[i]?=some x:=by
 have b:((s[i]'hi).toNat:Int)=((t[i]'a).toNat:Int):=by simpa using h
 refine ⟨s[i],Kg s i hi,?_⟩;rw [Kg t i a,UInt8.toNat_inj.1 (by omega:(s[i]'hi).toNat=(t[i]'a).toNat)]
theorem Alh (s t:ByteArray) (i:Nat) (hi:i < s.size) (a:i < t.size) (h:(((s[i]'hi).toNat:Int)==((t[i]'a).toNat:Int))=false):s.data.toList[i]?≠t.data.toList[i]?:=by
 rw [Kg s i hi,Kg t i a];intro e;have b:s[i]'hi=t[i]'a:=by simpa using e
 rw [b] at h;simp at h
def Hb (w:World) (b off:Nat) (l:List (ByteArray×ByteArray)):Prop:=∀i (h:i < l.length),w.cell? ⟨b,off+i*2,none⟩=some (.string (l[i]'h).1)/\w.cell? ⟨b,off+i*2+1,none⟩=some (.string (l[i]'h).2)
theorem Hb.below {w w':World} {b a B:Nat} {l:List (ByteArray×ByteArray)} (h:Hb w b a l) (d:Below B w w') (c:b < B):Hb w' b a l:=fun i hi=> by
 rw [d.cell (p:=⟨b,_,none⟩) c,d.cell (p:=⟨b,_,none⟩) c];exact h i hi
def plain (l:List (ByteArray×ByteArray)):List (List UInt8×List UInt8):=l.map fun x=> (x.1.data.toList,x.2.data.toList)
theorem Gl (l:List UInt8) (h:l.length<=9223372036854775807):(Pg.Ef l).length<=l.length+10:=by
 unfold Pg.Ef;rw [List.length_append];have:=Hu l.length h;omega
def Eu (w:World) (v:Value) (l:List (ByteArray×ByteArray)):Prop:=(∃a cap,v= .slice a 0 cap/\l=[])\/∃b off cap,v= .slice (some ⟨b,off,none⟩) l.length cap/\l.length<=cap/\cap<=9223372036854775807/\b < w.heap.size/\Hb w b off l
theorem Hb.part {w:World} {b c:Nat} {l:List (ByteArray×ByteArray)} (h:Hb w b c l) (a n:Nat):Hb w b (c+a*2) ((l.drop a).take n):=fun i hi=> by
 have d:i < n/\a+i < l.length:=by simp at hi;omega
 have:=h (a+i) d.2;rw [show c+a*2+i*2=c+(a+i)*2 by omega];simpa using this
theorem Agk (l:List (ByteArray×ByteArray)) (k:Nat):plain (l.drop k)=(plain l).drop k:=by simp [plain]
theorem Agl (l:List (ByteArray×ByteArray)) (k:Nat):plain (l.take k)=(plain l).take k:=by simp [plain]
theorem Ali {l:List (ByteArray×ByteArray)} (h:∀x∈l,x.1.size<=12/\x.2.size<=16):∀x∈plain l,x.1.length<=12/\x.2.length<=16:=by
 intro x a;simp only [plain,List.mem_map] at a;obtain ⟨y,b,rfl⟩:=a;have:=h y b;simp only [len_size];exact this
theorem Acg (f:Nat) (l:List (List UInt8×List UInt8)) (h:l≠[]):Pg.entries (f+1) l=Pg.Aib l++Pg.entries f (l.drop 4):=by rw [Pg.entries,if_neg h]
theorem Agm (f:Nat) (l:List (List UInt8×List UInt8)) (h:l≠[]):Pg.Ki (f+1) l=Pg.base l++Pg.Ki f (l.drop 4):=by rw [Pg.Ki,if_neg h]
theorem Ad {w:World} {b i:Nat} {a:Array Value} {T:TypeId} (h:w.heap[b]?=some (.cells a T (0,0))) (v:Value):(w.setCell ⟨b,i,none⟩ v).heap[b]?=some (.cells (a.setIfInBounds i v) T (0,0)):=by
 simp only [World.setCell,Array.getElem?_modify];rw [if_pos trivial,h];rfl
abbrev But (b:Nat) (w w':World):Prop:=w.grownBy w' (some b)
theorem Qw (b:Nat) (w:World):But b w w:=⟨rfl,rfl,rfl,Nat.le_refl _,fun _ _ _=> rfl⟩
theorem Cu {b:Nat} {w w' a:World} (h:But b w w') (k:But b w' a):But b w a:=
 ⟨k.os.trans h.os,k.tape.trans h.tape,k.output.trans h.output,Nat.le_trans h.size k.size,fun i hi c=> (k.block i (Nat.lt_of_lt_of_le hi h.size) c).trans (h.block i hi c)⟩
theorem Aay {b:Nat} {w w':World} (h:Below w.heap.size w w'):But b w w':=⟨h.os,h.tape,h.output,h.size,fun i hi _=> h.block i hi⟩
theorem Gn (b i:Nat) (w:World) (v:Value):But b w (w.setCell ⟨b,i,none⟩ v):=
 ⟨rfl,rfl,rfl,by simp [World.setCell],fun k _ a=> Below.heap_setCell _ _ _ _ (fun e=> a (by rw [e]))⟩
theorem Ajh (b:Nat) (w:World) (n:Nat):But b w (w.drewN n):=⟨rfl,rfl,rfl,Nat.le_refl _,fun _ _ _=> rfl⟩
def strs (l:List ByteArray):List Value:=l.map Value.string
def Av (B:Nat) (w:World) (v:Value) (l:List ByteArray):Prop:=w.ownsRow B 9 1 v l.length (strs l)
theorem Ads:(Tryz.prog.info? 9).map (fun i=> (i.zero,i.size,i.bytes))=some (some (.string ⟨#[]⟩),1,16):=by kernel_rfl
theorem Av.nil (B:Nat) (w:World):Av B w (.slice none 0 0) []:=World.ownsRow_nil _ _ _ _
theorem Av.alloc {B:Nat} {w:World} {v:Value} {l:List ByteArray} (h:Av B w v l) (o:Obj):Av B (w.alloc o) v l:=World.ownsRow.alloc h o
theorem Av.shape {B:Nat} {w:World} {v:Value} {l:List ByteArray} (h:Av B w v l):∃a b,v= .slice a l.length b:=by
 rcases h.2 with ⟨rfl,c⟩ | ⟨g,b,d,rfl,_⟩
 ·exact ⟨none,0,by rw [c]⟩
 ·exact ⟨_,_,rfl⟩
theorem Av.shape_pos {B:Nat} {w:World} {v:Value} {l:List ByteArray} (h:Av B w v l) (j:0 < l.length):∃g a,v= .slice (some ⟨g,0,none⟩) l.length a/\B<=g/\g < w.heap.size/\l.length<=a:=by
 rcases h.2 with ⟨rfl,i⟩ | ⟨g,a,b,rfl,c,d,f,_⟩
 ·omega
 ·exact ⟨g,a,rfl,c,(Array.getElem?_eq_some_iff.1 d).1,f⟩
theorem Av.below {B C:Nat} {w w':World} {v:Value} {l:List ByteArray} (h:Av B w v l) (i:Below C w w') (j:w.heap.size<=C):Av B w' v l:=by
 refine ⟨h.1,?_⟩;rcases h.2 with f | ⟨g,a,b,rfl,c,d,r⟩
 ·exact .inl f
 ·exact .inr ⟨g,a,b,rfl,c,by rw [i.block g (Nat.lt_of_lt_of_le (Array.getElem?_eq_some_iff.1 d).1 j)];exact d,r⟩
theorem Av.setBelow {B:Nat} {w:World} {v:Value} {l:List ByteArray} (h:Av B w v l) {b i:Nat} (a:b < B) (u:Value):Av B (w.setCell ⟨b,i,none⟩ u) v l:=ownsRow_setCell_below h a u
theorem Av.cellAt {B:Nat} {w:World} {g n c:Nat} {l:List ByteArray} (h:Av B w (.slice (some ⟨g,0,none⟩) n c) l) (j:Nat) (s:ByteArray) (a:l[j]?=some s):w.cell? ⟨g,j,none⟩=some (.string s):=by
 have:=World.ownsRow.cells h (g:=g) rfl j (.string s) (by simp [strs,a]);by_cases h0:j=0
 ·subst h0;simpa [Addr.add] using this
 ·simpa [Addr.add,h0] using this
theorem Adt (l:List ByteArray):∀u∈strs l,u.oneCell'=true:=by
 intro u a;simp [strs] at a;obtain ⟨b,_,rfl⟩:=a;rfl
theorem Aaz (w:World) {c:Array Oper} {rest:List Oper} {o:Oper} {a:Act} {Q:Exit->Act->World->Prop} (r:o.guard=none) (t x:Operand)
  (z:o.op=Op.call {callee:=Callee.builtin Builtin.append,args:= #[t,x],argTypes:= #[40,40]}) (B:Nat) (v:Value) (l:List ByteArray) (A:a.eval t=v) (d:Av B w v l)
  (s:ByteArray) (C:a.eval x= .slice (some ⟨w.heap.size,0,none⟩) 1 1) (D:l.length+1<=1000000000) (F:B<=w.heap.size)
  (h:∀(b:Value) (w':World),Av B w' b (l++[s])->w.grownBy w' v.ownBlock->(b.ownBlock=v.ownBlock\/∃k,w.heap.size<=k/\b.ownBlock=some k)->wpList Tryz.prog c Q rest (a.put o.dst b) w'):wpList Tryz.prog c Q (o::rest) a (w.alloc (.cells #[.string s] 9)):=by
 obtain ⟨i,hi,g,m,n⟩:=info_parts Ads;refine wpList_append_own_at (w.alloc (.cells #[.string s] 9)) r t x 40 z B 9 i (.string ⟨#[]⟩) 1 16 Tryz.underlying40 hi g m n rfl (by decide) v l.length (strs l) A (d.alloc _) ⟨w.heap.size,0,none⟩ 1 1 [.string s] C rfl ?_ (Adt [s]) (by unfold maxLen;omega) (by omega) (by simp;omega) ?_
 ·intro j u f
  match j,f with
  | 0,f=> simp at f;subst f;simp [Addr.add]
 intro b w' p y _ q;refine h b w' ?_ (Fp y) (q.imp_right fun e=> ⟨w.heap.size+1,by omega,by simpa using e⟩);unfold Av strs;rw [List.length_append,List.map_append];exact p
theorem Ach (w:World) {f:Array Oper} {o:Oper} {a:Act} {K:Act->World->Prop} {Q:Exit->Act->World->Prop} {E:Prop} (z:o.guard=none) (A x:Operand)
  (G:o.op=Op.call {callee:=Callee.builtin Builtin.append,args:= #[A,x],argTypes:= #[40,40]}) (B:Nat) (v:Value) (l:List ByteArray) (H:a.eval A=v) (m:Av B w v l)
  (s:ByteArray) (g:Nat) (I:a.eval x= .slice (some ⟨g,0,none⟩) 1 1) (c:w.cell? ⟨g,0,none⟩=some (.string s)) (L:l.length+1<=1000000000) (J:B<=w.heap.size)
  (h:∀(b:Value) (w':World),Av B w' b (l++[s])->w.grownBy w' v.ownBlock->(b.ownBlock=v.ownBlock\/∃k,w.heap.size<=k/\b.ownBlock=some k)->K (a.put o.dst b) w'):if Region.wanted o (yielded f a.tmps)=true then Oper.wp Tryz.prog o a w K Q else E:=by
 have C:Region.wanted o (yielded f a.tmps)=true:=by simp [Region.wanted,z]
 rw [if_pos C];obtain ⟨i,hi,p,q,r⟩:=info_parts Ads;obtain ⟨b,w',d,t,F,_,y⟩:=run_append_own_at (P:=Tryz.prog) w B 40 o.type 9 i (.string ⟨#[]⟩) 1 16 Tryz.underlying40 hi p q r rfl (by decide) v l.length (strs l) m ⟨g,0,none⟩ 1 1 [.string s] rfl (fun j u n=> by
  match j,n with
  | 0,n=> simp at n;subst n;simpa [Addr.add] using c) (Adt [s]) (by unfold maxLen;omega) (by omega) J
 have D:K (a.put o.dst b) w':=by
  refine h b w' ?_ F (y.imp_right fun e=> ⟨w.heap.size,Nat.le_refl _,e⟩);unfold Av strs;rw [List.length_append,List.map_append];exact t
 unfold Oper.wp;simp [execOp,G,resolve,invoke,builtin,H,I,d,Result.andThen];exact D
def lists (l:List ByteArray):List (List UInt8):=l.map fun s=> s.data.toList
theorem Adu (w:World) (s:ByteArray) (T:TypeId):((w.alloc (.cells #[.string s] T)).drew).cell? ⟨w.heap.size,0,none⟩=some (.string s):=by
 show (w.alloc (.cells #[.string s] T)).cell? ⟨w.heap.size,0,none⟩=_;unfold World.cell?;rw [heap_alloc_new w];rfl
theorem Db:∀(x y:List UInt8),Op.bytesLess x y=decide (x < y)
 | [],[]=> by simp [Op.bytesLess]
 | [],_::_=> by simp [Op.bytesLess]
 | _::_,[]=> by simp [Op.bytesLess]
 | a::x,b::y=> by
  rw [Op.bytesLess,Db x y];by_cases c:a=b
  ·subst c;simp
  ·simp [List.cons_lt_cons_iff,c]
end Go.Proofs.YtolgpnaoaodepaaGreat
namespace Go.Proofs.YtolgpnaoaodepaaGreat.Pg
open Go.RowKit
def Ei (n:Nat):Bool:=decide (1<=n)&&decide (n<=12)
def Bt (k:Int) (key val:Nat):Bool:=Ei key&&decide (val<=16)&&(decide (k=1) || decide (k=3) || (decide (k=2)&&decide (val=0)))
def Gv:Option (List UInt8)->List UInt8->Bool
 | none,_=> true
 | some q,k=> decide (q < k)
def Pt:List (List UInt8×List UInt8)->Option (List UInt8)->Bool
 | [],_=> true
 | x::r,p=> Ei x.1.length&&decide (x.2.length<=16)&&Gv p x.1&&Pt r (some x.1)
def Dl (p:Option (List UInt8)) (l:List (List UInt8×List UInt8)):Bool:=Pt l p
theorem Aok (p:Option (List UInt8)) (k v:List UInt8) (r:List (List UInt8×List UInt8)):Dl p ((k,v)::r)=(Ei k.length&&decide (v.length<=16)&&Gv p k&&Dl (some k) r):=rfl
end Go.Proofs.YtolgpnaoaodepaaGreat.Pg
namespace Go.Proofs.YtolgpnaoaodepaaGreat
open Go.RowKit
def Lo (l:List (List UInt8×List UInt8)) (i:Nat):Option (List UInt8):=if i=0 then none else (l[i - 1]?).map (·.1)
theorem Jm {w:World} {b:Nat} {a v1 v2 v3 v4:Value} (h:w.heap[b]?=some (.cells #[a,v1,v2,v3,v4] 79 (0,0))):w.cell? ⟨b,0,none⟩=some a/\w.cell? ⟨b,1,none⟩=some v1/\w.cell? ⟨b,2,none⟩=some v2/\w.cell? ⟨b,3,none⟩=some v3/\w.cell? ⟨b,4,none⟩=some v4:=by
 refine ⟨?_,?_,?_,?_,?_⟩ <;> simp [World.cell?,h]
end Go.Proofs.YtolgpnaoaodepaaGreat
namespace Go.Proofs.YtolgpnaoaodepaaGreat.Pg
open Go.RowKit
def Az:List (List UInt8)->Option (List UInt8)->Bool
 | [],_=> true
 | x::r,p=> Ei x.length&&Gv p x&&Az r (some x)
def Bv (c:Int):Bool:=decide (0<=c)&&decide (c<=2147483647)
def Ax (c:Int×List UInt8×List UInt8):Bool:=Bt c.1 c.2.1.length c.2.2.length
end Go.Proofs.YtolgpnaoaodepaaGreat.Pg
namespace Go.Proofs.YtolgpnaoaodepaaGreat
open Go.RowKit
def Iv (w:World) (v:Value) (n:Nat) (cs:List Value):Prop:=∃a cap,v= .slice a n cap/\n<=1000000000/\(n=0\/∃b off,a=some ⟨b,off,none⟩/\b < w.heap.size/\∀i (h:i < cs.length),w.cell? ⟨b,off+i,none⟩=some (cs[i]'h))
def Pu (l:List (List UInt8)) (i:Nat):Option (List UInt8):=if i=0 then none else l[i - 1]?
def Aid (w:World) (b off:Nat) (l:List (Int×ByteArray×ByteArray)):Prop:=∀i (h:i < l.length),w.cell? ⟨b,off+i*3,none⟩=some (.int .i64 (l[i]'h).1)/\w.cell? ⟨b,off+i*3+1,none⟩=some (.string (l[i]'h).2.1)/\w.cell? ⟨b,off+i*3+2,none⟩=some (.string (l[i]'h).2.2)
theorem Aid.below {w w':World} {b c B:Nat} {l:List (Int×ByteArray×ByteArray)} (h:Aid w b c l) (d:Below B w w') (a:b < B):Aid w' b c l:=fun i hi=> by
 rw [d.cell (p:=⟨b,_,none⟩) a,d.cell (p:=⟨b,_,none⟩) a,d.cell (p:=⟨b,_,none⟩) a];exact h i hi
def Ug (w:World) (v:Value) (l:List (Int×ByteArray×ByteArray)):Prop:=∃a cap,v= .slice a l.length cap/\l.length<=1000000000/\(l.length=0\/∃b off,a=some ⟨b,off,none⟩/\b < w.heap.size/\Aid w b off l)
def plainCh (l:List (Int×ByteArray×ByteArray)):List (Int×List UInt8×List UInt8):=l.map fun c=> (c.1,c.2.1.data.toList,c.2.2.data.toList)
theorem Ab0 {w wr:World} {b a:Nat} {pl:List ByteArray} (h:∀i (h:i < (pl.map Value.string).length),w.cell? ⟨b,a+i,none⟩=some ((pl.map Value.string)[i]'h)) (f:Below w.heap.size w wr) (c:b < w.heap.size) (k:Nat) (d:k < pl.length):wr.cell? ⟨b,a+k,none⟩=some (.string (pl[k]'d)):=by
 rw [f.cell (p:=⟨b,_,none⟩) c,h k (by simpa using d)];simp
theorem Aq4 {w wr:World} {b a:Nat} {pl:List Int} (h:∀i (h:i < (pl.map (Value.int .i64)).length),w.cell? ⟨b,a+i,none⟩=some ((pl.map (Value.int .i64))[i]'h)) (f:Below w.heap.size w wr) (c:b < w.heap.size) (k:Nat) (d:k < pl.length):wr.cell? ⟨b,a+k,none⟩=some (.int .i64 (pl[k]'d)):=by
 rw [f.cell (p:=⟨b,_,none⟩) c,h k (by simpa using d)];simp
end Go.Proofs.YtolgpnaoaodepaaGreat
namespace Go.Proofs.YtolgpnaoaodepaaGreat.Pg
open Go.RowKit
def Dt (c:Int×List UInt8×List UInt8):List UInt8:=low c.1.toNat 1++Ef c.2.1++(if c.1=2 then [] else Ef c.2.2)
def Df (l:List (Int×List UInt8×List UInt8)):List UInt8:=low l.length 1++l.flatMap Dt
def Ev (cl:List Nat) (pl:List (List UInt8)):List UInt8:=cl.flatMap num++pl.flatMap Ef
def Dg (cl:List Nat) (pl:List (List UInt8)):List UInt8:=Bg [112] (Ev cl pl)
def Dh (ml:List (Int×List UInt8×List UInt8)):List UInt8:=Bg [109] (Df ml)
def Hc (cl:List Nat) (pl:List (List UInt8)) (ml:List (Int×List UInt8×List UInt8)):List UInt8:=
 sealed ([83,50,73]++low cl.length 1++low (Dg cl pl).length 2++low (Dh ml).length 2++List.replicate 56 0)++Dg cl pl++Dh ml
end Go.Proofs.YtolgpnaoaodepaaGreat.Pg
namespace Go.Proofs.YtolgpnaoaodepaaGreat
open Go.RowKit
theorem Agn {w wr:World} {b a:Nat} {pl:List Nat} (h:∀i (h:i < (pl.map fun (c:Nat)=> Value.int .i64 (c:Int)).length),w.cell? ⟨b,a+i,none⟩=some ((pl.map fun (c:Nat)=> Value.int .i64 (c:Int))[i]'h)) (g:Below w.heap.size w wr) (d:b < w.heap.size) (k:Nat) (f:k < pl.length):wr.cell? ⟨b,a+k,none⟩=some (.int .i64 ((pl[k]'f:Nat):Int)):=by
 rw [g.cell (p:=⟨b,_,none⟩) d,h k (by simpa using f)];simp
theorem Ug.below {w w':World} {v:Value} {l:List (Int×ByteArray×ByteArray)} (h:Ug w v l) (g:Below w.heap.size w w'):Ug w' v l:=by
 obtain ⟨a,c,i,j,k⟩:=h;refine ⟨a,c,i,j,k.imp_right ?_⟩;rintro ⟨b,f,e,d,m⟩;exact ⟨b,f,e,Nat.lt_of_lt_of_le d g.size,m.below g d⟩
theorem Ago {l:List (Int×ByteArray×ByteArray)} (h:∀x∈l,(0<=x.1/\x.1<=1000)/\x.2.1.size<=12/\x.2.2.size<=16):∀x∈plainCh l,x.2.1.length<=12/\x.2.2.length<=16:=by
 intro x a;simp only [plainCh,List.mem_map] at a;obtain ⟨y,b,rfl⟩:=a;have:=(h y b).2;simp only [len_size];exact this
theorem Agp (l:List (Int×List UInt8×List UInt8)) (h:∀x∈l,x.2.1.length<=12/\x.2.2.length<=16):(Pg.Df l).length<=1+l.length*60:=by
 unfold Pg.Df;rw [List.length_append,Pg.Cp];have:(l.flatMap Pg.Dt).length<=l.length*60:=by
  induction l with
  | nil=> simp
  | cons x r ih=>
   rw [List.flatMap_cons,List.length_append,List.length_cons];have b:=h x (by simp);have c:=ih fun y a=> h y (by simp [a])
   have d:=Gl x.2.1 (by omega);have f:=Gl x.2.2 (by omega);have:(Pg.Dt x).length<=60:=by
    unfold Pg.Dt;rw [List.length_append,List.length_append,Pg.Cp];split
    ·simp;omega
    ·omega
   omega
 omega
end Go.Proofs.YtolgpnaoaodepaaGreat
namespace Go.Proofs.YtolgpnaoaodepaaGreat.Pg
open Go.RowKit
def well (kd:Int) (il:List (List UInt8×List UInt8)) (cl:List Int) (pl:List (List UInt8)) (ml:List (Int×List UInt8×List UInt8)):Bool:=
 if kd=1 then Dl none il&&decide (il.length<=16)&&decide (cl.length=0)&&decide (pl.length=0)&&decide (ml.length=0)
 else Az pl none&&cl.all Bv&&ml.all Ax&&decide (kd=2)&&decide (il.length=0)&&decide (1<=cl.length)&&decide (cl.length<=4)&&decide (pl.length+1=cl.length)&&decide (ml.length<=8)
def page (kd:Int) (il:List (List UInt8×List UInt8)) (cl:List Int) (pl:List (List UInt8)) (ml:List (Int×List UInt8×List UInt8)):List UInt8:=if kd=2 then Hc (cl.map Int.toNat) pl ml else Sp il
def Uh (kd:Int) (il:List (List UInt8×List UInt8)) (cl:List Int) (pl:List (List UInt8)) (ml:List (Int×List UInt8×List UInt8)):List UInt8×Int:=if well kd il cl pl ml=true then (page kd il cl pl ml,0) else ([],1)
theorem Ii {n:Nat} (h:Ei n=true):n<=12:=by simp [Ei] at h;exact h.2
theorem Ab1:∀(l:List (List UInt8×List UInt8)) (p:Option (List UInt8)),Pt l p=true->∀x∈l,x.1.length<=12/\x.2.length<=16
 | [],_,_,x,a=> by simp at a
 | y::r,p,h,x,a=> by
  simp only [Pt,Bool.and_eq_true,decide_eq_true_eq] at h;rcases List.mem_cons.1 a with rfl | a
  ·exact ⟨Ii h.1.1.1,h.1.1.2⟩
  ·exact Ab1 r _ h.2 x a
theorem Ij:∀(l:List (List UInt8)) (p:Option (List UInt8)),Az l p=true->∀x∈l,x.length<=12
 | [],_,_,x,a=> by simp at a
 | y::r,p,h,x,a=> by
  simp only [Az,Bool.and_eq_true] at h;rcases List.mem_cons.1 a with rfl | a
  ·exact Ii h.1.1
  ·exact Ij r _ h.2 x a
end Go.Proofs.YtolgpnaoaodepaaGreat.Pg
namespace Go.Proofs.YtolgpnaoaodepaaGreat
open Go.RowKit
def Kv (w:World) (v:Value) (kd:Int) (il:List (ByteArray×ByteArray)) (cl:List Int) (pl:List ByteArray) (ml:List (Int×ByteArray×ByteArray)):Prop:=
 ∃v1 v2 v3 v4,v= .agg #[.int .i64 kd,v1,v2,v3,v4]/\Eu w v1 il/\il.length<=1000000000/\Iv w v2 cl.length (cl.map (.int .i64))/\Iv w v3 pl.length (pl.map .string)/\Ug w v4 ml
theorem Eu.below {w w':World} {v:Value} {l:List (ByteArray×ByteArray)} (h:Eu w v l) (f:Below w.heap.size w w'):Eu w' v l:=by
 rcases h with h | ⟨b,a,c,g,i,j,d,k⟩
 ·exact .inl h
 ·exact .inr ⟨b,a,c,g,i,j,Nat.lt_of_lt_of_le d f.size,k.below f d⟩
theorem Eu.shape {w:World} {v:Value} {l:List (ByteArray×ByteArray)} (h:Eu w v l):∃a c,v= .slice a l.length c:=by
 rcases h with ⟨a,c,rfl,rfl⟩ | ⟨b,d,c,rfl,_⟩
 ·exact ⟨_,_,rfl⟩
 ·exact ⟨_,_,rfl⟩
theorem Iv.below {w w':World} {v:Value} {n:Nat} {g:List Value} (h:Iv w v n g) (j:Below w.heap.size w w'):Iv w' v n g:=by
 obtain ⟨a,d,k,l,m⟩:=h;refine ⟨a,d,k,l,m.imp_right ?_⟩;rintro ⟨b,f,e,c,o⟩;exact ⟨b,f,e,Nat.lt_of_lt_of_le c j.size,fun i hi=> by rw [j.cell (p:=⟨b,_,none⟩) c];exact o i hi⟩
theorem Kv.below {w w':World} {v:Value} {kd:Int} {il:List (ByteArray×ByteArray)} {cl:List Int} {pl:List ByteArray} {ml:List (Int×ByteArray×ByteArray)} (h:Kv w v kd il cl pl ml) (a:Below w.heap.size w w'):Kv w' v kd il cl pl ml:=by
 obtain ⟨v1,v2,v3,v4,e,b,c,d,f,g⟩:=h;exact ⟨v1,v2,v3,v4,e,b.below a,c,d.below a,f.below a,g.below a⟩
theorem Iw (w:World) {g:Array Oper} {rest:List Oper} {o:Oper} {a:Act} {Q:Exit->Act->World->Prop} (A:o.guard=none) (C x:Operand) (t e:TypeId) (L:Tryz.prog.underlying t=some (.slice e))
  (z:Value) (size c:Nat) (d:(Tryz.prog.info? e).map (fun i=> (i.zero,i.size,i.bytes))=some (some z,size,c)) (D:z.cells.size=size) (F:0 < size) (G:c<=1000)
  (M:o.op=Op.call {callee:=Callee.builtin Builtin.append,args:= #[C,x],argTypes:= #[t,t]}) (B:Nat) (v:Value) (n:Nat) (xs:List Value) (N:a.eval C=v) (l:w.ownsRow B e size v n xs)
  (b:List Value) (O:b.length=size) (m:∀u∈b,u.oneCell'=true) (R:a.eval x= .slice (some ⟨w.heap.size,0,none⟩) 1 1) (S:n+1<=1000000000) (T:B<=w.heap.size)
  (h:∀(f:Value) (w':World),w'.ownsRow B e size f (n+1) (xs++b)->w.grownBy w' v.ownBlock->(f.ownBlock=v.ownBlock\/∃k,w.heap.size<=k/\f.ownBlock=some k)->wpList Tryz.prog g Q rest (a.put o.dst f) w'):wpList Tryz.prog g Q (o::rest) a (w.alloc (.cells b.toArray e)):=by
 obtain ⟨i,hi,p,q,r⟩:=info_parts d;refine wpList_append_own_at (w.alloc (.cells b.toArray e)) A C x t M B e i z size c L hi p q r D F v n xs N (l.alloc _) ⟨w.heap.size,0,none⟩ 1 1 b R (by omega) ?_ m (by unfold maxLen;omega) (by have:(n+1)*c<=1000000000*1000:=Nat.mul_le_mul S G;omega) (by simp;omega) ?_
 ·intro j u I;have H:(w.alloc (.cells b.toArray e)).heap[w.heap.size]?=some (.cells b.toArray e (0,0)):=heap_alloc_new _ _;have:(⟨w.heap.size,0,none⟩:Addr).add j=⟨w.heap.size,j,none⟩:=by
   by_cases h0:j=0
   ·subst h0;simp [Addr.add]
   ·simp [Addr.add,h0]
  rw [this];unfold World.cell?;rw [H];simpa using I
 intro f w' s J _ y;exact h f w' s (Fp J) (y.imp_right fun e=> ⟨w.heap.size+1,by omega,by simpa using e⟩)
def icells (l:List (ByteArray×ByteArray)):List Value:=l.flatMap fun x=> [.string x.1,.string x.2]
def Ak (B:Nat) (w:World) (v:Value) (l:List (ByteArray×ByteArray)):Prop:=w.ownsRow B 51 2 v l.length (icells l)
theorem Cm:(Tryz.prog.info? 51).map (fun i=> (i.zero,i.size,i.bytes))=some (some (.agg #[.string ⟨#[]⟩,.string ⟨#[]⟩]),2,32):=by kernel_rfl
def ccells (l:List (Int×ByteArray×ByteArray)):List Value:=l.flatMap fun x=> [.int .i64 x.1,.string x.2.1,.string x.2.2]
def Au (B:Nat) (w:World) (v:Value) (l:List (Int×ByteArray×ByteArray)):Prop:=w.ownsRow B 34 3 v l.length (ccells l)
theorem Du:(Tryz.prog.info? 34).map (fun i=> (i.zero,i.size,i.bytes))=some (some (.agg #[.int .i64 0,.string ⟨#[]⟩,.string ⟨#[]⟩]),3,40):=by kernel_rfl
theorem My:(Tryz.prog.info? 3).map (fun i=> (i.zero,i.size,i.bytes))=some (some (.int .i64 0),1,8):=by kernel_rfl
theorem Kk (l:List (ByteArray×ByteArray)) (x:ByteArray×ByteArray):icells (l++[x])=icells l++[.string x.1,.string x.2]:=by simp [icells]
theorem Mz (l:List (Int×ByteArray×ByteArray)) (x:Int×ByteArray×ByteArray):ccells (l++[x])=ccells l++[.int .i64 x.1,.string x.2.1,.string x.2.2]:=by simp [ccells]
theorem Sr:∀(l:List (ByteArray×ByteArray)) (i:Nat) (h:i < l.length),(icells l)[i*2]?=some (.string (l[i]'h).1)/\(icells l)[i*2+1]?=some (.string (l[i]'h).2)
 | [],i,h=> by simp at h
 | x::r,0,h=> by simp [icells]
 | x::r,i+1,h=> by
  have:=Sr r i (by simpa using h);have e:icells (x::r)= .string x.1:: .string x.2::icells r:=rfl;rw [e,show (i+1)*2=i*2+1+1 by omega];simpa using this
theorem Ss:∀(l:List (Int×ByteArray×ByteArray)) (i:Nat) (h:i < l.length),(ccells l)[i*3]?=some (.int .i64 (l[i]'h).1)/\(ccells l)[i*3+1]?=some (.string (l[i]'h).2.1)/\(ccells l)[i*3+2]?=some (.string (l[i]'h).2.2)
 | [],i,h=> by simp at h
 | x::r,0,h=> by simp [ccells]
 | x::r,i+1,h=> by
  have:=Ss r i (by simpa using h);have e:ccells (x::r)= .int .i64 x.1:: .string x.2.1:: .string x.2.2::ccells r:=rfl;rw [e,show (i+1)*3=i*3+1+1+1 by omega];simpa using this
theorem Dm (g j:Nat):(⟨g,0,none⟩:Addr).add j=⟨g,j,none⟩:=by
 by_cases h0:j=0
 ·subst h0;simp [Addr.add]
 ·simp [Addr.add,h0]
theorem Ak.isItems {B:Nat} {w:World} {v:Value} {l:List (ByteArray×ByteArray)} (h:Ak B w v l):(∃a b,v= .slice a 0 b/\l=[])\/∃g b,v= .slice (some ⟨g,0,none⟩) l.length b/\l.length<=b/\B<=g/\g < w.heap.size/\Hb w g 0 l:=by
 rcases h.2 with ⟨rfl,k⟩ | ⟨g,b,m,rfl,n,o,p,_⟩
 ·exact .inl ⟨none,0,rfl,List.length_eq_zero_iff.1 k⟩
 ·refine .inr ⟨g,b,rfl,p,n,(Array.getElem?_eq_some_iff.1 o).1,fun i hi=> ?_⟩;obtain ⟨f,j⟩:=Sr l i hi;have c:=World.ownsRow.cells h (g:=g) rfl _ _ f;have d:=World.ownsRow.cells h (g:=g) rfl _ _ j;rw [Dm] at c d;simpa using ⟨c,d⟩
theorem Au.isChs {B:Nat} {w:World} {v:Value} {l:List (Int×ByteArray×ByteArray)} (h:Au B w v l) (j:l.length<=1000000000):Ug w v l:=by
 rcases h.2 with ⟨rfl,f⟩ | ⟨g,a,o,rfl,q,p,r,_⟩
 ·exact ⟨none,0,by rw [f],j,.inl f⟩
 ·refine ⟨_,a,rfl,j,.inr ⟨g,0,rfl,(Array.getElem?_eq_some_iff.1 p).1,fun i hi=> ?_⟩⟩;obtain ⟨k,m,n⟩:=Ss l i hi;have b:=World.ownsRow.cells h (g:=g) rfl _ _ k;have c:=World.ownsRow.cells h (g:=g) rfl _ _ m;have d:=World.ownsRow.cells h (g:=g) rfl _ _ n;rw [Dm] at b c d;simpa using ⟨b,c,d⟩
theorem ownsRow.isRow {B:Nat} {w:World} {T:TypeId} {v:Value} {n:Nat} {d:List Value} (h:w.ownsRow B T 1 v n d) (f:n<=1000000000):Iv w v n d:=by
 rcases h.2 with ⟨rfl,c⟩ | ⟨g,a,j,rfl,l,k,m,_⟩
 ·exact ⟨none,0,by rw [c],f,.inl c⟩
 ·refine ⟨_,a,rfl,f,.inr ⟨g,0,rfl,(Array.getElem?_eq_some_iff.1 k).1,fun i hi=> ?_⟩⟩;have b:=World.ownsRow.cells h (g:=g) rfl i _ (List.getElem?_eq_getElem hi);rw [Dm] at b;simpa using b
end Go.Proofs.YtolgpnaoaodepaaGreat
namespace Go.Proofs.YtolgpnaoaodepaaGreat.Pg
open Go.RowKit
end Go.Proofs.YtolgpnaoaodepaaGreat.Pg
namespace Go.Proofs.YtolgpnaoaodepaaGreat
open Go.RowKit
theorem Aci (w:World) (a:Addr) (v:Value):(w.setCell a v).heap.size=w.heap.size:=by simp [World.setCell]
theorem Aq5 (k:Int) (s t:ByteArray):∀u∈([.int .i64 k,.string s,.string t]:List Value),u.oneCell'=true:=by
 intro u a;simp at a;rcases a with rfl | rfl | rfl <;> rfl
theorem Ab {B:Nat} {w:World} {T:TypeId} {f:Nat} {v:Value} {n:Nat} {xs:List Value} (h:w.ownsRow B T f v n xs):∃a b,v= .slice a n b:=by
 rcases h.2 with ⟨rfl,c⟩ | ⟨g,b,d,rfl,_⟩
 ·exact ⟨none,0,by rw [c]⟩
 ·exact ⟨_,_,rfl⟩
end Go.Proofs.YtolgpnaoaodepaaGreat
namespace Go.Proofs.YtolgpnaoaodepaaGreat.Tr
abbrev Key:=List UInt8
abbrev It:=List UInt8×List UInt8
abbrev Ch:=Int×List UInt8×List UInt8
theorem tri (a b:Key) (h:¬a < b) (c:¬b < a):a=b:=by
 rcases List.le_total a b with q | q
 ·exact Std.le_antisymm q (List.not_lt.1 h)
 ·exact Std.le_antisymm (List.not_lt.1 c) q
theorem Cz {a b c:Key} (h:a < b) (d:b < c):a < c:=List.lt_trans h d
theorem lt_ir (a:Key):¬a < a:=List.lt_irrefl a
theorem Wu {a b c:Key} (h:¬b < a) (d:b < c):a < c:=by
 by_cases q:a < b
 ·exact Cz q d
 ·rw [tri a b q h];exact d
theorem Hq {a b c:Key} (h:a < b) (d:¬c < b):a < c:=by
 by_cases q:b < c
 ·exact Cz h q
 ·rw [<-tri b c q d];exact h
theorem Aie {a b c:Key} (h:¬b < a) (d:¬c < b):¬c < a:=fun q=> d (Hq q h)
def Gq (v:Key):Key:=v.drop (v.length - 16)
theorem Wv (v:Key):(Gq v).length<=16:=by unfold Gq;simp;omega
theorem Lp {v:Key} (h:v.length<=16):Gq v=v:=by unfold Gq;rw [show v.length - 16=0 by omega];rfl
def Di (s:Option Key) (c:Ch):Option Key:=if c.1=2 then none else if c.1=3 then some (Gq (s.getD []++c.2.2)) else some c.2.2
def one (k:Key) (s:Option Key) (c:Ch):Option Key:=if c.2.1=k then Di s c else s
def Aj (cs:List Ch) (k:Key) (s:Option Key):Option Key:=cs.foldl (one k) s
theorem Eg (a b:List Ch) (k:Key) (s:Option Key):Aj (a++b) k s=Aj b k (Aj a k s):=List.foldl_append
theorem Dc (c:Ch) (b:List Ch) (k:Key) (s:Option Key):Aj (c::b) k s=Aj b k (one k s c):=rfl
theorem Lq (k:Key) (s:Option Key):Aj [] k s=s:=rfl
theorem Dv:∀(a:List Ch) (k:Key) (s:Option Key),(∀c∈a,c.2.1≠k)->Aj a k s=s
 | [],_,_,_=> rfl
 | c::r,k,s,h=> by
  rw [Dc,one,if_neg (h c (List.mem_cons_self ..))];exact Dv r k s fun c b=> h c (List.mem_cons_of_mem _ b)
theorem Fc (p:Ch->Bool):∀(a:List Ch) (k:Key) (s:Option Key),(∀c∈a,c.2.1=k->p c=true)->Aj (a.filter p) k s=Aj a k s
 | [],_,_,_=> rfl
 | c::r,k,s,h=> by
  have d:=fun s=> Fc p r k s fun c f=> h c (List.mem_cons_of_mem _ f)
  by_cases b:p c=true
  ·rw [List.filter_cons_of_pos b,Dc,Dc,d]
  ·rw [List.filter_cons_of_neg b,Dc,d];have:¬c.2.1=k:=fun e=> b (h c (List.mem_cons_self ..) e)
   rw [one,if_neg this]
def Bj:List It->Key->Option Key
 | [],_=> none
 | x::r,k=> if x.1=k then some x.2 else Bj r k
theorem Es (a b:List It) (k:Key):Bj (a++b) k=(Bj a k).or (Bj b k):=by
 induction a with
 | nil=> simp [Bj]
 | cons x r ih=> simp only [List.cons_append,Bj];split <;> simp [ih]
theorem Ce {l:List It} {k:Key} (h:∀x∈l,x.1≠k):Bj l k=none:=by
 induction l with
 | nil=> rfl
 | cons x r ih=> rw [Bj,if_neg (h x (List.mem_cons_self ..))];exact ih fun y a=> h y (List.mem_cons_of_mem _ a)
def Bi (l:List It):Prop:=l.Pairwise fun x y=> x.1 < y.1
def Ac:Nat->Type
 | 0=> List It
 | h+1=> List (Key×Ac h)×List Ch
def ix:List Key->Key->Nat
 | [],_=> 0
 | [_],_=> 0
 | _::f::r,k=> if k < f then 0 else ix (f::r) k+1
def val:(h:Nat)->Ac h->Key->Option Key
 | 0,l,k=> Bj l k
 | h+1,(ps,cs),k=> Aj cs k (match ps[ix (ps.map (·.1)) k]? with | some p=> val h p.2 k | none=> none)
def okK (k:Key):Prop:=Pg.Ei k.length=true
def room (f:Key) (m:Option Key):Prop:=∀b,m=some b->f < b/\okK b
def inR (lo:Key) (hi:Option Key) (k:Key):Prop:=¬k < lo/\∀b,hi=some b->k < b
def Ba {α:Type} (R:Key->Option Key->α->Prop):Option Key->Option Key->List (Key×α)->Prop
 | lo,hi,[]=> lo=hi
 | lo,hi,(f,t)::r=> lo=some f/\∃m,room f m/\R f m t/\Ba R m hi r
theorem Bc {α:Type} {R:Key->Option Key->α->Prop} {hi:Option Key} {B:List (Key×α)}:∀{A:List (Key×α)} {lo:Option Key},Ba R lo hi (A++B)↔∃m,Ba R lo m A/\Ba R m hi B
 | [],lo=> ⟨fun h=> ⟨lo,rfl,h⟩,fun ⟨m,a,b⟩=> by rw [show lo=m from a];exact b⟩
 | (f,t)::r,lo=> by
  constructor
  ·rintro ⟨e,m,a,b,i⟩;obtain ⟨c,d,g⟩:=Bc.1 i;exact ⟨c,⟨e,m,a,b,d⟩,g⟩
  ·rintro ⟨c,⟨e,m,a,b,d⟩,g⟩;exact ⟨e,m,a,b,Bc.2 ⟨c,d,g⟩⟩
theorem Ab2 {α:Type} {R a:Key->Option Key->α->Prop} (b:∀f m t,R f m t->a f m t) {hi:Option Key}:∀{A:List (Key×α)} {lo:Option Key},Ba R lo hi A->Ba a lo hi A
 | [],_,h=> h
 | (f,t)::_,_,⟨e,m,h1,h2,h3⟩=> ⟨e,m,h1,b f m t h2,Ab2 b h3⟩
theorem Jn {α:Type} {R:Key->Option Key->α->Prop}:∀{A:List (Key×α)} {lo hi:Option Key},Ba R lo hi A->∀b,hi=some b->∃a,lo=some a/\¬b < a
 | [],lo,hi,h,b,hb=> by
  have:lo=hi:=h;exact ⟨b,by rw [this,hb],lt_ir b⟩
 | (f,t)::r,lo,hi,⟨e,m,h1,h2,h3⟩,b,hb=> by
  obtain ⟨a,d,c⟩:=Jn h3 b hb;refine ⟨f,e,?_⟩;have:=(h1 a d).1;exact fun q=> c (Cz q this)
theorem Ab3 {α:Type} {R:Key->Option Key->α->Prop}:∀{A:List (Key×α)} {lo hi:Option Key},Ba R lo hi A->A≠[]->∀b,hi=some b->okK b
 | [],_,_,_,h,_,_=> absurd rfl h
 | [(f,t)],lo,hi,⟨e,m,h1,h2,h3⟩,_,b,hb=> (h1 b (by rw [show m=hi from h3];exact hb)).2
 | (f,t)::p::r,lo,hi,⟨e,m,h1,h2,h3⟩,_,b,hb=> Ab3 h3 (by simp) b hb
theorem El {α:Type} {R:Key->Option Key->α->Prop} {k:Key}:∀{g:List (Key×α)} {lo:Key} {hi:Option Key},Ba R (some lo) hi g->inR lo hi k->∃A f t B m,g=A++(f,t)::B/\ix (g.map (·.1)) k=A.length/\R f m t/\room f m/\inR f m k/\Ba R (some lo) (some f) A/\Ba R m hi B
 | [],lo,hi,h,hk=> by
  have:some lo=hi:=h;exact absurd (hk.2 lo this.symm) hk.1
 | [(f,t)],lo,hi,⟨e,m,h1,h2,h3⟩,hk=> by
  obtain rfl:lo=f:=Option.some.inj e;exact ⟨[],lo,t,[],m,rfl,rfl,h2,h1,⟨hk.1,fun b c=> hk.2 b (by rw [<-c];exact (show m=hi from h3).symm)⟩,rfl,h3⟩
 | (f,t)::(f2,t2)::r,lo,hi,⟨e,m,h1,h2,h3⟩,hk=> by
  obtain rfl:lo=f:=Option.some.inj e;have d:m=some f2:=h3.1;by_cases a:k < f2
  ·refine ⟨[],lo,t,(f2,t2)::r,m,rfl,?_,h2,h1,⟨hk.1,fun b c=> ?_⟩,rfl,h3⟩
   ·show ix (lo::f2::r.map (·.1)) k=0;rw [ix,if_pos a]
   ·rw [d] at c;rw [<-Option.some.inj c];exact a
  ·rw [d] at h3;obtain ⟨A,i,j,B,l,n,o,p,q,s,u,y⟩:=El h3 ⟨a,hk.2⟩;refine ⟨(lo,t)::A,i,j,B,l,by rw [n];rfl,?_,p,q,s,⟨rfl,m,h1,h2,by rw [d];exact u⟩,y⟩;show ix (lo::f2::r.map (·.1)) k=A.length+1;rw [ix,if_neg a];have:ix (f2::r.map (·.1)) k=A.length:=o;rw [this]
theorem Pv {h:Nat} {A B:List (Key×Ac h)} {f:Key} {t:Ac h} {a:List Ch} {k:Key} (hi:ix ((A++(f,t)::B).map (·.1)) k=A.length):val (h+1) (A++(f,t)::B,a) k=Aj a k (val h t k):=by
 rw [val,hi];simp
def Alj (x:It):Prop:=Pg.Ei x.1.length=true/\x.2.length<=16
def Ew (c:Ch):Prop:=Pg.Ax c=true
def Top:(h:Nat)->Ac h->Prop
 | 0,l=> List.length (α:=It) l<=16
 | _+1,(ps,cs)=> ps.length<=4/\cs.length<=8
def Gw:(h:Nat)->Ac h->Prop
 | 0,_=> True
 | _+1,(_,cs)=> cs.length<=8
theorem Top.small:∀{h:Nat} {t:Ac h},Top h t->Gw h t
 | 0,_,_=> trivial
 | _+1,(_,_),h=> h.2
def Aqq (P:It->Prop) (l:List It):Prop:=∀x∈l,P x
def WF:(h:Nat)->Key->Option Key->Ac h->Prop
 | 0,lo,hi,l=> Bi l/\Aqq (fun x=> inR lo hi x.1/\Alj x) l
 | h+1,lo,hi,(ps,cs)=> Ba (fun f m t=> WF h f m t/\Top h t) (some lo) hi ps/\∀c∈cs,inR lo hi c.2.1/\Ew c
def wt:(h:Nat)->Ac h->Nat
 | 0,l=> 1+2*(List.length (α:=It) l - 16)
 | h+1,(ps,cs)=> 2*cs.length+(ps.map fun p=> wt h p.2).sum+((ps.length - 1)+(2 - ps.length))
theorem St:∀{h:Nat} {lo:Key} {hi:Option Key} {t:Ac h},room lo hi->WF h lo hi t->1<=wt h t
 | 0,_,_,l,_,_=> by rw [wt];omega
 | h+1,lo,hi,(ps,cs),hr,hw=> by
  obtain ⟨a,-⟩:=hw
  match ps,a with
  | [],a=> exact absurd (hr lo (show some lo=hi from a).symm).1 (lt_ir lo)
  | (f,t)::r,⟨_,m,h1,h2,_⟩=>
   have:=St h1 h2.1;simp only [wt,List.map_cons,List.sum_cons];omega
theorem Hd {h:Nat}:∀{a:List (Key×Ac h)} {lo hi:Option Key},Ba (fun f m t=> WF h f m t/\Top h t) lo hi a->a.length<=(a.map fun p=> wt h p.2).sum
 | [],_,_,_=> by simp
 | (f,t)::r,lo,hi,⟨_,m,h1,h2,h3⟩=> by
  have:=St h1 h2.1;have:=Hd h3;simp only [List.map_cons,List.sum_cons,List.length_cons];omega
theorem Ab4 {x:It} {r:List It} (h:Bi (x::r)) {k:Key} (b:k < x.1):Bj (x::r) k=none:=by
 refine Ce fun y a e=> ?_
 rcases List.mem_cons.1 a with rfl | a
 ·rw [e] at b;exact lt_ir _ b
 ·have:=(List.pairwise_cons.1 h).1 y a;rw [e] at this;exact lt_ir _ (Cz b this)
theorem Ww:∀{a b:List It},Bi a->Bi b->(∀k,Bj a k=Bj b k)->a=b
 | [],[],_,_,_=> rfl
 | [],y::r,_,_,h=> by have:=h y.1;simp [Bj] at this
 | x::r,[],_,_,h=> by have:=h x.1;simp [Bj] at this
 | x::a,y::b,ha,hb,h=> by
  have c:x.1=y.1:=by
   refine tri _ _ (fun q=> ?_) (fun q=> ?_)
   ·have:=h x.1;rw [Ab4 hb q] at this;simp [Bj] at this
   ·have:=h y.1;rw [Ab4 ha q] at this;simp [Bj] at this
  have g:x.2=y.2:=by have:=h x.1;simpa [Bj,c] using this
  have i:x=y:=Prod.ext c g;subst i;have d:=List.pairwise_cons.1 ha;have f:=List.pairwise_cons.1 hb;congr 1;refine Ww d.2 f.2 fun k=> ?_
  by_cases l:x.1=k
  ·subst l;rw [Ce,Ce]
   ·intro y j e;have:=f.1 y j;rw [e] at this;exact lt_ir _ this
   ·intro y j e;have:=d.1 y j;rw [e] at this;exact lt_ir _ this
  ·have:=h k;simpa [Bj,l] using this
end Go.Proofs.YtolgpnaoaodepaaGreat.Tr
namespace Go.Proofs.YtolgpnaoaodepaaGreat
open Go.RowKit
def Hl (w w':World) (v v':Value):Prop:=w.grownBy w' v.ownBlock/\(v'.ownBlock=v.ownBlock\/∃k,w.heap.size<=k/\v'.ownBlock=some k)
theorem Hl.refl (w:World) (v:Value):Hl w w v v:=⟨⟨rfl,rfl,rfl,Nat.le_refl _,fun _ _ _=> rfl⟩,.inl rfl⟩
theorem Hl.size {w w':World} {v a:Value} (h:Hl w w' v a):w.heap.size<=w'.heap.size:=h.1.size
theorem Hl.trans {a b c:World} {u v x:Value} (h:Hl a b u v) (k:Hl b c v x):Hl a c u x:=by
 refine ⟨⟨k.1.os.trans h.1.os,k.1.tape.trans h.1.tape,k.1.output.trans h.1.output,Nat.le_trans h.1.size k.1.size,fun i hi d=> ?_⟩,?_⟩
 ·refine (k.1.block i (Nat.lt_of_lt_of_le hi h.1.size) ?_).trans (h.1.block i hi d);rcases h.2 with e | ⟨j,f,e⟩
  ·rw [e];exact d
  ·rw [e];intro g;have:i=j:=(by simpa using g);omega
 ·rcases k.2 with e | ⟨j,f,e⟩
  ·rw [e];exact h.2
  ·exact .inr ⟨j,Nat.le_trans h.1.size f,e⟩
theorem Hl.below {B:Nat} {w w':World} {v c:Value} {T:TypeId} {d n:Nat} {xs:List Value} (h:Hl w w' v c) (a:w.ownsRow B T d v n xs) (f:B<=w.heap.size):Below B w w':=
 (Below.refl B w).grown h.1 f fun k b=> (World.ownsRow.lt a k b).1
theorem Hl.cell {w w':World} {v c:Value} (h:Hl w w' v c) {a:Addr} {x:Value} (d:w.cell? a=some x) (b:v.ownBlock≠some a.block):w'.cell? a=some x:=h.1.cell d (fun e=> b e.symm)
theorem Hv {w w':World} {c:Obj} {v a:Value} (d:(w.alloc c).grownBy w' v.ownBlock) (b:a.ownBlock=v.ownBlock\/a.ownBlock=some (w.heap.size+1)):Hl w w' v a:=
 ⟨Fp d,b.imp_right fun e=> ⟨_,Nat.le_succ _,e⟩⟩
theorem Aa4 (w:World) (B:Nat) (p:TypeId) (v:Value) (l:List UInt8) (b:Bh B w v l) (s:ByteArray) (H:l.length+s.size<=140737488355328) (I:B<=w.heap.size):
  ∃n w',(Builtin.append_ #[108,9] p #[v,.string s]).run Tryz.prog w= .ok n w'/\Bh B w' n (l++s.data.toList)/\Hl w w' v n:=by
 obtain ⟨i,hi,d,f,j⟩:=info_parts Iz;obtain ⟨n,w',a,q,z,o⟩:=Lib.run_append_own_string w B 108 9 p 5 i Tryz.underlying108 Tryz.underlying9 hi d f j v l.length (Lib.byteCells l) b s (by unfold maxLen;omega) H I;refine ⟨n,w',a,?_,z,?_⟩
 ·have y:Lib.byteCells (l++s.data.toList)=Lib.byteCells l++Lib.strCells s:=by rw [Lib.byteCells_append];rfl
  unfold Bh;rw [y,List.length_append,show s.data.toList.length=s.size by simp];exact q
 ·rcases b.2 with ⟨rfl,J⟩ | ⟨g,k,r,rfl,A,t,C,D,F,u⟩
  ·by_cases G:s.size=0
   ·rw [o.2 ⟨rfl,G⟩];exact .inl rfl
   ·have c:=run_append_nil_string (P:=Tryz.prog) w 108 9 p 5 i (.int .u8 0) Tryz.underlying108 Tryz.underlying9 hi d s (by omega) (by omega) (by rw [j];omega);rw [a] at c;simp only [Result.ok.injEq] at c;rw [c.1];exact .inr ⟨_,Nat.le_refl _,rfl⟩
  ·by_cases m:l.length+s.size<=k
   ·have c:=Lib.run_append_room_string (P:=Tryz.prog) w 108 9 p 5 i Tryz.underlying108 Tryz.underlying9 hi f g l.length k r t s m (by omega);rw [a] at c;simp only [Result.ok.injEq] at c;rw [c.1];exact .inl rfl
   ·have c:=Lib.run_append_grow_string (P:=Tryz.prog) w 108 9 p 5 i (.int .u8 0) Tryz.underlying108 Tryz.underlying9 hi d ⟨g,0,none⟩ l.length k (Lib.byteCells l) (by rw [f];exact b.1) b.cells s (by omega) (by omega) (by rw [j];exact growslice_fits (by omega) (by omega));rw [a] at c;simp only [Result.ok.injEq] at c;rw [c.1];exact .inr ⟨_,Nat.le_refl _,rfl⟩
theorem Alk (w:World) {c:Array Oper} {rest:List Oper} {o:Oper} {a:Act} {Q:Exit->Act->World->Prop} (f:o.guard=none) (g x:Operand)
  (m:o.op=Op.call {callee:=Callee.builtin Builtin.append,args:= #[g,x],argTypes:= #[108,9]}) (B:Nat) (v:Value) (l:List UInt8) (n:a.eval g=v) (d:Bh B w v l)
  (s:ByteArray) (p:a.eval x= .string s) (q:l.length+s.size<=140737488355328) (r:B<=w.heap.size)
  (h:∀(b:Value) (w':World),Bh B w' b (l++s.data.toList)->Hl w w' v b->wpList Tryz.prog c Q rest (a.put o.dst b) w'):wpList Tryz.prog c Q (o::rest) a w:=by
 obtain ⟨b,w',i,j,k⟩:=Aa4 w B o.type v l d s q r;exact Lib.wpList_append_run w f g x 108 9 m v _ n p b w' i (h b w' j k)
theorem Aqr (w:World) {g:Array Oper} {rest:List Oper} {o:Oper} {a:Act} {Q:Exit->Act->World->Prop} (j:o.guard=none) (k x:Operand)
  (u:o.op=Op.call {callee:=Callee.builtin Builtin.append,args:= #[k,x],argTypes:= #[108,108]}) (B:Nat) (v:Value) (l:List UInt8) (y:a.eval k=v) (i:Bh B w v l)
  (b c d e:UInt8) (n m p q:Int) (z:n=(b.toNat:Int)) (A:m=(c.toNat:Int)) (C:p=(d.toNat:Int)) (D:q=(e.toNat:Int)) (F:a.eval x= .slice (some ⟨w.heap.size,0,none⟩) 4 4)
  (G:l.length+4<=140737488355328) (H:B<=w.heap.size)
  (h:∀(f:Value) (w':World),Bh B w' f (l++[b,c,d,e])->Hl w w' v f->wpList Tryz.prog g Q rest (a.put o.dst f) w'):wpList Tryz.prog g Q (o::rest) a (w.alloc (.cells #[.int .u8 n,.int .u8 m,.int .u8 p,.int .u8 q] 5)):=by
 subst z A C D;refine Al9 (w.alloc (.cells #[.int .u8 (b.toNat:Int),.int .u8 (c.toNat:Int),.int .u8 (d.toNat:Int),.int .u8 (e.toNat:Int)] 5)) j k x u B v l y (i.alloc _) ⟨w.heap.size,0,none⟩ 4 [b,c,d,e] F (Lk w _ [b,c,d,e] _ (by simp [Lib.byteCells])) (by simpa using G) (by simp;omega) ?_;intro f w' r s t;exact h f w' r (Hv s (by simpa using t))
theorem Ui (k:Nat):(Builtin.zeroCells (Value.int .u8 0).cells k).toList=Lib.byteCells (List.replicate k 0):=by
 rw [show (Value.int .u8 0).cells= #[Value.int .u8 0] from rfl];apply List.ext_getElem
 ·simp [Builtin.zeroCells,Lib.byteCells]
 ·intro i a b;simp [Builtin.zeroCells,Lib.byteCells,Nat.mod_one]
theorem Wx (w:World) (y:TypeId) (g n f:Nat) (a:Array Value) (z:w.heap[g]?=some (.cells a 5 (0,0))) (k:Nat) (A:k<=1000000000) (b:n+k<=f) (t:n+k<=a.size):
  (Builtin.append_ #[108,3] y #[.slice (some ⟨g,0,none⟩) n f,.int .i64 (k:Int)]).run Tryz.prog w= .ok (.slice (some ⟨g,0,none⟩) (n+k) f) (w.setRow g (a.toList.take n++Lib.byteCells (List.replicate k 0)++a.toList.drop (n+k)).toArray):=by
 obtain ⟨i,hi,s,l,m⟩:=info_parts Iz;have c:=run_storeCells_at Tryz.prog g n 5 (Lib.byteCells (List.replicate k 0)) 0 a w z (by rw [Lib.byteCells_length,List.length_replicate];omega) (Ku _);simp only [Nat.add_zero,Lib.byteCells_length,List.length_replicate] at c;have u:IntKind.i64.wrap (k:Int)=k:=by rw [IntKind.wrap_i64];omega
 have j:¬((k:Int) < 0):=by omega
 have p:¬(281474976710656 < (k:Int)):=by omega
 by_cases o:k=0
 ·subst o;have d:n<=f:=b;have q:IntKind.i64.wrap 0=0:=rfl;simp [Lib.byteCells] at c;simp [Builtin.append_,run_underlying Tryz.underlying108,run_underlying Tryz.underlying3,sizeOf,typeInfo,hi,l,m,asInt,asIntOf,q,d,Addr.add_lit,Lib.byteCells,c]
 ·have r:Builtin.zeroCells (Value.int .u8 0).cells k=(Lib.byteCells (List.replicate k 0)).toArray:=by rw [<-Ui]
  simp [Builtin.append_,run_underlying Tryz.underlying108,run_underlying Tryz.underlying3,sizeOf,typeInfo,zeroValue,hi,s,l,m,asInt,asIntOf,u,j,p,o,b,Addr.add_lit,r,c]
theorem Su (w:World) (B:Nat) (C:TypeId) (v:Value) (l:List UInt8) (d:Bh B w v l) (F:0 < l.length) (k:Nat) (z:k<=1000000000) (M:l.length<=100000000000) (J:B<=w.heap.size):
  ∃A w',(Builtin.append_ #[108,3] C #[v,.int .i64 (k:Int)]).run Tryz.prog w= .ok A w'/\Bh B w' A (l++List.replicate k 0)/\Hl w w' v A:=by
 obtain ⟨i,hi,t,o,p⟩:=info_parts Iz;have a:(Lib.byteCells (l++List.replicate k 0)).length=(l.length+k)*1:=by rw [Lib.byteCells_length];simp
 rcases d.2 with ⟨rfl,L⟩ | ⟨g,b,f,rfl,u,D,G,y,H,m⟩
 ·omega
 ·by_cases c:l.length+k<=b
  ·have q:=Wx w C g l.length b f D k z c (by omega);refine ⟨_,_,q,?_,⟨rfl,rfl,rfl,by simp,fun j _ I=> setRow_other w g j _ (fun e=> I (by simp [Value.ownBlock,e]))⟩,.inl rfl⟩;unfold Bh;rw [show (l++List.replicate k (0:UInt8)).length=l.length+k by simp];refine ⟨a,.inr ⟨g,b,_,rfl,u,setRow_heap w g f _ _ _ D,c,y,?_,?_⟩⟩
   ·simp only [List.size_toArray,List.length_append,List.length_take,List.length_drop,Array.length_toList,Lib.byteCells_length,List.length_replicate];omega
   ·rw [show List.take l.length f.toList=Lib.byteCells l by simpa using m,<-Lib.byteCells_append,<-a];exact List.take_left
  ·have r:0 < k:=(by omega);have n:=run_firstCells_some (P:=Tryz.prog) w.drew 1 l.length ⟨g,0,none⟩ l.length b (Lib.byteCells l) d.1 (d.cells);have q:=Lib.run_append_grow_zeros (P:=Tryz.prog) w 108 3 C 5 i (.int .u8 0) .i64 .i64 Tryz.underlying108 Tryz.underlying3 hi t (some ⟨g,0,none⟩) l.length b (Lib.byteCells l) (by rw [o];exact n) k r (by rw [o];decide) (by omega) (by omega) (by rw [p];omega) (growslice_fits (by omega) (by rw [p];omega));refine ⟨_,_,q,?_,⟨rfl,rfl,rfl,by simp,fun k z _=> Below.heap_alloc w.drew _ k z⟩,.inr ⟨_,Nat.le_refl _,rfl⟩⟩;unfold Bh;rw [show (l++List.replicate k (0:UInt8)).length=l.length+k by simp];have s:=grownCap_ge w (l.length+k) b 5;refine ⟨a,.inr ⟨w.heap.size,_,_,rfl,J,heap_alloc_new w.drew _,s,grownCap_le_maxLen w _ _ _ (by unfold maxLen;omega),?_,?_⟩⟩
   ·simp only [Array.size_append,List.size_toArray,size_zeroCells,Lib.byteCells_length];show _+_*1+_*1=_;omega
   ·simp only [Array.toList_append,Ui];rw [<-Lib.byteCells_append,<-a];exact List.take_left
theorem Apt (w:World) {c:Array Oper} {rest:List Oper} {o:Oper} {a:Act} {Q:Exit->Act->World->Prop} (g:o.guard=none) (i x:Operand)
  (p:o.op=Op.call {callee:=Callee.builtin Builtin.append,args:= #[i,x],argTypes:= #[108,3]}) (B:Nat) (v:Value) (l:List UInt8) (q:a.eval i=v) (d:Bh B w v l) (f:0 < l.length)
  (k:Nat) (r:a.eval x= .int .i64 (k:Int)) (s:k<=1000000000) (t:l.length<=100000000000) (u:B<=w.heap.size)
  (h:∀(b:Value) (w':World),Bh B w' b (l++List.replicate k 0)->Hl w w' v b->wpList Tryz.prog c Q rest (a.put o.dst b) w'):wpList Tryz.prog c Q (o::rest) a w:=by
 obtain ⟨b,w',j,m,n⟩:=Su w B o.type v l d f k s t u;exact Lib.wpList_append_run w g i x 108 3 p v _ q r b w' j (h b w' m n)
theorem Na (w:World) (B:Nat) (d:B<=w.heap.size) (bs:List UInt8) (a:Array Value) (c:a.toList=Lib.byteCells bs) (f:bs.length<=1000000):Bh B (w.alloc (.cells a 5)) (.slice (some ⟨w.heap.size,0,none⟩) bs.length bs.length) bs:=by
 have b:a.size=bs.length*1:=by rw [<-Array.length_toList,c,Lib.byteCells_length,Nat.mul_one]
 have:=World.ownsRow_lit (base:=B) (e:=5) (size:=1) w a bs.length d (by unfold maxLen;omega) b;rw [c] at this;exact this
theorem Vz:∀(a b:List UInt8),Lib.compareBytes a b < 0↔a < b
 | [],[]=> by simp [Lib.compareBytes]
 | [],_::_=> by simp [Lib.compareBytes]
 | _::_,[]=> by simp [Lib.compareBytes]
 | a::x,b::y=> by
  rw [Lib.compareBytes,List.cons_lt_cons_iff];by_cases c:a < b
  ·simp [c]
  ·rw [if_neg c];by_cases d:b < a
   ·rw [if_pos d];have:a≠b:=(by rintro rfl;exact c d);simp [c,this]
   ·rw [if_neg d,Vz x y];have:a=b:=UInt8.le_antisymm (UInt8.not_lt.1 d) (UInt8.not_lt.1 c);simp [this]
theorem Wy:∀(a b:List UInt8),Lib.compareBytes a b=0↔a=b
 | [],[]=> by simp [Lib.compareBytes]
 | [],_::_=> by simp [Lib.compareBytes]
 | _::_,[]=> by simp [Lib.compareBytes]
 | a::x,b::y=> by
  rw [Lib.compareBytes];by_cases c:a < b
  ·rw [if_pos c];have:a≠b:=(by rintro rfl;exact UInt8.lt_irrefl _ c);simp [this]
  ·rw [if_neg c];by_cases d:b < a
   ·rw [if_pos d];have:a≠b:=(by rintro rfl;exact c d);simp [this]
   ·rw [if_neg d,Wy x y];have:a=b:=UInt8.le_antisymm (UInt8.not_lt.1 d) (UInt8.not_lt.1 c);simp [this]
set_option maxHeartbeats 1000000 in
set_option maxRecDepth 100000 in
theorem Qx (a b:ByteArray) (w:World):
  Calls Tryz.prog 242 #[.string a,.string b] w fun r w'=> r= .returned (.int .i64 (Lib.compareBytes a.data.toList b.data.toList))/\w'=w:=by
 go_enter Tryz.func242,Tryz.ntmps242
 go_wp2
 rw [run_callFunc_extern Tryz.func265 (by kernel_rfl) (by kernel_rfl) (by kernel_rfl) (e:=Extern.BytealgCompare.compare) (by kernel_rfl),Lib.run_compareString];simp only [Result.andThen];rw [Oper.upon_value]
 go_wp2
 go_ret;exact ⟨rfl,rfl⟩
set_option maxHeartbeats 1000000 in
theorem Uj (a b:ByteArray) (w:World):
  Calls Tryz.prog 194 #[.string a,.string b] w fun r w'=> r= .returned (.int .i64 (Lib.compareBytes a.data.toList b.data.toList))/\w'=w:=by
 go_enter Tryz.func194,Tryz.ntmps194;go_wp2_with (go_at_call 242;refine (Qx _ _ _).mono ?_;rintro e w' ⟨rfl,rfl⟩);go_ret;exact ⟨rfl,rfl⟩
set_option maxHeartbeats 1000000 in
theorem Uk (a b key:ByteArray) (w:World):
  Calls Tryz.prog 193 #[.agg #[.string a,.string b],.string key] w fun r w'=> r= .returned (.int .i64 (Lib.compareBytes a.data.toList key.data.toList))/\Below w.heap.size w w':=by
 have c:=hid ((Below.refl w.heap.size w).alloc (Nat.le_refl _) (.cells #[.string a,.string b] 51));go_enter Tryz.func193,Tryz.ntmps193;go_wp2_with (go_at_call 194;refine (Uj _ _ _).mono ?_;rintro e w' ⟨rfl,rfl⟩);go_ret;exact ⟨rfl,c.out⟩
def stV:Option (List UInt8)->ByteArray
 | none=> ⟨#[]⟩
 | some l=> ⟨l.toArray⟩
def stB:Option (List UInt8)->Bool
 | none=> false
 | some _=> true
theorem Wz (s:Option (List UInt8)):(stV s).data.toList=s.getD []:=by cases s <;> rfl
def chP (k:Int) (key x:ByteArray):Tr.Ch:=(k,key.data.toList,x.data.toList)
set_option maxHeartbeats 1000000 in
set_option maxRecDepth 20000 in
theorem Om (s:Option (List UInt8)) (k:Int) (key x:ByteArray) (w:World) (n:(s.getD []).length<=20000000) (u:x.size<=20000000):
  Calls Tryz.prog 70 #[.agg #[.string (stV s),.bool (stB s)],.agg #[.int .i64 k,.string key,.string x]] w fun r w'=> r= .returned (.agg #[.string (stV (Tr.Di s (chP k key x))),.bool (stB (Tr.Di s (chP k key x)))])/\Below w.heap.size w w':=by
 have g:(stV s).size<=20000000:=by rw [<-len_size,Wz];exact n
 have f:=Wz s;have i:Hid (∀a b c:Obj,Below w.heap.size w (((w.alloc a).alloc b).alloc c)):=fun a b c=> (((Below.refl _ w).alloc (Nat.le_refl _) a).alloc (by simp) b).alloc (by simp;omega) c
 by_cases j:k=2
 ·subst j;have d:Tr.Di s (chP 2 key x)=none:=by unfold Tr.Di chP;rw [if_pos rfl]
  rw [d];clear d;go_enter Tryz.func70,Tryz.ntmps70;go_wp2_with fail;refine bodyPost_ret (v:= .agg #[.string ⟨#[]⟩,.bool false]) ?_ rfl ⟨rfl,i.out _ _ _⟩;simp [results,Tryz.results70,go_sem]
 ·have o:(k==2)=false:=by simpa using j
  by_cases l:k=3
  ·subst l;have d:Tr.Di s (chP 3 key x)=some (Tr.Gq ((stV s++x).data.toList)):=by
    unfold Tr.Di chP;rw [if_neg (by simp),if_pos rfl,<-f,ByteArray.data_append,Array.toList_append]
   rw [d];have p:(stV s++x).size<=40000000:=(by rw [ByteArray.size_append'];omega);have t:∀w,(Op.stringOp .add (stV s) x).run Tryz.prog w= .ok (.string (stV s++x)) w:=fun w=> run_string_add_sum w _ _ (by omega)
   clear d f g n;generalize stV s++x=y at*;have m:stV (some (Tr.Gq y.data.toList))=y.extract (max (0:Int) ((y.size:Int) - 16)).toNat y.size:=by
    refine Gf ?_;rw [Wz,Lib.extract_data,show (max (0:Int) ((y.size:Int) - 16)).toNat=y.size - 16 by omega];show Tr.Gq _=_;unfold Tr.Gq;rw [len_size,List.take_of_length_le (by rw [List.length_drop,len_size];omega)]
   rw [m];clear m;go_enter Tryz.func70,Tryz.ntmps70;go_wp2_with fail;refine bodyPost_ret (v:= .agg #[.string (y.extract (max (0:Int) ((y.size:Int) - 16)).toNat y.size),.bool true]) ?_ rfl ⟨rfl,i.out _ _ _⟩;simp [results,Tryz.results70,go_sem]
  ·have q:(k==3)=false:=(by simpa using l);have d:Tr.Di s (chP k key x)=some x.data.toList:=by
    unfold Tr.Di chP;rw [if_neg j,if_neg l]
   rw [d];clear d;go_enter Tryz.func70,Tryz.ntmps70;go_wp2_with fail;refine bodyPost_ret (v:= .agg #[.string x,.bool true]) ?_ rfl ⟨rfl,i.out _ _ _⟩;simp [results,Tryz.results70,go_sem]
end Go.Proofs.YtolgpnaoaodepaaGreat
