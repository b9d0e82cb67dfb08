import Derived.Test.YtolgpnaoaodepaaGreatKimRm
namespace Go.Proofs.YtolgpnaoaodepaaGreat
open Go.RowKit
def MB (w:World) (b:Nat) (v:Value):Prop:=w.heap[b]?=some (.cells #[v,.bool true] 55 (0,0))
theorem MB.lt {w:World} {b:Nat} {v:Value} (h:MB w b v):b < w.heap.size:=(Array.getElem?_eq_some_iff.1 h).1
theorem MB.cells {w:World} {b:Nat} {v:Value} (h:MB w b v):w.cell? ⟨b,0,none⟩=some v/\w.cell? ⟨b,1,none⟩=some (.bool true)/\w.frozen? ⟨b,0,none⟩=false/\w.frozen? ⟨b,1,none⟩=false:=by
 unfold MB at h;refine ⟨?_,?_,?_,?_⟩ <;> simp [World.cell?,World.frozen?,h]
theorem MB.set {w:World} {b:Nat} {v:Value} (h:MB w b v) (u:Value):MB (w.setCell ⟨b,0,none⟩ u) b u:=by unfold MB at*;rw [Ad (i:=0) h];rfl
theorem MB.set1 {w:World} {b:Nat} {v:Value} (h:MB w b v):MB (w.setCell ⟨b,1,none⟩ (.bool true)) b v:=by unfold MB at*;rw [Ad (i:=1) h];rfl
structure MdW (w0:World) (bm:Nat) (vi:Value) (iml:List ByteArray) (w:World):Prop where
 bel:Below w0.heap.size w0 w
 mb:MB w bm vi
 im:Av w0.heap.size w vi iml
 lob:w0.heap.size<=bm
def mF (bm:Nat) (vi:Value) (g:Nat):Prop:=g=bm\/vi.ownBlock=some g
theorem MdW.low {w0:World} {a:Nat} {b:Value} {iml:List ByteArray} {w:World} (h:MdW w0 a b iml w):∀g,mF a b g->w0.heap.size<=g:=by
 rintro g (rfl | c)
 ·exact h.lob
 ·exact (World.ownsRow.lt h.im g c).1
theorem MdW.below {w0:World} {a:Nat} {c:Value} {iml:List ByteArray} {w w':World} (h:MdW w0 a c iml w) (b:Below w.heap.size w w'):MdW w0 a c iml w':=
 ⟨h.bel.trans (b.mono h.bel.size),(b.block a h.mb.lt).trans h.mb,Aa h.im b (Nat.le_refl _),h.lob⟩
structure MdS (w0 w:World) (bm nb:Nat) (vi0 vi:Value) (iml:List ByteArray) (kd:Int) (il:List (ByteArray×ByteArray)) (cl:List Nat) (pl:List ByteArray) (ml:List (Int×ByteArray×ByteArray)) (v1 v2 v3 v4:Value) (W:World):Prop where
 md:MdW w0 bm vi iml W
 nd:Bd W nb (.int .i64 kd) v1 v2 v3 v4
 r1:Ak w.heap.size W v1 il
 r2:W.ownsRow w.heap.size 3 1 v2 cl.length (Bk cl)
 r3:Av w.heap.size W v3 pl
 r4:Au w.heap.size W v4 ml
 ap:∀g,vi.ownBlock=some g->v3.ownBlock≠some g
 mod:Mod (mF bm vi0) w W
 hat:vi.ownBlock=vi0.ownBlock\/∃g,w.heap.size<=g/\vi.ownBlock=some g
 lo:w.heap.size<=nb/\bm < w.heap.size/\w0.heap.size<=w.heap.size
theorem MdS.below {w0 w:World} {c d:Nat} {b f:Value} {iml:List ByteArray} {kd:Int} {il:List (ByteArray×ByteArray)} {cl:List Nat} {pl:List ByteArray} {ml:List (Int×ByteArray×ByteArray)} {v1 v2 v3 v4:Value} {W W':World} (h:MdS w0 w c d b f iml kd il cl pl ml v1 v2 v3 v4 W) (a:Below W.heap.size W W'):MdS w0 w c d b f iml kd il cl pl ml v1 v2 v3 v4 W':=
 ⟨h.md.below a,h.nd.keep a,Aa h.r1 a (Nat.le_refl _),Aa h.r2 a (Nat.le_refl _),Aa h.r3 a (Nat.le_refl _),Aa h.r4 a (Nat.le_refl _),h.ap,h.mod.trans (Mod.of_below (F:=fun _=> False) a) (fun _ _ q=> q) (fun _ _ q=> q.elim),h.hat,h.lo⟩
theorem MdS.turn {w0 w:World} {b k:Nat} {c d:Value} {iml:List ByteArray} {kd:Int} {il:List (ByteArray×ByteArray)} {cl:List Nat} {pl:List ByteArray} {ml:List (Int×ByteArray×ByteArray)} {v1 v2 v3 v4:Value} {W W':World} (h:MdS w0 w b k c d iml kd il cl pl ml v1 v2 v3 v4 W) {F:Nat->Prop} (m:Mod F W W') (f:∀g,F g->w.heap.size<=g) (hi:∀g,d.ownBlock=some g->¬F g):MdW w0 b d iml W'/\Mod (mF b c) w W':=by
 obtain ⟨l,n,j⟩:=h.lo;exact ⟨⟨Dp h.md.bel m fun g i=> Nat.le_trans j (f g i),(m.block b h.md.mb.lt fun q=> by have:=f b q;omega).trans h.md.mb,m.row h.md.im hi,h.md.lob⟩,h.mod.trans m (fun _ _ q=> q) (fun g i q=> by have:=f g q;omega)⟩
theorem MdS.nrow {w0 w:World} {c b:Nat} {a d:Value} {iml:List ByteArray} {kd:Int} {il:List (ByteArray×ByteArray)} {cl:List Nat} {pl:List ByteArray} {ml:List (Int×ByteArray×ByteArray)} {v1 v2 v3 v4:Value} {W:World} (h:MdS w0 w c b a d iml kd il cl pl ml v1 v2 v3 v4 W) {B:Nat} {e:TypeId} {s n:Nat} {v:Value} {xs:List Value} (f:W.ownsRow B e s v n xs) (g:e≠79):v.ownBlock≠some b:=h.nd.not_row f g
theorem rows_ne {w:World} {B l:Nat} {e d:TypeId} {s m n o:Nat} {v f:Value} {xs c:List Value} (h:w.ownsRow B e s v n xs) (p:w.ownsRow l d m f o c) (r:e≠d):∀g,v.ownBlock=some g->f.ownBlock≠some g:=fun g k b=> by
 obtain ⟨t,q,i⟩:=Gd h k;obtain ⟨j,u,a⟩:=Gd p b;rw [i] at a;simp only [Option.some.injEq,Obj.cells.injEq] at a;exact r a.2.1
theorem MdS.apI {w0 w:World} {k b:Nat} {d l:Value} {iml:List ByteArray} {kd:Int} {il:List (ByteArray×ByteArray)} {cl:List Nat} {pl:List ByteArray} {ml:List (Int×ByteArray×ByteArray)} {v1 v2 v3 v4:Value} {W W':World} (h:MdS w0 w k b d l iml kd il cl pl ml v1 v2 v3 v4 W) {c:Value} {x:ByteArray×ByteArray} (n:Ak w.heap.size W' c (il++[x])) (a:W.grownBy W' v1.ownBlock):Bd W' b (.int .i64 kd) v1 v2 v3 v4/\MdS w0 w k b d l iml kd (il++[x]) cl pl ml c v2 v3 v4 (W'.setCell ⟨b,1,none⟩ c):=by
 have m:=Mod.of_grown a;have o:=h.nrow h.r1 (by decide);have i:Bd W' b (.int .i64 kd) v1 v2 v3 v4:=(m.block b h.nd.lt o).trans h.nd;have j:=Mod.setCell W' b 1 c;have f:Mod (fun g=> v1.ownBlock=some g\/g=b) W (W'.setCell ⟨b,1,none⟩ c):=m.trans j (fun _ _ q=> .inl q) (fun _ _ q=> .inr q);obtain ⟨p,r⟩:=h.turn f (by rintro g (q | rfl);exact (World.ownsRow.lt h.r1 g q).1;exact h.lo.1) (by rintro g a (q | rfl);exact rows_ne h.md.im h.r1 (by decide) g a q;exact h.nrow h.md.im (by decide) a);refine ⟨i,p,i.set1 c,j.row n ?_,f.row h.r2 ?_,f.row h.r3 ?_,f.row h.r4 ?_,h.ap,r,h.hat,h.lo⟩
 ·intro g a q;rw [show g=b from q] at a;exact i.not_row n (by decide) a
 ·rintro g a (q | rfl);exact rows_ne h.r2 h.r1 (by decide) g a q;exact h.nrow h.r2 (by decide) a
 ·rintro g a (q | rfl);exact rows_ne h.r3 h.r1 (by decide) g a q;exact h.nrow h.r3 (by decide) a
 ·rintro g a (q | rfl);exact rows_ne h.r4 h.r1 (by decide) g a q;exact h.nrow h.r4 (by decide) a
theorem MdS.apC {w0 w:World} {k b:Nat} {d l:Value} {iml:List ByteArray} {kd:Int} {il:List (ByteArray×ByteArray)} {cl:List Nat} {pl:List ByteArray} {ml:List (Int×ByteArray×ByteArray)} {v1 v2 v3 v4:Value} {W W':World} (h:MdS w0 w k b d l iml kd il cl pl ml v1 v2 v3 v4 W) {c:Value} {x:Nat} (n:W'.ownsRow w.heap.size 3 1 c (cl.length+1) (Bk cl++[.int .i64 (x:Int)])) (a:W.grownBy W' v2.ownBlock):Bd W' b (.int .i64 kd) v1 v2 v3 v4/\MdS w0 w k b d l iml kd il (cl++[x]) pl ml v1 c v3 v4 (W'.setCell ⟨b,2,none⟩ c):=by
 have m:=Mod.of_grown a;have o:=h.nrow h.r2 (by decide);have i:Bd W' b (.int .i64 kd) v1 v2 v3 v4:=(m.block b h.nd.lt o).trans h.nd;have j:=Mod.setCell W' b 2 c;have f:Mod (fun g=> v2.ownBlock=some g\/g=b) W (W'.setCell ⟨b,2,none⟩ c):=m.trans j (fun _ _ q=> .inl q) (fun _ _ q=> .inr q);obtain ⟨p,r⟩:=h.turn f (by rintro g (q | rfl);exact (World.ownsRow.lt h.r2 g q).1;exact h.lo.1) (by rintro g a (q | rfl);exact rows_ne h.md.im h.r2 (by decide) g a q;exact h.nrow h.md.im (by decide) a);refine ⟨i,p,i.set2 c,f.row h.r1 ?_,?_,f.row h.r3 ?_,f.row h.r4 ?_,h.ap,r,h.hat,h.lo⟩
 ·rintro g a (q | rfl);exact rows_ne h.r1 h.r2 (by decide) g a q;exact h.nrow h.r1 (by decide) a
 ·have e:Bk (cl++[x])=Bk cl++[.int .i64 (x:Int)]:=by simp [Bk]
  rw [e,List.length_append];exact j.row n fun g a q=> by rw [show g=b from q] at a;exact i.not_row n (by decide) a
 ·rintro g a (q | rfl);exact rows_ne h.r3 h.r2 (by decide) g a q;exact h.nrow h.r3 (by decide) a
 ·rintro g a (q | rfl);exact rows_ne h.r4 h.r2 (by decide) g a q;exact h.nrow h.r4 (by decide) a
theorem MdS.apP {w0 w:World} {n b:Nat} {d o:Value} {iml:List ByteArray} {kd:Int} {il:List (ByteArray×ByteArray)} {cl:List Nat} {pl:List ByteArray} {ml:List (Int×ByteArray×ByteArray)} {v1 v2 v3 v4:Value} {W W':World} (h:MdS w0 w n b d o iml kd il cl pl ml v1 v2 v3 v4 W) {c:Value} {x:ByteArray} (p:Av w.heap.size W' c (pl++[x])) (a:W.grownBy W' v3.ownBlock) (j:c.ownBlock=v3.ownBlock\/∃k,W.heap.size<=k/\c.ownBlock=some k):Bd W' b (.int .i64 kd) v1 v2 v3 v4/\MdS w0 w n b d o iml kd il cl (pl++[x]) ml v1 v2 c v4 (W'.setCell ⟨b,3,none⟩ c):=by
 have m:=Mod.of_grown a;have r:=h.nrow h.r3 (by decide);have i:Bd W' b (.int .i64 kd) v1 v2 v3 v4:=(m.block b h.nd.lt r).trans h.nd;have l:=Mod.setCell W' b 3 c;have f:Mod (fun g=> v3.ownBlock=some g\/g=b) W (W'.setCell ⟨b,3,none⟩ c):=m.trans l (fun _ _ q=> .inl q) (fun _ _ q=> .inr q);obtain ⟨s,t⟩:=h.turn f (by rintro g (q | rfl);exact (World.ownsRow.lt h.r3 g q).1;exact h.lo.1) (by rintro g a (q | rfl);exact h.ap g a q;exact h.nrow h.md.im (by decide) a);refine ⟨i,s,i.set3 c,f.row h.r1 ?_,f.row h.r2 ?_,l.row p ?_,f.row h.r4 ?_,fun g a q=> ?_,t,h.hat,h.lo⟩
 ·rintro g a (q | rfl);exact rows_ne h.r1 h.r3 (by decide) g a q;exact h.nrow h.r1 (by decide) a
 ·rintro g a (q | rfl);exact rows_ne h.r2 h.r3 (by decide) g a q;exact h.nrow h.r2 (by decide) a
 ·intro g a q;rw [show g=b from q] at a;exact i.not_row p (by decide) a
 ·rintro g a (q | rfl);exact rows_ne h.r4 h.r3 (by decide) g a q;exact h.nrow h.r4 (by decide) a
 ·rcases j with e | ⟨k,u,e⟩
  ·exact h.ap g a (by rw [<-e];exact q)
  ·rw [e] at q;have:=(World.ownsRow.lt h.md.im g a).2;rw [<-Option.some.inj q] at this;omega
theorem MdS.apM {w0 w:World} {k b:Nat} {d l:Value} {iml:List ByteArray} {kd:Int} {il:List (ByteArray×ByteArray)} {cl:List Nat} {pl:List ByteArray} {ml:List (Int×ByteArray×ByteArray)} {v1 v2 v3 v4:Value} {W W':World} (h:MdS w0 w k b d l iml kd il cl pl ml v1 v2 v3 v4 W) {c:Value} {x:Int×ByteArray×ByteArray} (n:Au w.heap.size W' c (ml++[x])) (a:W.grownBy W' v4.ownBlock):Bd W' b (.int .i64 kd) v1 v2 v3 v4/\MdS w0 w k b d l iml kd il cl pl (ml++[x]) v1 v2 v3 c (W'.setCell ⟨b,4,none⟩ c):=by
 have m:=Mod.of_grown a;have o:=h.nrow h.r4 (by decide);have i:Bd W' b (.int .i64 kd) v1 v2 v3 v4:=(m.block b h.nd.lt o).trans h.nd;have j:=Mod.setCell W' b 4 c;have f:Mod (fun g=> v4.ownBlock=some g\/g=b) W (W'.setCell ⟨b,4,none⟩ c):=m.trans j (fun _ _ q=> .inl q) (fun _ _ q=> .inr q);obtain ⟨p,r⟩:=h.turn f (by rintro g (q | rfl);exact (World.ownsRow.lt h.r4 g q).1;exact h.lo.1) (by rintro g a (q | rfl);exact rows_ne h.md.im h.r4 (by decide) g a q;exact h.nrow h.md.im (by decide) a);refine ⟨i,p,i.set4 c,f.row h.r1 ?_,f.row h.r2 ?_,f.row h.r3 ?_,j.row n ?_,h.ap,r,h.hat,h.lo⟩
 ·rintro g a (q | rfl);exact rows_ne h.r1 h.r4 (by decide) g a q;exact h.nrow h.r1 (by decide) a
 ·rintro g a (q | rfl);exact rows_ne h.r2 h.r4 (by decide) g a q;exact h.nrow h.r2 (by decide) a
 ·rintro g a (q | rfl);exact rows_ne h.r3 h.r4 (by decide) g a q;exact h.nrow h.r3 (by decide) a
 ·intro g a q;rw [show g=b from q] at a;exact i.not_row n (by decide) a
def pgs:Nat->Nat
 | 0=> 1
 | d+1=> 1+4*pgs d
def MpQ (w0:World) (bm:Nat) (vi:Value) (iml:List ByteArray) (deep lo hi:Nat) (w:World) (r:Ending) (w':World):Prop:=∃(new:List ByteArray) (f:Ld.PT deep) (vi':Value),r= .returned (.int .i64 (iml.length:Nat))/\new.length<=pgs deep/\0 < new.length/\Ag5 deep iml.length new f lo hi/\MdW w0 bm vi' (iml++new) w'/\(vi'.ownBlock=vi.ownBlock\/∃g,w.heap.size<=g/\vi'.ownBlock=some g)/\Mod (mF bm vi) w w'
theorem MdS.call {w0 w:World} {j l:Nat} {f n:Value} {iml:List ByteArray} {kd:Int} {il:List (ByteArray×ByteArray)} {cl:List Nat} {pl:List ByteArray} {ml:List (Int×ByteArray×ByteArray)} {v1 v2 v3 v4:Value} {W W':World} (h:MdS w0 w j l f n iml kd il cl pl ml v1 v2 v3 v4 W) {c:Value} {d:List ByteArray} (r:MdW w0 j c d W') (i:c.ownBlock=n.ownBlock\/∃g,W.heap.size<=g/\c.ownBlock=some g) (m:Mod (mF j n) W W'):MdS w0 w j l f c d kd il cl pl ml v1 v2 v3 v4 W':=by
 obtain ⟨s,t,u⟩:=h.lo;have p:=h.mod.size;refine ⟨r,(m.block l h.nd.lt ?_).trans h.nd,m.row h.r1 ?_,m.row h.r2 ?_,m.row h.r3 ?_,m.row h.r4 ?_,fun g b q=> ?_,h.mod.trans m (fun _ _ q=> q) (fun g b q=> ?_),?_,h.lo⟩
 ·rintro (q | q)
  ·omega
  ·exact h.nrow h.md.im (by decide) q
 ·rintro g b (q | q)
  ·have:=(World.ownsRow.lt h.r1 g b).1;omega
  ·exact rows_ne h.r1 h.md.im (by decide) g b q
 ·rintro g b (q | q)
  ·have:=(World.ownsRow.lt h.r2 g b).1;omega
  ·exact rows_ne h.r2 h.md.im (by decide) g b q
 ·rintro g b (q | q)
  ·have:=(World.ownsRow.lt h.r3 g b).1;omega
  ·exact h.ap g q b
 ·rintro g b (q | q)
  ·have:=(World.ownsRow.lt h.r4 g b).1;omega
  ·exact rows_ne h.r4 h.md.im (by decide) g b q
 ·rcases i with e | ⟨k,o,e⟩
  ·exact h.ap g (by rw [<-e];exact b) q
  ·rw [e] at b;have:=(World.ownsRow.lt h.r3 g q).2;rw [<-Option.some.inj b] at this;omega
 ·rcases q with q | q
  ·exact .inl q
  ·rcases h.hat with e | ⟨k,o,e⟩
   ·exact .inr (by rw [<-e];exact q)
   ·rw [e] at q;rw [<-Option.some.inj q] at b;omega
 ·rcases i with e | ⟨k,o,e⟩
  ·rw [e];exact h.hat
  ·exact .inr ⟨k,by omega,e⟩
theorem Ao4 (w:World) {m:Array Oper} {o:Oper} {a:Act} {K:Act->World->Prop} {Q:Exit->Act->World->Prop} {E:Prop} (y:o.guard=none) (A x:Operand)
  (H:o.op=Op.call {callee:=Callee.builtin Builtin.append,args:= #[A,x],argTypes:= #[30,30]}) (B:Nat) (v:Value) (l:List (ByteArray×ByteArray)) (I:a.eval A=v) (n:Ak B w v l)
  (c:ByteArray×ByteArray) (g:Nat) (J:a.eval x= .slice (some ⟨g,0,none⟩) 1 1) (d:w.heap[g]?=some (.cells #[.string c.1,.string c.2] 51 (0,0))) (M:l.length+1<=1000000000) (L:B<=w.heap.size)
  (h:∀(b:Value) (w':World),Ak B w' b (l++[c])->w.grownBy w' v.ownBlock->(b.ownBlock=v.ownBlock\/∃k,w.heap.size<=k/\b.ownBlock=some k)->K (a.put o.dst b) w'):if Region.wanted o (yielded m a.tmps)=true then Oper.wp Tryz.prog o a w K Q else E:=by
 have C:Region.wanted o (yielded m a.tmps)=true:=by simp [Region.wanted,y]
 rw [if_pos C];obtain ⟨i,hi,p,q,r⟩:=info_parts Cm;obtain ⟨b,w',f,s,F,_,t⟩:=run_append_own_at (P:=Tryz.prog) w B 30 o.type 51 i (.agg #[.string ⟨#[]⟩,.string ⟨#[]⟩]) 2 32 Tryz.underlying30 hi p q r rfl (by decide) v l.length (icells l) n ⟨g,0,none⟩ 1 1 [.string c.1,.string c.2] rfl (fun j u G=> by
  rw [Dm];unfold World.cell?;rw [d];simpa using G) (by intro u z;simp at z;rcases z with rfl | rfl <;> rfl) (by unfold maxLen;omega) (by omega) L
 have D:K (a.put o.dst b) w':=by
  refine h b w' ?_ F (t.imp_right fun e=> ⟨w.heap.size,Nat.le_refl _,e⟩);unfold Ak;rw [List.length_append,Kk];exact s
 unfold Oper.wp;simp [execOp,H,resolve,invoke,builtin,I,J,f,Result.andThen];exact D
theorem Ag6 {w0:World} {a:Nat} {c:Value} {iml:List ByteArray} {w:World} (h:MdW w0 a c iml w) {v1:Value} {b:World} {s:ByteArray} (y:Av w0.heap.size b v1 (iml++[s])) (o:w.grownBy b c.ownBlock) (p:v1.ownBlock=c.ownBlock\/∃k,w.heap.size<=k/\v1.ownBlock=some k):MB b a c/\MdS w0 w a b.heap.size c v1 (iml++[s]) 1 [] [] [] [] (.slice none 0 0) (.slice none 0 0) (.slice none 0 0) (.slice none 0 0) ((b.setCell ⟨a,0,none⟩ v1).alloc (.cells #[.int .i64 1,.slice none 0 0,.slice none 0 0,.slice none 0 0,.slice none 0 0] 79)):=by
 have m:=Mod.of_grown o;have f:∀{B:Nat} {W:World} {v:Value} {l:List ByteArray},MB W a c->Av B W v l->v.ownBlock≠some a:=fun u A q=> by
  obtain ⟨C,z,e⟩:=Gd A q;unfold MB at u;rw [u] at e;simp at e
 have d:MB b a c:=(m.block a h.mb.lt (f h.mb h.im)).trans h.mb;have r:=Mod.setCell b a 0 v1;have t:Mod (mF a c) w (b.setCell ⟨a,0,none⟩ v1):=m.trans r (fun _ _ q=> .inr q) (fun _ _ q=> .inl q);have i:Below (b.setCell ⟨a,0,none⟩ v1).heap.size (b.setCell ⟨a,0,none⟩ v1) ((b.setCell ⟨a,0,none⟩ v1).alloc (.cells #[.int .i64 1,.slice none 0 0,.slice none 0 0,.slice none 0 0,.slice none 0 0] 79)):=(Below.refl _ _).alloc (Nat.le_refl _) _;have j:(b.setCell ⟨a,0,none⟩ v1).heap.size=b.heap.size:=by simp [World.setCell]
 have n:MdW w0 a v1 (iml++[s]) (b.setCell ⟨a,0,none⟩ v1):=⟨Dp h.bel t h.low,d.set v1,r.row y (fun g o q=> f d y (by rw [<-show g=a from q];exact o)),h.lob⟩;refine ⟨d,n.below i,?_,World.ownsRow_nil _ _ _ _,World.ownsRow_nil _ _ _ _,World.ownsRow_nil _ _ _ _,World.ownsRow_nil _ _ _ _,(fun g _ q=> by cases q),t.trans (Mod.of_below (F:=fun _=> False) i) (fun _ _ q=> q) (fun _ _ q=> q.elim),p,m.size,h.mb.lt,h.bel.size⟩;have:=Bw (b.setCell ⟨a,0,none⟩ v1) (.int .i64 1) (.slice none 0 0) (.slice none 0 0) (.slice none 0 0) (.slice none 0 0);rw [j] at this;exact this
theorem Ao5 {w0 w:World} {a F:Nat} {i:Value} {g c n:Nat} {iml new:List ByteArray} {kd:Int} {il:List (ByteArray×ByteArray)} {cl:List Nat} {pl:List ByteArray} {ml:List (Int×ByteArray×ByteArray)} {v1 v2 v3 v4:Value} {W:World} {s:ByteArray} (h:MdS w0 w a F i (.slice (some ⟨g,0,none⟩) n c) (iml++s::new) kd il cl pl ml v1 v2 v3 v4 W) (p:ByteArray):(MB (W.setCell ⟨a,1,none⟩ (.bool true)) a (.slice (some ⟨g,0,none⟩) n c)/\Av w0.heap.size (W.setCell ⟨a,1,none⟩ (.bool true)) (.slice (some ⟨g,0,none⟩) n c) (iml++s::new))/\MdW w0 a (.slice (some ⟨g,0,none⟩) n c) (iml++p::new) ((W.setCell ⟨a,1,none⟩ (.bool true)).setCell ⟨g,iml.length,none⟩ (.string p))/\Mod (mF a i) w ((W.setCell ⟨a,1,none⟩ (.bool true)).setCell ⟨g,iml.length,none⟩ (.string p)):=by
 have f:g≠a:=fun q=> by
  obtain ⟨G,z,e⟩:=Gd h.md.im rfl;have o:=h.md.mb;unfold MB at o;rw [q,o] at e;simp at e
 have r:=Mod.setCell W a 1 (.bool true);have d:=h.md.mb.set1;have b:Av w0.heap.size (W.setCell ⟨a,1,none⟩ (.bool true)) (.slice (some ⟨g,0,none⟩) n c) (iml++s::new):=r.row h.md.im (fun x D q=> f (by rw [<-show x=a from q];exact Option.some.inj D));have t:=Mod.setCell (W.setCell ⟨a,1,none⟩ (.bool true)) g iml.length (.string p);have l:=h.md.low;have u:n=(iml++s::new).length:=by
  rcases b.2 with ⟨e,_⟩ | ⟨H,B,C,e,_⟩
  ·cases e
  ·simp only [Value.slice.injEq] at e;exact e.2.1
 refine ⟨⟨d,b⟩,⟨?_,(t.block a d.lt (fun q=> f q.symm)).trans d,?_,h.md.lob⟩,?_⟩
 ·exact (h.md.bel.setCell (p:=⟨a,1,none⟩) h.md.lob _).setCell (p:=⟨g,iml.length,none⟩) (l g (.inr rfl)) _
 ·unfold Av at b ⊢;subst u;have m:=Jf b iml.length (.string p);have y:(strs (iml++s::new)).set iml.length (.string p)=strs (iml++p::new):=by
   unfold strs;rw [List.map_append,List.map_cons,List.map_append,List.map_cons,List.set_append_right _ _ (by simp)];simp
  have A:(iml++s::new).length=(iml++p::new).length:=by simp
  rw [y] at m;rw [A] at m ⊢;exact m
 ·refine (h.mod.trans r (fun _ _ q=> q) (fun _ _ q=> .inl q)).trans t (fun _ _ q=> q) (fun k J q=> ?_);obtain rfl:k=g:=q;rcases h.hat with e | ⟨j,I,e⟩
  ·exact .inr e.symm
  ·have:j=k:=(Option.some.inj e).symm;omega
theorem Vm {kd:Int} {il:List (ByteArray×ByteArray)} {cl:List Nat} {pl:List ByteArray} {ml:List (Int×ByteArray×ByteArray)} (h:Pr.Nw (kd,plain il,cl,lists pl,plainCh ml)=true):Pg.Uh kd (plain il) (cl.map Int.ofNat) (lists pl) (plainCh ml)=(Pr.Gm (kd,plain il,cl,lists pl,plainCh ml),0):=if_pos h
structure LfN (lo k:Nat) (il:List (ByteArray×ByteArray)) (ks:List Nat):Prop where
 keys:il.map (·.1)=ks.map Be
 rise:ks.Pairwise (·< ·)
 rng:∀j∈ks,lo<=j/\j < k
 v16:∀x∈il,x.2.size<=16
 l16:il.length<=16
theorem LfN.snoc {lo k:Nat} {il:List (ByteArray×ByteArray)} {b:List Nat} (h:LfN lo k il b) {t:ByteArray} (f:t.size<=16) (g:lo<=k) (i:il.length < 16):LfN lo (k+1) (il++[(Be k,t)]) (b++[k]):=
 ⟨by rw [List.map_append,List.map_append,h.keys];rfl,List.pairwise_append.2 ⟨h.rise,by simp,fun x a y c=> by rw [List.mem_singleton.1 c];exact (h.rng x a).2⟩,fun j d=> by
  rcases List.mem_append.1 d with q | q
  ·have:=h.rng j q;omega
  ·rw [List.mem_singleton.1 q];omega,fun x a=> by
  rcases List.mem_append.1 a with q | q
  ·exact h.v16 x q
  ·rw [List.mem_singleton.1 q];exact f,by rw [List.length_append];simp;omega⟩
theorem LfN.up {lo k:Nat} {il:List (ByteArray×ByteArray)} {a:List Nat} (h:LfN lo k il a):LfN lo (k+1) il a:=⟨h.keys,h.rise,fun j b=> by have:=h.rng j b;omega,h.v16,h.l16⟩
theorem LfN.at_key {lo k:Nat} {il:List (ByteArray×ByteArray)} {b:List Nat} (h:LfN lo k il b):∀x∈plain il,∃j∈b,x.1=Ip j/\x.2.length<=16:=fun x d=> by
 obtain ⟨y,a,rfl⟩:=List.mem_map.1 d;have:y.1∈il.map (·.1):=List.mem_map.2 ⟨y,a,rfl⟩;rw [h.keys] at this;obtain ⟨j,c,e⟩:=List.mem_map.1 this;exact ⟨j,c,by show y.1.data.toList=_;rw [<-e];rfl,by show y.2.data.toList.length<=16;rw [len_size];exact h.v16 y a⟩
theorem LfN.fine {lo k:Nat} {il:List (ByteArray×ByteArray)} {f:List Nat} (h:LfN lo k il f) (o:k<=100):Pr.Nz (plain il):=by
 refine ⟨fun x i=> ?_,?_⟩
 ·obtain ⟨j,m,e,c⟩:=h.at_key x i;exact ⟨by rw [e];exact Wf j,c⟩
 ·have e:(plain il).map (·.1)=f.map Ip:=by
   have:=congrArg (List.map fun (s:ByteArray)=> s.data.toList) h.keys;rw [List.map_map,List.map_map] at this;unfold plain;rw [List.map_map];exact this
  have g:((plain il).map (·.1)).Pairwise (·< ·):=by
   rw [e,List.pairwise_map];refine List.Pairwise.imp_of_mem (fun {a b} n l d=> Sk b ?_ a d) h.rise;have:=(h.rng b l).2;omega
  exact List.pairwise_map.1 g
theorem LfN.well {lo k:Nat} {il:List (ByteArray×ByteArray)} {a:List Nat} (h:LfN lo k il a) (b:k<=100):Pr.Nw (1,plain il,[],lists [],plainCh [])=true:=by
 show Pg.well 1 (plain il) [] [] []=true;unfold Pg.well;rw [if_pos rfl,(Pr.Rz _).2 (h.fine b)];have:=h.l16;simpa [Bn] using this
theorem LfN.mad {lo hi k:Nat} {il:List (ByteArray×ByteArray)} {i:List Nat} (h:LfN lo k il i) (n:k<=hi) (o:hi<=100) (p:Nat):Ag5 0 p [⟨(Pr.Gm ((1,plain il,[],lists [],plainCh []):Pr.Hi)).toArray⟩] (Ld.lfP p) lo hi:=by
 refine ⟨rfl,fun P l m d f=> ⟨(1,plain il,[],lists [],plainCh []),?_,rfl,fun x g=> ?_,(fun c a=> by cases a),fun c a=> by cases a⟩⟩
 ·have:=d 0 (by simp);show P[p]?=_;rw [show p=p+0 from rfl,this];show some (Pr.Fg _)=_;rw [show ((⟨(Pr.Gm ((1,plain il,[],lists [],plainCh []):Pr.Hi)).toArray⟩:ByteArray).data.toList)=Pr.Gm ((1,plain il,[],lists [],plainCh []):Pr.Hi) by simp,Pr.Qn (h.well (by omega))]
 ·obtain ⟨j,b,e,-⟩:=h.at_key x g;rw [e];have:=h.rng j b;exact f j this.1 (by omega)
theorem Ag7 {B:Nat} {e:TypeId} {s n:Nat} {v:Value} {xs:List Value} {w:World} (h:w.ownsRow B e s v n xs) {g:Nat} (a:v.ownBlock=some g) (i:Nat):w.frozen? ⟨g,i,none⟩=false:=by
 rcases h.2 with ⟨rfl,_⟩ | ⟨b,c,d,rfl,_,f,_⟩
 ·simp [Value.ownBlock] at a
 ·obtain rfl:b=g:=Option.some.inj a;simp [World.frozen?,f]
theorem Oi {w w':World} (h:Below w.drew.heap.size w.drew w'):Below w.heap.size w w':=(Below.refl w.heap.size w).drew.trans h
set_option maxHeartbeats 1000000 in
set_option maxRecDepth 20000 in
theorem Adh (w0:World) (U:Nat) (vl:Value) (l:List Int) (hv:Ge w0 vl l) (vi:Value) (iml:List ByteArray) (V lo hi:Nat) (w:World) (W:MdW w0 U vi iml w) (b4:iml.length<=1000) (c4:V<=1000) (b0:lo<=hi) (b2:hi<=100):
  Calls Tryz.prog 23 #[.pointer (some ⟨U,0,none⟩),vl,.int .i64 (V:Nat),.int .i64 (lo:Nat),.int .i64 (hi:Nat),.int .i64 0] w (MpQ w0 U vi iml 0 lo hi w):=by
 have HV:=hid hv;have HM:=hid W;have HB:=hid W.bel.size;obtain ⟨ai,ci,rfl⟩:=Ab W.im;obtain ⟨m0,m1,m2,m3⟩:=W.mb.cells;obtain ⟨va,vc,rfl,-⟩:=hv;clear W;go_enter Tryz.func23,Tryz.ntmps23;go_wp2_with (at_builtin;refine Aaz w rfl (.tmp 33) (.tmp 34) rfl w0.heap.size (.slice ai iml.length ci) iml rfl HM.out.im ⟨#[]⟩ (by simp [Act.eval]) (by omega) HB.out ?_;intro v1 w1 A s n;have a:=hid (Ag6 HM.out A s n);obtain ⟨a1,c1,rfl⟩:=Ab A;generalize i:(iml++[(⟨#[]⟩:ByteArray)]).length=n1 at*;have o:=hid i;clear i A s n;obtain ⟨x0,x1,x2,x3⟩:=a.out.1.cells);have F:=hid a.out.2;clear a x0 x1 x2 x3 m0 m1 m2 m3;generalize (w1.setCell ⟨U,0,none⟩ (.slice a1 n1 c1)).alloc (.cells #[.int .i64 1,.slice none 0 0,.slice none 0 0,.slice none 0 0,.slice none 0 0] 79)=w2 at*;generalize w1.heap.size=nb at*
 go_loopw [15] (fun vk wr=>∃(k:Nat) (il:List (ByteArray×ByteArray)) (u1:Value) (ks:List Nat),vk= .int .i64 (k:Nat)/\lo<=k/\k<=hi/\LfN lo k il ks/\MdS w0 w U nb (.slice ai iml.length ci) (.slice a1 n1 c1) (iml++[⟨#[]⟩]) 1 il [] [] [] u1 (.slice none 0 0) (.slice none 0 0) (.slice none 0 0) wr) (fun vk _=> hi - (intOf vk).toNat)
 case atStart=> exact ⟨lo,[],_,[],rfl,Nat.le_refl _,b0,⟨rfl,List.Pairwise.nil,(fun j hj=> by cases hj),(fun x hx=> by cases hx),by simp⟩,F.out⟩
 case round=>
  obtain ⟨k,il,u1,ks,rfl,a3,a4,hL,D⟩:=hrel;have X:=hid hL;have a:=hid D;have b5:=hL.l16;obtain ⟨b1,d1,rfl⟩:=Ab D.r1;obtain ⟨n0,a5,n2,n3,n4,f0,f1,f2,f3,f4⟩:=D.nd.cells;clear F hL;by_cases T:k < hi/\il.length < 16
  case pos=>
   obtain ⟨s,a6⟩:=T;have q1:(k:Int) < (hi:Int):=(by omega);have q2:(il.length:Int) < 16:=(by omega);obtain ⟨N,a7⟩:∃z,V+k=z:=⟨_,rfl⟩;obtain ⟨Y,a8⟩:∃z,V+k+1=z:=⟨_,rfl⟩;have e1:IntKind.i64.wrap ((V:Int)+(k:Int))=(N:Int):=(by rw [IntKind.wrap_i64];omega);have e2:IntKind.i64.wrap ((N:Int)+1)=(Y:Int):=(by rw [IntKind.wrap_i64];omega);have G:N<=1000000:=(by omega);have H:Y<=1000000:=(by omega);have p:=hid (HV.out.below D.md.bel);have CR:=hid (Ih _ l N wr p.out G);clear a7 a8 D;go_wp2_with fail;refine CR.out.mono ?_;rintro r wr ⟨⟨x,rfl,y1,y2⟩,rfl⟩;have Z:=hid (Em x 3 wr y1 y2 (by decide) (by decide));rw [show ((3:Nat):Int)=3 from rfl] at Z;generalize pk x 3=p3 at*;clear CR;go_wp2_with fail;refine Z.out.mono ?_;rintro r wr ⟨rfl,rfl⟩;clear Z;by_cases hp:0 < p3
   ·have q3:(0:Int) < (p3:Int):=(by omega);have B0:Below wr.heap.size wr wr.drew:=(Below.refl wr.heap.size wr).drew;have b6:=hid a.out.mod.size;go_upto_region 9 with fail
    go_region_law (first
     | (refine Ao4 _ (by rfl) (.tmp 61) (.tmp 72) (by rfl) w.heap.size (.slice b1 il.length d1) il (by simp [Act.eval]) C.out.r1 (Be k,t) _ (by simp [Act.eval]) m.out (by omega) C.out.mod.size ?_
        intro v9 w9 B R S;obtain ⟨a9,c9,rfl⟩:=Ab B;generalize i:(il++[(Be k,t)]).length=l9 at*;have HA:=hid (C.out.apI B R);have d1:=HA.out.1.cells.2.1;have d2:=HA.out.1.cells.2.2.2.2.2.2.1;clear B R S i)
     | (go_simp
        go_at_call 26
        refine (Li k _ (by omega)).mono ?_;rintro r ws ⟨rfl,u⟩;have b:Hid (Below wr.heap.size wr ws):=(by first | exact Oi u | exact b.out.trans (u.mono b.out.size));have g1:=(a.out.below b.out).nd.cells.2.1
        try have C:=hid ((a.out.below b.out).below ((Below.refl _ ws).alloc (Nat.le_refl _) (.cells #[.string (Be k),.string t] 51)))
        try have m:=hid (heap_alloc_new ws (.cells #[.string (Be k),.string t] 51))
        try have g2:=C.out.nd.cells.2.1
        clear u)
     | (go_simp
        go_at_call 44
        refine (Ih _ l Y _ (by first | exact p.out.below b.out | exact p.out.below B0) H).mono ?_;rintro r wq ⟨⟨x6,rfl,x7,x8⟩,rfl⟩)
     | (go_simp
        go_at_call 33
        refine (Vk x6 _ x7 x8).mono ?_;rintro r wv ⟨⟨t,rfl,ht⟩,y⟩;have b:Hid (Below wr.heap.size wr wv):=(by first | exact Oi y | exact b.out.trans (y.mono b.out.size));have g1:=(a.out.below b.out).nd.cells.2.1;have C:=hid ((a.out.below b.out).below ((Below.refl _ wv).alloc (Nat.le_refl _) (.cells #[.string (Be k),.string t] 51)));have m:=hid (heap_alloc_new wv (.cells #[.string (Be k),.string t] 51));have g2:=C.out.nd.cells.2.1;clear y))
    all_goals
     go_wp2_with fail;exact ⟨⟨k+1,_,_,_,by go_num,by omega,by omega,X.out.snoc ht a3 a6,HA.out.2⟩,by simp [intOf];omega⟩
   ·have q3:¬(0:Int) < (p3:Int):=(by omega);go_wp2_with fail;exact ⟨⟨k+1,il,_,ks,by go_num,by omega,by omega,X.out.up,a.out⟩,by simp [intOf];omega⟩
  case neg=>
   have I:(¬(k:Int) < (hi:Int))\/((k:Int) < (hi:Int)/\¬(il.length:Int) < 16):=(by omega);have a0:=hid (X.out.well (by omega));have a2:=hid (X.out.mad a4 b2 iml.length);have b7:=hid o.out;clear T D;go_upto_region 6 with fail
   go_cut [50] (fun c wx=> c= .bool false/\wx=wr)
   case first=>
    rcases I with hx | ⟨hx,hy⟩
    all_goals
     go_wp2_with fail;go_meet;exact ⟨rfl,rfl⟩
   case rest=>
    obtain ⟨rfl,rfl⟩:=hcut;clear I;have J:Eb w.heap.size wc (.agg #[.int .i64 1,.slice b1 il.length d1,.slice none 0 0,.slice none 0 0,.slice none 0 0]) 1 il [] [] []:=⟨_,_,_,_,rfl,a.out.r1,a.out.r2,a.out.r3,a.out.r4,by omega,by simp,by simp,by simp⟩;have q:=hid (Pj _ 1 il [] [] [] wc J.isNode);have d:=Vm a0.out;have d:Pg.Uh 1 (plain il) [] (lists []) (plainCh [])=(Pr.Gm ((1,plain il,[],lists [],plainCh []):Pr.Hi),0):=d;rw [d] at q;generalize Pr.Gm ((1,plain il,[],lists [],plainCh []):Pr.Hi)=pt at*;clear J d;go_wp2_with fail;refine q.out.mono ?_;rintro r w5 ⟨rfl,O⟩;have f:=hid (a.out.below O);clear O n0 a5 n2 n3 n4 f0 f1 f2 f3 f4 q;obtain ⟨x0,x1,x2,x3⟩:=f.out.md.mb.cells;have L:iml.length < (iml++[(⟨#[]⟩:ByteArray)]).length:=(by simp);obtain ⟨g,c2,e,hc,-,c3,y0⟩:=Av.at f.out.md.im iml.length L;rw [o.out] at e;simp only [Value.slice.injEq,true_and] at e;obtain ⟨rfl,rfl⟩:=e;have M:=hid (Ao5 (new:=[]) f.out ⟨pt.toArray⟩);obtain ⟨z0,N,Y,z3⟩:=M.out.1.1.cells;obtain ⟨g',b3,e',-,-,-,y1⟩:=Av.at M.out.1.2 iml.length L;obtain rfl:g=g':=(by simp only [Value.slice.injEq,Option.some.injEq,Addr.mk.injEq] at e';exact e'.1.1);clear e';have b8:=Ag7 M.out.1.2 rfl iml.length;have b9:(iml.length:Int) < (n1:Int):=(by have:=o.out;rw [List.length_append] at this;simp at this;omega);have c0:(0:Int)<=(iml.length:Int):=(by omega);clear y0;go_wp2_with fail;go_ret;exact ⟨[⟨pt.toArray⟩],Ld.lfP iml.length,_,rfl,Nat.le_refl _,Nat.zero_lt_one,a2.out,M.out.2.1,f.out.hat,M.out.2.2⟩
abbrev brN {h:Nat} (ts:List (Nat×Nat×Ld.PT h)) (ml:List (Int×ByteArray×ByteArray)):Pr.Hi:=(2,plain [],ts.map (fun x=> Ld.num h x.2.2),lists (ts.map fun x=> Be x.1).tail,plainCh ml)
theorem Qp {h:Nat} (ts:List (Nat×Nat×Ld.PT h)):lists (ts.map fun x=> Be x.1).tail=(ts.map fun x=> Ip x.1).tail:=by
 unfold lists;rw [<-List.map_tail,List.map_map,<-List.map_tail];rfl
theorem Ao6 {α:Type} {l:List α} {x:α} (h:x∈l.tail):x∈l:=List.mem_of_mem_tail h
def ChN (lo hi:Nat) (ml:List (Int×ByteArray×ByteArray)):Prop:=∀c∈ml,Tr.Ew (chP c.1 c.2.1 c.2.2)/\∃k,lo<=k/\k < hi/\c.2.1=Be k
theorem Mv.num_lt {h p:Nat} {new:List ByteArray} {lo hi a:Nat} {ts:List (Nat×Nat×Ld.PT h)} (d:Mv h p new lo hi a ts):∀x∈ts,Ld.num h x.2.2 < p+new.length:=fun x c=> by
 have b:Ld.num h x.2.2∈Ld.Bb h (ts.map (·.2.2)):=List.mem_flatten.2 ⟨Ld.nums h x.2.2,List.mem_map.2 ⟨x.2.2,List.mem_map.2 ⟨x,c,rfl⟩,rfl⟩,Ld.Ad1 _⟩;rw [d.nums] at b;exact (List.mem_range'_1.1 b).2
theorem Mv.tail_lt {h p:Nat} {new:List ByteArray} {lo hi b:Nat} {ts:List (Nat×Nat×Ld.PT h)} (c:Mv h p new lo hi b ts):∀x∈ts.tail,lo < x.1/\x.1 < hi:=fun x a=> by
 cases ts with
 | nil=> cases a
 | cons y r=>
  have d:=((List.pairwise_cons.1 c.ord).1 x a).2;have f:=(c.fst y (by simp)).1;have g:=(c.fst x (List.mem_cons_of_mem _ a)).2.2.2;omega
theorem Mv.well {h p:Nat} {new:List ByteArray} {lo hi k:Nat} {ts:List (Nat×Nat×Ld.PT h)} (l:Mv h p new lo hi k ts) {ml:List (Int×ByteArray×ByteArray)} (i:ChN lo hi ml) (t:ml.length<=8) (u:ts≠[]) (y:ts.length<=4) (A:hi<=100) (B:p+new.length<=2147483648):Pr.Nw (brN ts ml)=true:=by
 have n:=List.length_pos_iff.2 u;have d:Pg.Az (ts.map fun x=> Ip x.1).tail none=true:=by
  refine (Pr.Hk _ none).2 ⟨⟨fun q r=> ?_,?_⟩,fun x _=> rfl⟩
  ·obtain ⟨x,-,rfl⟩:=List.mem_map.1 (Ao6 r);exact Wf x.1
  ·rw [<-List.map_tail,List.pairwise_map];refine List.Pairwise.imp_of_mem (fun {a b} z s g=> Sk b.1 ?_ a.1 g.2) l.ord.tail;have:=(l.tail_lt b s).2;omega
 show Pg.well 2 [] ((ts.map fun x=> Ld.num h x.2.2).map Int.ofNat) (lists (ts.map fun x=> Be x.1).tail) (plainCh ml)=true;rw [Qp];unfold Pg.well;rw [if_neg (by decide)];simp only [Bool.and_eq_true,decide_eq_true_eq];refine ⟨⟨⟨⟨⟨⟨⟨⟨d,?_⟩,?_⟩,by trivial⟩,by rfl⟩,?_⟩,?_⟩,?_⟩,?_⟩
 ·refine List.all_eq_true.2 fun c i=> ?_
  obtain ⟨m,o,rfl⟩:=List.mem_map.1 i;obtain ⟨x,f,rfl⟩:=List.mem_map.1 o;have:=l.num_lt x f;unfold Pg.Bv;simp only [Bool.and_eq_true,decide_eq_true_eq,Int.ofNat_eq_natCast];omega
 ·refine List.all_eq_true.2 fun c j=> ?_
  obtain ⟨x,f,rfl⟩:=List.mem_map.1 j;exact (i x f).1
 ·rw [List.length_map,List.length_map];omega
 ·rw [List.length_map,List.length_map];exact y
 ·rw [List.length_map,List.length_map,List.length_tail,List.length_map];omega
 ·rw [Ao];exact t
theorem Mv.mad {h p:Nat} {new:List ByteArray} {lo hi l:Nat} {ts:List (Nat×Nat×Ld.PT h)} (b:Mv h (p+1) new lo hi l ts) {ml:List (Int×ByteArray×ByteArray)} (s:ChN lo hi ml) (u:ml.length<=8) (t:ts≠[]) (y:ts.length<=4) (z:hi<=100) (A:p+1+new.length<=2147483648):Ag5 (h+1) p (⟨(Pr.Gm (brN ts ml)).toArray⟩::new) (Ld.brP p (ts.map (·.2.2))) lo hi:=by
 refine ⟨?_,fun P f o r g=> ⟨brN ts ml,?_,rfl,⟨(fun x a=> by cases a),fun c j=> ?_,fun q d=> ?_⟩,?_⟩⟩
 ·show p::Ld.Bb h (ts.map (·.2.2))=_;rw [b.nums,List.length_cons,List.range'_succ]
 ·have:=r 0 (by simp);rw [show p=p+0 from rfl,this];show some (Pr.Fg _)=_;rw [show ((⟨(Pr.Gm (brN ts ml)).toArray⟩:ByteArray).data.toList)=Pr.Gm (brN ts ml) by simp,Pr.Qn (b.well s u t y z A)]
 ·obtain ⟨x,a,rfl⟩:=List.mem_map.1 j;obtain ⟨-,k,m,n,e⟩:=s x a;show Ld.Im f o x.2.1.data.toList;rw [e];exact g k m n
 ·have d:q∈lists (ts.map fun x=> Be x.1).tail:=d;rw [Qp,<-List.map_tail] at d;obtain ⟨x,a,rfl⟩:=List.mem_map.1 d;have:=b.tail_lt x a;exact g x.1 (by omega) this.2
 ·show Ld.FF _ _ (List.zipWith _ (ts.map fun x=> Ld.num h x.2.2) (Ld.Ib f o (lists (ts.map fun x=> Be x.1).tail))) _;rw [Qp];refine Ao3 (new:=new) (fun i hi=> ?_) ts f b.fits b.ord (fun x a=> ?_) (fun x a k m n=> ?_) (fun x a=> ?_) t
  ·have:=r (i+1) (by rw [List.length_cons];omega);rw [show p+1+i=p+(i+1) by omega,this];rfl
  ·have:=(b.fst x a).2.1;omega
  ·obtain ⟨B,C,-⟩:=b.fst x a;exact g k (by omega) (by omega)
  ·have:=(b.tail_lt x a).2;omega
def Qq (lo hi many i:Nat):Nat:=lo+(hi - lo)*i / many
theorem Al6 (lo hi a:Nat):Qq lo hi a 0=lo:=by simp [Qq]
theorem Ac6 {lo hi a:Nat} (h:lo<=hi) (b:0 < a):Qq lo hi a a=hi:=by unfold Qq;rw [Nat.mul_div_cancel _ b];omega
theorem Pa {lo hi a i j:Nat} (h:i<=j):Qq lo hi a i<=Qq lo hi a j:=Nat.add_le_add_left (Nat.div_le_div_right (Nat.mul_le_mul_left _ h)) _
theorem Aja {lo hi a i:Nat} (b:lo<=hi) (h:i < a):Qq lo hi a i=lo\/Qq lo hi a i < hi:=by
 unfold Qq;rcases Nat.eq_zero_or_pos (hi - lo) with e | e
 ·rw [e];simp
 ·right;have:(hi - lo)*i / a < hi - lo:=(Nat.div_lt_iff_lt_mul (by omega)).2 (Nat.mul_lt_mul_of_pos_left h e);omega
theorem App {lo hi a i:Nat} (b:lo<=hi) (c:0 < a) (h:i<=a):Qq lo hi a i<=hi:=Nat.le_trans (Pa h) (Nat.le_of_eq (Ac6 b c))
end Go.Proofs.YtolgpnaoaodepaaGreat
