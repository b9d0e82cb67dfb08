import Derived.Test.YtolgpnaoaodepaaGreatWalkACm
namespace Go.Proofs.YtolgpnaoaodepaaGreat
open Go.RowKit
def ChQ (b:Nat) (w:World) (o:Option (List (Int×List UInt8×List UInt8)×List UInt8)) (r:Ending) (w':World):Prop:=But b w w'/\((o=none/\r=Ae)\/∃l v u,o=some (plainCh l,u)/\r= .returned v/\Au w.heap.size w' v l/\l.length<=255/\Rd w' b u)
def PvQ (b:Nat) (w:World) (o:Option (List (List UInt8)×List UInt8)) (r:Ending) (w':World):Prop:=But b w w'/\((o=none/\r=Ae)\/∃l v u,o=some (lists l,u)/\r= .returned v/\Av w.heap.size w' v l/\l.length<=255/\Rd w' b u)
theorem Ow {b B:Nat} {w w':World} {v:Value} {T:TypeId} {s n:Nat} {xs:List Value} (a:But b w w') {c:World} (i:w'.ownsRow B T s v n xs) (j:w.heap.size<=B) (d:w'.grownBy c v.ownBlock):But b w c:=
 ⟨d.os.trans a.os,d.tape.trans a.tape,d.output.trans a.output,Nat.le_trans a.size d.size,fun k f g=> (d.block k (Nat.lt_of_lt_of_le f a.size) (fun e=> by have:=(World.ownsRow.lt i k e.symm).1;omega)).trans (a.block k f g)⟩
theorem Akm {b:Nat} {w w':World} (h:But b w w') (o:Obj):But b w (w'.alloc o):=
 ⟨h.os,h.tape,h.output,by have:=h.size;simp;omega,fun k a c=> (Below.heap_alloc _ _ _ (by have:=h.size;omega)).trans (h.block k a c)⟩
set_option maxHeartbeats 2000000 in
set_option maxRecDepth 20000 in
theorem Zg (b n:Nat) (t:List UInt8) (w:World) (p:Rd w b t) (hn:n<=255) (ht:t.length<=10000000):
  Calls Tryz.prog 267 #[.pointer (some ⟨b,0,none⟩),.int .i64 n] w fun r w'=> PvQ b w (Pr.Fa (n - 1) t) r w':=by
 have Z:=p.lt;have s:=hid p;clear p;go_enter Tryz.func267,Tryz.ntmps267;go_wp2_with fail
 go_loopw [5,8] (fun y i wr=>∃(k:Nat) (l:List ByteArray) (q:List UInt8),(k:Int)<=max 0 ((n:Int) - 1)/\i= .int .i64 k/\l.length<=k/\q.length<=t.length/\Av w.heap.size wr y l/\Rd wr b q/\But b w wr/\(Pr.Fa (n - 1 - k) q).map (fun r=> (lists l++r.1,r.2))=Pr.Fa (n - 1) t) (fun _ i _=> n - (intOf i).toNat)
 case atStart=> exact ⟨0,[],t,by omega,rfl,by simp,Nat.le_refl _,Av.nil _ _,s.out,Qw _ _,by simp [lists]⟩
 case round=>
  clear s;obtain ⟨k,l,q,hk,rfl,a2,hq,M,p,N,z⟩:=hrel;have O:=hid M;have R:=hid p;have D:=hid N;have c:=hid z;have a0:=N.size;obtain ⟨U,V,rfl⟩:=M.shape;clear M p N z;by_cases a5:k+1 < n
  ·obtain ⟨m,W⟩:∃m,n - 1 - k=m+1:=⟨n - 1 - k - 1,by omega⟩;have F:Hid (m=n - 1 - (k+1)):=(by show _=_;omega);have u:Hid (Pr.Fa (n - 1 - k) q=(Pr.Ee q).bind fun x=> (Pr.Fa m x.2).map fun r=> (x.1::r.1,r.2)):=(by show _=_;rw [W];rfl);clear W;have S:=hid (Ji b q wr R.out (by omega));have hd:(k:Int) < (n:Int) - 1:=(by omega);go_wp2_with fail;refine S.out.mono ?_;rintro r X ⟨a,⟨A,rfl⟩ | ⟨x,Y,g,rfl,B⟩⟩
   ·have HF:Hid (Pr.Fa (n - 1) t=none):=(by show _=_;rw [<-c.out,u.out,A];rfl);have d:=hid (Cu D.out a);clear a A;unfold Ae;go_wp2_with fail;exact ⟨rfl,d.out,.inl ⟨HF.out,rfl⟩⟩
   ·have a1:=Pr.Le g;have HG:Hid ((Pr.Fa (n - 1 - (k+1)) Y).map (fun r=> (lists (l++[⟨x.toArray⟩])++r.1,r.2))=Pr.Fa (n - 1) t):=by
     show _=_;rw [<-c.out,u.out,g,<-F.out];simp only [Option.bind_some,Option.map_map];congr 1;funext r;simp [lists]
    have d:=hid (Cu D.out a);have G:=hid B;have f:Hid (Av w.heap.size X (.slice U l.length V) l):=Gp O.out a (by omega);have T:=a.size;clear a g B S;unfold sv;go_wp2_with (first
     | (at_builtin;refine Aaz X rfl (.tmp 10) (.tmp 13) rfl w.heap.size (.slice U l.length V) l rfl f.out ⟨x.toArray⟩ rfl (by omega) (by omega) ?_))
    intro v3 w3 j o C;have H:=hid j;have I:=hid (G.out.grown o (fun e=> by have:=(World.ownsRow.lt f.out _ e.symm).1;omega));have J:=hid (Ow d.out f.out (Nat.le_refl _) o);obtain ⟨a3,a4,rfl⟩:=j.shape;clear j o C;go_wp2_with fail
    go_roundw
    case rel=> exact ⟨k+1,_,Y,by omega,by go_num,by rw [List.length_append];simp;omega,by omega,H.out,I.out,J.out,HG.out⟩
    case measure=> simp [intOf];omega
  ·have L:Hid (Pr.Fa (n - 1) t=some (lists l,q)):=by
    show _=_;rw [<-c.out,show n - 1 - k=0 by omega];simp [Pr.Fa]
   have hd:¬(k:Int) < (n:Int) - 1:=(by omega);go_wp2_with fail;go_ret;exact ⟨D.out,.inr ⟨l,_,q,L.out,rfl,O.out,by omega,R.out⟩⟩
theorem Pm (l:List (Int×ByteArray×ByteArray)) (x:Int×ByteArray×ByteArray):plainCh (l++[x])=plainCh l++[(x.1,x.2.1.data.toList,x.2.2.data.toList)]:=by simp [plainCh]
set_option maxHeartbeats 4000000 in
set_option maxRecDepth 20000 in
theorem Vv (b:Nat) (t:List UInt8) (w:World) (S:Rd w b t) (ht:t.length<=10000000):
  Calls Tryz.prog 250 #[.pointer (some ⟨b,0,none⟩)] w fun r w'=> ChQ b w (Pr.Mn t) r w':=by
 have d5:=S.lt;have HC:=hid (Ha b t w S);clear S;go_enter Tryz.func250,Tryz.ntmps250;go_wp2_with fail;refine HC.out.mono ?_;rintro r w1 ⟨B,⟨hn,rfl⟩ | ⟨bn,t1,a1,rfl,b4⟩⟩
 ·have HT:Hid (Pr.Mn t=none):=by show _=_;unfold Pr.Mn;rw [hn];rfl
  have HB:=hid B;clear B hn;unfold Ae;go_wp2_with fail;exact ⟨rfl,HB.out,.inl ⟨HT.out,rfl⟩⟩
 have I:Hid (Pr.Mn t=Pr.Cd bn.toNat t1):=by show _=_;unfold Pr.Mn;rw [a1];rfl
 have c1:t1.length<=t.length:=by rw [Pr.Hw a1];simp
 have a5:=hid B;have a6:=hid b4;have c2:=B.size;have d6:bn.toNat < 256:=bn.toNat_lt;clear B a1 b4 HC;unfold bv;generalize bn.toNat=n at*;go_wp2_with fail
 go_loopw [3,7] (fun y i wr=>∃(k:Nat) (l:List (Int×ByteArray×ByteArray)) (q:List UInt8),k<=n/\i= .int .u8 k/\l.length<=k/\q.length<=t.length/\Au w.heap.size wr y l/\Rd wr b q/\But b w wr/\(Pr.Cd (n - k) q).map (fun r=> (plainCh l++r.1,r.2))=Pr.Cd n t1) (fun _ i _=> n - (intOf i).toNat)
 case atStart=> exact ⟨0,[],t1,Nat.zero_le _,rfl,by simp,c1,World.ownsRow_nil _ _ _ _,a6.out,a5.out,by simp [plainCh]⟩
 case round=>
  clear a6 a5 c2;obtain ⟨k,l,q,hk,rfl,e6,hq,ho,S,hb,b3⟩:=hrel;have HO:=hid ho;have HR:=hid S;have HB:=hid hb;have p:=hid b3;have d7:=hb.size;obtain ⟨ya,yc,rfl⟩:=Ab ho;clear ho S hb b3;by_cases e7:k < n
  ·obtain ⟨m,hm⟩:∃m,n - k=m+1:=⟨n - k - 1,by omega⟩;have a7:Hid (m=n - (k+1)):=(by show _=_;omega);have T:Hid (Pr.Cd (n - k) q=(Pr.Dw q).bind fun b=> (Pr.Ee b.2).bind fun k=> if b.1.toNat=2 then (Pr.Cd m k.2).map fun r=> (((2:Int),k.1,[])::r.1,r.2) else (Pr.Ee k.2).bind fun v=> (Pr.Cd m v.2).map fun r=> (((b.1.toNat:Int),k.1,v.1)::r.1,r.2)):=(by show _=_;rw [hm];rfl);clear hm;have HC:=hid (Ha b q wr HR.out);go_wp2_with fail;refine HC.out.mono ?_;rintro r w2 ⟨C,⟨b5,rfl⟩ | ⟨kb,q2,a2,rfl,b6⟩⟩
   ·have HF:Hid (Pr.Mn t=none):=(by show _=_;rw [I.out,<-p.out,T.out,b5];rfl);have u:=hid (Cu HB.out C);clear C b5;unfold Ae;go_wp2_with fail;exact ⟨rfl,u.out,.inl ⟨HF.out,rfl⟩⟩
   have U:Hid (Pr.Cd (n - k) q=(Pr.Ee q2).bind fun x=> if kb.toNat=2 then (Pr.Cd m x.2).map fun r=> (((2:Int),x.1,[])::r.1,r.2) else (Pr.Ee x.2).bind fun v=> (Pr.Cd m v.2).map fun r=> (((kb.toNat:Int),x.1,v.1)::r.1,r.2)):=(by show _=_;rw [T.out,a2];rfl);have d8:q2.length<=t.length:=(by have:=Pr.Hw a2;rw [this] at hq;simp at hq;omega);have u:=hid (Cu HB.out C);have a8:Hid (Au w.heap.size w2 (.slice ya l.length yc) l):=Gp HO.out C (by omega);have d9:kb.toNat < 256:=kb.toNat_lt;have a9:=hid (Ji b q2 w2 b6 (by omega));clear C a2 b6 HC T HO HB;unfold bv;generalize kb.toNat=a at*;go_wp2_with fail;refine a9.out.mono ?_;rintro r s ⟨D,⟨b7,rfl⟩ | ⟨x,q3,a3,rfl,b8⟩⟩
   ·have HF:Hid (Pr.Mn t=none):=(by show _=_;rw [I.out,<-p.out,U.out,b7];rfl);have J:=hid (Cu u.out D);clear D b7;unfold Ae;go_wp2_with fail;exact ⟨rfl,J.out,.inl ⟨HF.out,rfl⟩⟩
   have z:Hid (Pr.Cd (n - k) q=if a=2 then (Pr.Cd m q3).map fun r=> (((2:Int),x,[])::r.1,r.2) else (Pr.Ee q3).bind fun v=> (Pr.Cd m v.2).map fun r=> (((a:Int),x,v.1)::r.1,r.2)):=(by show _=_;rw [U.out,a3];rfl);have e0:=Pr.Le a3;have J:=hid (Cu u.out D);have b0:Hid (Au w.heap.size s (.slice ya l.length yc) l):=Gp a8.out D (by omega);have V:=hid b8;have d4:=J.out.size;clear D a3 b8 a9 U a8 u;unfold sv;have W:=hid (Akm J.out (.cells #[.int .i64 (a:Int),.string ⟨x.toArray⟩,.string ⟨#[]⟩] 34));have L:Hid (Au w.heap.size (s.alloc (.cells #[.int .i64 (a:Int),.string ⟨x.toArray⟩,.string ⟨#[]⟩] 34)) (.slice ya l.length yc) l):=World.ownsRow.alloc b0.out _;have b1:=hid (V.out.below ((Below.refl s.heap.size s).alloc (Nat.le_refl _) (.cells #[.int .i64 (a:Int),.string ⟨x.toArray⟩,.string ⟨#[]⟩] 34)) V.out.lt);have c3:Hid ((s.alloc (.cells #[.int .i64 (a:Int),.string ⟨x.toArray⟩,.string ⟨#[]⟩] 34)).heap[s.heap.size]?=some (.cells #[.int .i64 (a:Int),.string ⟨x.toArray⟩,.string ⟨#[]⟩] 34 (0,0))):=heap_alloc_new _ _;have e1:s.heap.size < (s.alloc (.cells #[.int .i64 (a:Int),.string ⟨x.toArray⟩,.string ⟨#[]⟩] 34)).heap.size:=(by simp);have e2:b < s.heap.size:=V.out.lt;have c4:=hid (Agq b0.out (Nat.le_refl s.heap.size));by_cases M:a=2
   ·rw [if_pos M] at z;have c5:((a:Int)==2)=true:=(by simp;omega);have c6:Hid ((a:Int)=2):=(by show _=_;omega);clear M;go_wp2_with (first
     | (at_builtin;refine Iw (s.alloc (.cells #[.int .i64 (a:Int),.string ⟨x.toArray⟩,.string ⟨#[]⟩] 34)) rfl (.tmp 21) (.tmp 23) 77 34 Tryz.underlying77 _ 3 40 Du rfl (by decide) (by decide) rfl w.heap.size (.slice ya l.length yc) l.length (ccells l) rfl L.out [.int .i64 (a:Int),.string ⟨x.toArray⟩,.string ⟨#[]⟩] rfl (Aq5 _ _ _) (by simp [Act.eval]) (by omega) (by omega) ?_))
    intro v6 w6 g o G;have X:Hid (Au w.heap.size w6 v6 (l++[((a:Int),⟨x.toArray⟩,⟨#[]⟩)])):=by
     show Au _ _ _ _;unfold Au;rw [List.length_append,Mz];exact g
    have Y:=hid (b1.out.grown o (fun e=> by have:=(World.ownsRow.lt L.out _ e.symm).1;omega));have Z:=hid (Ow W.out L.out (Nat.le_refl _) o);have HG:Hid ((Pr.Cd (n - (k+1)) q3).map (fun r=> (plainCh (l++[((a:Int),⟨x.toArray⟩,⟨#[]⟩)])++r.1,r.2))=Pr.Cd n t1):=by
     show _=_;rw [<-p.out,z.out,<-a7.out,Pm,c6.out];simp only [Option.map_map];congr 1;funext r;simp
    obtain ⟨d2,d3,rfl⟩:=Ab g;clear g o G;go_wp2_with fail
    go_roundw
    case rel=> exact ⟨k+1,_,q3,by omega,by go_num,by rw [List.length_append];simp;omega,by omega,X.out,Y.out,Z.out,HG.out⟩
    case measure=> simp [intOf];omega
   ·rw [if_neg M] at z;have c5:((a:Int)==2)=false:=(by simp;omega);clear M;go_wp2_with fail;generalize s.alloc (.cells #[.int .i64 (a:Int),.string ⟨x.toArray⟩,.string ⟨#[]⟩] 34)=w4 at*;generalize s.heap.size=H at*;have b2:=hid (Ji b q3 w4 b1.out (by omega));refine b2.out.mono ?_;rintro r F ⟨f,⟨b9,rfl⟩ | ⟨v,q5,a4,rfl,c0⟩⟩
    ·have HF:Hid (Pr.Mn t=none):=(by show _=_;rw [I.out,<-p.out,z.out,b9];rfl);have d:=hid (Cu W.out f);clear f b9;unfold Ae;go_wp2_with fail;exact ⟨rfl,d.out,.inl ⟨HF.out,rfl⟩⟩
    ·have e3:=Pr.Le a4;have HG:Hid ((Pr.Cd (n - (k+1)) q5).map (fun r=> (plainCh (l++[((a:Int),⟨x.toArray⟩,⟨v.toArray⟩)])++r.1,r.2))=Pr.Cd n t1):=by
      show _=_;rw [<-p.out,z.out,a4,<-a7.out,Pm];simp only [Option.bind_some,Option.map_map];congr 1;funext r;simp
     have d:=hid (Cu W.out f);have A:=hid ((f.block H (by omega) (by simp;omega)).trans c3.out);have c7:Hid (Au w.heap.size F (.slice ya l.length yc) l):=Gp L.out f (by omega);have c8:=hid c0;have N:=d.out.size;have e4:=f.size;have x0:F.cell? ⟨H,0,none⟩=some (.int .i64 (a:Int)):=(by unfold World.cell?;rw [A.out];rfl);have x1:F.cell? ⟨H,1,none⟩=some (.string ⟨x.toArray⟩):=(by unfold World.cell?;rw [A.out];rfl);have x2:F.cell? ⟨H,2,none⟩=some (.string ⟨#[]⟩):=(by unfold World.cell?;rw [A.out];rfl);have xz:F.frozen? ⟨H,2,none⟩=false:=(by unfold World.frozen?;rw [A.out];rfl);have e5:=hid (Ad (i:=2) A.out (.string ⟨v.toArray⟩));have a0:Hid (Au w.heap.size (F.setCell ⟨H,2,none⟩ (.string ⟨v.toArray⟩)) (.slice ya l.length yc) l):=World.ownsRow.kept c7.out (Gn H 2 F _) (.inr (fun e=> c4.out e));have c9:=hid (c8.out.setOther (c:=H) (i:=2) (by omega) (.string ⟨v.toArray⟩));have d0:Hid (But b w (F.setCell ⟨H,2,none⟩ (.string ⟨v.toArray⟩))):=⟨d.out.os,d.out.tape,d.out.output,by simp [World.setCell];exact N,fun j hj S=> (Below.heap_setCell _ _ _ _ (by simp;omega)).trans (d.out.block j hj S)⟩;have O:(F.setCell ⟨H,2,none⟩ (.string ⟨v.toArray⟩)).heap.size=F.heap.size:=(by simp [World.setCell]);have R:=hid O;clear f a4 c0 b2 O;unfold sv;go_wp2_with (first
      | (at_builtin;refine Iw (F.setCell ⟨H,2,none⟩ (.string ⟨v.toArray⟩)) rfl (.tmp 21) (.tmp 23) 77 34 Tryz.underlying77 _ 3 40 Du rfl (by decide) (by decide) rfl w.heap.size (.slice ya l.length yc) l.length (ccells l) rfl a0.out [.int .i64 (a:Int),.string ⟨x.toArray⟩,.string ⟨v.toArray⟩] rfl (Aq5 _ _ _) (by rw [R.out];rfl) (by omega) (by rw [R.out];exact N) ?_))
     intro v6 w6 g o G;have X:Hid (Au w.heap.size w6 v6 (l++[((a:Int),⟨x.toArray⟩,⟨v.toArray⟩)])):=by
      show Au _ _ _ _;unfold Au;rw [List.length_append,Mz];exact g
     have Y:=hid (c9.out.grown o (fun e=> by have:=(World.ownsRow.lt a0.out _ e.symm).1;omega));have Z:=hid (Ow d0.out a0.out (Nat.le_refl _) o);obtain ⟨d2,d3,rfl⟩:=Ab g;clear g o G;go_wp2_with fail
     go_roundw
     case rel=> exact ⟨k+1,_,q5,by omega,by go_num,by rw [List.length_append];simp;omega,by omega,X.out,Y.out,Z.out,HG.out⟩
     case measure=> simp [intOf];omega
  ·have d1:Hid (Pr.Mn t=some (plainCh l,q)):=by
    show _=_;rw [I.out,<-p.out,show n - k=0 by omega];simp [Pr.Cd]
   go_wp2_with fail;go_ret;exact ⟨HB.out,.inr ⟨l,_,q,d1.out,rfl,HO.out,by omega,HR.out⟩⟩
def Arg (w:World) (o:Option (List Nat×List (List UInt8))) (r:Ending) (w':World):Prop:=Below w.heap.size w w'/\((o=none/\r=Ae)\/∃cl pl v1 v2,o=some (cl,lists pl)/\r= .returned (.tuple #[v1,v2])/\w'.ownsRow w.heap.size 3 1 v1 cl.length (Bk cl)/\Av w.heap.size w' v2 pl/\cl.length<=255/\pl.length<=255)
set_option maxHeartbeats 2000000 in
set_option maxRecDepth 20000 in
theorem Tq (c:List UInt8) (n:Nat) (w:World) (hn:n<=255) (hc:c.length<=1000000):
  Calls Tryz.prog 248 #[.string ⟨c.toArray⟩,.int .i64 n] w fun r w'=> Arg w (Pr.Fl c n) r w':=by
 go_enter Tryz.func248,Tryz.ntmps248;go_wp2_with fail;refine (Dx c _).mono ?_;rintro r w1 ⟨rfl,rfl⟩;have F:=hid (Nv w c);have G:=hid ((Below.refl w.heap.size w).alloc (Nat.le_refl _) (.cells #[.string ⟨c.toArray⟩] 298));have H:w.heap.size < (w.alloc (.cells #[.string ⟨c.toArray⟩] 298)).heap.size:=by simp
 generalize w.alloc (.cells #[.string ⟨c.toArray⟩] 298)=w0 at*;go_wp2_with fail
 go_loopw [4,10] (fun y i wr=>∃(k:Nat) (l:List Nat) (q:List UInt8),k<=n/\i= .int .i64 k/\l.length<=k/\q.length<=c.length/\wr.ownsRow (w.heap.size+1) 3 1 y l.length (Bk l)/\Rd wr w.heap.size q/\Below w.heap.size w wr/\w.heap.size < wr.heap.size/\(Pr.Mo (n - k) q).map (fun r=> (l++r.1,r.2))=Pr.Mo n c) (fun _ i _=> n - (intOf i).toNat)
 case atStart=> exact ⟨0,[],c,Nat.zero_le _,rfl,by simp,Nat.le_refl _,World.ownsRow_nil _ _ _ _,F.out,G.out,H,by simp⟩
 case round=>
  clear F G H;obtain ⟨k,l,q,hk,rfl,a4,hq,Z,hr,hb,a5,N⟩:=hrel;have HO:=hid Z;have HR:=hid hr;have R:=hid hb;have t:=hid N;obtain ⟨ya,yc,rfl⟩:=Ab Z;clear Z hr hb N;by_cases a8:k < n
  ·obtain ⟨m,hm⟩:∃m,n - k=m+1:=⟨n - k - 1,by omega⟩;have S:Hid (m=n - (k+1)):=(by show _=_;omega);have I:Hid (Pr.Mo (n - k) q=(Pr.Cq q).bind fun x=> (Pr.Mo m x.2).map fun r=> (x.1::r.1,r.2)):=(by show _=_;rw [hm];rfl);clear hm;have J:=hid (Kq w.heap.size q wr HR.out);go_wp2_with fail;refine J.out.mono ?_;rintro r D ⟨a,⟨g,rfl⟩ | ⟨x,q2,d,rfl,j⟩⟩
   ·have T:Hid (Pr.Fl c n=none):=(by show _=_;unfold Pr.Fl;rw [<-t.out,I.out,g];rfl);have b:=hid (Ai R.out a (Nat.le_refl _) (by omega));clear a g;unfold Ae;go_wp2_with fail;exact ⟨rfl,b.out,.inl ⟨T.out,rfl⟩⟩
   ·have a2:=Pr.Pw d;have HG:Hid ((Pr.Mo (n - (k+1)) q2).map (fun r=> (l++[x]++r.1,r.2))=Pr.Mo n c):=by
     show _=_;rw [<-t.out,I.out,d,<-S.out];simp only [Option.bind_some,Option.map_map];congr 1;funext r;simp
    have b:=hid (Ai R.out a (Nat.le_refl _) (by omega));have U:=hid j;have f:Hid (D.ownsRow (w.heap.size+1) 3 1 (.slice ya l.length yc) l.length (Bk l)):=Gp HO.out a (by omega);have a1:=a.size;clear a d j J;unfold nv;go_wp2_with (first
     | (at_builtin;refine Iw D rfl (.tmp 12) (.tmp 15) 25 3 Tryz.underlying25 _ 1 8 My rfl (by decide) (by decide) rfl (w.heap.size+1) (.slice ya l.length yc) l.length (Bk l) rfl f.out [.int .i64 (x:Int)] rfl (by intro u B;simp at B;subst B;rfl) rfl (by omega) (by omega) ?_))
    intro v3 w3 C s O;have V:Hid (w3.ownsRow (w.heap.size+1) 3 1 v3 (l++[x]).length (Bk (l++[x]))):=by
     show World.ownsRow _ _ _ _ _ _ _;rw [List.length_append,show Bk (l++[x])=Bk l++[.int .i64 (x:Int)] by simp [Bk]];exact C
    have W:=hid (U.out.grown s (fun e=> by have:=(World.ownsRow.lt f.out _ e.symm).1;omega));have X:=hid (b.out.trans (((Below.refl (w.heap.size+1) D).grown s (by omega) fun k hk=> (World.ownsRow.lt f.out k hk).1).mono (by omega)));have a3:=s.size;obtain ⟨a6,a7,rfl⟩:=Ab C;clear C s O;go_wp2_with fail
    go_roundw
    case rel=> exact ⟨k+1,_,q2,by omega,by go_num,by rw [List.length_append];simp;omega,by omega,V.out,W.out,X.out,by omega,HG.out⟩
    case measure=> simp [intOf];omega
  ·have L:Hid (Pr.Mo n c=some (l,q)):=by
    show _=_;rw [<-t.out,show n - k=0 by omega];simp [Pr.Mo]
   have z:Hid (Pr.Fl c n=(Pr.Fa (n - 1) q).bind fun p=> if p.2=[] then some (l,p.1) else none):=(by show _=_;unfold Pr.Fl;rw [L.out];rfl);have J:=hid (Zg w.heap.size n q wr HR.out hn (by omega));go_wp2_with fail;refine J.out.mono ?_;rintro r D ⟨a,⟨g,rfl⟩ | ⟨pl,v2,u2,d,rfl,A,a0,j⟩⟩
   ·have T:Hid (Pr.Fl c n=none):=(by show _=_;rw [z.out,g];rfl);have b:=hid (Ai R.out a (Nat.le_refl _) (by omega));clear a g;unfold Ae;go_wp2_with fail;exact ⟨rfl,b.out,.inl ⟨T.out,rfl⟩⟩
   ·have o:Hid (Pr.Fl c n=if u2=[] then some (l,lists pl) else none):=(by show _=_;rw [z.out,d];rfl);have b:=hid (Ai R.out a (Nat.le_refl _) (by omega));have f:Hid (D.ownsRow (w.heap.size+1) 3 1 (.slice ya l.length yc) l.length (Bk l)):=Gp HO.out a (by omega);have Y:=hid A;have M:=hid (Yx w.heap.size u2 D j);obtain ⟨pa,pc,rfl⟩:=A.shape;clear a d j A J z L;go_wp2_with fail;refine M.out.mono ?_;rintro r w3 ⟨rfl,rfl⟩;clear M;by_cases B:u2=[]
    ·rw [if_pos B] at o ⊢;clear B;go_wp2_with fail;go_ret2;exact ⟨b.out,.inr ⟨l,pl,_,_,o.out,rfl,Al f.out (by omega),Al Y.out (by omega),by omega,a0⟩⟩
    ·rw [if_neg B] at o ⊢;clear B;unfold Ae;go_wp2_with fail;exact ⟨rfl,b.out,.inl ⟨o.out,rfl⟩⟩
def Bd (w:World) (b:Nat) (v0 v1 v2 v3 v4:Value):Prop:=w.heap[b]?=some (.cells #[v0,v1,v2,v3,v4] 79 (0,0))
theorem Bd.cells {w:World} {b:Nat} {a v1 v2 v3 v4:Value} (h:Bd w b a v1 v2 v3 v4):w.cell? ⟨b,0,none⟩=some a/\w.cell? ⟨b,1,none⟩=some v1/\w.cell? ⟨b,2,none⟩=some v2/\w.cell? ⟨b,3,none⟩=some v3/\w.cell? ⟨b,4,none⟩=some v4/\w.frozen? ⟨b,0,none⟩=false/\w.frozen? ⟨b,1,none⟩=false/\w.frozen? ⟨b,2,none⟩=false/\w.frozen? ⟨b,3,none⟩=false/\w.frozen? ⟨b,4,none⟩=false:=by
 unfold Bd at h;refine ⟨?_,?_,?_,?_,?_,?_,?_,?_,?_,?_⟩ <;> simp [World.cell?,World.frozen?,h]
theorem Bd.lt {w:World} {b:Nat} {a v1 v2 v3 v4:Value} (h:Bd w b a v1 v2 v3 v4):b < w.heap.size:=(Array.getElem?_eq_some_iff.1 h).1
theorem Bd.but {w w':World} {b c:Nat} {d v1 v2 v3 v4:Value} (h:Bd w b d v1 v2 v3 v4) (f:But c w w') (a:b≠c):Bd w' b d v1 v2 v3 v4:=(f.block b h.lt (by simpa using a)).trans h
theorem Bd.below {w w':World} {b B:Nat} {c v1 v2 v3 v4:Value} (h:Bd w b c v1 v2 v3 v4) (d:Below B w w') (a:b < B):Bd w' b c v1 v2 v3 v4:=(d.block b a).trans h
theorem Bd.keep {w w':World} {b:Nat} {a v1 v2 v3 v4:Value} (h:Bd w b a v1 v2 v3 v4) (c:Below w.heap.size w w'):Bd w' b a v1 v2 v3 v4:=h.below c h.lt
theorem Bw (w:World) (a v1 v2 v3 v4:Value):Bd (w.alloc (.cells #[a,v1,v2,v3,v4] 79)) w.heap.size a v1 v2 v3 v4:=heap_alloc_new _ _
def Eb (B:Nat) (w:World) (v:Value) (kd:Int) (il:List (ByteArray×ByteArray)) (cl:List Nat) (pl:List ByteArray) (ml:List (Int×ByteArray×ByteArray)):Prop:=
 ∃v1 v2 v3 v4,v= .agg #[.int .i64 kd,v1,v2,v3,v4]/\Ak B w v1 il/\w.ownsRow B 3 1 v2 cl.length (Bk cl)/\Av B w v3 pl/\Au B w v4 ml/\il.length<=1020/\cl.length<=255/\pl.length<=255/\ml.length<=255
def Aiy (w:World) (o:Option (Int×List (List UInt8×List UInt8)×List Nat×List (List UInt8)×List (Int×List UInt8×List UInt8))) (r:Ending) (w':World):Prop:=Below w.heap.size w w'/\((o=none/\r=Ae)\/∃kd il cl pl ml v,o=some (kd,plain il,cl,lists pl,plainCh ml)/\r= .returned v/\Eb w.heap.size w' v kd il cl pl ml)
def Ahq (kd:Int) (v:Value):Prop:=(kd=1->∃v1,v= .agg #[.int .i64 1,v1,.slice none 0 0,.slice none 0 0,.slice none 0 0])/\(kd=2->∃v2 v3 v4,v= .agg #[.int .i64 2,.slice none 0 0,v2,v3,v4])
theorem Apd (v1:Value):Ahq 1 (.agg #[.int .i64 1,v1,.slice none 0 0,.slice none 0 0,.slice none 0 0]):=⟨fun _=> ⟨_,rfl⟩,fun h=> absurd h (by decide)⟩
theorem Ape (v2 v3 v4:Value):Ahq 2 (.agg #[.int .i64 2,.slice none 0 0,v2,v3,v4]):=⟨fun h=> absurd h (by decide),fun _=> ⟨_,_,_,rfl⟩⟩
def Qh (w:World) (o:Option (Int×List (List UInt8×List UInt8)×List Nat×List (List UInt8)×List (Int×List UInt8×List UInt8))) (r:Ending) (w':World):Prop:=Below w.heap.size w w'/\((o=none/\r=Ae)\/∃kd il cl pl ml v,o=some (kd,plain il,cl,lists pl,plainCh ml)/\r= .returned v/\Eb w.heap.size w' v kd il cl pl ml/\Ahq kd v)
theorem Qh.q {w:World} {o:Option (Int×List (List UInt8×List UInt8)×List Nat×List (List UInt8)×List (Int×List UInt8×List UInt8))} {r:Ending} {w':World} (h:Qh w o r w'):Aiy w o r w':=by
 obtain ⟨a,h | ⟨kd,il,cl,pl,ml,v,b,c,d,-⟩⟩:=h
 ·exact ⟨a,.inl h⟩
 ·exact ⟨a,.inr ⟨kd,il,cl,pl,ml,v,b,c,d⟩⟩
theorem Aqf {α:Type} {l:List α} (h:l.length=2):∃a b,l=[a,b]:=by
 match l,h with
 | [a,b],_=> exact ⟨a,b,rfl⟩
theorem Bd.set1 {w:World} {b:Nat} {a v1 v2 v3 v4:Value} (h:Bd w b a v1 v2 v3 v4) (u:Value):Bd (w.setCell ⟨b,1,none⟩ u) b a u v2 v3 v4:=by unfold Bd at*;rw [Ad (i:=1) h];rfl
theorem Bd.set2 {w:World} {b:Nat} {a v1 v2 v3 v4:Value} (h:Bd w b a v1 v2 v3 v4) (u:Value):Bd (w.setCell ⟨b,2,none⟩ u) b a v1 u v3 v4:=by unfold Bd at*;rw [Ad (i:=2) h];rfl
theorem Bd.set3 {w:World} {b:Nat} {a v1 v2 v3 v4:Value} (h:Bd w b a v1 v2 v3 v4) (u:Value):Bd (w.setCell ⟨b,3,none⟩ u) b a v1 v2 u v4:=by unfold Bd at*;rw [Ad (i:=3) h];rfl
theorem Bd.set4 {w:World} {b:Nat} {a v1 v2 v3 v4:Value} (h:Bd w b a v1 v2 v3 v4) (u:Value):Bd (w.setCell ⟨b,4,none⟩ u) b a v1 v2 v3 u:=by unfold Bd at*;rw [Ad (i:=4) h];rfl
theorem Aiz (k:UInt8) (s:ByteArray) (w:World):Calls Tryz.prog 249 #[.int .u8 (k.toNat:Int),.string s] w fun r w'=> r=Mb (Pr.Kf k s.data.toList)/\Below w.heap.size w w':=by
 have:=Mm k s.data.toList w
 rwa [Md] at this
theorem Apf (w:World) (x y:Nat):Iv (w.alloc (.cells #[.int .i64 (x:Int),.int .i64 (y:Int)] 3)) (.slice (some ⟨w.heap.size,0,none⟩) 2 2) 2 (Bk [x,y]):=by
 refine ⟨_,_,rfl,by omega,.inr ⟨_,_,rfl,by simp,fun i hi=> ?_⟩⟩;have e:=heap_alloc_new w (.cells #[.int .i64 (x:Int),.int .i64 (y:Int)] 3)
 match i,hi with
 | 0,_=> unfold World.cell?;rw [e];rfl
 | 1,_=> unfold World.cell?;rw [e];rfl
theorem Fu {B:Nat} {w:World} {v:Value} {T:TypeId} {s n:Nat} {xs:List Value} (h:w.ownsRow B T s v n xs) {b i:Nat} (a:b < B) (u:Value):(w.setCell ⟨b,i,none⟩ u).ownsRow B T s v n xs:=ownsRow_setCell_below h a u
abbrev Hm (w:World) (b:Nat) (v0 v1 v2 v3 v4:Value):World:=((((w.setCell ⟨b,0,none⟩ v0).setCell ⟨b,1,none⟩ v1).setCell ⟨b,2,none⟩ v2).setCell ⟨b,3,none⟩ v3).setCell ⟨b,4,none⟩ v4
theorem Bd.set0 {w:World} {b:Nat} {a v1 v2 v3 v4:Value} (h:Bd w b a v1 v2 v3 v4) (u:Value):Bd (w.setCell ⟨b,0,none⟩ u) b u v1 v2 v3 v4:=by unfold Bd at*;rw [Ad (i:=0) h];rfl
theorem Bd.put {w:World} {b:Nat} {a v1 v2 v3 v4:Value} (h:Bd w b a v1 v2 v3 v4) (u0 u1 u2 u3 u4:Value):Bd (Hm w b u0 u1 u2 u3 u4) b u0 u1 u2 u3 u4:=((((h.set0 u0).set1 u1).set2 u2).set3 u3).set4 u4
theorem Gi {B:Nat} {a w:World} (h:Below B a w) {b:Nat} (c:B<=b) (u0 u1 u2 u3 u4:Value):Below B a (Hm w b u0 u1 u2 u3 u4):=
 ((((h.setCell (p:=⟨b,0,none⟩) c u0).setCell (p:=⟨b,1,none⟩) c u1).setCell (p:=⟨b,2,none⟩) c u2).setCell (p:=⟨b,3,none⟩) c u3).setCell (p:=⟨b,4,none⟩) c u4
theorem Ks {B:Nat} {w:World} {v:Value} {T:TypeId} {s n:Nat} {xs:List Value} (h:w.ownsRow B T s v n xs) {b:Nat} (a:b < B) (u0 u1 u2 u3 u4:Value):(Hm w b u0 u1 u2 u3 u4).ownsRow B T s v n xs:=
 Fu (Fu (Fu (Fu (Fu h a u0) a u1) a u2) a u3) a u4
theorem Cb {w:World} {b:Nat} {a v1 v2 v3 v4:Value} (h:Bd w b a v1 v2 v3 v4):w.cell? ⟨b,0,none⟩=some a/\w.cell? ⟨b,1,none⟩=some v1/\w.cell? ⟨b,2,none⟩=some v2/\w.cell? ⟨b,3,none⟩=some v3/\w.cell? ⟨b,4,none⟩=some v4:=⟨h.cells.1,h.cells.2.1,h.cells.2.2.1,h.cells.2.2.2.1,h.cells.2.2.2.2.1⟩
def brO (o:Option (List Nat×List (List UInt8)×List (Int×List UInt8×List UInt8))):Option (Int×List (List UInt8×List UInt8)×List Nat×List (List UInt8)×List (Int×List UInt8×List UInt8)):=o.map fun x=> (2,[],x.1,x.2.1,x.2.2)
set_option maxHeartbeats 4000000 in
set_option maxRecDepth 20000 in
theorem Zh (t:List UInt8) (w:World):
  Calls Tryz.prog 200 #[.string ⟨t.toArray⟩] w fun r w'=> Qh w (brO (Pr.Cl t)) r w':=by
 go_enter Tryz.func200,Tryz.ntmps200;go_wp2_with fail;have d1:=hid (Bw w (.int .i64 0) (.slice none 0 0) (.slice none 0 0) (.slice none 0 0) (.slice none 0 0));have d2:=hid ((Below.refl w.heap.size w).alloc (Nat.le_refl _) (.cells #[.int .i64 0,.slice none 0 0,.slice none 0 0,.slice none 0 0,.slice none 0 0] 79));have i8:w.heap.size < (w.alloc (.cells #[.int .i64 0,.slice none 0 0,.slice none 0 0,.slice none 0 0,.slice none 0 0] 79)).heap.size:=by simp
 refine (Dx t _).mono ?_;rintro r w1 ⟨rfl,rfl⟩;generalize w.alloc (.cells #[.int .i64 0,.slice none 0 0,.slice none 0 0,.slice none 0 0,.slice none 0 0] 79)=w0 at*;have BA:=(Below.refl w0.heap.size w0).alloc (Nat.le_refl _) (.cells #[.string ⟨t.toArray⟩] 298);have d3:=hid (Nv w0 t);have c4:=hid (d2.out.alloc (by omega) (.cells #[.string ⟨t.toArray⟩] 298));have d4:=hid (d1.out.keep BA);have i9:w0.heap.size < (w0.alloc (.cells #[.string ⟨t.toArray⟩] 298)).heap.size:=by simp
 generalize w0.alloc (.cells #[.string ⟨t.toArray⟩] 298)=w1 at*;generalize w0.heap.size=rb at*;clear d1 d2 BA;have HC:=hid (Fk rb 3 t w1 d3.out);go_wp2_with fail;refine HC.out.mono ?_;rintro r w2 ⟨J,⟨f6,rfl⟩ | ⟨x2,u2,f7,rfl,f8⟩⟩
 ·have m:Hid (brO (Pr.Cl t)=none):=by show _=_;unfold Pr.Cl;simp only [f6,Option.bind_none];rfl
  have R:=hid (Ai c4.out J (by omega) (by omega));clear J f6;unfold Ae;go_wp2_with fail;exact ⟨rfl,R.out,.inl ⟨m.out,rfl⟩⟩
 have l:=hid f7;have R:=hid (Ai c4.out J (by omega) (by omega));have d5:=hid (d4.out.but J (by omega));have j0:=J.size;have d6:=hid (Ha rb u2 w2 f8);clear J f7 f8 HC c4 d4 d3;unfold sv;go_wp2_with fail;refine d6.out.mono ?_;rintro r w3 ⟨L,⟨f9,rfl⟩ | ⟨x3,u3,g0,rfl,g1⟩⟩
 ·have m:Hid (brO (Pr.Cl t)=none):=by show _=_;unfold Pr.Cl;simp only [l.out,f9,Option.bind_none,Option.bind_some];rfl
  have S:=hid (Ai R.out L (by omega) (by omega));clear L f9;unfold Ae;go_wp2_with fail;exact ⟨rfl,S.out,.inl ⟨m.out,rfl⟩⟩
 have n:=hid g0;have S:=hid (Ai R.out L (by omega) (by omega));have d7:=hid (d5.out.but L (by omega));have j1:=L.size;have g9:x3.toNat<=255:=by have:=x3.toNat_lt;omega
 have d8:=hid (Qg rb u3 w3 g1);clear L g0 g1 d6 R d5;unfold bv;go_wp2_with fail;refine d8.out.mono ?_;rintro r w4 ⟨M,⟨g2,rfl⟩ | ⟨x4,u4,g3,rfl,g4⟩⟩
 ·have m:Hid (brO (Pr.Cl t)=none):=by show _=_;unfold Pr.Cl;simp only [l.out,n.out,g2,Option.bind_none,Option.bind_some];rfl
  have T:=hid (Ai S.out M (by omega) (by omega));clear M g2;unfold Ae;go_wp2_with fail;exact ⟨rfl,T.out,.inl ⟨m.out,rfl⟩⟩
 have u:=hid g3;have T:=hid (Ai S.out M (by omega) (by omega));have d9:=hid (d7.out.but M (by omega));have j2:=M.size;have e0:=hid (Qg rb u4 w4 g4);clear M g3 g4 d8 S d7;unfold nv;go_wp2_with fail;refine e0.out.mono ?_;rintro r w5 ⟨N,⟨g5,rfl⟩ | ⟨x5,u5,g6,rfl,h8⟩⟩
 ·have m:Hid (brO (Pr.Cl t)=none):=by show _=_;unfold Pr.Cl;simp only [l.out,n.out,u.out,g5,Option.bind_none,Option.bind_some];rfl
  have a6:=hid (Ai T.out N (by omega) (by omega));clear N g5;unfold Ae;go_wp2_with fail;exact ⟨rfl,a6.out,.inl ⟨m.out,rfl⟩⟩
 have D:=hid g6;have a6:=hid (Ai T.out N (by omega) (by omega));have e1:=hid (d9.out.but N (by omega));have j3:=N.size;clear N g6 h8 e0 T d9;unfold nv;go_wp2_with fail;have e2:=hid (Apf w5 x4 x5);have BA:=(Below.refl w5.heap.size w5).alloc (Nat.le_refl _) (.cells #[.int .i64 (x4:Int),.int .i64 (x5:Int)] 3);have c5:=hid (a6.out.trans (BA.mono (by omega)));have e3:=hid (e1.out.keep BA);have j4:w5.heap.size < (w5.alloc (.cells #[.int .i64 (x4:Int),.int .i64 (x5:Int)] 3)).heap.size:=by simp
 clear BA a6 e1;generalize w5.alloc (.cells #[.int .i64 (x4:Int),.int .i64 (x5:Int)] 3)=w6 at*;refine (Ve t _ [x4,x5] _ e2.out (by simp)).mono ?_;rintro r d ⟨O,⟨g7,rfl⟩ | ⟨sl,v7,c6,rfl,a9⟩⟩
 ·have m:Hid (brO (Pr.Cl t)=none):=by show _=_;unfold Pr.Cl;simp only [l.out,n.out,u.out,D.out,g7,Option.bind_none,Option.bind_some];rfl
  have o:=hid (c5.out.trans (O.mono (by omega)));clear O g7;unfold Ae;go_wp2_with fail;exact ⟨rfl,o.out,.inl ⟨m.out,rfl⟩⟩
 have e4:sl.length=2:=by have:=(Pr.Aih c6).2.2;have:=congrArg List.length this;simpa [lists] using this
 obtain ⟨s0,s1,rfl⟩:=Aqf e4;have U:Hid (Pr.Mr t [x4,x5]=some [s0.data.toList,s1.data.toList]):=c6;have o:=hid (c5.out.trans (O.mono (by omega)));have h0:=hid (e3.out.keep O);have j5:=O.size;obtain ⟨g,k1,rfl,k2,h7,k3⟩:=a9.shape_pos (by simp);have c0:=a9.cellAt 0 s0 rfl;have c1:=a9.cellAt 1 s1 rfl;have h1:=hid c1;clear c6 O a9 e4 e2 c5 e3;have BA:=(Below.refl d.heap.size d).alloc (Nat.le_refl _) (.cells #[.int .i64 2,.slice none 0 0,.slice none 0 0,.slice none 0 0,.slice none 0 0] 79);have e5:=hid BA;have e6:=hid (Bw d (.int .i64 2) (.slice none 0 0) (.slice none 0 0) (.slice none 0 0) (.slice none 0 0));have j6:d.heap.size < (d.alloc (.cells #[.int .i64 2,.slice none 0 0,.slice none 0 0,.slice none 0 0,.slice none 0 0] 79)).heap.size:=by simp
 clear BA c1;go_wp2_with fail;generalize d.alloc (.cells #[.int .i64 2,.slice none 0 0,.slice none 0 0,.slice none 0 0,.slice none 0 0] 79)=w8 at*;refine (Aiz 112 s0 _).mono ?_;rintro r w9 ⟨rfl,b0⟩;have a7:=hid (e5.out.trans (b0.mono (by omega)));have e7:=hid (e6.out.keep b0);have j7:=b0.size;clear b0 e5 e6 c0;rcases Zd (Pr.Kf 112 s0.data.toList) with ⟨a,j⟩ | ⟨pc,a,j⟩
 ·have m:Hid (brO (Pr.Cl t)=none):=by show _=_;unfold Pr.Cl;simp only [l.out,n.out,u.out,D.out,U.out,Option.bind_none,Option.bind_some,List.getD_cons_zero,a];rfl
  have f:=hid (o.out.trans (a7.out.mono (by omega)));rw [j];clear a j;unfold Ae;go_wp2_with fail;exact ⟨rfl,f.out,.inl ⟨m.out,rfl⟩⟩
 rw [j];have a8:=hid a;have j8:=Pr.Za a;clear a j;go_wp2_with fail;refine (Tq pc x3.toNat _ g9 (by omega)).mono ?_;rintro r a3 ⟨k,⟨b7,rfl⟩ | ⟨cl,pl,v1,v2,b8,rfl,c7,c8,h9,i0⟩⟩
 ·have m:Hid (brO (Pr.Cl t)=none):=by show _=_;unfold Pr.Cl;simp only [l.out,n.out,u.out,D.out,U.out,Option.bind_none,Option.bind_some,List.getD_cons_zero,a8.out,b7];rfl
  have f:=hid (o.out.trans ((a7.out.trans (k.mono (by omega))).mono (by omega)));clear k b7;unfold Ae;go_wp2_with fail;exact ⟨rfl,f.out,.inl ⟨m.out,rfl⟩⟩
 have V:=hid b8;have W:=hid (a7.out.trans (k.mono (by omega)));have X:=hid (e7.out.keep k);have i3:=k.size;obtain ⟨F,G,rfl⟩:=Ab c7;obtain ⟨H,I,rfl⟩:=c8.shape;have b1:=hid (Fu (Fu c7 (b:=d.heap.size) (i:=2) (by omega) (.slice F cl.length G)) (b:=d.heap.size) (i:=3) (by omega) (.slice H pl.length I));have b2:=hid ((c8.setBelow (b:=d.heap.size) (i:=2) (by omega) (.slice F cl.length G)).setBelow (b:=d.heap.size) (i:=3) (by omega) (.slice H pl.length I));have b3:=hid ((X.out.set2 (.slice F cl.length G)).set3 (.slice H pl.length I));have y:=hid ((W.out.setCell (p:=⟨d.heap.size,2,none⟩) (Nat.le_refl _) (.slice F cl.length G)).setCell (p:=⟨d.heap.size,3,none⟩) (Nat.le_refl _) (.slice H pl.length I));obtain ⟨-,-,m2,m3,-,-,-,z2,z3,-⟩:=X.out.cells;have Y:((a3.setCell ⟨d.heap.size,2,none⟩ (.slice F cl.length G)).setCell ⟨d.heap.size,3,none⟩ (.slice H pl.length I)).heap.size=a3.heap.size:=by rw [Aci,Aci]
 have e8:Hid (a3.heap.size<=((a3.setCell ⟨d.heap.size,2,none⟩ (.slice F cl.length G)).setCell ⟨d.heap.size,3,none⟩ (.slice H pl.length I)).heap.size):=Nat.le_of_eq Y.symm;have h2:=W.out.cell (p:=⟨g,1,none⟩) h7 |>.trans h1.out;have j9:¬g=d.heap.size:=by omega
 clear b8 k c7 c8 W X a7 e7 Y;go_wp2_with fail;generalize (a3.setCell ⟨d.heap.size,2,none⟩ (.slice F cl.length G)).setCell ⟨d.heap.size,3,none⟩ (.slice H pl.length I)=k5 at*;have Y:=e8.out;refine (Aiz 109 s1 _).mono ?_;rintro r a4 ⟨rfl,a5⟩;have Z:=hid a5;have i4:=a5.size;clear a5 m2 m3 z2 z3 h2;rcases Zd (Pr.Kf 109 s1.data.toList) with ⟨a,j⟩ | ⟨mc,a,j⟩
 ·have m:Hid (brO (Pr.Cl t)=none):=by show _=_;unfold Pr.Cl;simp only [l.out,n.out,u.out,D.out,U.out,Option.bind_none,Option.bind_some,List.getD_cons_zero,List.getD_cons_succ,a8.out,V.out,a];rfl
  have f:=hid (o.out.trans ((y.out.trans (Z.out.mono (by omega))).mono (by omega)));rw [j];clear a j;unfold Ae;go_wp2_with fail;exact ⟨rfl,f.out,.inl ⟨m.out,rfl⟩⟩
 rw [j];have e9:=hid a;have k0:=Pr.Za a;clear a j;go_wp2_with fail;refine (Dx mc _).mono ?_;rintro r g8 ⟨rfl,rfl⟩;have b4:=hid (Nv a4 mc);have a0:=hid (Z.out.alloc (by omega) (.cells #[.string ⟨mc.toArray⟩] 298));have i5:a4.heap.size < (a4.alloc (.cells #[.string ⟨mc.toArray⟩] 298)).heap.size:=by simp
 generalize a4.alloc (.cells #[.string ⟨mc.toArray⟩] 298)=g8 at*;generalize a4.heap.size=mb at*;clear Z;have HC:=hid (Vv mb mc g8 b4.out (by omega));go_wp2_with fail;refine HC.out.mono ?_;rintro r c9 ⟨s,⟨b9,rfl⟩ | ⟨ml,v4,u14,c2,rfl,d0,i1,c3⟩⟩
 ·have m:Hid (brO (Pr.Cl t)=none):=by show _=_;unfold Pr.Cl;simp only [l.out,n.out,u.out,D.out,U.out,Option.bind_none,Option.bind_some,List.getD_cons_zero,List.getD_cons_succ,a8.out,V.out,e9.out,b9];rfl
  have f:=hid (o.out.trans ((y.out.trans ((Ai a0.out s (by omega) (by omega)).mono (by omega))).mono (by omega)));clear s b9;unfold Ae;go_wp2_with fail;exact ⟨rfl,f.out,.inl ⟨m.out,rfl⟩⟩
 have z:Hid (brO (Pr.Cl t)=if u14=[] then some (2,plain [],cl,lists pl,plainCh ml) else none):=by
  show _=_;unfold Pr.Cl;simp only [l.out,n.out,u.out,D.out,U.out,Option.bind_some,List.getD_cons_zero,List.getD_cons_succ,a8.out,V.out,e9.out,c2];split <;> rfl
 have q:=hid (Ai a0.out s (by omega) (by omega));have i6:=s.size;obtain ⟨A,B,rfl⟩:=Ab d0;have a1:=hid (b3.out.below q.out (by omega));have b5:=hid (y.out.trans (q.out.mono (by omega)));have f0:=hid (Fu (Aa b1.out q.out (Nat.le_refl _)) (b:=d.heap.size) (i:=4) (by omega) (.slice A ml.length B));have f1:=hid (Av.setBelow (b2.out.below q.out (Nat.le_refl _)) (b:=d.heap.size) (i:=4) (by omega) (.slice A ml.length B));have f2:=hid (Fu d0 (b:=d.heap.size) (i:=4) (by omega) (.slice A ml.length B));have f3:=hid (a1.out.set4 (.slice A ml.length B));have a2:=hid (b5.out.setCell (p:=⟨d.heap.size,4,none⟩) (Nat.le_refl _) (.slice A ml.length B));have f4:=hid (c3.setOther (c:=d.heap.size) (i:=4) (by omega) (.slice A ml.length B));have f5:Hid (c9.heap.size<=(c9.setCell ⟨d.heap.size,4,none⟩ (.slice A ml.length B)).heap.size):=Nat.le_of_eq (Aci _ _ _).symm;obtain ⟨-,-,-,-,m4,-,-,-,-,z4⟩:=a1.out.cells;clear c2 s c3 d0 HC a0 b4 a1 b5 q b1 b2 b3 y;go_wp2_with fail;generalize c9.setCell ⟨d.heap.size,4,none⟩ (.slice A ml.length B)=i2 at*;have i7:=f5.out;refine (Yx mb u14 i2 f4.out).mono ?_;rintro r k4 ⟨rfl,rfl⟩;clear m4 z4;by_cases hu:u14=[]
 ·rw [if_pos hu] at z ⊢;clear hu;have b6:=hid (h0.out.below a2.out (by omega));obtain ⟨r0,r1,r2,r3,r4,y0,y1,y2,y3,y4⟩:=b6.out.cells;obtain ⟨m0,m1,m2,m3,m4,-⟩:=f3.out.cells;have f:=hid (Gi (o.out.trans (a2.out.mono (by omega))) (Nat.le_refl _) (.int .i64 2) (.slice none 0 0) (.slice F cl.length G) (.slice H pl.length I) (.slice A ml.length B));have h3:=hid (b6.out.put (.int .i64 2) (.slice none 0 0) (.slice F cl.length G) (.slice H pl.length I) (.slice A ml.length B));have h4:=hid (Al (Ks f0.out (b:=w.heap.size) (by omega) (.int .i64 2) (.slice none 0 0) (.slice F cl.length G) (.slice H pl.length I) (.slice A ml.length B)) (C:=w.heap.size) (by omega));have h5:=hid (Al (Ks f1.out (b:=w.heap.size) (by omega) (.int .i64 2) (.slice none 0 0) (.slice F cl.length G) (.slice H pl.length I) (.slice A ml.length B)) (C:=w.heap.size) (by omega));have h6:=hid (Al (Ks f2.out (b:=w.heap.size) (by omega) (.int .i64 2) (.slice none 0 0) (.slice F cl.length G) (.slice H pl.length I) (.slice A ml.length B)) (C:=w.heap.size) (by omega));go_wp2_with fail;refine bodyPost_ret (v:= .agg #[.int .i64 2,.slice none 0 0,.slice F cl.length G,.slice H pl.length I,.slice A ml.length B]) ?_ rfl ⟨f.out,.inr ⟨2,[],cl,pl,ml,_,z.out,rfl,⟨_,_,_,_,rfl,World.ownsRow_nil _ _ _ _,h4.out,h5.out,h6.out,by simp,h9,i0,i1⟩,Ape _ _ _⟩⟩;obtain ⟨q0,q1,q2,q3,q4⟩:=Cb h3.out;unfold Hm at q0 q1 q2 q3 q4;simp [results,Tryz.results200,go_sem,q0,q1,q2,q3,q4]
 ·rw [if_neg hu] at z ⊢;clear hu;have f:=hid (o.out.trans (a2.out.mono (by omega)));unfold Ae;go_wp2_with fail;exact ⟨rfl,f.out,.inl ⟨z.out,rfl⟩⟩
structure HoM (w:World) (n:Int) (q:Nat) (lo hi:ByteArray) (kd:Int) (v1 v2 v3 v4:Value) (il:List (ByteArray×ByteArray)) (pl:List ByteArray) (ml:List (Int×ByteArray×ByteArray)) (W:World):Prop where
 bel:Below w.heap.size w W
 tk:TkB W w.heap.size n q lo hi
 nd:Bd W (w.heap.size+1) (.int .i64 kd) v1 v2 v3 v4
 its:Ak 0 W v1 il
 pvs:Av 0 W v3 pl
 chs:Au 0 W v4 ml
theorem HoM.below {w:World} {n:Int} {q:Nat} {lo hi:ByteArray} {kd:Int} {v1 v2 v3 v4:Value} {il:List (ByteArray×ByteArray)} {pl:List ByteArray} {ml:List (Int×ByteArray×ByteArray)} {W W':World} (h:HoM w n q lo hi kd v1 v2 v3 v4 il pl ml W) (a:Below W.heap.size W W'):HoM w n q lo hi kd v1 v2 v3 v4 il pl ml W':=
 ⟨h.bel.trans (a.mono h.bel.size),h.tk.keep a,h.nd.keep a,Aa h.its a (Nat.le_refl _),Aa h.pvs a (Nat.le_refl _),Aa h.chs a (Nat.le_refl _)⟩
theorem Afh {w:World} {n:Int} {q:Nat} {lo hi:ByteArray} {kd:Int} {v1 v2 v3 v4:Value} {il:List (ByteArray×ByteArray)} {pl:List ByteArray} {ml:List (Int×ByteArray×ByteArray)} (j:Ak 0 w v1 il) (k:Av 0 w v3 pl) (l:Au 0 w v4 ml):HoM w n q lo hi kd v1 v2 v3 v4 il pl ml ((w.alloc (.cells #[.int .i64 n,.pointer (some ⟨q,0,none⟩),.string lo,.string hi] 154)).alloc (.cells #[.int .i64 kd,v1,v2,v3,v4] 79)):=by
 have c:Below w.heap.size w (w.alloc (.cells #[.int .i64 n,.pointer (some ⟨q,0,none⟩),.string lo,.string hi] 154)):=(Below.refl _ w).alloc (Nat.le_refl _) _;have g:TkB (w.alloc (.cells #[.int .i64 n,.pointer (some ⟨q,0,none⟩),.string lo,.string hi] 154)) w.heap.size n q lo hi:=heap_alloc_new _ _;have i:(w.alloc (.cells #[.int .i64 n,.pointer (some ⟨q,0,none⟩),.string lo,.string hi] 154)).heap.size=w.heap.size+1:=by simp
 generalize w.alloc (.cells #[.int .i64 n,.pointer (some ⟨q,0,none⟩),.string lo,.string hi] 154)=a at*;have d:Below a.heap.size a (a.alloc (.cells #[.int .i64 kd,v1,v2,v3,v4] 79)):=(Below.refl _ a).alloc (Nat.le_refl _) _;have b:=c.trans (d.mono c.size);have f:=Bw a (.int .i64 kd) v1 v2 v3 v4;rw [i] at f;exact ⟨b,g.keep d,f,Aa j b (Nat.le_refl _),Aa k b (Nat.le_refl _),Aa l b (Nat.le_refl _)⟩
set_option maxHeartbeats 1000000 in
set_option maxRecDepth 20000 in
theorem Akn (n:Int) (q:Nat) (lo hi:ByteArray) (kd:Int) (v1 v2 v3 v4:Value) (il:List (ByteArray×ByteArray)) (pl:List ByteArray) (ml:List (Int×ByteArray×ByteArray)) (w:World) (h1:Ak 0 w v1 il) (h3:Av 0 w v3 pl) (h4:Au 0 w v4 ml) (l1:il.length<=1100) (l3:pl.length<=1000) (l4:ml.length<=1000):
  Calls Tryz.prog 135 #[.agg #[.int .i64 n,.pointer (some ⟨q,0,none⟩),.string lo,.string hi],.agg #[.int .i64 kd,v1,v2,v3,v4]] w fun r w'=> r= .returned (.bool (Aah lo.data.toList hi.data.toList il ml pl))/\Below w.heap.size w w':=by
 have O:=hid (Afh (n:=n) (q:=q) (lo:=lo) (hi:=hi) (kd:=kd) (v2:=v2) h1 h3 h4);obtain ⟨S,T,rfl⟩:=Ab h1;obtain ⟨U,V,rfl⟩:=Ab h4;obtain ⟨W,X,rfl⟩:=Ab h3;clear h1 h3 h4;go_enter Tryz.func135,Tryz.ntmps135;go_wp2_with fail;generalize (w.alloc (.cells #[.int .i64 n,.pointer (some ⟨q,0,none⟩),.string lo,.string hi] 154)).alloc (.cells #[.int .i64 kd,.slice S il.length T,v2,.slice W pl.length X,.slice U ml.length V] 79)=w0 at*
 go_loopw [12] (fun F wr=>∃i:Nat,F= .int .i64 (i:Nat)/\i<=il.length/\(∀x∈il.take i,De lo.data.toList hi.data.toList x.1.data.toList=true)/\HoM w n q lo hi kd (.slice S il.length T) v2 (.slice W pl.length X) (.slice U ml.length V) il pl ml wr) (fun F _=> il.length - (intOf F).toNat)
 case atStart=> exact ⟨0,rfl,Nat.zero_le _,fun c hc=> by simp at hc,O.out⟩
 case round=>
  obtain ⟨i,rfl,I,D,f⟩:=hrel;have G:=hid D;have M:=hid f;obtain ⟨t0,t1,t2,t3,-⟩:=f.tk.cells;obtain ⟨n0,n1,n2,n3,n4,-⟩:=f.nd.cells;by_cases d:i < il.length
  ·obtain ⟨g,Y,e,Z,-,hg,d0,d1⟩:=f.its.at i d;simp only [Value.slice.injEq] at e;obtain ⟨rfl,-,rfl⟩:=e;have u:Hid (il.take (i+1)=il.take i++[il[i]'d]):=by
    show _=_;rw [List.take_add_one,List.getElem?_eq_getElem d];rfl
   have k:=hid (List.getElem_mem d);generalize il[i]'d=x at*;obtain ⟨s,J⟩:=x;have l:Below wr.heap.size wr (wr.alloc (.cells #[.string s,.string J] 51)):=(Below.refl _ wr).alloc (Nat.le_refl _) _;have j:=hid (f.below l);obtain ⟨q0,q1,q2,q3,-⟩:=j.out.tk.cells;have o:=hid (Ad4 n q lo hi s (wr.alloc (.cells #[.string s,.string J] 51)));clear D f l
   cases b:De lo.data.toList hi.data.toList s.data.toList with
   | false=>
    have H:Hid (Aah lo.data.toList hi.data.toList il ml pl=false):=by
     show _=_;unfold Aah;have:il.all (fun x=> De lo.data.toList hi.data.toList x.1.data.toList)=false:=Bool.eq_false_iff.2 fun z=> by
      have:=List.all_eq_true.1 z _ k.out;rw [b] at this;cases this
     rw [this];rfl
    rw [b] at o;clear b;go_wp2_with fail;refine o.out.mono ?_;rintro r N ⟨rfl,a⟩;have m:=hid ((j.out.below a).bel);clear a;go_wp2_with fail;go_ret;exact ⟨by rw [H.out];rfl,m.out⟩
   | true=>
    have y:Hid (∀x∈il.take (i+1),De lo.data.toList hi.data.toList x.1.data.toList=true):=fun x L=> by
     rw [u.out] at L;rcases List.mem_append.1 L with z | z
     ·exact G.out x z
     ·rw [List.mem_singleton.1 z];exact b
    rw [b] at o;clear b;go_wp2_with fail;refine o.out.mono ?_;rintro r N ⟨rfl,a⟩;have A:=hid (j.out.below a);clear a;go_wp2_with fail;exact ⟨⟨i+1,by go_num,by omega,y.out,A.out⟩,by simp [intOf];omega⟩
  ·have B:i=il.length:=(by omega);subst B;have t:Hid (il.all (fun x=> De lo.data.toList hi.data.toList x.1.data.toList)=true):=by
    have:=G.out;rw [List.take_length] at this;exact List.all_eq_true.2 this
   clear D f G I d;go_wp2_with fail
   go_loopw [25] (fun F wr=>∃i:Nat,F= .int .i64 (i:Nat)/\i<=ml.length/\(∀x∈ml.take i,De lo.data.toList hi.data.toList x.2.1.data.toList=true)/\HoM w n q lo hi kd (.slice S il.length T) v2 (.slice W pl.length X) (.slice U ml.length V) il pl ml wr) (fun F _=> ml.length - (intOf F).toNat)
   case atStart=> exact ⟨0,rfl,Nat.zero_le _,fun c hc=> by simp at hc,M.out⟩
   case round=>
    clear M t0 t1 t2 t3 n0 n1 n2 n3 n4;obtain ⟨i,rfl,I,D,f⟩:=hrel;have G:=hid D;have M:=hid f;obtain ⟨t0,t1,t2,t3,-⟩:=f.tk.cells;obtain ⟨n0,n1,n2,n3,n4,-⟩:=f.nd.cells;by_cases d:i < ml.length
    ·obtain ⟨g,Y,e,Z,-,hg,d0,d1,d2⟩:=Au.at f.chs i d;simp only [Value.slice.injEq] at e;obtain ⟨rfl,-,rfl⟩:=e;have u:Hid (ml.take (i+1)=ml.take i++[ml[i]'d]):=by
      show _=_;rw [List.take_add_one,List.getElem?_eq_getElem d];rfl
     have k:=hid (List.getElem_mem d);generalize ml[i]'d=x at*;obtain ⟨xc,s,J⟩:=x;simp only at d0 d1 d2;have l:Below wr.heap.size wr (wr.alloc (.cells #[.int .i64 xc,.string s,.string J] 34)):=(Below.refl _ wr).alloc (Nat.le_refl _) _;have j:=hid (f.below l);obtain ⟨q0,q1,q2,q3,-⟩:=j.out.tk.cells;have o:=hid (Ad4 n q lo hi s (wr.alloc (.cells #[.int .i64 xc,.string s,.string J] 34)));clear D f l
     cases b:De lo.data.toList hi.data.toList s.data.toList with
     | false=>
      have H:Hid (Aah lo.data.toList hi.data.toList il ml pl=false):=by
       show _=_;unfold Aah;have:ml.all (fun x=> De lo.data.toList hi.data.toList x.2.1.data.toList)=false:=Bool.eq_false_iff.2 fun z=> by
        have:=List.all_eq_true.1 z _ k.out;rw [b] at this;cases this
       rw [this,t.out];rfl
      rw [b] at o;clear b;go_wp2_with fail;refine o.out.mono ?_;rintro r N ⟨rfl,a⟩;have m:=hid ((j.out.below a).bel);clear a;go_wp2_with fail;go_ret;exact ⟨by rw [H.out];rfl,m.out⟩
     | true=>
      have y:Hid (∀x∈ml.take (i+1),De lo.data.toList hi.data.toList x.2.1.data.toList=true):=fun x L=> by
       rw [u.out] at L;rcases List.mem_append.1 L with z | z
       ·exact G.out x z
       ·rw [List.mem_singleton.1 z];exact b
      rw [b] at o;clear b;go_wp2_with fail;refine o.out.mono ?_;rintro r N ⟨rfl,a⟩;have A:=hid (j.out.below a);clear a;go_wp2_with fail;exact ⟨⟨i+1,by go_num,by omega,y.out,A.out⟩,by simp [intOf];omega⟩
    ·have B:i=ml.length:=(by omega);subst B;have C:Hid (ml.all (fun x=> De lo.data.toList hi.data.toList x.2.1.data.toList)=true):=by
      have:=G.out;rw [List.take_length] at this;exact List.all_eq_true.2 this
     have R:=hid (Aff _ pl w.heap.size n q lo hi wr f.pvs l3 f.tk);have H:Hid (Aah lo.data.toList hi.data.toList il ml pl=pl.all (fun p=> De lo.data.toList hi.data.toList p.data.toList)):=by
      show _=_;unfold Aah;rw [t.out,C.out];rfl
     clear D f;generalize pl.all (fun p=> De lo.data.toList hi.data.toList p.data.toList)=bb at*;go_wp2_with fail;refine R.out.mono ?_;rintro r N ⟨rfl,a⟩;have m:=hid ((M.out.below a).bel);clear a;go_wp2_with fail;go_ret;exact ⟨by rw [H.out];simp,m.out⟩
end Go.Proofs.YtolgpnaoaodepaaGreat
