import Derived.Test.YtolgpnaoaodepaaGreatWalkAJm
set_option maxHeartbeats 1000000
set_option maxRecDepth 20000
namespace Go.Proofs.YtolgpnaoaodepaaGreat
open Go.RowKit Ld
theorem Abu(A:Int)(c:Nat)(k j:hJ)(G:Int)(g1 g2 g3 g4:Value)(d:hF)(g:hD)(w:World)(k2:Ax w c Z_ Z_ Z_)(k3:w.ownsRow 0 3 1 g2 d.length (Cl d))(X:Bc 0 w g3 g)(n2:∃f7 f8 a5,g1=L_ f7 f8 a5)(n3:∃f7 f8 a5,g4=L_ f7 f8 a5)(n4:d=[]/\g=[]\/g.length+1=d.length)(q3:d.length<=1000):
  Calls Tryz.prog 136 #[.agg #[J_ A,A_ c,B_ k,B_ j],.agg #[J_ G,g1,g2,g3,g4]] w fun j8 W=>∃a e2 b5,j8=R_ e2/\a.length=d.length/\FiM w A c k j G g1 g2 g3 g4 d g a (Gq a) e2 b5 W:=by
 obtain⟨p,q,r,rfl⟩:=n2;obtain⟨s,t,u,rfl⟩:=n3;obtain⟨N,F,rfl⟩:=Ad k3;obtain⟨I,J,rfl⟩:=Ad X;have g5:=k2.lt;have e3:Below w.heap.size w (w.alloc (C_ #[J_ A,A_ c,B_ k,B_ j] 154)):=(xA _ w).alloc X_ _;have g6:TkB (w.alloc (C_ #[J_ A,A_ c,B_ k,B_ j] 154)) w.heap.size A c k j:=xK _ _;have g7:(w.alloc (C_ #[J_ A,A_ c,B_ k,B_ j] 154)).heap.size=w.heap.size+1:=D_
 go_in;go_upto_region 1 with fail;generalize w.alloc (C_ #[J_ A,A_ c,B_ k,B_ j] 154)=a0 at*;have e4:Below a0.heap.size a0 (a0.alloc (C_ #[J_ G,L_ p q r,L_ N d.length F,L_ I g.length J,L_ s t u] 79)):=(xA _ a0).alloc X_ _;have e5:=Cz a0 (J_ G) (L_ p q r) (L_ N d.length F) (L_ I g.length J) (L_ s t u);have k4:(a0.alloc (C_ #[J_ G,L_ p q r,L_ N d.length F,L_ I g.length J,L_ s t u] 79)).heap.size=a0.heap.size+1:=D_
 rw[g7]at e5;generalize a0.alloc (C_ #[J_ G,L_ p q r,L_ N d.length F,L_ I g.length J,L_ s t u] 79)=a1 at*;have c1:=Aa (e3.trans (e4.mono e3.size));have d2:=Aa (g6.keep e4);have d3:=Aa e5;have a7:Hid (Ax a1 c Z_ Z_ Z_):=(c1.o.block c g5).trans k2;have B:Hid (a1.ownsRow 0 3 1 (L_ N d.length F) d.length (Cl d)):=Ae k3 c1.o X_;have e6:Hid (Bc 0 a1 (L_ I g.length J) g):=Ae X c1.o X_;obtain⟨b2,a4,b3,b4,-⟩:=d2.o.cells;obtain⟨O,R,S,T,U,-⟩:=d3.o.cells;obtain⟨l3,i2,l4,l5,l6,l7⟩:=a7.o.cells;have n5:((Q_ c 0):Addr)≠(Q_ w.heap.size 1):=D_;have k5:c≠w.heap.size:=O_;have k6:c≠w.heap.size+1:=O_;clear e3 e4 g6 e5 g7 k4;have a8:Hid (∀m:World,Ax m c (L_ p q r) Z_ (L_ s t u)->Mod (fun c9=>c9=c) a1 m->FiM w A c k j G (L_ p q r) (L_ N d.length F) (L_ I g.length J) (L_ s t u) d g [] [] Z_ Z_ m):=fun m m8 d0=>
  ⟨(d0.block _ d2.o.lt (fun b=>k5 b.symm)).trans d2.o,(d0.block _ d3.o.lt (fun b=>k6 b.symm)).trans d3.o,m8,⟨rfl,.inl ⟨rfl,rfl⟩⟩,⟨rfl,.inl ⟨rfl,rfl⟩⟩,d0.row B.o (fun m9 b f5=>Bg a7.o B.o Do (by rw[<-f5];exact b)),d0.row e6.o (fun m9 b f5=>Bg a7.o e6.o Do (by rw[<-f5];exact b)),rfl,D_,D_,(Mod.of_below (F:=fun _=>False) c1.o).trans d0 (fun _ _ b=>b.elim) (fun _ _ b=>b),g5,fun _=>rfl⟩
 have g8:=Aa ((a7.o.seti (L_ p q r)).setc (L_ s t u));have g9:=Aa ((a7.o.setc (L_ s t u)).seti (L_ p q r));have a9:Hid (Mod (fun c9=>c9=c) a1 ((a1.setCell (Q_ c 0) (L_ p q r)).setCell (Q_ c 2) (L_ s t u))):=(Mod.setCell _ _ _ _).trans (Mod.setCell _ _ _ _) (fun _ _ b=>b) (fun _ _ b=>b);have b0:Hid (Mod (fun c9=>c9=c) a1 ((a1.setCell (Q_ c 2) (L_ s t u)).setCell (Q_ c 0) (L_ p q r))):=(Mod.setCell _ _ _ _).trans (Mod.setCell _ _ _ _) (fun _ _ b=>b) (fun _ _ b=>b)
 go_cut [5] (fun _ m=>FiM w A c k j G (L_ p q r) (L_ N d.length F) (L_ I g.length J) (L_ s t u) d g [] [] Z_ Z_ m)
 case first=>
  go_region_held3 (fun W=>W.cell? (Q_ w.heap.size 1)=some (A_ c)/\W.cell? (Q_ (w.heap.size+1) 1)=some (L_ p q r)/\W.cell? (Q_ (w.heap.size+1) 4)=some (L_ s t u)) (go_keep) (fail)
  all_goals
   go_wp2_with fail;go_meet
   first
    | exact a8.o _ g8.o ⟨a9.o.os,a9.o.tape,a9.o.output,a9.o.size,a9.o.block⟩
    | exact a8.o _ g9.o ⟨b0.o.os,b0.o.tape,b0.o.output,b0.o.size,b0.o.block⟩
 case rest=>
  have z:=Aa hcut;clear a8 g8 g9 a9 b0 b2 a4 b3 b4 O R S T U l3 i2 l4 l5 l6 l7 hcut c1 d2 d3 a7 B e6;obtain⟨O,R,S,T,U,-⟩:=z.o.nd.cells;go_wp2_with fail
  go_loopw [24,5] (fun f6 e2 wr=>∃(a:List TkM) (b5:Value),f6=J_ a.length/\a.length<=d.length/\FiM w A c k j G (L_ p q r) (L_ N d.length F) (L_ I g.length J) (L_ s t u) d g a (Gq a) e2 b5 wr) (fun f6 _ _=>d.length-(intOf f6).toNat)
  case atStart=>exact⟨[],_,rfl,Y_,z.o⟩
  case round=>
   clear O R S T U z;obtain⟨a,b5,rfl,o8,i3⟩:=hrel;have z:=Aa i3;clear i3;obtain⟨O,R,S,T,U,-⟩:=z.o.nd.cells;obtain⟨b2,a4,b3,b4,-⟩:=z.o.tk.cells;have n6:=z.o.tk.lt;have k7:=z.o.nd.lt;by_cases a6:a.length<d.length
   ·obtain⟨b6,i4,i5,o9,p0⟩:∃b6 i4,Value.slice N d.length F=L_ (P_ b6) d.length i4/\b6<wr.heap.size/\wr.cell? (Q_ b6 a.length)=some (J_ ((d[a.length]'a6:Nat):Int)):=by
     rcases z.o.kid.2 with⟨_,h0⟩|⟨k0,m7,q1,k1,_,c7,_⟩
     ·omega
     ·have:=zD z.o.kid (g:=k0) (by rw[k1];rfl) a.length (J_ ((d[a.length]'a6:Nat):Int)) (by simp[Cl,a6]);rw[Gv]at this;exact⟨k0,m7,k1,(xS.1 c7).1,by simpa using this⟩
    simp only[xJ,yB]at i5;obtain⟨rfl,rfl⟩:=i5;generalize f9:d[a.length]'a6=n at*;have n7:g.length+1=d.length:=by
     rcases n4 with⟨b,_⟩|b
     ·rw[b]at a6;simp at a6
     ·exact b
    have d4:a.length<(Gh k j g).length:=(by rw[Ms];omega);have h1:(List.zipWith (fun a5 n0=>(a5,n0)) d (Gh k j g))[a.length]?=some (n,(Gh k j g)[a.length]'d4):=(by rw[gJ,xW a6,xW d4,f9]);have h2:=EX g k j a.length d4;generalize(Gh k j g)[a.length]'d4=e0 at*;obtain⟨f,o⟩:=e0;simp only[kL]at h2;obtain⟨i6,i7⟩:=h2;have k8:=Aa h1;have n8:=Aa f9;have a8:=Aa i6;have h3:=Aa i7;clear h1 f9 i6 i7;have d5:Hid (Below wr.heap.size wr ((wr.alloc (C_ #[Z_,Z_,Z_] 123)).alloc (C_ #[J_ (n:Nat),A_ wr.heap.size,B_ k,B_ j] 154))):=((xA _ wr).alloc X_ _).alloc D_ _;have e7:Hid (Ax ((wr.alloc (C_ #[Z_,Z_,Z_] 123)).alloc (C_ #[J_ (n:Nat),A_ wr.heap.size,B_ k,B_ j] 154)) wr.heap.size Z_ Z_ Z_):=(kR _ _ _ D_).trans (xK _ _);have c2:Hid (TkB ((wr.alloc (C_ #[Z_,Z_,Z_] 123)).alloc (C_ #[J_ (n:Nat),A_ wr.heap.size,B_ k,B_ j] 154)) (wr.heap.size+1) (n:Nat) wr.heap.size k j):=(by have h:(wr.alloc (C_ #[Z_,Z_,Z_] 123)).heap.size=wr.heap.size+1:=D_;show TkB _ _ _ _ _ _;rw[<-h];exact xK _ _);have d6:Hid (∀m:World,Below wr.heap.size wr m->FiM w A c k j G (L_ p q r) (L_ (P_ b6) d.length F) (L_ I g.length J) (L_ s t u) d g a (Gq a) u5 b5 m):=fun m n1=>z.o.below n1
    go_upto_if 38 with fail;generalize(wr.alloc (C_ #[Z_,Z_,Z_] 123)).alloc (C_ #[J_ (n:Nat),A_ wr.heap.size,B_ k,B_ j] 154)=d1 at*
    go_cut [] (fun m=>Below wr.heap.size wr m/\TkB m (wr.heap.size+1) (n:Nat) wr.heap.size f j/\Ax m wr.heap.size Z_ Z_ Z_)
    case first=>
     clear O R S T U b2 a4 b3 b4;have H:=d6.o d1 d5.o;obtain⟨O,R,S,T,U,-⟩:=H.nd.cells;by_cases h0:0<a.length
     ·have d7:a.length-1<g.length:=O_;obtain⟨l8,l9,c5,m0,-,m1,f3⟩:=H.piv.at (a.length-1) d7;simp only[xJ,yB]at c5;obtain⟨rfl,rfl⟩:=c5;have d8:f=g[a.length-1]'d7:=(by have:=a8.o;rw[wC h0]at this;exact this);rw[<-d8]at f3;clear d8;obtain⟨b7,b8,b9,c0,c6⟩:=c2.o.cells;have n9:=c6 2;have h4:=c2.o.lt;have e8:Hid (Below wr.heap.size wr (d1.setCell (Q_ (wr.heap.size+1) 2) (B_ f))/\TkB (d1.setCell (Q_ (wr.heap.size+1) 2) (B_ f)) (wr.heap.size+1) (n:Nat) wr.heap.size f j/\Ax (d1.setCell (Q_ (wr.heap.size+1) 2) (B_ f)) wr.heap.size Z_ Z_ Z_):=by
       refine⟨d5.o.setCell (p:=(Q_ (wr.heap.size+1) 2)) D_ _,?_,(Mod.setCell d1 _ _ _).nod e7.o (fun b=>O_)⟩;have X:=c2.o;unfold TkB at X⊢;rw[Ak (i:=2) X];rfl
      have o0:IntKind.i64.wrap ((a.length:Int)-1)=((a.length-1:Nat):Int):=(by rw[yZ];omega);clear H c6;go_wp2_with fail;go_meet;exact e8.o
     ·have d8:f=k:=(by have:=a8.o;rw[qK h0]at this;exact this);go_wp2_with fail;go_meet;exact⟨d5.o,by rw[d8];exact c2.o,e7.o⟩
    case rest=>
     have C:=Aa hcut;clear hcut d5 e7 c2 O R S T U b2 a4 b3 b4;have H:=d6.o _ C.o.1;obtain⟨O,R,S,T,U,-⟩:=H.nd.cells;obtain⟨b2,a4,b3,b4,-⟩:=H.tk.cells;obtain⟨b7,b8,b9,c0,c6⟩:=C.o.2.1.cells;have k9:=c6 3;have h4:=C.o.2.1.lt;clear H c6;go_upto_if 50 with fail
     go_cut [] (fun m=>Below wr.heap.size wr m/\TkB m (wr.heap.size+1) (n:Nat) wr.heap.size f o/\Ax m wr.heap.size Z_ Z_ Z_)
     case first=>
      by_cases h0:a.length<g.length
      ·have H:=d6.o _ C.o.1;obtain⟨l8,l9,c5,m0,-,m1,f3⟩:=H.piv.at a.length h0;simp only[xJ,yB]at c5;obtain⟨rfl,rfl⟩:=c5;have b1:o=g[a.length]'h0:=(by have:=h3.o;rw[wC h0]at this;exact this);rw[<-b1]at f3;clear b1 H;have e8:Hid (Below wr.heap.size wr (wc.setCell (Q_ (wr.heap.size+1) 3) (B_ o))/\TkB (wc.setCell (Q_ (wr.heap.size+1) 3) (B_ o)) (wr.heap.size+1) (n:Nat) wr.heap.size f o/\Ax (wc.setCell (Q_ (wr.heap.size+1) 3) (B_ o)) wr.heap.size Z_ Z_ Z_):=by
        refine⟨C.o.1.setCell (p:=(Q_ (wr.heap.size+1) 3)) D_ _,?_,(Mod.setCell wc _ _ _).nod C.o.2.2 (fun b=>O_)⟩;have X:=C.o.2.1;unfold TkB at X⊢;rw[Ak (i:=3) X];rfl
       go_wp2_with fail;go_meet;exact e8.o
      ·have b1:o=j:=(by have:=h3.o;rw[qK h0]at this;exact this);go_wp2_with fail;go_meet;exact⟨C.o.1,by rw[b1];exact C.o.2.1,C.o.2.2⟩
     case rest=>
      clear C O R S T U b2 a4 b3 b4 b7 b8 b9 c0 k9 h4;have B:=Aa hcut;clear hcut;obtain⟨b7,b8,b9,c0,-⟩:=B.o.2.1.cells;go_wp2_with fail;refine(OZ _ _ f o _).mono ?_;rintro j8 y ⟨rfl,c4⟩;have D:Hid (Below wr.heap.size wr y/\TkB y (wr.heap.size+1) (n:Nat) wr.heap.size f o/\Ax y wr.heap.size Z_ Z_ Z_):=⟨B.o.1.trans (c4.mono B.o.1.size),B.o.2.1.keep c4,(c4.block _ B.o.2.2.lt).trans B.o.2.2⟩;clear c4 B b7 b8 b9 c0;go_upto_if 58 with fail;have e9:=d6.o _ D.o.1;obtain⟨i8,i9,rfl⟩:=Ad e9.par;have L:=Aa e9;clear e9;have l0:Hid (wr.heap.size∉a.map (·.2.1)):=fun b=>by obtain⟨m2,m3,e⟩:=xL.1 b;have:=(z.o.nods m2 m3).1.lt;omega
      go_cut [] (fun m=>∃V,FiM w A c k j G (L_ p q r) (L_ (P_ b6) d.length F) (L_ I g.length J) (L_ s t u) d g a (Gq (a++[(n,wr.heap.size,f,o)])) u5 V m/\TkB m (wr.heap.size+1) (n:Nat) wr.heap.size f o/\Ax m wr.heap.size Z_ Z_ Z_)
      case first=>
       have h5:=Aa (TS a (n,wr.heap.size,f,o));generalize Cu f.data.toList o.data.toList=g0 at*;obtain rfl|rfl:g0=true\/g0=false:=by cases g0<;>simp
       ·have d9:Hid (Gq (a++[(n,wr.heap.size,f,o)])=Gq a++[(f,wr.heap.size)]):=by
         show _=_;rw[h5.o];rfl
        have h6:=(xA y.heap.size y.drew).alloc X_ (C_ #[B_ f,A_ wr.heap.size] 132);have e0:Below y.heap.size y y.drew:=(xA _ y).drew;have a2:=Aa (e0.trans (h6.mono X_));have h7:(y.drew.alloc (C_ #[B_ f,A_ wr.heap.size] 132)).heap[y.heap.size]?=some (C_ #[B_ f,A_ wr.heap.size] 132 (0,0)):=xK y.drew _;obtain⟨m4,j0,j1,j2,j3⟩:=zB Hu;have h8:Hid ((Gq a).length<=a.length):=(by show _<=_;unfold Gq;rw[xP];exact kU _ _);obtain⟨V,Y,j4,f4,c7,-,-⟩:=kY (P:=Tryz.prog) (y.drew.alloc (C_ #[B_ f,A_ wr.heap.size] 132)) (w.heap.size+2) 121 121 132 m4 _ 2 24 jP j0 j1 j2 j3 rfl Do (L_ i8 (Gq a).length i9) (Gq a).length (An (Gq a)) (Ae L.o.par a2.o X_) (Q_ y.heap.size 0) 1 1 [B_ f,A_ wr.heap.size] rfl (fun q2 j9 d7=>by rw[Dy];unfold World.cell?;simp only[h7,zR];simpa using d7) (by intro j9 c8;simp at c8;rcases c8 with rfl|rfl<;>rfl) (by have:=h8.o;unfold maxLen;omega) (by have:=h8.o;omega) (by have:=D.o.1.size;simp;omega)
        have a3:=Aa ((L.o.below a2.o).part (f,wr.heap.size) f4 c7);have c3:=Mod.of_grown c7;have M:=L.o.below a2.o;have f0:Hid (TkB Y (wr.heap.size+1) (n:Nat) wr.heap.size f o):=(c3.block _ (yF D.o.2.1.lt a2.o.size) (fun b=>Ag1 (D.o.2.1.keep a2.o) M.par Do b)).trans (D.o.2.1.keep a2.o);have f1:Ax (y.drew.alloc (C_ #[B_ f,A_ wr.heap.size] 132)) wr.heap.size Z_ Z_ Z_:=(a2.o.block _ D.o.2.2.lt).trans D.o.2.2;have e1:Hid (Ax Y wr.heap.size Z_ Z_ Z_):=c3.nod f1 (fun b=>Bg f1 M.par Do b);have h9:Hid (TkB (Y.setCell (Q_ c 1) V) (wr.heap.size+1) (n:Nat) wr.heap.size f o/\Ax (Y.setCell (Q_ c 1) V) wr.heap.size Z_ Z_ Z_):=⟨((Mod.setCell Y c 1 V).block _ f0.o.lt (fun b=>O_)).trans f0.o,(Mod.setCell Y c 1 V).nod e1.o (fun b=>O_)⟩;have i0:TkB Y w.heap.size A c k j:=(c3.block _ M.tk.lt (fun b=>by have:=(xF M.par _ b).1;omega)).trans M.tk;have f2:Ax Y c (L_ p q r) (L_ i8 (Gq a).length i9) (L_ s t u):=c3.nod M.nod (fun b=>Bg M.nod M.par Do b);obtain⟨b7,b8,b9,c0,-⟩:=D.o.2.1.cells;obtain⟨-,a4,-⟩:=L.o.tk.cells;obtain⟨-,i2,-⟩:=L.o.nod.cells;obtain⟨-,p1,-⟩:=i0.cells;obtain⟨-,p2,p3,-⟩:=f0.o.cells;obtain⟨-,p4,-,-,p5,-⟩:=f2.cells;have o1:=L.o.tk.lt;have o2:=L.o.nod.lt;have o3:=D.o.2.1.lt;have c4:=f2.lt;have o4:c≠wr.heap.size+1:=O_;have i1:=Aa j4;have l1:Hid (∃x a5,V=L_ x ((Gq a).length+1) a5):=Ad f4;clear h6 e0 h7 j0 j1 j2 j3 j4 f4 c7 c3 M f1 i0 f2;obtain⟨p6,p7,rfl⟩:=l1.o;go_wp2_with fail;refine wp_region_held_drew (S:=(fun W:World=>W.cell? (Q_ w.heap.size 1)=some (A_ c)/\W.cell? (Q_ (wr.heap.size+1) 1)=some (A_ wr.heap.size)/\W.cell? (Q_ (wr.heap.size+1) 2)=some (B_ f))) S_ (by go_keep) (fun Z=> ?_);refine zL (i:=0) (oi:=?coi1) (v:=?cv1) ?cop1 S_ S_ S_ ?cq1 (Or.inl ⟨?cg1,?cy1⟩) V_ ?cr1
        case cop1=>simp only[yJ,yI];rfl
        case cq1=>exact fun _ _ _ h=>h
        case cg1=>rfl
        case cy1=>intro w i;(try dsimp only at i);go_simp;try(with_reducible rfl)
        simp only[Act.put,zH,zF,zE];refine zL (i:=1) (oi:=?coi2) (v:=?cv2) ?cop2 S_ S_ S_ ?cq2 (Or.inl ⟨?cg2,?cy2⟩) V_ ?cr2
        case cop2=>simp only[yJ,yI,yH];rfl
        case cq2=>exact fun _ _ _ h=>h
        case cg2=>rfl
        case cy2=>intro w i;(try dsimp only at i);go_simp;try(with_reducible rfl)
        simp only[Act.put,zH,zF,zE];refine zL (i:=2) (oi:=?coi3) (v:=?cv3) ?cop3 S_ S_ S_ ?cq3 (Or.inl ⟨?cg3,?cy3⟩) V_ ?cr3
        case cop3=>simp only[yJ,yI,yH];rfl
        case cq3=>exact fun _ _ _ h=>h
        case cg3=>rfl
        case cy3=>intro w i;(try dsimp only at i);go_simp;try(with_reducible rfl)
        simp only[Act.put,zH,zF,zE];refine zL (i:=3) (oi:=?coi4) (v:=?cv4) ?cop4 S_ S_ S_ ?cq4 (Or.inl ⟨?cg4,?cy4⟩) V_ ?cr4
        case cop4=>simp only[yJ,yI,yH];rfl
        case cq4=>exact fun _ _ _ h=>h
        case cg4=>rfl
        case cy4=>intro w i;(try dsimp only at i);go_simp;try(with_reducible rfl)
        simp only[Act.put,zH,zF,zE];refine zL (i:=4) (oi:=?coi5) (v:=?cv5) ?cop5 S_ S_ S_ ?cq5 (Or.inl ⟨?cg5,?cy5⟩) V_ ?cr5
        case cop5=>simp only[yJ,yI,yH];rfl
        case cq5=>exact fun _ _ _ h=>h
        case cg5=>rfl
        case cy5=>intro w i;(try dsimp only at i);go_simp;try(with_reducible rfl)
        simp only[Act.put,zH,zF,zE];refine zL (i:=5) (oi:=?coi6) (v:=?cv6) ?cop6 S_ S_ S_ ?cq6 (Or.inl ⟨?cg6,?cy6⟩) V_ ?cr6
        case cop6=>simp only[yJ,yI,yH];rfl
        case cq6=>exact fun _ _ _ h=>h
        case cg6=>rfl
        case cy6=>intro w i;(try dsimp only at i);go_simp;try(with_reducible rfl)
        simp only[Act.put,zH,zF,zE];refine zL (i:=7) (oi:=?coi7) (v:=?cv7) ?cop7 S_ S_ S_ ?cq7 (Or.inl ⟨?cg7,?cy7⟩) V_ ?cr7
        case cop7=>simp only[yJ,yI,yH];rfl
        case cq7=>exact fun _ _ _ h=>h
        case cg7=>rfl
        case cy7=>intro w i;(try dsimp only at i);go_simp;try(with_reducible rfl)
        simp only[Act.put,zH,zF,zE];refine zL (i:=8) (oi:=?coi8) (v:=?cv8) ?cop8 S_ S_ S_ ?cq8 (Or.inl ⟨?cg8,?cy8⟩) V_ ?cr8
        case cop8=>simp only[yJ,yI,yH];rfl
        case cq8=>exact fun _ _ _ h=>h
        case cg8=>rfl
        case cy8=>intro w i;(try dsimp only at i);go_simp;try(with_reducible rfl)
        simp only[Act.put,zH,zF,zE];refine zL (i:=9) (oi:=?coi9) (v:=?cv9) ?cop9 S_ S_ S_ ?cq9 (Or.inl ⟨?cg9,?cy9⟩) V_ ?cr9
        case cop9=>simp only[yJ,yI,yH];rfl
        case cq9=>exact fun _ _ _ h=>h
        case cg9=>rfl
        case cy9=>intro w i;(try dsimp only at i);go_simp;try(with_reducible rfl)
        simp only[Act.put,zH,zF,zE];refine zL (i:=10) (oi:=?coi10) (v:=?cv10) ?cop10 S_ S_ S_ ?cq10 (Or.inl ⟨?cg10,?cy10⟩) V_ ?cr10
        case cop10=>simp only[yJ,yI,yH];rfl
        case cq10=>exact fun _ _ _ h=>h
        case cg10=>rfl
        case cy10=>intro w i;(try dsimp only at i);go_simp;try(with_reducible rfl)
        simp only[Act.put,zH,zF,zE];refine zL (i:=11) (oi:=?coi11) (v:=?cv11) ?cop11 S_ S_ S_ ?cq11 (Or.inl ⟨?cg11,?cy11⟩) V_ ?cr11
        case cop11=>simp only[yJ,yI,yH];rfl
        case cq11=>exact fun _ _ _ h=>h
        case cg11=>rfl
        case cy11=>intro w i;(try dsimp only at i);go_simp;try(with_reducible rfl)
        simp only[Act.put,zH,zF,zE];refine jE (rs:=[6,12]) S_ D_ (zS (o:=?coi12) ?cop12 (fun K l=> ?csA) (zS (o:=?coj12) ?coq12 (fun K l=> ?csB) jD))
        case cop12=>simp only[yJ,yI,yH];rfl
        case coq12=>simp only[yJ,yI,yH];rfl
        case csA=>
         go_simp;refine l.out _ _ (by go_keep) (fun Z=> ?_);clear l K;refine jE (rs:=[12]) S_ D_ (zS (o:=?coi13) ?cop13 (fun K l=> ?cs13) jD)
         case cop13=>simp only[yJ,yI,yH];rfl
         go_simp;refine l.out _ _ (by go_keep) (fun Z=> ?_);clear l K;refine jE (rs:=[13]) S_ D_ (zS (o:=?coi14) ?cop14 (fun K l=> ?cs14) jD)
         case cop14=>simp only[yJ,yI,yH];rfl
         refine Qc _ (by rfl) (.tmp 65) (.tmp 71) _ _ (by rfl) _ _ (by rfl) U_ _ _ i1.o ?_;refine l.out _ _ (by go_keep) (fun Z=> ?_);clear l K;simp only[Act.put,zH,zF,zE];refine zL (i:=14) (oi:=?coi15) (v:=?cv15) ?cop15 S_ S_ S_ ?cq15 (Or.inl ⟨?cg15,?cy15⟩) V_ ?cr15
         case cop15=>simp only[yJ,yI,yH];rfl
         case cq15=>exact fun _ _ _ h=>h
         case cg15=>rfl
         case cy15=>intro w i;(try dsimp only at i);go_simp;try(with_reducible rfl)
         simp only[Act.put,zH,zF,zE];refine zL (i:=15) (oi:=?coi16) (v:=?cv16) ?cop16 S_ S_ S_ ?cq16 (Or.inl ⟨?cg16,?cy16⟩) V_ ?cr16
         case cop16=>simp only[yJ,yI,yH];rfl
         case cq16=>exact fun _ _ _ h=>h
         case cg16=>rfl
         case cy16=>intro w i;(try dsimp only at i);go_simp;try(with_reducible rfl)
         simp only[Act.put,zH,zF,zE];refine jE (rs:=[16]) S_ D_ (zS (o:=?coi17) ?cop17 (fun K l=> ?cs17) jD)
         case cop17=>simp only[yJ,yI,yH];rfl
         go_simp;refine l.out _ _ (by go_keep) (fun Z=> ?_);clear l K;refine aR S_ ?_ _;go_wp2_with fail;go_meet;exact⟨_,by rw[d9.o];exact a3.o,h9.o⟩
        case csB=>
         go_simp;refine l.out _ _ (by go_keep) (fun Z=> ?_);clear l K;refine jE (rs:=[6]) S_ D_ (zS (o:=?coi18) ?cop18 (fun K l=> ?cs18) jD)
         case cop18=>simp only[yJ,yI,yH];rfl
         go_simp;refine l.out _ _ (by go_keep) (fun Z=> ?_);clear l K;refine jE (rs:=[13]) S_ D_ (zS (o:=?coi19) ?cop19 (fun K l=> ?cs19) jD)
         case cop19=>simp only[yJ,yI,yH];rfl
         refine Qc _ (by rfl) (.tmp 65) (.tmp 71) _ _ (by rfl) _ _ (by rfl) U_ _ _ i1.o ?_;refine l.out _ _ (by go_keep) (fun Z=> ?_);clear l K;simp only[Act.put,zH,zF,zE];refine zL (i:=14) (oi:=?coi20) (v:=?cv20) ?cop20 S_ S_ S_ ?cq20 (Or.inl ⟨?cg20,?cy20⟩) V_ ?cr20
         case cop20=>simp only[yJ,yI,yH];rfl
         case cq20=>exact fun _ _ _ h=>h
         case cg20=>rfl
         case cy20=>intro w i;(try dsimp only at i);go_simp;try(with_reducible rfl)
         simp only[Act.put,zH,zF,zE];refine zL (i:=15) (oi:=?coi21) (v:=?cv21) ?cop21 S_ S_ S_ ?cq21 (Or.inl ⟨?cg21,?cy21⟩) V_ ?cr21
         case cop21=>simp only[yJ,yI,yH];rfl
         case cq21=>exact fun _ _ _ h=>h
         case cg21=>rfl
         case cy21=>intro w i;(try dsimp only at i);go_simp;try(with_reducible rfl)
         simp only[Act.put,zH,zF,zE];refine jE (rs:=[16]) S_ D_ (zS (o:=?coi22) ?cop22 (fun K l=> ?cs22) jD)
         case cop22=>simp only[yJ,yI,yH];rfl
         go_simp;refine l.out _ _ (by go_keep) (fun Z=> ?_);clear l K;refine aR S_ ?_ _;go_wp2_with fail;go_meet;exact⟨_,by rw[d9.o];exact a3.o,h9.o⟩
       ·have d9:Hid (Gq (a++[(n,wr.heap.size,f,o)])=Gq a):=by
         show _=_;rw[h5.o];exact yC _
        go_wp2_with fail;go_meet;exact⟨_,by rw[d9.o];exact L.o,D.o.2⟩
      case rest=>
       obtain⟨V,j5,j6,j7⟩:=hcut;have a3:=Aa j5;have e1:=Aa j7;obtain⟨b7,b8,b9,c0,-⟩:=j6.cells;have o5:=a3.o.mod.size;have o6:=a3.o.nd.lt;have o7:=e1.o.lt;clear j5 j6 j7 D L;go_wp2_with (at_builtin;refine Ix wc rfl (.tmp 75) (.tmp 77) 155 154 Tryz.underlying155 _ 4 48 JF rfl Do Do rfl (w.heap.size+2) u5 a.length (Fy a) rfl a3.o.row [J_ (n:Nat),A_ wr.heap.size,B_ f,B_ o] rfl (by intro j9 c8;simp at c8;rcases c8 with rfl|rfl|rfl|rfl<;>rfl) rfl O_ O_ ?_;intro p8 p9 m5 m6 q0)
       have l2:=Aa (a3.o.snoc (n,wr.heap.size,f,o) e1.o k7 l0.o k8.o m5 m6);exact⟨⟨a++[(n,wr.heap.size,f,o)],V,by simp only[xC,xH,yU];go_num,by simp only[xC,xH,yU];omega,l2.o⟩,by simp[intOf];omega⟩
   ·have b1:a.length=d.length:=O_;go_wp2_with fail;go_ret;exact⟨a,u5,b5,rfl,b1,z.o⟩
namespace Ld
def Iy(L:Nat)(rd:hF):List Bool:=(List.range L).map fun n=>decide (n∈rd)
theorem Gi(a:Nat)(b:hF):(Iy a b).length=a:=by unfold Iy;simp
theorem BQ(b:Nat)(c:hF)(a:Nat):(Iy b c)[a]?=some false↔a<b/\a∉c:=by
 unfold Iy;rw[zU];by_cases h:a<b
 ·rw[dQ h];simp[h]
 ·rw[dP (by simpa using h)];simp[h]
theorem PH(c:Nat)(d:hF)(a:Nat):(Iy c d).set a true=Iy c (d++[a]):=by
 unfold Iy;apply List.ext_getElem?;intro b;rw[qA,zU,zU];by_cases h:b<c
 ·rw[dQ h];by_cases e:a=b
  ·subst e;simp[h]
  ·have f:¬b=a:=fun g=>e g.symm
   simp[e,f]
 ·rw[dP (by simpa using h)];by_cases e:a=b
  ·subst e;simp[h]
  ·simp[e]
theorem Lev.snoc{P:List (Option Nd)}{s:Tk}{z:Nd}(d:P[s.1]?=some (some z))(f:okP z s.2.1 s.2.2):∀{b:List Tk} {a:hF} {c:List Nd},Lev P a b c->s.1∉a++b.map (·.1)->Lev P a (b++[s]) (c++[z])
 | [],a,[],_,hn=>⟨⟨by simpa using hn,d,f⟩,trivial⟩
 | x::b,a,n::c,h,hn=>⟨h.1,Lev.snoc d f h.2 (by simpa using hn)⟩
 | [],_,_::_,h,_=>h.elim
 | _::_,_,[],h,_=>h.elim
theorem Lev.mid{P:List (Option Nd)}{s:Tk}{A:List Tk}:∀{a:List Tk} {c:hF} {d:List Nd},Lev P c (a++s::A) d->∃b,s.1∉c++a.map (·.1)/\P[s.1]?=some (some b)/\okP b s.2.1 s.2.2
 | [],c,b::d,h=>⟨b,by simpa using h.1.1,h.1.2.1,h.1.2.2⟩
 | x::a,c,n::d,h=>by obtain⟨b,c,d⟩:=Lev.mid (a:=a) h.2;exact⟨b,by simpa using c,d⟩
 | [],_,[],h=>h.elim
 | _::_,_,[],h=>h.elim
theorem Lev.uniq{P:List (Option Nd)}:∀{a:List Tk} {b:hF} {c d:List Nd},Lev P b a c->Lev P b a d->c=d
 | [],_,[],[],_,_=>rfl
 | t::a,b,n::c,n'::d,h,h'=>by
  have e:n=n':=by have:=h.1.2.1.symm.trans h'.1.2.1;simpa using this
  subst e;rw[Lev.uniq h.2 h'.2]
 | [],_,_::_,_,h,_=>h.elim
 | [],_,[],_::_,_,h=>h.elim
 | _::_,_,[],_,h,_=>h.elim
 | _::_,_,_::_,[],_,h=>h.elim
def lvs(nds:List Nd):Nat:=(nds.filter fun n=>decide (n.1=1)).length
theorem Abv(b:List Nd)(a:Nd):lvs (b++[a])=lvs b+if a.1=1 then 1 else 0:=by unfold lvs;rw[wG,xC];by_cases h:a.1=1<;>simp[h]
theorem Ag2(a:List Nd):lvs a<=a.length:=kU _ _
theorem Abw(c:List Nd):OJ c↔lvs c=0\/lvs c=c.length:=by
 unfold OJ lvs;constructor
 ·rintro(h|h)
  ·right;rw[List.filter_eq_self.2 (fun a b=>by simpa using h a b)]
  ·left;rw[zA,dN];intro a b;simpa using h a b
 ·rintro(h|h)
  ·right;intro a b;rw[zA,dN]at h;simpa using h a b
  ·left;intro a b;have:=(List.length_filter_eq_length_iff).1 h a b;simpa using this
end Ld
variable {a:Nat}{b w t:World}{x:TkM}{g:Nd}{c:List TkM}{f j:hF}{i:hD}{v k l m:Value}{n:List Nd}{p:List (List TkM)}{Fs:List hF}
def Fil(B:Nat)(W:World)(x:TkM)(nd:Nd)(ks:List TkM)(F:hF):Prop:=
 ∃v1 vp v4 il ml,Ax W x.2.1 v1 vp v4/\Ap B W v1 il/\Bf B W vp (Gq ks)/\Bb B W v4 ml/\Ab il=Ld.its nd/\Ac ml=Ld.chs nd/\(nd.1=1->vp=Z_/\v4=Z_)/\(nd.1=2->v1=Z_)/\ks.map tkP=Fv nd x.2.2.1.data.toList x.2.2.2.data.toList/\F=x.2.1::(blk v1++(blk vp++blk v4))
theorem Fil.keep{W':World}(h:Fil a b x g c f)(j:∀d∈f,W'.heap[d]?=b.heap[d]?):Fil a W' x g c f:=by obtain⟨k,l,m,n,o,p,q,r,s,t,u,y,z,A,rfl⟩:=h;exact⟨k,l,m,n,o,(j _ (xU ..)).trans p,Bx q fun d i _=>j d (xZ _ (yN _ (Aj.2 i))),Bx r fun d i _=>j d (xZ _ (yE _ (yN _ (Aj.2 i)))),Bx s fun d i _=>j d (xZ _ (yE _ (yE _ (Aj.2 i)))),t,u,y,z,A,rfl⟩
def Fld(B:Nat)(W:World):List TkM->List Nd->List (List TkM)->List hF->Prop
 | [],[],[],[]=>True
 | x::tl,nd::nds,ks::kss,F::Fs=>Fil B W x nd ks F/\Fld B W tl nds kss Fs
 | _,_,_,_=>False
theorem Fld.keep{a:Nat}{b W':World}:∀{d:List TkM} {f:List Nd} {g:List (List TkM)} {Fs:List hF},Fld a b d f g Fs->(∀c∈Fs.flatten,W'.heap[c]?=b.heap[c]?)->Fld a W' d f g Fs
 | [],[],[],[],_,_=>trivial
 | x::d,nd::f,ks::g,F::Fs,h,hk=>⟨h.1.keep fun c d=>hk c (by rw[yO];exact yN _ d),Fld.keep h.2 fun c d=>hk c (by rw[yO];exact yE _ d)⟩
 | [],[],[],_::_,h,_=>h.elim
 | [],[],_::_,_,h,_=>h.elim
 | [],_::_,_,_,h,_=>h.elim
 | _::_,[],_,_,h,_=>h.elim
 | _::_,_::_,[],_,h,_=>h.elim
 | _::_,_::_,_::_,[],h,_=>h.elim
theorem Fld.snoc{a:Nat}{b:World}{x:TkM}{g:Nd}{c:List TkM}{f:hF}(k:Fil a b x g c f):∀{d:List TkM} {i:List Nd} {j:List (List TkM)} {Fs:List hF},Fld a b d i j Fs->Fld a b (d++[x]) (i++[g]) (j++[c]) (Fs++[f])
 | [],[],[],[],_=>⟨k,trivial⟩
 | _::_,_::_,_::_,_::_,h=>⟨h.1,Fld.snoc k h.2⟩
 | [],[],[],_::_,h=>h.elim
 | [],[],_::_,_,h=>h.elim
 | [],_::_,_,_,h=>h.elim
 | _::_,[],_,_,h=>h.elim
 | _::_,_::_,[],_,h=>h.elim
 | _::_,_::_,_::_,[],h=>h.elim
theorem Fld.below{B:Nat}{W:World}:∀{a:List TkM} {b:List Nd} {c:List (List TkM)} {Fs:List hF},Fld B W a b c Fs->c.flatten.map tkP=below (a.map tkP) b
 | [],[],[],[],_=>rfl
 | x::a,nd::b,ks::c,F::Fs,h=>by obtain⟨b,c,d,f,g,i,j,k,l,m,n,o,p,a,q⟩:=h.1;rw[yO,yX,a,Fld.below h.2];rfl
 | [],[],[],_::_,h=>h.elim
 | [],[],_::_,_,h=>h.elim
 | [],_::_,_,_,h=>h.elim
 | _::_,[],_,_,h=>h.elim
 | _::_,_::_,[],_,h=>h.elim
 | _::_,_::_,_::_,[],h=>h.elim
theorem PI(n:Int)(i j:hE)(k:gY)(o:hF)(l:hD)(m:gZ):Wy i j k m l=true↔okP (n,Ab k,o,Ag l,Ac m) i j:=by
 unfold Wy okP Ld.its Ld.chs Ld.pvs Ab Ag Ac;simp only[yK,zV,YN,xL];constructor
 ·rintro⟨⟨d,f⟩,g⟩;refine⟨?_,?_,?_⟩
  ·rintro x ⟨a,b,rfl⟩;exact d a b
  ·rintro x ⟨a,b,rfl⟩;exact f a b
  ·rintro x ⟨a,b,rfl⟩;exact g a b
 ·rintro⟨d,f,g⟩;exact⟨⟨fun x c=>d _ ⟨x,c,rfl⟩,fun x c=>f _ ⟨x,c,rfl⟩⟩,fun x c=>g _ ⟨x,c,rfl⟩⟩
theorem TT{H I:hJ}(g:Int)(j:gY)(k:gZ)(l:c.length=f.length)(h:c.map (fun x=>(x.1,x.2.2))=(List.zipWith (fun a b=>(a,b)) f (Gh H I i)).take c.length):c.map tkP=Fv (g,Ab j,f,Ag i,Ac k) H.data.toList I.data.toList:=by
 have d:(List.zipWith (fun a b=>(a,b)) f (Gh H I i)).length<=c.length:=by rw[bH,l];exact Nat.min_le_left _ _
 rw[yY d]at h;have e:c.map tkP=(c.map (fun x=>(x.1,x.2.2))).map (fun a=>(a.1,a.2.1.data.toList,a.2.2.data.toList)):=by rw[zW];rfl
 rw[e,h,List.map_zipWith];unfold Fv kds Ld.pvs;rw[<-Sc,List.zipWith_map_right]
theorem Fil.apart(h:Fil a b x g c f){B:Nat}{e:TypeId}{C D:Nat}{J:hH}(j:b.ownsRow B e C v D J)(p:e≠123)(q:e≠51)(r:e≠132)(s:e≠34):∀k∈f,v.ownBlock≠some k:=by
 obtain⟨t,u,y,z,F,l,m,n,o,-,-,-,-,-,rfl⟩:=h;intro k d i;rcases xG.1 d with rfl|d
 ·exact Bg l j p i
 rcases xE.1 d with d|d
 ·exact Dh j m q i (Aj.1 d)
 rcases xE.1 d with d|d
 ·exact Dh j n r i (Aj.1 d)
 ·exact Dh j o s i (Aj.1 d)
theorem Fil.lt{a:Nat}{b:World}{x:TkM}{g:Nd}{c:List TkM}{f:hF}(h:Fil a b x g c f):∀i∈f,i<b.heap.size/\(a<=i\/i=x.2.1):=by
 obtain⟨n,o,p,q,r,j,k,l,m,-,-,-,-,-,rfl⟩:=h;intro i d;rcases xG.1 d with rfl|d
 ·exact⟨j.lt,.inr rfl⟩
 rcases xE.1 d with d|d
 ·have:=xF k i (Aj.1 d);exact⟨this.2,.inl this.1⟩
 rcases xE.1 d with d|d
 ·have:=xF l i (Aj.1 d);exact⟨this.2,.inl this.1⟩
 ·have:=xF m i (Aj.1 d);exact⟨this.2,.inl this.1⟩
theorem Fil.nodup(h:Fil a b x g c f):f.Nodup:=by
 obtain⟨r,s,t,u,y,k,l,m,n,-,-,-,-,-,rfl⟩:=h;have j:∀v:Value,(blk v).Nodup:=fun v=>by unfold blk;cases v.ownBlock<;>simp
 rw[yV];refine⟨fun d=> ?_,xO.2 ⟨j _,xO.2 ⟨j _,j _,fun p i q o e=> ?_⟩,fun p i q o e=> ?_⟩⟩
 ·rcases xE.1 d with d|d
  ·exact Bg k l Do (Aj.1 d)
  rcases xE.1 d with d|d
  ·exact Bg k m Do (Aj.1 d)
  ·exact Bg k n Do (Aj.1 d)
 ·subst e;exact Dh m n Do (Aj.1 i) (Aj.1 o)
 ·subst e;rcases xE.1 o with d|d
  ·exact Dh l m Do (Aj.1 i) (Aj.1 d)
  ·exact Dh l n Do (Aj.1 i) (Aj.1 d)
theorem Fld.all{a:Nat}{b:World}:∀{g:List TkM} {k:List Nd} {l:List (List TkM)} {Fs:List hF},Fld a b g k l Fs->∀d∈Fs.flatten,∃x∈g,∃i j f,Fil a b x i j f/\d∈f
 | [],[],[],[],_,d,c=>by simp at c
 | x::g,i::k,j::l,f::Fs,h,d,c=>by
  rw[yO]at c;rcases xE.1 c with c|c
  ·exact⟨x,xU ..,i,j,f,h.1,c⟩
  ·obtain⟨f,g,i⟩:=Fld.all h.2 d c;exact⟨f,xZ _ g,i⟩
 | [],[],[],_::_,h,_,_=>h.elim
 | [],[],_::_,_,h,_,_=>h.elim
 | [],_::_,_,_,h,_,_=>h.elim
 | _::_,[],_,_,h,_,_=>h.elim
 | _::_,_::_,[],_,h,_,_=>h.elim
 | _::_,_::_,_::_,[],h,_,_=>h.elim
structure RlM(w:World)(vim vre:Value)(iml:hD)(rd rdl:hF)(v:Value)(tl:List TkM)(k:Nat)(nds:List Nd)(kss:List (List TkM))(Fs:List hF)(v5:Value)(W:World):Prop where
 ld:LdM vim vre iml (Iy iml.length rdl) W
 lev:Lev (Au iml) rd ((tl.take k).map tkP) nds
 fld:Fld w.heap.size W (tl.take k) nds kss Fs
 nd:Fs.flatten.Nodup
 row:No w.heap.size W v5 kss.flatten
 nods:∀x∈kss.flatten,Ax W x.2.1 Z_ Z_ Z_/\w.heap.size<=x.2.1
 dist:(kss.flatten.map (·.2.1)).Nodup
 lvl:No 0 W v tl
 low:(∀g,v.ownBlock=some g->g<w.heap.size)/\(∀g,vre.ownBlock=some g->g<w.heap.size)/\∀x∈tl,x.2.1<w.heap.size
 todo:∀x∈tl.drop k,Ax W x.2.1 Z_ Z_ Z_
 tdist:(tl.map (·.2.1)).Nodup
 mod:Mod (fun g=>vre.ownBlock=some g\/g∈(tl.take k).map (·.2.1)) w W
theorem RlM.below{W:World}(h:RlM w k l i f j v c a n p Fs m W)(d:Below W.heap.size W b):RlM w k l i f j v c a n p Fs m b:=
 ⟨h.ld.mod d,h.lev,h.fld.keep (fun g o=>by obtain⟨x,_,r,s,t,q,o⟩:=h.fld.all g o;exact d.block g (q.lt g o).1),h.nd,Ae h.row d X_,fun x g=>⟨(d.block _ (h.nods x g).1.lt).trans (h.nods x g).1,(h.nods x g).2⟩,h.dist,Ae h.lvl d X_,h.low,fun x g=>(d.block _ (h.todo x g).lt).trans (h.todo x g),h.tdist,Tg h.mod (d.mono h.mod.size)⟩
theorem RlM.read{G:hF}(h:RlM w k l i f j v c a n p Fs m b)(q:Mod (fun g=>l.ownBlock=some g) b t)(y:LdM k l i (Iy i.length G) t):RlM w k l i f G v c a n p Fs m t:=
 ⟨y,h.lev,h.fld.keep (fun g r=>by obtain⟨x,_,z,B,C,u,r⟩:=h.fld.all g r;exact q.block g (u.lt g r).1 (u.apart h.ld.re Do Do Do Do g r)),h.nd,q.row h.row (fun g d s=>Dh h.row h.ld.re Do d s),fun x o=>⟨q.nod (h.nods x o).1 (fun d=>Bg (h.nods x o).1 h.ld.re Do d),(h.nods x o).2⟩,h.dist,q.row h.lvl (fun g d s=>Dh h.lvl h.ld.re Do d s),h.low,fun x o=>q.nod (h.todo x o) (fun d=>Bg (h.todo x o) h.ld.re Do d),h.tdist,h.mod.trans q (fun _ _ d=>d) (fun _ _ d=> .inl d)⟩
theorem Abx(b:a<c.length)(d:(c.map (·.2.1)).Nodup):c.take (a+1)=c.take a++[c[a]'b]/\c.drop a=c[a]'b::c.drop (a+1)/\(c[a]'b).2.1∉(c.take a).map (·.2.1)/\(c[a]'b).2.1∉(c.drop (a+1)).map (·.2.1):=by
 have g:c.take (a+1)=c.take a++[c[a]'b]:=List.take_succ_eq_append_getElem' (xW b);have f:=yM b;refine⟨g,f,?_,?_⟩
 ·have:c=c.take a++(c[a]'b::c.drop (a+1)):=by rw[<-f,zK]
  rw[this,yX,xO]at d;exact fun i=>d.2.2 _ i _ (xL.2 ⟨_,xU ..,rfl⟩) rfl
 ·have:c=c.take a++(c[a]'b::c.drop (a+1)):=by rw[<-f,zK]
  rw[this,yX,xO,yD,yV]at d;exact d.2.1.1
theorem RlM.fill{F:World}(h:RlM w k l i f j v c a n p Fs m b)(u:a<c.length){kd:Int}{v1 v2 v3 v4:Value}{il:gY}{cl:hF}{pl:hD}{ml:gZ}{kids:List TkM}{v6 vp L:Value}{B0:Nat}(z:FiM b ((c[a]'u).1:Nat) (c[a]'u).2.1 (c[a]'u).2.2.1 (c[a]'u).2.2.2 kd v1 v2 v3 v4 cl pl kids (Gq kids) v6 vp t)(a3:kids.length=cl.length)(b8:∀d∈Fs.flatten,d<B0)(a4:w.heap.size<=B0)(a5:Ap B0 b v1 il)(a6:Bb B0 b v4 ml)(a7:TN kd (.agg #[J_ kd,v1,v2,v3,v4]))(b9:kd=1->cl=[])(c0:(Au i)[(c[a]'u).1]?=some (some (kd,Ab il,cl,Ag pl,Ac ml)))(c1:okP (kd,Ab il,cl,Ag pl,Ac ml) (c[a]'u).2.2.1.data.toList (c[a]'u).2.2.2.data.toList)(c2:(c[a]'u).1∉f++(c.take a).map (·.1))(U:t.grownBy F m.ownBlock)(c3:F.ownsRow w.heap.size 154 4 L (p.flatten.length+kids.length) (Fy p.flatten++Fy kids)):
  ∃Fs',RlM w k l i f j v c (a+1) (n++[(kd,Ab il,cl,Ag pl,Ac ml)]) (p++[kids]) Fs' L F:=by
 obtain⟨O,a1,a2,b2⟩:=Abx u h.tdist;generalize b7:c[a]'u=x at*;have a8:x∈c:=by rw[<-b7];exact yA u
 have V:=h.todo x (by rw[a1];exact xU ..);have c4:=h.low.2.2 x a8;have J:=z.mod;have G:=Mod.of_grown U;have X:∀d,m.ownBlock=some d->w.heap.size<=d:=fun d g=>(xF h.row d g).1
 have c5:=h.mod.size;have W:No w.heap.size t m p.flatten:=J.row h.row (fun d g s=>Bg V h.row Do (by rw[<-s];exact g));have H:∀d,d<b.heap.size->d≠x.2.1->m.ownBlock≠some d->F.heap[d]?=b.heap[d]?:=fun d o q r=>(G.block d (yF o J.size) r).trans (J.block d o q)
 have M:∀{o:Nat} {e:TypeId} {q r:Nat} {y:Value} {B:hH},b.ownsRow o e q y r B->e≠123->e≠154->F.ownsRow o e q y r B:=fun q D o=>Bx q fun d g _=>H d (xF q d g).2 (fun s=>Bg V q D (by rw[<-s];exact g)) (fun s=>Dh h.row q (fun B=>o B.symm) s g)
 have a9:=M a5 Do Do;have b0:=M a6 Do Do;have b1:Ax F x.2.1 v1 vp v4:=G.nod z.nod (fun g=>Bg z.nod W Do g);have Y:Bf (b.heap.size+2) F vp (Gq kids):=G.row z.par (fun d g s=>Dh W z.par Do s g);have Z:(kd=1->vp=Z_/\v4=Z_)/\(kd=2->v1=Z_):=by
  constructor
  ·intro e;obtain⟨u1,I⟩:=a7.1 e;simp only[vB,kN,jA]at I;refine⟨z.pnil ?_,I.2.2.2.2.1⟩;have:kids=[]:=zT (by rw[a3,b9 e];rfl);rw[this];rfl
  ·intro e;obtain⟨u2,u3,u4,I⟩:=a7.2 e;simp only[vB,kN,jA]at I;exact I.2.1
 have a0:Fil w.heap.size F x (kd,Ab il,cl,Ag pl,Ac ml) kids (x.2.1::(blk v1++(blk vp++blk v4))):=⟨v1,vp,v4,il,ml,b1,Bi a9 a4,Bi Y O_,Bi b0 a4,rfl,rfl,Z.1,Z.2,TT kd il ml a3 z.tks,rfl⟩;refine⟨Fs++[x.2.1::(blk v1++(blk vp++blk v4))],⟨⟨M h.ld.im Do Do,M h.ld.re Do Do,h.ld.len⟩,?_,?_,?_,?_,?_,?_,?_,h.low,?_,h.tdist,?_⟩⟩
 ·rw[O,yX];exact Lev.snoc c0 c1 h.lev (by rw[zW];exact c2)
 ·rw[O];refine Fld.snoc a0 (h.fld.keep fun d U=> ?_);obtain⟨r,q,b3,b4,b5,R,S⟩:=h.fld.all d U;have N:=R.lt d S;refine H d N.1 (fun g=> ?_) (R.apart h.row Do Do Do Do d S);rcases N.2 with B|B
  ·omega
  ·exact a2 (xL.2 ⟨r,q,by rw[<-B,g]⟩)
 ·rw[kI,yO,vG,yC,xO];refine⟨h.nd,a0.nodup,fun C D b6 o e=> ?_⟩;subst e;have c6:=b8 C D;obtain⟨r,q,b3,b4,b5,R,S⟩:=h.fld.all C D;have N:=R.lt C S;rcases xG.1 o with g|o
  ·rcases N.2 with B|B
   ·omega
   ·exact a2 (xL.2 ⟨r,q,by rw[<-B,g]⟩)
  rcases xE.1 o with o|o
  ·have:=(xF a5 C (Aj.1 o)).1;omega
  rcases xE.1 o with o|o
  ·have:=(xF Y C (Aj.1 o)).1;omega
  ·have:=(xF a6 C (Aj.1 o)).1;omega
 ·rw[kI,yO,vG,yC];unfold No;rw[xC,On];exact c3
 ·rw[kI,yO,vG,yC];intro r q;rcases xE.1 q with q|q
  ·obtain⟨y,T⟩:=h.nods r q;exact⟨(H _ y.lt (fun g=>O_) (Bg y h.row Do)).trans y,T⟩
  ·obtain⟨y,T⟩:=z.nods r q;exact⟨G.nod y (fun g=>Bg y W Do g),O_⟩
 ·rw[kI,yO,vG,yC,yX,xO];refine⟨h.dist,z.dist,fun C D b6 o e=> ?_⟩;obtain⟨r,q,rfl⟩:=xL.1 D;obtain⟨g,T,rfl⟩:=xL.1 o;have C:=(h.nods r q).1.lt;have D:=(z.nods g T).2;omega
 ·refine Bx h.lvl fun d g _=>H d (xF h.lvl d g).2 (fun s=>Bg V h.lvl Do (by rw[<-s];exact g)) (fun s=> ?_)
  have C:=h.low.1 d g;have D:=X d s;omega
 ·intro r q;have y:=h.todo r (by rw[a1];exact xZ _ q);exact(H _ y.lt (fun g=>b2 (xL.2 ⟨r,q,g⟩)) (Bg y h.row Do)).trans y
 ·refine(h.mod.trans J (H:=fun d=>l.ownBlock=some d\/d∈(c.take (a+1)).map (·.2.1)) (fun d _ g=>g.imp id fun g=> ?_) (fun d _ g=> .inr ?_)).trans G (fun _ _ g=>g) (fun d U g=> ?_)
  ·rw[O,yX];exact yN _ g
  ·rw[O,yX];exact yE _ (by rw[g];simp)
  ·have:=X d g;omega
namespace Pr
open Pg
variable {u y:hE}
abbrev Its:=List (hE×hE)
variable {d:Its}{r:List Its}
def Hc:Nat->Its->List Its
 | 0,_=>[]
 | f+1,l=>if l=[]then[]else l.take 4::Hc f (l.drop 4)
def parts(l:Its):List Its:=Hc (many l.length) l
def TU(p:Its):hE:=Ar [98] (Bl p)
def secs(ps:List Its):List hE:=ps.map TU
def MG(p:Its):hE:=(p.map (·.1)).getD 0 []
def Fq(ps:List Its):List hE:=ps.map MG
theorem Ei{M:hE}(h:u<y)(a:y<M):u<M:=List.lt_trans h a
theorem PJ:∀(f:Nat) (b:Its),∀a∈Hc f b,a≠[]/\a.length<=4
 | 0,_,a,h=>by simp[Hc]at h
 | f+1,b,a,h=>by
  rw[Hc]at h;split at h
  ·simp at h
  ·rename_i c;rcases xG.1 h with rfl|h
   ·refine⟨?_,by rw[xR];omega⟩;intro e;have:=yW List.length e;rw[xR]at this;have h0:b.length≠0:=fun e=>c (zA.1 e)
    rw[yU]at this;omega
   ·exact PJ f _ a h
theorem Ql:∀(f:Nat) (a:Its),a.length<=4*f->(Hc f a).flatten=a
 | 0,a,h=>by have:a=[]:=zA.1 O_;subst this;rfl
 | f+1,a,h=>by
  rw[Hc];split
  ·rename_i b;subst b;rfl
  ·rw[yO,Ql f (a.drop 4) (by rw[xY];omega),zK]
theorem Th:∀(f:Nat) (a:Its),(Hc f a).length<=f
 | 0,a=>by simp[Hc]
 | f+1,a=>by
  rw[Hc];split
  ·simp
  ·rw[xH];have:=Th f (a.drop 4);omega
theorem EY:∀(f:Nat) (a:Its),f=many a.length->(Hc f a).length=f
 | 0,a,_=>by simp[Hc]
 | f+1,a,h=>by
  have b:a≠[]:=by rintro rfl;simp[many]at h
  have c:0<a.length:=kP.2 b;rw[Hc,xB b,xH,EY f (a.drop 4) (by rw[xY];unfold many at*;omega)]
theorem EZ:∀(f:Nat) (a:Its),entries f a=Cq ((secs (Hc f a)).map List.length) (Fq (Hc f a))
 | 0,a=>by simp[entries,Hc,secs,Fq,Cq]
 | f+1,a=>by
  rw[entries,Hc];by_cases b:a=[]
  ·rw[xD b,xD b];simp[secs,Fq,Cq]
  ·rw[xB b,xB b]
   match a,b with
   | (k,v)::r,_=>
    simp only[secs,Fq,yD,Cq];rw[EZ f];rfl
theorem PK:∀(f:Nat) (a:Its),Kx f a=(secs (Hc f a)).flatten
 | 0,a=>by simp[Kx,Hc,secs]
 | f+1,a=>by
  rw[Kx,Hc];by_cases b:a=[]
  ·rw[xD b,xD b];simp[secs]
  ·rw[xB b,xB b,PK f];simp only[secs,yD,yO];rfl
theorem MH(a:Its):Lx a=Fl ((secs (parts a)).map List.length) (Fq (parts a))++(secs (parts a)).flatten:=by unfold Lx Fl parts;rw[EZ,PK];congr 5;simp only[secs,xP,EY _ _ rfl]
def Kw(l:Its):Prop:=(∀x∈l,Dm x.1.length=true/\x.2.length<=16)/\l.Pairwise fun x y=>x.1<y.1
theorem PL{N:Option hE}(h:Gn N u=true)(a:u<y):Gn N y=true:=by
 cases N with
 | none=>rfl
 | some q=>simp only[Gn,yL]at*;exact Ei h a
theorem FA:∀(b:Its) (a:Option hE),Un b a=true↔Kw b/\∀x∈b,Gn a x.1=true
 | [],a=>by simp[Un,Kw]
 | y::r,a=>by
  have j:=FA r (some y.1);simp only[Un,yK,yL,j,Kw];constructor
  ·rintro⟨⟨⟨b,g⟩,c⟩,⟨d,f⟩,i⟩;refine⟨⟨?_,?_⟩,?_⟩
   ·intro x a;rcases xG.1 a with rfl|a
    ·exact⟨b,g⟩
    ·exact d x a
   ·refine zJ.2 ⟨fun x a=> ?_,f⟩;have:=i x a;simpa[Gn]using this
   ·intro x a;rcases xG.1 a with rfl|a
    ·exact c
    ·exact PL c (by have:=i x a;simpa[Gn]using this)
  ·rintro⟨⟨b,g⟩,c⟩;obtain⟨d,f⟩:=zJ.1 g;refine⟨⟨⟨(b y D_).1,(b y D_).2⟩,c y D_⟩,⟨fun x a=>b x (by simp[a]),f⟩,fun x a=> ?_⟩;simp only[Gn,yL];exact d x a
theorem Ml:∀(a:List hE) (b:Option hE),Az a b=true↔((∀x∈a,Dm x.length=true)/\a.Pairwise (·< ·))/\∀x∈a,Gn b x=true
 | [],b=>by simp[Az]
 | y::r,b=>by
  have i:=Ml r (some y);simp only[Az,yK,i];constructor
  ·rintro⟨⟨b,c⟩,⟨d,f⟩,g⟩;refine⟨⟨?_,?_⟩,?_⟩
   ·intro x a;rcases xG.1 a with rfl|a
    ·exact b
    ·exact d x a
   ·refine zJ.2 ⟨fun x a=> ?_,f⟩;have:=g x a;simpa[Gn]using this
   ·intro x a;rcases xG.1 a with rfl|a
    ·exact c
    ·exact PL c (by have:=g x a;simpa[Gn]using this)
  ·rintro⟨⟨b,j⟩,c⟩;obtain⟨d,f⟩:=zJ.1 j;refine⟨⟨b y D_,c y D_⟩,⟨fun x a=>b x (by simp[a]),f⟩,fun x a=> ?_⟩;simp only[Gn,yL];exact d x a
theorem Oj(a:Its):Cx none a=true↔Kw a:=by unfold Cx;rw[FA];simp[Gn]
theorem Kw.sub{O:Its}(h:Kw O)(a:d.Sublist O):Kw d:=⟨fun x b=>h.1 x (a.subset b),h.2.sublist a⟩
def Pi(ps:List Its):Prop:=(∀p∈ps,p≠[]/\p.length<=4)/\Kw ps.flatten
theorem Ti(h:d≠[]):∃x∈d,x.1=MG d:=by
 match d,h with
 | x::r,_=>exact⟨x,D_,rfl⟩
theorem Pi.tail(h:Pi (d::r)):Pi r:=⟨fun a b=>h.1 a (by simp[b]),h.2.sub (by rw[yO];exact bM _ _)⟩
theorem Pi.across(h:Pi (d::r)):∀x∈d,∀a∈r.flatten,x.1<a.1:=by have:=h.2.2;rw[yO,jN]at this;exact this.2.2
theorem Se:∀(a:List Its),Pi a->Az (Fq a) none=true:=by
 intro a h;rw[Ml];refine⟨⟨?_,?_⟩,fun x _=>rfl⟩
 ·intro x f;obtain⟨b,g,rfl⟩:=xL.1 f;obtain⟨c,d,e⟩:=Ti (h.1 b g).1;rw[<-e];exact(h.2.1 c (kV.2 ⟨b,g,d⟩)).1
 ·induction a with
  | nil=>simp[Fq]
  | cons b a ih=>
   rw[Fq,yD];refine zJ.2 ⟨fun i k=> ?_,ih h.tail⟩;obtain⟨i,j,rfl⟩:=xL.1 k;obtain⟨x,f,e⟩:=Ti (h.1 b D_).1;obtain⟨c,d,k⟩:=Ti (h.1 i (by simp[j])).1;rw[<-e,<-k];exact h.across x f c (kV.2 ⟨i,j,d⟩)
theorem YW(f:d.length<=4)(b:Kw d):Lz 98 (TU d)=some (Bl d):=by
 have c:∀x∈d,x.1.length<=12/\x.2.length<=16:=fun x a=>⟨Ed (b.1 x a).1,(b.1 x a).2⟩
 have:=Ir d c;exact Mj 98 _ O_
theorem PM(h:d≠[]):∃x∈d,x.1=(d.map (·.1)).getD (d.length-1) []:=by
 have b:0<d.length:=kP.2 h;have a:d.length-1<d.length:=O_;refine⟨d[d.length-1]'a,yA _,?_⟩;rw[jH,zU,xW a];rfl
theorem Aby(b:List Its)(a:Its)(g:List Its)(h:Pi (b++a::g)):Ay (Fq (b++a::g)) b.length (TU a)=some a:=by
 have c:=h.1 a D_;have d:Kw a:=h.2.sub (by rw[kI,yO];exact(List.sublist_append_left _ _).trans (bM _ _));have i:∀x∈a,x.1.length<=12/\x.2.length<=16:=fun x f=>⟨Ed (d.1 x f).1,(d.1 x f).2⟩
 unfold Ay;rw[YW c.2 d];simp only[xV];rw[Tw a O_ i];simp only[xV];rw[xD];unfold Oh;simp only[yK,yL,kT,dA,qJ];refine⟨⟨⟨⟨?_,c.2⟩,(Oj a).2 d⟩,?_⟩,?_⟩
 ·exact Nat.succ_le_of_lt (kP.2 c.1)
 ·show MG a=_;unfold Fq;rw[jH,zU,kC X_];simp
 ·match g,h with
  | [],_=>left;simp[Fq]
  | q::b',h=>
   right;have j:=h.1 q D_;obtain⟨x,f,l⟩:=PM c.1;obtain⟨m,n,o⟩:=Ti j.1;have e:(Fq (b++a::q::b')).getD (b.length+1) []=MG q:=(by unfold Fq;rw[jH,zU,kC O_];simp);rw[e,<-l,<-o];have k:Pi (a::q::b'):=⟨fun p r=>h.1 p (xE.2 (.inr r)),h.2.sub (by rw[kI];exact bM _ _)⟩;exact k.across x f m (kV.2 ⟨q,D_,n⟩)
theorem PN:∀(a b:List Its),Pi (b++a)->Ko (Fq (b++a)) b.length (secs a)=some a.flatten
 | [],b,h=>by simp[secs,Ko]
 | p::a,b,h=>by have c:=PN a (b++[p]) (by rw[xT];exact h);rw[xT,xC]at c;rw[secs,yD,Ko,Aby b p a h];simp only[xV];have d:Ko (Fq (b++p::a)) (b.length+1) (List.map TU a)=some a.flatten:=c;rw[d];simp
theorem Np(h:Kw d):Pi (parts d):=by refine⟨fun a b=>PJ _ _ a b,?_⟩;rw[parts,Ql _ _ (by unfold many;omega)];exact h
theorem TV(h:Pi r):∀d∈(secs r).map List.length,d<65536:=by
 intro d j;obtain⟨n,i,rfl⟩:=xL.1 j;obtain⟨a,c,rfl⟩:=xL.1 i;have b:Kw a:=h.2.sub (List.sublist_flatten_of_mem c);have g:∀x∈a,x.1.length<=12/\x.2.length<=16:=fun x f=>⟨Ed (b.1 x f).1,(b.1 x f).2⟩
 have f:=Ir a g;have k:=(h.1 a c).2;have l:=Ek [98] (Bl a) O_;have m:([98]:hE).length=1:=rfl;unfold TU;omega
theorem FB(h:Kw d)(c:d.length<=16):Jc (Lx d)=some ((secs (parts d)).map List.length,Fq (parts d)):=by
 rw[MH];have a:=Np h;have b:(parts d).length<=4:=by have:=Th (many d.length) d;unfold parts;unfold many at*;omega
 exact Zr _ _ _ (by simp[secs,Fq]) (by simpa[secs]using b) (TV a) (Se _ a)
theorem JG(h:Kw d)(c:d.length<=16):Py (Lx d) ((secs (parts d)).map List.length)=some (secs (parts d)):=by
 rw[MH];have a:=Np h;have b:(parts d).length<=4:=by have:=Th (many d.length) d;unfold parts;unfold many at*;omega
 refine Ye _ _ (Yf _ _ (by simp[secs,Fq]) (by simpa[secs]using b) (Fe _ _ (Se _ a)))
theorem TW(h:Kw d)(a:d.length<=16):Pf (Lx d)=some d:=by unfold Pf;rw[FB h a];simp only[xV];rw[JG h a];simp only[xV];have:=PN (parts d) [] (by simpa using Np h);rw[zI]at this;rw[show([]:List Its).length=0 from rfl]at this;rw[this,parts,Ql _ _ (by unfold many;omega)]
end Pr
