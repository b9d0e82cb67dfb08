import Derived.Test.YtolgpnaoaodepaaGreatRows
import Derived.WalkKit
import Derived.WalkSpells
import Derived.WalkLawsBesides
import Derived.Deep.QuietTactic
import Derived.BigQuiet
import Derived.Lib.AppendStr
import Derived.Maps.AppendAt
import Derived.Lib.MinMax
import Derived.Lib.BufferRead
import Derived.Laws.IdiomStrings
import Derived.Laws.DeepStrings4
import Derived.Deep.RegionLaw
import Derived.Defers
import Derived.Recover
import Derived.Laws.Pointers
import Derived.Laws.BitsAllLaws
import Derived.Laws.Concat
import Derived.Deep.RegionHeld3
import Derived.Lib.QuietBelow
import Derived.Lib.AppendZerosOnto
import Derived.Laws.OwnMore
import Derived.Lib.SmallJoins
import Derived.Laws.AppendOwnNone
import Derived.Deep.DeepCutAuto
import Derived.Laws.CopyOwn
import Derived.Lib.AppendZeros
import Derived.Lib.BufferMore
import Derived.Lib.BufferWrite
import Derived.Lib.ConvBytes
import Derived.Lib.Overlaps
import Derived.Lib.UnsafeStr
import Derived.RegionDies
import Derived.Lib.Bytealg
import Derived.RangeFuncNested
import Derived.RangeFuncBound
import Derived.RangeFuncCalls
import Derived.RangeFuncLeaves
import Derived.RangeFuncBox
import Derived.Shelf.Abstract
import Derived.Shelf.RegionOpen
import Derived.OwnWalkIn
import Derived.TacticsInMore
import Derived.LoopNIn
import Derived.LoopIn
import Derived.Conc.MuLone
import Derived.ProofKit
import Derived.OpenShut
import Derived.ShutString
import Derived.ChangeOld
import Derived.JoinedCond
import Derived.Deep.Slices
import Derived.Deep.DrawnRows
namespace Go.RowKit
theorem Hid.o{p:Prop}(h:Go.RowKit.Hid p):p:=h
end Go.RowKit
namespace Go.Proofs.YtolgpnaoaodepaaGreat
abbrev Z_:Value:=.slice none 0 0
abbrev A_(b:Nat):Value:=.pointer (some ⟨b,0,none⟩)
abbrev P_(b:Nat):Option Addr:=some ⟨b,0,none⟩
abbrev Q_(b i:Nat):Addr:=⟨b,i,none⟩
abbrev J_(n:Int):Value:=.int .i64 n
abbrev B_(b:ByteArray):Value:=.string b
abbrev L_(a:Option Addr)(n c:Nat):Value:=.slice a n c
abbrev C_(a:Array Value)(t:TypeId)(o:Nat×Nat:=(0,0)):Obj:=.cells a t o
abbrev R_(v:Value):Ending:=.returned v
variable {p:Prop}{n:Nat}
theorem O_(h:p:=by omega):p:=h
theorem Do(h:p:=by decide):p:=h
theorem D_(h:p:=by simp):p:=h
theorem S_(h:p:=by kernel_rfl):p:=h
theorem K_(h:p:=by simp;omega):p:=h
theorem U_(h:p:=by simp[Act.eval]):p:=h
theorem V_(h:p:=by assumption):p:=h
theorem W_(h:p:=by go_num):p:=h
theorem X_:n<=n:=Nat.le_refl _
theorem Y_:0<=n:=Nat.zero_le _
end Go.Proofs.YtolgpnaoaodepaaGreat
namespace Go.Proofs.YtolgpnaoaodepaaGreat
abbrev xA:=@Go.RowKit.Below.refl
abbrev xB:=@if_neg
abbrev xC:=@List.length_append
abbrev xD:=@if_pos
abbrev xE:=@List.mem_append
abbrev xF:=@Go.World.ownsRow.lt
abbrev xG:=@List.mem_cons
abbrev xH:=@List.length_cons
abbrev xI:=@Nat.le_trans
abbrev xJ:=@Go.Value.slice.injEq
abbrev xK:=@Go.heap_alloc_new
abbrev xL:=@List.mem_map
abbrev xM:=@Option.some.inj
abbrev xN:=@decide_eq_false
abbrev xO:=@List.nodup_append
abbrev xP:=@List.length_map
abbrev xQ:=@decide_eq_true
abbrev xR:=@List.length_take
abbrev xS:=@Array.getElem?_eq_some_iff
abbrev xT:=@List.append_assoc
abbrev xU:=@List.mem_cons_self
abbrev xV:=@Option.bind_some
abbrev xW:=@List.getElem?_eq_getElem
abbrev xX:=@Option.some.injEq
abbrev xY:=@List.length_drop
abbrev xZ:=@List.mem_cons_of_mem
abbrev yA:=@List.getElem_mem
abbrev yB:=@true_and
abbrev yC:=@List.append_nil
abbrev yD:=@List.map_cons
abbrev yE:=@List.mem_append_right
abbrev yF:=@Nat.lt_of_lt_of_le
abbrev yG:=@and_true
abbrev yH:=@List.getElem?_cons_succ
abbrev yI:=@List.getElem?_cons_zero
abbrev yJ:=@List.getElem?_toArray
abbrev yK:=@Bool.and_eq_true
abbrev yL:=@decide_eq_true_eq
abbrev yM:=@List.drop_eq_getElem_cons
abbrev yN:=@List.mem_append_left
abbrev yO:=@List.flatten_cons
abbrev yP:=@Go.World.ownsRow_nil
abbrev yQ:=@trivial
abbrev yR:=@List.mem_singleton
abbrev yS:=@Go.bodyPost_ret
abbrev yT:=@Go.Addr.mk.injEq
abbrev yU:=@List.length_nil
abbrev yV:=@List.nodup_cons
abbrev yW:=@congrArg
abbrev yX:=@List.map_append
abbrev yY:=@List.take_of_length_le
abbrev yZ:=@Go.IntKind.wrap_i64
abbrev zA:=@List.length_eq_zero_iff
abbrev zB:=@Go.info_parts
abbrev zC:=@Go.Proofs.Tryz.underlying30
abbrev zD:=@Go.World.ownsRow.cells
abbrev zE:=@List.set_cons_succ
abbrev zF:=@List.set_cons_zero
abbrev zG:=@List.drop_eq_nil_of_le
abbrev zH:=@List.setIfInBounds_toArray
abbrev zI:=@List.nil_append
abbrev zJ:=@List.pairwise_cons
abbrev zK:=@List.take_append_drop
abbrev zL:=@Go.wpAnyH_take
abbrev zM:=@ByteArray.size_extract
abbrev zN:=@List.take_add_one
abbrev zO:=@Go.ByteArray.size_append'
abbrev zP:=@Go.World.ownsRow.kept
abbrev zQ:=@List.take_length
abbrev zR:=@Nat.zero_add
abbrev zS:=@Go.AllReadyH.cons
abbrev zT:=@List.eq_nil_of_length_eq_zero
abbrev zU:=@List.getElem?_map
abbrev zV:=@List.all_eq_true
abbrev zW:=@List.map_map
abbrev zX:=@Nat.le_of_lt
abbrev zY:=@Go.IntWalk.i64_in
abbrev zZ:=@Go.Lib.extract_data
abbrev jA:=@List.cons.injEq
abbrev jB:=@List.take_left
abbrev jC:=@Go.Proofs.Tryz.underlying108
abbrev jD:=@Go.AllReadyH.nil
abbrev jE:=@Go.wpAnyH_ready
abbrev jF:=@List.cons_append
abbrev jG:=@List.drop_drop
abbrev jH:=@List.getD_eq_getElem?_getD
abbrev jI:=@funext
abbrev jJ:=@List.flatMap_cons
abbrev jK:=@List.getElem_of_mem
abbrev jL:=@Nat.min_eq_left
abbrev jM:=@List.getElem?_eq_some_iff
abbrev jN:=@List.pairwise_append
abbrev jO:=@List.take_take
abbrev jP:=@Go.Proofs.Tryz.underlying121
abbrev jQ:=@List.drop_left
abbrev jR:=@List.length_singleton
abbrev jS:=@Go.Proofs.Tryz.underlying9
abbrev jT:=@Array.length_toList
abbrev jU:=@List.filter_cons_of_neg
abbrev jV:=@List.length_set
abbrev jW:=@Nat.add_zero
abbrev jX:=@Nat.lt_or_ge
abbrev jY:=@UInt8.toNat_ofNat'
abbrev jZ:=@of_decide_eq_true
abbrev kA:=@Go.run_string_add_sum
abbrev kB:=@List.drop_of_length_le
abbrev kC:=@List.getElem?_append_right
abbrev kD:=@List.length_replicate
abbrev kE:=@List.take_append_of_le_length
abbrev kF:=@Nat.le_succ
abbrev kG:=@Go.run_underlying
abbrev kH:=@Classical.byContradiction
abbrev kI:=@List.flatten_append
abbrev kJ:=@Nat.mul_one
abbrev kK:=@Go.World.cell?_of_block
abbrev kL:=@Prod.mk.injEq
abbrev kM:=@Go.Proofs.Tryz.underlying40
abbrev kN:=@Array.mk.injEq
abbrev kO:=@List.filter_cons_of_pos
abbrev kP:=@List.length_pos_iff
abbrev kQ:=@Go.Proofs.Tryz.results152
abbrev kR:=@Go.RowKit.Below.heap_alloc
abbrev kS:=@Go.RowKit.Below.heap_setCell
abbrev kT:=@Bool.or_eq_true
abbrev kU:=@List.length_filter_le
abbrev kV:=@List.mem_flatten
abbrev kW:=@Nat.mul_le_mul_right
abbrev kX:=@Go.Proofs.Tryz.underlying77
abbrev kY:=@Go.run_append_own_at
abbrev kZ:=@List.getElem?_drop
abbrev vA:=@List.getElem_append_left
abbrev vB:=@Go.Value.agg.injEq
abbrev vC:=@Go.World.drewN_drewN
abbrev vD:=@Array.toList_append
abbrev vE:=@Go.Lib.byteCells_length
abbrev vF:=@List.exists_cons_of_ne_nil
abbrev vG:=@List.flatten_nil
abbrev vH:=@List.map_nil
abbrev vI:=@List.size_toArray
abbrev vJ:=@Nat.mul_comm
abbrev vK:=@Nat.zero_mul
abbrev vL:=@Option.bind_none
abbrev vN:=@Go.World.cell?_alloc_past
abbrev vO:=@Go.Lib.wpList_append_run
abbrev vP:=@List.Perm.refl
abbrev vQ:=@List.getElem?_append_left
abbrev vR:=@List.getElem_map
abbrev vT:=@List.mem_filter
abbrev vU:=@List.mem_of_mem_take
abbrev vV:=@Nat.pow_succ
abbrev vW:=@Go.Obj.cells.injEq
abbrev vX:=@Option.map_map
abbrev vY:=@Option.map_some
abbrev vZ:=@Go.Proofs.Tryz.underlying3
abbrev wA:=@Go.Proofs.Tryz.underlying5
abbrev wB:=@Go.cell_regrown
abbrev wC:=@dif_pos
abbrev wD:=@if_true
abbrev wE:=@Go.leaves_cons
abbrev wF:=@Go.Lib.byteCells_append
abbrev wG:=@List.filter_append
abbrev wH:=@List.flatten_eq_nil_iff
abbrev wI:=@List.mem_flatMap
abbrev wJ:=@List.nodup_nil
abbrev wK:=@List.pairwise_iff_getElem
abbrev wL:=@Nat.add_mul
abbrev wM:=@Nat.le_of_eq
abbrev wN:=@Nat.min_self
abbrev wO:=@Nat.mul_le_mul
abbrev wP:=@Nat.mul_le_mul_left
abbrev wQ:=@if_false
abbrev wR:=@Go.run_loadCells_list
abbrev wS:=@Go.size_zeroCells
abbrev wT:=@Go.wpList_append_own_at
abbrev wU:=@Bool.eq_false_iff
abbrev wV:=@Go.Calls.regrown_of
abbrev wW:=@List.Perm.append_left
abbrev wX:=@List.dropWhile_suffix
abbrev wY:=@List.ext_getElem
abbrev wZ:=@List.getD_cons_zero
abbrev qA:=@List.getElem?_set
abbrev qB:=@List.length_range'
abbrev qC:=@List.not_lt
abbrev qD:=@List.perm_append_comm
abbrev qE:=@List.take_zero
abbrev qF:=@Nat.add_sub_cancel
abbrev qG:=@Nat.mul_add
abbrev qH:=@Go.Proofs.Tryz.results154
abbrev qI:=@Go.World.cell?_setCell_other
abbrev qJ:=@decide_eq_false_iff_not
abbrev qK:=@dif_neg
abbrev qL:=@Go.growslice_fits
abbrev qM:=@Array.toList_setIfInBounds
abbrev qN:=@ByteArray.data_append
abbrev qO:=@Go.DataW.trod_string
abbrev qP:=@List.Pairwise.sublist
abbrev qQ:=@List.drop_length
abbrev qR:=@List.drop_zero
abbrev qS:=@List.filter_cons
abbrev qT:=@List.getElem?_take
abbrev qU:=@List.getElem?_take_of_lt
abbrev qV:=@List.getElem_append_right
abbrev qW:=@List.getElem_cons_drop
abbrev qX:=@List.map_set
abbrev qY:=@List.mem_range
abbrev qZ:=@List.sum_cons
abbrev aA:=@List.take_set
abbrev aB:=@List.take_succ_cons
abbrev aC:=@Nat.add_assoc
abbrev aD:=@Nat.le_of_not_lt
abbrev aE:=@Nat.lt_trichotomy
abbrev aF:=@Go.Result.ok.injEq
abbrev aG:=@Go.Proofs.Tryz.func174
abbrev aH:=@Go.Proofs.Tryz.func209
abbrev aI:=@Go.Proofs.Tryz.ntmps174
abbrev aJ:=@Go.Proofs.Tryz.ntmps209
abbrev aK:=@Go.Proofs.Tryz.underlying25
abbrev aL:=@Go.World.size_alloc
abbrev aM:=@Go.below_regrown
abbrev aN:=@eq_of_heq
abbrev aO:=@Go.RowKit.ownsRow_setCell_below
abbrev aP:=@Go.run_storeCells_at
abbrev aQ:=@Go.setRow_heap
abbrev aR:=@Go.wpAnyH_done
abbrev aS:=@Go.wpList_append_own_none
abbrev aT:=@Go.wpQuiet_nil
abbrev aU:=@Go.wp_region_quiet_below
abbrev aV:=@Array.getElem?_eq_none
abbrev aW:=@Array.size_append
abbrev aX:=@Array.toList_map
abbrev aY:=@Bool.and_false
abbrev aZ:=@Go.DataW.trod_struct
abbrev bA:=@Int.ofNat_eq_natCast
abbrev bB:=@Int.ofNat_tdiv
abbrev bC:=@List.all_cons
abbrev bD:=@List.append_inj
abbrev bE:=@List.cons.inj
abbrev bF:=@List.drop_append
abbrev bG:=@List.getD_cons_succ
abbrev bH:=@List.length_zipWith
abbrev bI:=@List.map_eq_nil_iff
abbrev bJ:=@List.mem_of_mem_drop
abbrev bK:=@List.of_mem_zip
abbrev bL:=@List.pairwise_singleton
abbrev bM:=@List.sublist_append_right
abbrev bN:=@List.takeWhile_append_dropWhile
abbrev bO:=@List.take_add
abbrev bP:=@List.take_succ_eq_append_getElem
abbrev bQ:=@Nat.div_lt_iff_lt_mul
abbrev bR:=@Nat.eq_zero_or_pos
abbrev bS:=@Nat.lt_irrefl
abbrev bT:=@Nat.mod_eq_of_lt
abbrev bU:=@Nat.sub_self
abbrev bV:=@Option.none_or
abbrev bW:=@Prod.mk.inj
abbrev bX:=@Go.Proofs.Tryz.func171
abbrev bY:=@Go.Proofs.Tryz.func175
abbrev bZ:=@Go.Proofs.Tryz.func28
abbrev cC:=@Go.Proofs.Tryz.func54
abbrev cD:=@Go.Proofs.Tryz.ntmps171
abbrev cE:=@Go.Proofs.Tryz.ntmps175
abbrev cF:=@Go.Proofs.Tryz.ntmps28
abbrev cG:=@Go.Proofs.Tryz.ntmps54
abbrev cH:=@Go.Proofs.Tryz.results100
abbrev cI:=@Go.Proofs.Tryz.underlying22
abbrev cJ:=@UInt8.not_lt
abbrev cK:=@Go.World.cell?_setCell_same
abbrev cL:=@Go.World.cells?_some
abbrev cM:=@Go.World.frozen?_setCell
abbrev cN:=@Go.World.ownsRow.alloc
abbrev cO:=@Go.cell_kept
abbrev cP:=@Go.grownCap_ge
abbrev cQ:=@Go.grownCap_le_maxLen
abbrev cR:=@Go.ofInt_u64
abbrev cS:=@Go.results_tmp2
abbrev cT:=@Go.setRow_other
abbrev cU:=@Go.u32_xor_nat
abbrev cV:=@Go.wpList_make_full
abbrev cW:=@Go.wpList_plain
abbrev cX:=@Array.replicate_succ
abbrev cY:=@Array.replicate_zero
abbrev cZ:=@Bool.false_eq_true
abbrev dA:=@Bool.not_eq_true'
abbrev dB:=@Bool.or_eq_false_iff
abbrev dC:=@Bool.true_and
abbrev dD:=@Go.Calls.quiet_of_same
abbrev dE:=@Go.DataW.trod_int
abbrev dF:=@Go.wp_at_succ
abbrev dG:=@Go.wp_at_zero
abbrev dH:=@Go.Lib.run_append_grow_zeros
abbrev dI:=@Go.Lib.run_eql_slice_some_nil
abbrev dJ:=@List.Perm.append_right
abbrev dK:=@List.all_eq_false
abbrev dL:=@List.append_toArray
abbrev dM:=@List.drop_succ_cons
abbrev dN:=@List.filter_eq_nil_iff
abbrev dO:=@List.flatMap_append
abbrev dP:=@List.getElem?_eq_none
abbrev dQ:=@List.getElem?_range
abbrev dR:=@List.getElem_range
abbrev dS:=@List.length_tail
abbrev dT:=@List.map_congr_left
abbrev dU:=@List.map_drop
abbrev dV:=@List.mem_of_getElem?
abbrev dW:=@List.not_lt_nil
abbrev dX:=@List.push_toArray
abbrev dY:=@List.take_left'
abbrev dZ:=@Nat.div_mul_le_self
abbrev fA:=@Nat.lt_of_le_of_lt
abbrev fB:=@Nat.sub_zero
abbrev fC:=@Go.Proofs.Tryz.func139
abbrev fD:=@Go.Proofs.Tryz.func151
abbrev fE:=@Go.Proofs.Tryz.func160
abbrev fF:=@Go.Proofs.Tryz.func254
abbrev fG:=@Go.Proofs.Tryz.ntmps151
abbrev fH:=@Go.Proofs.Tryz.ntmps160
abbrev fI:=@Go.Proofs.Tryz.ntmps254
abbrev fJ:=@Go.Proofs.Tryz.ntmps48
abbrev fK:=@Go.Proofs.Tryz.ntmps55
abbrev fL:=@Go.Proofs.Tryz.ntmps64
abbrev fM:=@Go.Proofs.Tryz.ntmps70
abbrev fN:=@Go.Proofs.Tryz.results68
abbrev fO:=@Go.Proofs.Tryz.results70
abbrev fP:=@UInt8.toNat_inj
abbrev fQ:=@Go.World.grownBy.refl
abbrev fR:=@beq_eq_false_iff_ne
abbrev fS:=@of_decide_eq_false
abbrev fT:=@Go.run_append_owned_none
abbrev fU:=@Go.run_append_room
abbrev fV:=@Go.run_callFunc_extern
abbrev fW:=@Go.run_convert_bytes_back
abbrev fX:=@Array.getElem?_modify
abbrev fY:=@Bool.and_eq_false_iff
abbrev fZ:=@Go.Ending.returned.injEq
abbrev gA:=@Int.tdiv_eq_ediv_of_nonneg
abbrev gB:=@Go.Joins.run_convert_bytes_const_at
abbrev gC:=@Go.Lib.run_append_own_string
abbrev gD:=@Go.Lib.run_convert_string_bytes
abbrev gE:=@Go.Lib.run_overlaps_apart
abbrev gF:=@List.append_cancel_left
abbrev gG:=@List.cons_lt_cons_iff
abbrev gH:=@List.dropWhile_append_of_pos
abbrev gI:=@List.exists_mem_of_ne_nil
abbrev gJ:=@List.getElem?_zipWith
abbrev gK:=@List.head?_dropWhile_not
abbrev gL:=@List.head?_eq_getElem?
abbrev gM:=@List.ne_nil_of_length_pos
abbrev gN:=@List.pairwise_flatten
abbrev gO:=@List.replicate_append_replicate
abbrev gP:=@List.takeWhile_append_of_pos
abbrev gQ:=@List.takeWhile_prefix
abbrev gR:=@Nat.add_sub_cancel_left
abbrev gS:=@Nat.div_div_eq_div_mul
abbrev gT:=@Nat.div_le_iff_le_mul_add_pred
abbrev gU:=@Nat.le_div_iff_mul_le
abbrev gV:=@Nat.le_mul_of_pos_right
abbrev gW:=@Option.bind_eq_some_iff
abbrev gX:=@Option.map_eq_some_iff
abbrev gY:=List (ByteArray×ByteArray)
abbrev gZ:=List (Int×ByteArray×ByteArray)
abbrev hA:=List (ByteArray×Nat)
abbrev hD:=List ByteArray
abbrev hE:=List UInt8
abbrev hF:=List Nat
abbrev hH:=List Value
abbrev hJ:=ByteArray
set_option maxHeartbeats 1000000
namespace Sq
def com(l:hE)(i j:Nat):Nat->Nat
 | 0=>0
 | m+1=>if j<l.length/\l[i]?=l[j]? then com l (i+1) (j+1) m+1 else 0
theorem KM(c:hE):∀(m a b:Nat),com c a b m<=m
 | 0,_,_=>X_
 | m+1,a,b=>by
  unfold com;split
  ·have:=KM c m (a+1) (b+1);omega
  ·omega
theorem Ot(f:hE):∀(m c b a:Nat),a<=m->b+a<=f.length->(∀d,d<a->f[c+d]?=f[b+d]?)->(a=m\/¬(b+a<f.length/\f[c+a]?=f[b+a]?))->com f c b m=a
 | 0,c,b,a,h,_,_,_=>by simp[com];omega
 | m+1,c,b,0,_,_,_,hs=>by
  unfold com;rw[xB];rcases hs with h|h
  ·omega
  ·simpa using h
 | m+1,c,b,a+1,h,hl,hk,hs=>by
  unfold com;have h0:=hk 0 O_;rw[xD ⟨O_,by simpa using h0⟩];rw[Ot f m (c+1) (b+1) a O_ O_ (fun d i=>by have:=hk (d+1) O_;rw[show c+1+d=c+(d+1)by omega,show b+1+d=b+(d+1)by omega];exact this) ?_];rcases hs with g|g
  ·left;omega
  ·right;rw[show c+1+a=c+(a+1)by omega,show b+1+a=b+(a+1)by omega];exact g
def mat(l:hE)(at_ d:Nat):Nat:=com l (at_-d) at_ (min 66 (l.length-at_))
theorem KN(b:hE)(a c:Nat):mat b a c<=66:=by unfold mat;have:=KM b (min 66 (b.length-a)) (a-c) a;omega
theorem NF(a:hE)(b c:Nat):mat a b c<=min 66 (a.length-b):=KM a _ _ _
def up(l:hE)(at_:Nat):Nat->Nat×Nat
 | 0=>(2,0)
 | c+1=>if(up l at_ c).1<mat l at_ (c+1)then(mat l at_ (c+1),c+1)else up l at_ c
theorem Su(b:hE)(d:Nat):∀c,(∀f,1<=f->f<=c->mat b d f<=(up b d c).1/\(f<(up b d c).2->mat b d f<(up b d c).1))/\((up b d c=(2,0))\/(1<=(up b d c).2/\(up b d c).2<=c/\mat b d (up b d c).2=(up b d c).1/\2<(up b d c).1))
 | 0=>⟨fun f g a=>O_,.inl rfl⟩
 | c+1=>by
  obtain⟨g,a⟩:=Su b d c;have l:2<=(up b d c).1:=by
   rcases a with a|a
   ·rw[a];exact Nat.le_refl _
   ·omega
  rw[up];split
  ·rename_i m;refine⟨fun f i k=> ?_,.inr ⟨D_,D_,rfl,K_⟩⟩;by_cases e:f=c+1
   ·subst e;simp
   ·have:=(g f i O_).1;simp;omega
  ·rename_i n;refine⟨fun f i k=> ?_,?_⟩
   ·by_cases e:f=c+1
    ·subst e;refine⟨O_,fun j=> ?_⟩;rcases a with a|a
     ·rw[a]at j;simp at j
     ·omega
    ·exact g f i O_
   ·rcases a with a|a
    ·exact .inl a
    ·exact .inr ⟨a.1,O_,a.2.2.1,a.2.2.2⟩
theorem NG(b:hE)(c a:Nat)(h:min 66 (b.length-c)<=(up b c a).1):∀k,up b c (a+k)=up b c a
 | 0=>rfl
 | k+1=>by have d:=NG b c a h k;rw[show a+(k+1)=(a+k)+1 from rfl,up,d,xB];have:=NF b c (a+k+1);omega
def Eb(l:hE)(at_:Nat):Nat×Nat:=up l at_ (min at_ 255)
theorem BW(b:hE)(a:Nat):(Eb b a).2<=255/\(Eb b a).2<=a:=by
 have:=(Su b a (min a 255)).2;unfold Eb;rcases this with h|h
 ·rw[h];simp
 ·omega
theorem Mu(b:hE)(a:Nat)(h:(Eb b a).2≠0):3<=(Eb b a).1/\(Eb b a).1<=66/\a+(Eb b a).1<=b.length:=by
 have:=(Su b a (min a 255)).2;unfold Eb at*;rcases this with c|c
 ·rw[c]at h;simp at h
 ·have d:=KN b a (up b a (min a 255)).2;have f:=NF b a (up b a (min a 255)).2;omega
def Fh(l:hE)(at_:Nat):Nat->Nat×Nat
 | 0=>(0,0)
 | j+1=>if 255-j<=at_/\(Fh l at_ j).1<=mat l at_ (255-j)then(mat l at_ (255-j),255-j)else Fh l at_ j
theorem IB(c:hE)(b:Nat):∀j,j<=255->(∀a,256-j<=a->a<=255->a<=b->mat c b a<=(Fh c b j).1/\(a<(Fh c b j).2->mat c b a<(Fh c b j).1))/\((Fh c b j=(0,0)/\∀a,256-j<=a->a<=255->¬a<=b)\/(256-j<=(Fh c b j).2/\(Fh c b j).2<=255/\(Fh c b j).2<=b/\mat c b (Fh c b j).2=(Fh c b j).1))
 | 0,_=>⟨fun a i d=>O_,.inl ⟨rfl,fun a i d=>O_⟩⟩
 | j+1,hj=>by
  obtain⟨i,d⟩:=IB c b j O_;rw[Fh];split
  ·rename_i k;refine⟨fun a m g f=> ?_,.inr ⟨by simp only[];omega,D_,by simpa using k.1,rfl⟩⟩;by_cases e:a=255-j
   ·subst e;simp
   ·have:=(i a O_ g f).1;exact⟨K_,fun l=>by simp at l;omega⟩
  ·rename_i k;refine⟨fun a m g f=> ?_,?_⟩
   ·by_cases e:a=255-j
    ·subst e;have:¬(Fh c b j).1<=mat c b (255-j):=fun l=>k ⟨f,l⟩
     omega
    ·exact i a O_ g f
   ·rcases d with⟨d,n⟩|d
    ·refine .inl ⟨d,fun a m g f=> ?_⟩;by_cases e:a=255-j
     ·subst e;exact k ⟨f,by rw[d];exact Nat.zero_le _⟩
     ·exact n a O_ g f
    ·exact .inr ⟨O_,d.2.1,d.2.2.1,d.2.2.2⟩
theorem XI(b:hE)(a:Nat):(Eb b a).2=0/\(Fh b a 255).1<3\/(Eb b a).2≠0/\3<=(Fh b a 255).1/\Fh b a 255=Eb b a:=by
 obtain⟨u1,u2⟩:=Su b a (min a 255);obtain⟨k,f⟩:=IB b a 255 X_;unfold Eb;generalize up b a (min a 255)=s at*;generalize Fh b a 255=v at*;obtain⟨l,c⟩:=s;obtain⟨m,d⟩:=v;simp only[kL]at*;rcases u2 with⟨rfl,rfl⟩|⟨t,u,y,z⟩
 ·left;refine⟨rfl,?_⟩;rcases f with⟨⟨rfl,rfl⟩,_⟩|⟨n,o,p,q⟩
  ·omega
  ·have:=(u1 d O_ O_).1;omega
 ·right;refine⟨O_,?_⟩;have g:=k c O_ O_ O_;rcases f with⟨⟨rfl,rfl⟩,r⟩|⟨n,o,p,q⟩
  ·exact absurd (show c<=a by omega) (r c O_ O_)
  ·have i:=u1 d O_ O_;have j:l=m:=O_;subst j;refine⟨O_,rfl,?_⟩;rcases aE c d with h|h|h
   ·have:=g.2 h;omega
   ·exact h.symm
   ·have:=i.2 h;omega
def Re:Nat->hE->hE
 | 0,_=>[]
 | f+1,s=>if s=[]then[]else UInt8.ofNat (min s.length 128-1)::(s.take 128++Re f (s.drop 128))
def Ii(s:hE):hE:=Re s.length s
theorem Zh:∀(f b:Nat) (a:hE),a.length<=f->a.length<=b->Re f a=Re b a
 | 0,0,_,_,_=>rfl
 | 0,b+1,a,h,_=>by have:a=[]:=zA.1 O_;subst this;simp[Re]
 | f+1,0,a,_,h=>by have:a=[]:=zA.1 O_;subst this;simp[Re]
 | f+1,b+1,a,h1,h2=>by
  unfold Re;by_cases e:a=[]
  ·simp[e]
  ·have:0<a.length:=kP.2 e;rw[xB e,xB e,Zh f b (a.drop 128) K_ K_]
theorem Jk:Ii []=[]:=rfl
theorem Mv(a:hE)(h:a≠[]):Ii a=UInt8.ofNat (min a.length 128-1)::(a.take 128++Ii (a.drop 128)):=by have d:0<a.length:=kP.2 h;obtain⟨b,c⟩:∃b,a.length=b+1:=⟨a.length-1,O_⟩;unfold Ii;rw[c,Re,xB h,c,Zh b (a.drop 128).length _ K_ X_]
theorem Zi(a:hE)(h:a≠[])(b:a.length<=128):Ii a=UInt8.ofNat (a.length-1)::a:=by rw[Mv a h,yY b,zG b,Jk,jL b,yC]
theorem Ug(a b:hE)(h:a.length=128):Ii (a++b)=127::(a++Ii b):=by
 rw[Mv _ (by intro e;simp at e;rw[e.1]at h;simp at h)];have c:min (a++b).length 128-1=127:=K_;have d:(a++b).take 128=a:=by rw[<-h];simp
 have f:(a++b).drop 128=b:=by rw[<-h];simp
 rw[c,d,f];rfl
theorem Vo:∀(n:Nat) (a:hE),a.length<=n->(Ii a).length<=2*a.length
 | 0,a,h=>by have:a=[]:=zA.1 O_;subst this;simp[Jk]
 | n+1,a,h=>by
  by_cases e:a=[]
  ·subst e;simp[Jk]
  ·have b:0<a.length:=kP.2 e;rw[Mv a e];have:=Vo n (a.drop 128) K_;simp at*;omega
def rem(l:hE):Nat->Nat->hE->hE
 | 0,_,p=>Ii p
 | f+1,at_,p=>if l.length<=at_ then Ii p else
  if(Eb l at_).2=0 then rem l f (at_+1) (p++(l.drop at_).take 1)
  else Ii p++(UInt8.ofNat (125+(Eb l at_).1)::UInt8.ofNat (Eb l at_).2::rem l f (at_+(Eb l at_).1) [])
theorem BX(b:hE):∀(f c a:Nat) (d:hE),b.length-a<=f->b.length-a<=c->rem b f a d=rem b c a d
 | 0,0,_,_,_,_=>rfl
 | 0,c+1,a,d,h,_=>by rw[rem,rem,xD O_]
 | f+1,0,a,d,_,h=>by rw[rem,rem,xD O_]
 | f+1,c+1,a,d,h1,h2=>by
  rw[rem,rem];by_cases e:b.length<=a
  ·rw[xD e,xD e]
  ·rw[xB e,xB e];by_cases d:(Eb b a).2=0
   ·rw[xD d,xD d,BX b f c (a+1) _ O_ O_]
   ·have:=Mu b a d;rw[xB d,xB d,BX b f c (a+(Eb b a).1) _ O_ O_]
def rest(l:hE)(at_:Nat)(p:hE):hE:=rem l (l.length-at_) at_ p
def Br(l:hE):hE:=rest l 0 []
theorem BY(a:hE)(b:Nat)(c:hE)(h:a.length<=b):rest a b c=Ii c:=by unfold rest;rw[show a.length-b=0 by omega];rfl
theorem Rf(a:hE)(b:Nat)(c:hE)(h:b<a.length)(d:(Eb a b).2=0):rest a b c=rest a (b+1) (c++[a[b]]):=by unfold rest;rw[show a.length-b=(a.length-(b+1))+1 by omega,rem,xB O_,xD d];rw[yM h];rfl
theorem Uh(a:hE)(b:Nat)(c:hE)(h:b<a.length)(d:(Eb a b).2≠0):rest a b c=Ii c++(UInt8.ofNat (125+(Eb a b).1)::UInt8.ofNat (Eb a b).2::rest a (b+(Eb a b).1) []):=by have f:=Mu a b d;unfold rest;rw[show a.length-b=(a.length-(b+1))+1 by omega,rem,xB O_,xB d];rw[BX a (a.length-(b+1)) (a.length-(b+(Eb a b).1)) _ _ O_ O_]
theorem NH(d:hE):∀(f c:Nat) (a b:hE),a.length=128->rem d f c (a++b)=127::(a++rem d f c b)
 | 0,_,a,b,h=>Ug a b h
 | f+1,c,a,b,h=>by
  rw[rem,rem];split
  ·exact Ug a b h
  ·split
   ·rw[xT,NH d f _ a _ h]
   ·rw[Ug a b h];simp
theorem XJ(a:hE)(b:Nat)(c:hE)(h:c.length=128):rest a b c=127::(c++rest a b []):=by have:=NH a (a.length-b) b c [] h;rw[yC]at this;exact this
theorem SA(c:hE):∀(f b:Nat) (a:hE),(rem c f b a).length<=2*a.length+2*f
 | 0,_,a=>by have:=Vo _ a X_;simp[rem];omega
 | f+1,b,a=>by
  rw[rem];have h0:=Vo _ a X_;split
  ·omega
  ·split
   ·have:=SA c f (b+1) (a++(c.drop b).take 1);simp at this;simp;omega
   ·have:=SA c f (b+(Eb c b).1) [];simp at*;omega
theorem Adp(a:hE)(b:Nat)(c:hE):(rest a b c).length<=2*c.length+2*(a.length-b):=SA a _ b c
theorem BZ(a:hE):(Br a).length<=2*a.length:=by have:=Adp a 0 [];simpa[Br]using this
def Ja(out:hE)(d:Nat):Nat->hE
 | 0=>out
 | n+1=>Ja (out++[out.getD (out.length-d) 0]) d n
theorem Ou:∀(n:Nat) (a:hE) (b:Nat),(Ja a b n).length=a.length+n
 | 0,_,_=>rfl
 | n+1,a,b=>by rw[Ja,Ou n];simp;omega
theorem Pn:∀(n:Nat) (b:hE) (a:Nat),Ja b a (n+1)=Ja b a n++[(Ja b a n).getD ((Ja b a n).length-a) 0]
 | 0,_,_=>rfl
 | n+1,b,a=>by rw[Ja,Pn n];rfl
def dec:Nat->hE->hE->Option hE
 | 0,s,out=>if s=[]then some out else none
 | f+1,s,out=>match s with
  | []=>some out
  | n::t=>if n.toNat<128 then
    (if n.toNat+1<=t.length then dec f (t.drop (n.toNat+1)) (out++t.take (n.toNat+1))else none)
   else match t with
    | []=>none
    | d::u=>if n.toNat<=191/\1<=d.toNat/\d.toNat<=out.length then dec f u (Ja out d.toNat (n.toNat-125))else none
theorem Vp:∀(f a:Nat) (b c:hE),b.length<=f->b.length<=a->dec f b c=dec a b c
 | 0,0,_,_,_,_=>rfl
 | 0,a+1,b,c,h,_=>by have:b=[]:=zA.1 O_;subst this;simp[dec]
 | f+1,0,b,c,_,h=>by have:b=[]:=zA.1 O_;subst this;simp[dec]
 | f+1,a+1,[],c,_,_=>by simp[dec]
 | f+1,a+1,[n],c,h1,h2=>by simp[dec]
 | f+1,a+1,n::d::u,c,h1,h2=>by simp only[xH]at h1 h2;simp only[dec];rw[Vp f a ((d::u).drop (n.toNat+1)) _ K_ K_,Vp f a u _ O_ O_]
theorem Vq(f:Nat)(a:UInt8)(b c:hE):dec (f+1) (a::b) c=if a.toNat<128 then(if a.toNat+1<=b.length then dec f (b.drop (a.toNat+1)) (c++b.take (a.toNat+1))else none)else match b with
    | []=>none
    | d::u=>if a.toNat<=191/\1<=d.toNat/\d.toNat<=c.length then dec f u (Ja c d.toNat (a.toNat-125))else none:=rfl
def Bn(s out:hE):Option hE:=dec s.length s out
theorem Ui(a:hE):Bn [] a=some a:=rfl
theorem Uj(a:UInt8)(b c:hE)(h:a.toNat<128)(d:a.toNat+1<=b.length):Bn (a::b) c=Bn (b.drop (a.toNat+1)) (c++b.take (a.toNat+1)):=by unfold Bn;rw[xH,Vq,xD h,xD d,Vp _ (b.drop (a.toNat+1)).length _ _ D_ X_]
theorem Tt(a:UInt8)(b c:hE)(h:a.toNat<128)(d:¬a.toNat+1<=b.length):Bn (a::b) c=none:=by unfold Bn;rw[xH,Vq,xD h,xB d]
theorem Po(b a:UInt8)(c d:hE)(h:¬b.toNat<128)(f:b.toNat<=191/\1<=a.toNat/\a.toNat<=d.length):Bn (b::a::c) d=Bn c (Ja d a.toNat (b.toNat-125)):=by unfold Bn;rw[xH,Vq,xB h];show(if b.toNat<=191/\1<=a.toNat/\a.toNat<=d.length then dec (a::c).length c (Ja d a.toNat (b.toNat-125))else none)=_;rw[xD f,Vp _ c.length _ _ D_ X_]
theorem Qt(b a:UInt8)(d c:hE)(h:¬b.toNat<128)(f:¬(b.toNat<=191/\1<=a.toNat/\a.toNat<=c.length)):Bn (b::a::d) c=none:=by unfold Bn;rw[xH,Vq,xB h];show(if b.toNat<=191/\1<=a.toNat/\a.toNat<=c.length then dec (a::d).length d (Ja c a.toNat (b.toNat-125))else none)=_;rw[xB f]
theorem Ov(a:UInt8)(b:hE)(h:¬a.toNat<128):Bn [a] b=none:=by unfold Bn;rw[xH,Vq,xB h]
theorem SB:∀(f:Nat) (c a b:hE),dec f c a=some b->b.length<=a.length+66*c.length
 | 0,c,a,b,h=>by
  unfold dec at h;split at h
  ·simp at h;subst h;omega
  ·simp at h
 | f+1,[],a,b,h=>by simp[dec]at h;subst h;simp
 | f+1,[n],a,b,h=>by
  simp only[dec]at h;split at h
  ·split at h
   ·rename_i g;simp at g
   ·simp at h
  ·simp at h
 | f+1,n::d::u,a,b,h=>by
  simp only[dec]at h;split at h
  ·split at h
   ·have:=SB f _ _ _ h;simp at*;omega
   ·simp at h
  ·split at h
   ·have:=SB f _ _ _ h;rw[Ou]at this;simp;omega
   ·simp at h
theorem Mn(a b c:hE)(h:Bn a b=some c):c.length<=b.length+66*a.length:=SB _ _ _ _ h
def Ev(s:hE):Option hE:=match Bn s []with
 | some t=>if Br t=s then some t else none
 | none=>none
end Sq
open Go.RowKit
variable {i:IntKind}{j k:Int}{a:Nat}{w g:World}{v:Value}{b:hE}{c:Array Oper}{d:Oper}{f:Act}{Q:Exit->Act->World->Prop}
theorem Fr(h:j=k):Ending.returned (.int i j)=R_ (.int i k):=by rw[h]
theorem Kb(a:hJ)(b:Nat)(h:b<a.size):a.data.toList[b]?=some a[b]:=by rw[xW (by simpa using h)];rfl
theorem VH(a:hJ)(b c:Nat)(d:b<a.size)(f:c<a.size)(h:(((a[b]'d).toNat:Int)==((a[c]'f).toNat:Int))=true):a.data.toList[b]?=a.data.toList[c]?:=by
 rw[Kb a b d,Kb a c f];have g:((a[b]'d).toNat:Int)=((a[c]'f).toNat:Int):=by simpa using h
 rw[fP.1 (by omega:(a[b]'d).toNat=(a[c]'f).toNat)]
theorem VI(a:hJ)(b c:Nat)(d:b<a.size)(f:c<a.size)(h:(((a[b]'d).toNat:Int)==((a[c]'f).toNat:Int))=false):¬a.data.toList[b]?=a.data.toList[c]?:=by
 rw[Kb a b d,Kb a c f];intro e;have g:a[b]'d=a[c]'f:=by simpa using e
 rw[g]at h;simp at h
open Sq
theorem SC(b:hJ)(e c f:Nat)(w:World)(z:b.size<=140737488355328)(A:e<=c)(B:c+f<=b.size):
  Calls Tryz.prog 252 #[B_ b,J_ e,J_ c,J_ f] w fun m n=>m=R_ (J_ (com b.data.toList e c f))/\∃g,n=w.drewN g:=by
 go_in
 go_wp2
 go_loopw [9] (fun l wr=>∃a:Nat,a<=f/\l=J_ a/\(∀d,d<a->b.data.toList[e+d]?=b.data.toList[c+d]?)/\∃g,wr=w.drewN g) (fun l _=>f-(intOf l).toNat)
 case atStart=>exact⟨0,Y_,rfl,fun d h=>O_,0,rfl⟩
 case round=>
  obtain⟨a,u,rfl,k,g,rfl⟩:=hrel;have i:Hid (∀d,d<a->b.data.toList[e+d]?=b.data.toList[c+d]?):=k;clear k;by_cases y:a<f
  ·have p:(c:Int)+(a:Int)<(b.size:Int):=O_;have q:(e:Int)+(a:Int)<(b.size:Int):=O_;have r:(0:Int)<=(c:Int)+(a:Int):=O_;have s:(0:Int)<=(e:Int)+(a:Int):=O_
   go_wp2
   go_quiet (fail)
   go_wp2
   ·have j:=VH b (e+a) (c+a) O_ O_ V_
    go_roundw
    case rel=>
     refine⟨a+1,O_,W_,fun d k=> ?_,_,rfl⟩;by_cases o:d=a
     ·rw[o];exact j
     ·exact i.o d O_
    case measure=>simp[intOf];omega
   ·have j:=VI b (e+a) (c+a) O_ O_ V_;go_ret;exact⟨Fr (by rw[Ot b.data.toList f e c a O_ K_ i.o (.inr fun h=>j h.2)]),_,vC _ _ _⟩
  ·have t:decide ((a:Int)<(f:Int))=false:=K_
   go_wp2
   go_quiet (fail)
   go_wp2
   go_ret;exact⟨Fr (by rw[Ot b.data.toList f e c a O_ K_ i.o (.inl O_)]),_,vC _ _ _⟩
def Uk(l:hE)(a:Nat):Nat:=if(Eb l a).2=0 then 0 else(Eb l a).1
def KO(l:hE)(a:Nat):Nat:=(Eb l a).2
theorem Aa{l:Prop}(h:l):Hid l:=h
theorem Je(h:j=k):Value.int i j=Value.int i k:=by rw[h]
theorem SD(a:hE)(b c:Nat):2<=(up a b c).1/\(up a b c).1<=66/\(up a b c).2<=c/\((up a b c).2=0->(up a b c).1=2):=by
 have:=(Su a b c).2;rcases this with h|h
 ·rw[h];simp
 ·have:=KN a b (up a b c).2;omega
theorem Afs(b:hE)(c a:Nat)(h:(up b c a).1<mat b c (a+1)):up b c (a+1)=(mat b c (a+1),a+1):=by rw[up,xD h]
theorem Agk(a:hE)(b c:Nat)(h:¬(up a b c).1<mat a b (c+1)):up a b (c+1)=up a b c:=by rw[up,xB h]
theorem Adq(c:hE)(a b:Nat)(d:b<=min a 255)(h:b=min a 255\/min 66 (c.length-a)<=(up c a b).1):Eb c a=up c a b:=by
 unfold Eb;rcases h with h|h
 ·rw[h]
 ·have:=NG c a b h (min a 255-b);rw[show b+(min a 255-b)=min a 255 by omega]at this;exact this
theorem Adr(b:hE)(a c:Nat):mat b a c=com b (a-c) a (min 66 (b.length-a)):=rfl
theorem NI(b:hJ)(a:Nat)(w:World)(L:b.size<=140737488355328)(X:a<=b.size):
  Calls Tryz.prog 202 #[B_ b,J_ a] w fun z H=>z=R_ (.tuple #[J_ (Uk b.data.toList a),J_ (KO b.data.toList a)])/\∃m,H=w.drewN m:=by
 have s:Hid (b.data.toList.length=b.size):=by exact(show b.data.toList.length=b.size by simp)
 obtain⟨d,F,p⟩:∃d:Nat,min ((b.size:Int)-(a:Int)) 66=(d:Int)/\Hid (d=min 66 (b.size-a)):=⟨min 66 (b.size-a),O_,rfl⟩;obtain⟨e,G,q⟩:∃e:Nat,min (a:Int) 255=(e:Int)/\Hid (e=min a 255):=⟨min a 255,O_,rfl⟩;have M:d<=66/\a+d<=b.size:=by have:=p.o;omega
 have N:e<=255/\e<=a:=by have:=q.o;omega
 go_in;go_wp2_with fail;clear F G
 go_loopw [4,5,8] (fun g f r wr=>∃c:Nat,c<=e/\r=J_ (c+1:Nat)/\g=J_ (up b.data.toList a c).1/\f=J_ (up b.data.toList a c).2/\∃m,wr=w.drewN m) (fun _ _ r _=>300-(intOf r).toNat)
 case atStart=>exact⟨0,Y_,rfl,rfl,rfl,0,rfl⟩
 case round=>
  obtain⟨c,S,rfl,rfl,rfl,m,rfl⟩:=hrel;have O:=SD b.data.toList a c;generalize B:(up b.data.toList a c).1=g at*;generalize l:(up b.data.toList a c).2=f at*;have i:Hid ((up b.data.toList a c).1=g):=B;have n:Hid ((up b.data.toList a c).2=f):=l;clear B l;by_cases I:c<e/\g<d
  ·obtain⟨T,U⟩:=I;go_wp2_with fail;rw[show((a:Int)-((c:Int)+1))=((a-(c+1):Nat):Int)by omega];refine(SC b (a-(c+1)) a d _ L O_ O_).mono ?_;rintro z V ⟨rfl,W,rfl⟩;have R:com b.data.toList (a-(c+1)) a d<=d:=KM _ _ _ _;have o:Hid (mat b.data.toList a (c+1)=com b.data.toList (a-(c+1)) a d):=by
    show _=_;rw[Adr,s.o,<-p.o]
   generalize com b.data.toList (a-(c+1)) a d=J at*;by_cases A:g<J
   ·go_wp2_with fail
    go_roundw
    case rel=>
     have j:=Afs b.data.toList a c (by rw[i.o,o.o];exact A);exact⟨c+1,O_,W_,by rw[j,o.o],by rw[j];go_num,_,rfl⟩
    case measure=>simp[intOf];omega
   ·go_wp2_with fail
    go_roundw
    case rel=>
     have j:=Agk b.data.toList a c (by rw[i.o,o.o];exact A);exact⟨c+1,O_,W_,by rw[j,i.o],by rw[j,n.o],_,rfl⟩
    case measure=>simp[intOf];omega
  ·have t:Hid (Eb b.data.toList a=up b.data.toList a c):=by
    refine Adq _ _ _ (by have:=q.o;omega) ?_;have:=q.o;have:=p.o;have C:=s.o;have D:=i.o;rw[C,D];omega
   have u:Hid (f=0->Uk b.data.toList a=0/\KO b.data.toList a=0):=fun h=>by unfold Uk KO;rw[t.o,n.o,h];exact⟨rfl,rfl⟩
   have y:Hid (f≠0->Uk b.data.toList a=g/\KO b.data.toList a=f):=fun h=>by unfold Uk KO;rw[t.o,n.o,i.o,xB h];exact⟨rfl,rfl⟩
   by_cases l:f=0
   ·have k:=Aa l;go_wp2_with fail
    all_goals
     go_ret2;exact⟨by rw[(u.o k.o).1,(u.o k.o).2];rfl,_,rfl⟩
   ·have k:=Aa l;go_wp2_with fail
    all_goals
     go_ret2;exact⟨by rw[(y.o k.o).1,(y.o k.o).2];rfl,_,rfl⟩
def Bp(B:Nat)(w:World)(v:Value)(l:hE):Prop:=w.ownsRow B 5 1 v l.length (Lib.byteCells l)
theorem Lq:(Tryz.prog.info? 5).map (fun a=>(a.zero,a.size,a.bytes))=some (some (.int .u8 0),1,1):=S_
theorem Bp.nil(a:Nat)(w:World):Bp a w Z_ []:=yP _ _ _ _
theorem Bp.alloc{a:Nat}{w:World}{v:Value}{b:hE}(h:Bp a w v b)(c:Obj):Bp a (w.alloc c) v b:=cN h c
theorem Bp.drewN(h:Bp a w v b)(c:Nat):Bp a (w.drewN c) v b:=h
theorem Bp.drew(h:Bp a w v b):Bp a w.drew v b:=h
theorem Bp.shape(h:Bp a w v b):∃d c,v=L_ d b.length c:=by
 rcases h.2 with⟨rfl,d⟩|⟨f,c,g,rfl,_⟩
 ·exact⟨none,0,by rw[d]⟩
 ·exact⟨_,_,rfl⟩
theorem Bp.below{B:Nat}(h:Bp B w v b)(m:Below a w g)(n:∀c,v.ownBlock=some c->c<a):Bp B g v b:=by
 refine⟨h.1,?_⟩;rcases h.2 with d|⟨c,f,i,rfl,j,k,l⟩
 ·exact .inl d
 ·exact .inr ⟨c,f,i,rfl,j,by rw[m.block c (n c rfl)];exact k,l⟩
theorem Ao(h:Below a g w)(b:Nat):Below a g (w.drewN b):=h.trans ⟨rfl,rfl,rfl,X_,fun _ _=>rfl⟩
theorem Bp.str(h:Bp a w v b):(convert 108 9 v).run Tryz.prog w=.ok (B_ ⟨b.toArray⟩) w:=by
 rcases h.2 with⟨rfl,c⟩|⟨d,f,j,rfl,k,g,_,_,_,i⟩
 ·have:b=[]:=zA.1 c;subst this;exact Lib.run_convert_nil_bytes w _ _ 5 0 jC wA jS
 ·refine fW w _ _ 5 (Q_ d 0) f b jC wA jS ?_;exact Lib.bytes_of_row g (by simpa using i)
theorem Ok(c:hE):∀a∈Lib.byteCells c,a.oneCell'=true:=by intro a b;simp[Lib.byteCells]at b;obtain⟨d,_,rfl⟩:=b;rfl
theorem Afh(w:World){rest:List Oper}(z:d.guard=none)(k x:Operand)(A:d.op=Op.call {callee:=Callee.builtin Builtin.append,args:= #[k,x],argTypes:= #[108,9]})(g:Nat)(v:Value)(b:hE)(B:f.eval k=v)(l:Bp g w v b)(a:hJ)(C:f.eval x=B_ a)(D:b.length+a.size<=140737488355328)(m:g<=w.heap.size)(h:∀(j:Value) (i:World),Bp g i j (b++a.data.toList)->Below g w i->wpList Tryz.prog c Q rest (f.put d.dst j) i):wpList Tryz.prog c Q (d::rest) f w:=by
 obtain⟨o,p,q,r,s⟩:=zB Lq;refine Lib.wpList_append_own_string w z k x 108 9 A g 5 o jC jS p q r s v b.length (Lib.byteCells b) B l a C (by unfold maxLen;omega) D m ?_;intro j i t u _;refine h j i ?_ ((xA g w).grown u m fun n y=>(xF l n y).1);have n:Lib.byteCells (b++a.data.toList)=Lib.byteCells b++Lib.strCells a:=by rw[wF];rfl
 unfold Bp;rw[n,xC,show a.data.toList.length=a.size by simp];exact t
theorem IC(w:World){rest:List Oper}(y:d.guard=none)(k x:Operand)(z:d.op=Op.call {callee:=Callee.builtin Builtin.append,args:= #[k,x],argTypes:= #[108,108]})(j:Nat)(v:Value)(i:hE)(A:f.eval k=v)(B:Bp j w v i)(l:Addr)(m:Nat)(b:hE)(C:f.eval x=L_ (some l) b.length m)(D:∀a g,(Lib.byteCells b)[a]?=some g->w.cell? (l.add a)=some g)(G:i.length+b.length<=140737488355328)(F:j<=w.heap.size)(h:∀(a:Value) (g:World),Bp j g a (i++b)->w.grownBy g v.ownBlock->(a.ownBlock=v.ownBlock\/a.ownBlock=some w.heap.size)->wpList Tryz.prog c Q rest (f.put d.dst a) g):wpList Tryz.prog c Q (d::rest) f w:=by obtain⟨n,o,p,q,r⟩:=zB Lq;refine wT w y k x 108 z j 5 n (.int .u8 0) 1 1 jC o p q r rfl Do v i.length (Lib.byteCells i) A B l b.length m (Lib.byteCells b) C (by rw[vE];omega) D (Ok _) (by unfold maxLen;omega) O_ F ?_;intro a g s t _ u;refine h a g ?_ t u;unfold Bp;rw[wF,xC];exact s
theorem Pp(w:World)(f:TypeId)(g:hE)(b:Array Value)(i:b.toList=Lib.byteCells g):∀a c,(Lib.byteCells g)[a]?=some c->(w.alloc (.cells b f)).cell? (((Q_ w.heap.size 0):Addr).add a)=some c:=by
 intro a c d;rw[<-i,Array.getElem?_toList]at d;have e:∀a,(w.alloc (.cells b f)).cell? (Q_ w.heap.size a)=b[a]?:=fun a=>World.cell?_alloc_at b f _ a rfl
 by_cases h0:a=0
 ·subst h0;simp only[Addr.add,xD];rw[e];exact d
 ·simp only[Addr.add,xB h0,zR];rw[e];exact d
theorem Rg(w:World){rest:List Oper}(p:d.guard=none)(k x:Operand)(q:d.op=Op.call {callee:=Callee.builtin Builtin.append,args:= #[k,x],argTypes:= #[108,108]})(i:Nat)(v:Value)(j:hE)(r:f.eval k=v)(s:Bp i w v j)(a:UInt8)(l:Int)(t:l=(a.toNat:Int))(u:f.eval x=L_ (P_ w.heap.size) 1 1)(y:j.length+1<=140737488355328)(z:i<=w.heap.size)(h:∀(b:Value) (g:World),Bp i g b (j++[a])->(w.alloc (C_ #[.int .u8 l] 5)).grownBy g v.ownBlock->(b.ownBlock=v.ownBlock\/b.ownBlock=some (w.heap.size+1))->wpList Tryz.prog c Q rest (f.put d.dst b) g):wpList Tryz.prog c Q (d::rest) f (w.alloc (C_ #[.int .u8 l] 5)):=by subst t;refine IC (w.alloc (C_ #[.int .u8 (a.toNat:Int)] 5)) p k x q i v j r (s.alloc _) (Q_ w.heap.size 0) 1 [a] u (Pp w _ [a] _ (by simp[Lib.byteCells])) (by simpa using y) K_ ?_;intro b g m n o;exact h b g m n (by simpa using o)
theorem VJ(w:World){rest:List Oper}(r:d.guard=none)(l x:Operand)(s:d.op=Op.call {callee:=Callee.builtin Builtin.append,args:= #[l,x],argTypes:= #[108,108]})(j:Nat)(v:Value)(k:hE)(t:f.eval l=v)(u:Bp j w v k)(g i:UInt8)(m n:Int)(y:m=(g.toNat:Int))(z:n=(i.toNat:Int))(A:f.eval x=L_ (P_ w.heap.size) 2 2)(B:k.length+2<=140737488355328)(C:j<=w.heap.size)(h:∀(a:Value) (b:World),Bp j b a (k++[g,i])->(w.alloc (C_ #[.int .u8 m,.int .u8 n] 5)).grownBy b v.ownBlock->(a.ownBlock=v.ownBlock\/a.ownBlock=some (w.heap.size+1))->wpList Tryz.prog c Q rest (f.put d.dst a) b):wpList Tryz.prog c Q (d::rest) f (w.alloc (C_ #[.int .u8 m,.int .u8 n] 5)):=by subst y z;refine IC (w.alloc (C_ #[.int .u8 (g.toNat:Int),.int .u8 (i.toNat:Int)] 5)) r l x s j v k t (u.alloc _) (Q_ w.heap.size 0) 2 [g,i] A (Pp w _ [g,i] _ (by simp[Lib.byteCells])) (by simpa using B) K_ ?_;intro a b o p q;exact h a b o p (by simpa using q)
theorem Ij{m:Obj}(f:Bp a w v b)(i:a<=w.heap.size)(j:(w.alloc m).grownBy g v.ownBlock):Below a w g:=
 (((xA a w).alloc i m).grown j K_ fun c d=>(xF f c d).1)
theorem Ah(a:hJ):a.data.toList.length=a.size:=D_
theorem Jl(a:hJ)(b:Nat):(a.extract b a.size).data.toList=a.data.toList.drop b:=by rw[zZ,yY (by rw[xY,Ah];exact Nat.le_refl _)]
theorem Aam(a:hJ)(b:Nat)(f:b=min a.size 128)(h:0<a.size):Ii a.data.toList=UInt8.ofNat (b-1)::(a.data.toList.take b++Ii (a.extract b a.size).data.toList):=by
 have d:=Ah a;rw[Jl];generalize a.data.toList=c at*;rw[Mv c (by intro e;rw[e]at d;simp at d;omega),d,<-f];by_cases g:a.size<=128
 ·have e:b=a.size:=O_;rw[yY (show c.length<=128 by omega),yY (show c.length<=b by omega),zG (show c.length<=128 by omega),zG (show c.length<=b by omega)]
 ·have e:b=128:=O_;rw[e]
theorem VK(c:Nat)(f:hJ)(v:Value)(g:hE)(w:World)(I:Bp c w v g)(V:c<=w.heap.size)(J:g.length+2*f.size<=140737488355328):
  Calls Tryz.prog 203 #[v,B_ f] w fun F t=>∃u,F=R_ u/\Bp c t u (g++Ii f.data.toList)/\Below c w t:=by
 go_in;go_wp2_with fail
 go_loopw [0,1] (fun G x wr=>∃(a:hJ) (d:hE),x=B_ a/\Bp c wr G d/\Below c w wr/\d.length+2*a.size<=140737488355328/\d++Ii a.data.toList=g++Ii f.data.toList) (fun _ x _=>match x with | .string a=>a.size|_=>0)
 case atStart=>exact⟨f,g,rfl,I,xA _ _,J,rfl⟩
 case round=>
  obtain⟨a,d,rfl,m,j,R,n⟩:=hrel;have l:=Aa n;have i:=Aa m;clear n m;have L:=j.size;by_cases H:0<a.size
  ·obtain⟨b,S,o⟩:∃b:Nat,min (a.size:Int) 128=(b:Int)/\Hid (b=min a.size 128):=⟨min a.size 128,O_,rfl⟩;have M:1<=b/\b<=128/\b<=a.size:=(by have:=o.o;omega);have N:(0:Int)<=(b:Int)-1/\(b:Int)-1<=255:=O_
   go_wp2_with (first
    | (at_builtin;refine Rg wr rfl (.tmp 12) (.tmp 16) rfl c u0 d rfl i.o (UInt8.ofNat (b-1)) ((b:Int)-1) ?_ rfl O_ O_ ?_))
   ·simp;omega
   intro C D p q _;have k:=j.trans (Ij i.o O_ q);have y:=Aa p;have z:=Aa k;have O:=k.size;clear p q i j k
   go_wp2_with (first
    | (at_builtin;refine Afh D rfl (.tmp 18) (.tmp 21) rfl c C _ rfl y.o _ rfl ?_ ?_ ?_))
   ·simp;omega
   ·omega
   intro T U r s;have A:=Aa r;have B:=Aa (z.o.trans s);clear r s;go_wp2_with fail
   go_roundw
   case rel=>
    refine⟨_,_,rfl,A.o,B.o,?_,?_⟩
    ·simp;omega
    ·rw[<-l.o,Aam a b o.o H];simp
   case measure=>simp;omega
  ·go_wp2_with fail;go_ret;refine⟨u0,rfl,?_,j⟩;have:a.data.toList=[]:=zA.1 (by rw[Ah];omega);rw[<-l.o,this,Jk,yC];exact i.o
