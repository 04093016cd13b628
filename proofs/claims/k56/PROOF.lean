import PyProof.Rows.All
import Wide.All
import OpenK.AllK
import Wide.FinOn
import Lean
import PyProof.EqAt
import PyProof.EqKinds
import PyProof.TupleCall
import Open.Row
import PySem.SetOps
import PyProof.SetRoads
import PyProof.Rows.SetFrom
import PyProof.FactsAll.subtypes_4
import PyProof.WalksMore
import OpenK.KOwn
import PyProof.NeData
import PyProof.ReprRoads
import PyProof.WalksEnum
import PyProof.EnumMake
import PyProof.Rows.EnumRows
import KE.KTryMore
import KE.KIntText
import KE.KDictList
import PyProof.ConsumeS
import PyProof.ListRange
import PyProof.ListMulRoad
import PyProof.CompUse
import PyProof.CompFree
import PyProof.DictUpdate
import PyProof.Rows.TupDisplay
import PyProof.DictWalks
import PyProof.TupleOfGen
import KE.BitLaws
import PyProof.Draws
import PyProof.StrLawsChain
import KE.KxText
import PyProof.MaxThree
import PyProof.Rows.SortRunsK
import PyProof.Rows.SortShellK
import PyProof.Rows.SortKeyStr
import PyProof.Rows.SortWalk
import PyProof.Rows.StrInSeq
import PyProof.P3Eq
import PyProof.DictKinds
import PyProof.StrOps
import PyProof.TupleKey
import PyProof.SetKind
import PyProof.Rows.CallKwBuiltin
import PySem.Challenge.RW_quarterfold_k56_whole_inside_on_great_fl
set_option Elab.async false
set_option linter.all false
set_option maxRecDepth 100000
set_option maxHeartbeats 8000000
open PyProof.Rows renaming SortSt→au
open PySem renaming Value→aa,Shared→ae,Addr→af,wpAny→ag,Program→ah,model→ai,World→aj,FuncData→ak,Heap→ao,Around→aq,Str→ar,Expr→av,SetTable→aw,Obj→az,Scope→aA,Stmt→aB,Pos→aC
variable{P prog:ah}{w:aj}{A:aq}{E:aa->ae->Prop}{s:ae}{K:PySem.W.Frag}{mg:ar->Option aa}{base:ao}
def Za:=@PySem.wpAny_bind
def Zb:=@PySem.Heap.get?_push_of_some
def Zc:=@PySem.wpAny_pure
def Zd:=@List.getElem?_eq_getElem
def Ze:=@Nat.le_refl
def Zf:=@List.getElem?_map
def Zg:=@PySem.Heap.get?_push_size
def Zh:=@List.length_map
def Zi:=@PySem.Heap.lt_size
def Zj:=@Option.map_eq_some_iff
def Zk:=@List.mem_cons_of_mem
def Zl:=@if_neg
def Zm:=@PySem.W.mg_of
def Zn:=@List.length_append
def Zo:=@decide_eq_false
def Zp:=@Nat.ne_of_lt
def Zq:=@PySem.Heap.get?_update_other
def Zr:=@Bool.false_eq_true
def Zs:=@PyProof.Rows.wpS_bind
def Zt:=@decide_eq_true
def Zu:=@List.mem_cons
def Zv:=@List.mem_of_getElem?
def Zw:=@List.getElem?_append_left
def Zx:=@if_pos
def Zy:=@Bool.false_ne_true
def Zz:=@Nat.zero_le
def ZA:=@List.getD_eq_getElem?_getD
def ZB:=@PyProof.Rows.wpS_pure
def ZC:=@List.map_cons
def ZD:=@Int.toNat_natCast
def ZE:=@List.mem_cons_self
def ZF:=@List.getElem?_append_right
def ZG:=@of_decide_eq_true
def ZH:=@List.mem_iff_getElem
def ZI:=@Nat.le_trans
def ZJ:=@PySem.wpAny_newObj_type
def ZK:=@List.size_toArray
def ZL:=@Array.length_toList
def ZM:=@PyProof.Rows.boot_max
def ZN:=@List.mem_append_right
def ZO:=@PySem.Heap.get?_update_self
def ZP:=@PySem.wpAny_holding
def ZQ:=@getElem?_pos
def ZR:=@Nat.lt_of_lt_of_le
def ZS:=@PySem.Heap.size_push
def ZT:=@Option.some.inj
def ZU:=@PySem.wpAny_ite_split
def ZV:=@PyProof.Rows.boot_min
def ZW:=@PyProof.Rows.KeyOrd.kle_trans
def ZX:=@List.mem_append
def ZY:=@List.map_append
def ZZ:=@Nat.lt_succ_of_lt
def Z0:=@PySem.wpAny_callSpecial?_slot
def Z1:=@List.cons_lt_cons_iff
def Z2:=@PySem.Obj.data_mapFields
def Z3:=@PySem.wpAny_call_entry
def Z4:=@List.length_cons
def Z5:=@if_false
def Z6:=@PySem.Around.under_plainId
def Z7:=@PyProof.Rows.boot_isinstance
def Z8:=@PySem.wpAny_setState_of
def Z9:=@congrArg
def Yb:=@PySem.codeAny_builtin
def Yc:=@Nat.lt_irrefl
def Yd:=@Nat.lt_succ_self
def Ye:=@Bool.eq_false_iff
def Yg:=@List.append_assoc
def Yh:=@PyProof.Rows.boot_tuple
def Yi:=@PyProof.Rows.KeyOrd.kle_of_klt
def Yj:=@PySem.wpAny_field
def Yk:=@PySem.Heap.SameBut.update
def Yl:=@PyProof.Rows.F.plain_set_update_loop
def Ym:=@Array.toList_append
def Yn:=@List.take_of_length_le
def Yo:=@List.append_nil
def Yp:=@Array.getElem?_toList
def Yq:=@List.map_map
def Yr:=@List.getElem?_eq_none
def Ys:=@List.filterMap_cons
def Yt:=@PySem.wpAny_truthy_bool
def Yu:=@List.mem_map
def Yv:=@PySem.wpAny_mono
def Yw:=@PySem.mem_of_lookup
def Yx:=@PySem.PassesOwn.never
def Yy:=@List.filter_cons
def Yz:=@List.getElem_mem
def YA:=@of_decide_eq_false
def YB:=@PySem.F.plain_min_loop
def YC:=@PySem.wpAny_passesOwn
def YD:=@PySem.wpAny_setField
def YE:=@PySem.plainId_quiet
def YF:=@List.map_congr_left
def YG:=@PySem.Obj.isFreed_of_fields
def YH:=@Nat.pow_succ
def YI:=@PySem.F.plainAttrs_list
def YJ:=@List.mem_range
def YK:=@PySem.wpAny_pyIter_tuple
def YL:=@Array.getElem?_eq_some_iff
def YM:=@PySem.lookup_relabel_local
def YN:=@PySem.boot_len
def YO:=@PySem.W.kia_one
def YQ:=@Int.natCast_add
def YR:=@List.exists_cons_of_length_eq_add_one
def YS:=@List.lookup_cons
def YT:=@decide_eq_decide
def YU:=@PySem.wpAny_askSetting
def YV:=@PyProof.Rows.F.entry_set_update_loop
def YW:=@List.length_range
def YX:=@PyProof.Rows.boot_int
def YY:=@Bool.not_true
def YZ:=@PySem.F.slot_list_append
def Y0:=@PySem.F.type_list_append
def Y1:=@List.nodup_cons
def Y2:=@PySem.F.slot_dict_keyiterator_next
def Y3:=@PyProof.Rows.KeyOrd.kle_refl
def Y4:=@PySem.wpAny_rule
def Y5:=@Nat.le_add_right
def Y6:=@List.all_eq_true
def Y7:=@List.pairwise_append
def Y8:=@PyProof.Rows.callWith_type1
def Y9:=@List.mem_filter
def Xa:=@List.range_succ
def Xb:=@List.cons.injEq
def Xc:=@Ne.symm
def Xd:=@Array.getElem?_eq_getElem
def Xe:=@List.take_append_drop
def Xf:=@Nat.lt_of_le_of_lt
def Xg:=@PySem.wpAny_isInstance
def Xh:=@List.filter_append
def Xi:=@Nat.mul_assoc
def Xj:=@PySem.wpAny_attempt
def Xk:=@forall_congr'
def Xl:=@Int.le_trans
def Xm:=@PyProof.Rows.wpS_forRange
def Xn:=@List.mem_append_left
def Xo:=@PySem.wpAny_seqItems
def Xp:=@Nat.le_succ
def Xq:=@PySem.wpAny_typeNameOfWhole_keyiter
def Xr:=@Nat.mul_le_mul_right
def Xs:=@PySem.wpAny_pyIter_list
def Xu:=@List.ext_getElem?
def Xv:=@Array.toList_push
def Xw:=@Bool.eq_iff_iff
def Xx:=@Int.natCast_mul
def Xy:=@List.getElem?_range
def Xz:=@Nat.le_of_lt
def XA:=@PySem.Paired.length
def XB:=@Nat.pow_pos
def XC:=@List.length_take
def XD:=@PySem.wpAny_Call_Name_kw
def XE:=@PySem.F.slot_tuple_iterator_next
def XF:=@List.pairwise_cons
def XG:=@List.mem_singleton
def XH:=@PyProof.Rows.boot_abs
def XI:=@List.pairwise_iff_getElem
def XJ:=@List.drop_eq_getElem_cons
def XM:=@Nat.not_lt_zero
def XN:=@Nat.ne_of_gt
def XO:=@PySem.codeAny_mono
def XQ:=@if_true
def XR:=@PySem.codeAny_call_builtin
def XS:=@PySem.Obj.cls_mapFields
def XT:=@PySem.Heap.SameBut.refl
def XU:=@Nat.pow_le_pow_right
def XV:=@Array.toList_extract
def XW:=@Int.add_zero
def XX:=@Nat.succ_mul
def XY:=@List.take_append_getElem
def XZ:=@PySem.wpAny_typeNameOf_keyiter
def X1:=@List.sum_cons
def X4:=@PyProof.Rows.wpS_modify
def X5:=@PyProof.Rows.slot_tuple_getitem
def X6:=@List.length_pos_iff
def X7:=@List.getElem_of_mem
def X8:=@List.reverse_append
def X9:=@Nat.mod_eq_of_lt
def Wa:=@List.not_mem_nil
def Wb:=@List.lt_irrefl
def Wc:=@PySem.wpAny_of_eq
def Wd:=@Nat.mul_comm
def We:=@Nat.mod_lt
def Wf:=@PySem.wpAny_setField_rec
def Wg:=@beq_iff_eq
def Wh:=@Int.zero_add
def Wi:=@PySem.wpAny_execs_nil
def Wj:=@List.find?_cons
def Wk:=@List.any_cons
def Wl:=@PySem.F.slot_enumerate_next
def Wm:=@List.length_filter_le
def Wn:=@List.Perm.append_left
def Wo:=@Bool.not_eq_true'
def Wp:=@List.nodup_append
def Wq:=@Bool.false_and
def Wr:=@PySem.sizeLine_eq
def Ws:=@Nat.mul_add
def Wu:=@Array.toList_setIfInBounds
def Wv:=@PySem.wpAny_fieldsOf
def Ww:=@List.take_zero
def Wx:=@Int.le_refl
def Wy:=@Array.perm_iff_toList_perm
def Wz:=@Array.toList_reverse
def WA:=@Nat.lt_trans
def WB:=@PySem.wpAny_forIn_list
def WC:=@List.any_eq_true
def WD:=@List.take_length
def WE:=@Nat.zero_add
def WF:=@Option.isSome_iff_exists
def WG:=@List.getElem?_take_of_lt
def WH:=@PySem.AutoSeq1.wpAny_loadPart'
def WI:=@PyProof.Rows.wpS_mono
def WJ:=@PyProof.Rows.KeyOrd.klt_of_klt_of_kle
def WK:=@List.length_nil
def WL:=@Nat.two_pow_pos
def WM:=@List.foldl_cons
def WN:=@PySem.wpAny_updateSeq
def WO:=@PySem.W.of_hideAll
def WP:=@List.mem_filterMap
def WQ:=@Int.natCast_nonneg
def WR:=@PySem.tupleKind_room_in1
def WS:=@Int.emod_lt_of_pos
def WT:=@PySem.wpAny_tupleItemsOf
def WU:=@List.zip_cons_cons
def WV:=@List.getElem?_replicate
def WW:=@Nat.add_sub_cancel_left
def WX:=@Int.one_mul
def WY:=@List.pairwise_singleton
def WZ:=@List.length_eq_zero_iff
def W0:=@PySem.wpAny_pyIter_rangeiter
def W1:=@PyProof.noPylong_small
def W2:=@PySem.W.cellsFrom_some
def W3:=@Bool.not_false
def W4:=@PySem.wpAny_storeSet_of
def W5:=@PySem.wpAny_runValue
def W6:=@PySem.isSubtype_stop
def W7:=@decide_eq_true_eq
def W8:=@PyProof.Rows.boot_list
def W9:=@PySem.wpAny_dictEntries
def Va:=@Array.getElem?_eq_none
def Vb:=@List.range_succ_eq_map
def Vc:=@List.take_succ_eq_append_getElem
def Vd:=@List.reverse_perm
def Ve:=@PySem.Heap.get?_push_ne
def Vf:=@PySem.F.entry_min_loop
def Vg:=@PySem.wpAny_tryCatch
def Vh:=@List.length_replicate
def Vi:=@PyProof.Rows.boot_all
def Vj:=@PySem.wpAny_isOneOf_keyiter
def Vk:=@Nat.add_sub_add_right
def Vl:=@PyProof.Rows.boot_sum
def Vm:=@PyProof.Rows.KeyOrd.not_klt_of_kle
def Vn:=@PySem.builtinLookup_eq_fast
def Vo:=@Bool.and_eq_true
def Vp:=@Int.natCast_ediv
def Vq:=@Int.natCast_emod
def Vr:=@PySem.Heap.size_update
def Vs:=@PyProof.Rows.wpS_get
def Vt:=@Nat.add_assoc
def Vu:=@Int.add_assoc
def Vv:=@Array.mem_extract_iff_getElem
def Vw:=@PySem.wpAny_letGo
def Vx:=@Nat.pow_add
def Vy:=@List.not_lt
def Vz:=@Bool.and_eq_true_iff
def VA:=@List.of_mem_zip
def VB:=@PySem.wpAny_specialOf
def VC:=@PySem.codeAny_of_tree
def VD:=@Bool.or_eq_true
def VE:=@and_congr_right
def VF:=@Array.getElem?_setIfInBounds
def VG:=@beq_eq_false_iff_ne
def VH:=@PySem.W.hideAll_get
def VI:=@List.replicate_succ
def VJ:=@List.filter_eq_self
def VL:=@PySem.wpAny_setEntries_of
def VM:=@PySem.wpAny_typeOf
def VN:=@List.map_nil
def VO:=@Nat.le_of_eq
def VP:=@Nat.add_zero
def VQ:=@LawfulMonad.pure_bind
def VR:=@PySem.wpAny_pyIter_range
def VS:=@Int.fdiv_eq_ediv_of_nonneg
def VT:=@PySem.wpAny_call
def VU:=@PySem.W.callWith_K
def VV:=@List.nodup_nil
def VW:=@Bool.and_false
def VX:=@PySem.Code.quiet_builtin
def VY:=@PySem.Walks.list
def VZ:=@PySem.isSubtype_type
def V0:=@List.length_eraseIdx_of_lt
def V1:=@Array.getElem?_eq_none_iff
def V2:=@List.nodup_iff_pairwise_ne
def V3:=@Nat.lt_of_mul_lt_mul_right
def V4:=@PySem.F.plain_extend_loop
def V5:=@List.any_eq_false
def V6:=@Option.isSome_map
def V7:=@Nat.add_mul
def V8:=@Nat.mul_one
def V9:=@Array.getElem_mem
def Ua:=@PySem.Moved.trans
def Ub:=@PySem.Walks.tuple
def Uc:=@Nat.le_succ_of_le
def Ud:=@Nat.lt_trichotomy
def Uf:=@PySem.wpAny_pyIter_slot
def Ug:=@List.pairwise_map
def Uh:=@List.Pairwise.imp
def Ui:=@PySem.fits_of_scanBound
def Uj:=@Prod.mk.injEq
def Uk:=@PySem.wpAny_standAt
def Ul:=@PySem.wpAny_handled
def Um:=@Nat.le_of_not_lt
def Uo:=@beq_self_eq_true
def Up:=@PySem.putSet_of
def Uq:=@PyProof.Rows.wpS_lift
def Ur:=@Nat.succ.inj
def Us:=@Nat.succ_pos
def Ut:=@Nat.sub_self
def Uu:=@bind_congr
def Uv:=@Nat.mul_zero
def Uw:=@List.forIn_cons
def Ux:=@Nat.le_antisymm
def Uy:=@List.nil_append
def Uz:=@Nat.min_eq_left
def UA:=@Int.emod_nonneg
def UB:=@or_false
def UC:=@and_true
def UD:=@List.drop_drop
def UE:=@Nat.not_lt
theorem cz{α:Type}{l:List α}{i:Nat}{a:α}(h:l[i]?=some a):∃h:i<l.length,l[i]=a:=List.getElem?_eq_some_iff.mp h
namespace L2
open PySem
def sj(s:aB):Arguments:=match s with
 |.FunctionDef _ a _ _ _ _ _ _ _ _=>a
 |_=>{posonlyargs:=[],args:=[],vararg:=none,kwonlyargs:=[],kw_defaults:=[],kwarg:=none,defaults:=[]}
def ou(s:aB):List aB:=match s with
 |.FunctionDef _ _ b _ _ _ _ _ _ _=>b
 |_=>[]
def bJ(s:aB):aA:=match s with
 |.FunctionDef _ _ _ _ _ _ a _ _ _=>a
 |_=>{kind:=.function,names:=[],isGenerator:=false,isCoroutine:=false}
end L2
namespace Pr
open PySem
def top(i:Nat):aB:=PySem.Challenge.pw_quarterfold_k56_whole_inside_on_great_fl.main.body.getD i (.Pass ⟨0,0,0,0⟩)
end Pr
namespace Hd
open PySem PySem.W
abbrev pw:ah:=PySem.Challenge.pw_quarterfold_k56_whole_inside_on_great_fl
abbrev iz:aa:=.str "law_quarterfold_k56_whole_inside_on_great_fl" 547
abbrev rJ:aa:=.str "quarterfold.rows" 303
abbrev rH:aa:=.str "quarterfold.floors" 348
abbrev yx:aa:=.str "quarterfold.tellings" 426
abbrev Ao:aa:=.str "quarterfold.leaves" 471
def kh(P:Params)(x:ar):Int:=PySem.PyData.keyHash P x
def oF(n:ar)(st:aB)(m:aa)(c:Nat):az:=⟨.type "function",none,.func (fnOf n n (L2.sj st) (L2.ou st) (L2.bJ st) .none .none .none m none (.ref c) .none),#[]⟩
def oT(n q:ar)(st:aB):az:=⟨.none,none,.func {fnOf n q (L2.sj st) (L2.ou st) (L2.bJ st) .none .none .none .none none .none .none with globals:=0},#[]⟩
def oC(n q:ar)(f g c l a h b:Nat)(y z:aa)(d k e:Nat):az:=⟨.type "code",none,.fields #[.str n f,.str q g,.str "/claim/cut.py" c,.int l 0,.int a 0,.int 0 0,.int 0 0,.int 3 0,.ref h,.bool true,.int 181 0,.ref b,.none,y,z,.ref d,.int k 0,.int l 0,.str "/claim/cut.py" e],#[]⟩
abbrev aX:PySem.Obj:=⟨.type "tuple",none,(.seq #[] 0),#[]⟩
abbrev dQ:PySem.Obj:=⟨.none,none,(.fields #[]),#[]⟩
abbrev cA(a:Array PySem.Value):PySem.Obj:=⟨.type "tuple",none,(.seq a 0),#[]⟩
abbrev aU(P:Params)(x:ar)(n:Tok)(v:aa):DictEntry:=⟨kh P x,.str x n,v⟩
def K0(P:Params):Frag:=
(nat_lit 2,⟨.none,none,(.dict #[] 0),#[]⟩)::
 (nat_lit 3,⟨.type "dict",none,(.dict #[aU P "__name__" 165 (.str "law_quarterfold_k56_whole_inside_on_great_fl" 547),aU P "__doc__" 166 .none,aU P "__package__" 167 .none,aU P "__loader__" 168 (.builtin "__main__.__loader__#opaque"),aU P "__spec__" 169 .none,aU P "__annotations__" 170 (.ref 6),aU P "__builtins__" 171 (.ref 4),aU P "__file__" 173 (.str "/claim/cut.py" 172),aU P "__cached__" 174 .none,aU P "FloorError" 206 (.ref 24),aU P "NoFloor" 222 (.ref 37),aU P "NoAddress" 238 (.ref 49),aU P "NoCell" 254 (.ref 61),aU P "NoShape" 270 (.ref 73),aU P "TooMany" 286 (.ref 85),aU P "NotFull" 302 (.ref 97),aU P "FULL" 306 (.int 1 305),aU P "FIRST" 308 (.int 2 307),aU P "is_whole" 315 (.ref 106),aU P "is_plain" 322 (.ref 113),aU P "depths_of" 328 (.ref 118),aU P "end_rows" 338 (.ref 125),aU P "places_as_ended" 347 (.ref 132),aU P "GREATEST_SIZE" 351 (.int 12 350),aU P "is_size" 358 (.ref 139),aU P "is_address" 364 (.ref 144),aU P "is_cell" 374 (.ref 151),aU P "want_floor" 381 (.ref 158),aU P "want_address" 389 (.ref 165),aU P "want_cell" 398 (.ref 172),aU P "side_of" 405 (.ref 179),aU P "box_at" 417 (.ref 186),aU P "box_of" 425 (.ref 193),aU P "is_number" 435 (.ref 200),aU P "is_row" 441 (.ref 205),aU P "are_rows" 447 (.ref 210),aU P "is_telling" 457 (.ref 217),aU P "is_shape" 463 (.ref 222),aU P "want_shape" 470 (.ref 229),aU P "MOST_LEAVES" 474 (.int 2000 473),aU P "count_leaves" 480 (.ref 234),aU P "gather_leaves" 492 (.ref 241),aU P "want_leaves" 500 (.ref 248),aU P "want_coarse" 507 (.ref 255),aU P "leaves_of" 517 (.ref 262),aU P "least_far" 534 (.ref 269),aU P "seen_leaves" 540 (.ref 274),aU P "inside" 546 (.ref 279),aU P "_law_pot" 557 (.ref 286),aU P "_law_digit" 566 (.ref 293),aU P "_law_cells" 572 (.ref 298),aU P "_law_box" 587 (.ref 305),aU P "_law_boxes" 593 (.ref 310),aU P "_law_meets" 603 (.ref 317),aU P "_law_has" 613 (.ref 324),aU P "_law_number" 619 (.ref 329),aU P "_law_shape" 629 (.ref 336),aU P "_law_leaf" 644 (.ref 343),aU P "_law_square" 656 (.ref 350),aU P "_law_near_box" 668 (.ref 357),aU P "_law_common" 678 (.ref 364),aU P "_law_ahead" 692 (.ref 371),aU P "_law_share" 698 (.ref 376),aU P "_law_exchanged" 704 (.ref 381),aU P "_law_full_boxes" 720 (.ref 388),aU P "_law_deep_right" 739 (.ref 395),aU P "_law_shut_right" 745 (.ref 400),aU P "_law_right" 758 (.ref 407),aU P "law" 773 (.ref 414)] 69),#[]⟩)::
 (nat_lit 15,(cA #[.type "ValueError"]))::
 (nat_lit 22,aX)::
 (nat_lit 23,⟨.type "dict",none,(.dict #[aU P "__module__" 196 (.str "quarterfold.errors" 187),aU P "__firstlineno__" 200 (.int 2 199),aU P "__static_attributes__" 201 (.ref 22),aU P "__weakref__" 203 (.ref 25),aU P "__doc__" 204 .none] 3),#[]⟩)::
 (nat_lit 24,⟨.type "type",none,(.cls ⟨"FloorError",[.type "ValueError"],[.ref 24,.type "ValueError",.type "Exception",.type "BaseException",.type "object"],23,"FloorError",true,[],[.ref 37,.ref 49,.ref 61,.ref 73,.ref 85,.ref 97],false,none,false⟩),#[some (.ref 15),none,some (.str "FloorError" 189),some (.str "FloorError" 197),some (.builtin "ValueError.__new__"),some (.bool true)]⟩)::
 (nat_lit 25,⟨.type "getset_descriptor",none,(.fields #[.str "__weakref__" 202,.ref 24,.builtin "ExceptionGroup.__weakref__",.none]),#[]⟩)::
 (nat_lit 28,(cA #[.ref 24]))::
 (nat_lit 35,aX)::
 (nat_lit 36,⟨.type "dict",none,(.dict #[aU P "__module__" 214 (.str "quarterfold.errors" 187),aU P "__firstlineno__" 218 (.int 4 217),aU P "__static_attributes__" 219 (.ref 35),aU P "__doc__" 220 .none] 2),#[]⟩)::
 (nat_lit 37,⟨.type "type",none,(.cls ⟨"NoFloor",[.ref 24],[.ref 37,.ref 24,.type "ValueError",.type "Exception",.type "BaseException",.type "object"],36,"NoFloor",true,[],[],false,none,false⟩),#[some (.ref 28),none,some (.str "NoFloor" 207),some (.str "NoFloor" 215),some (.builtin "ValueError.__new__"),some (.bool true)]⟩)::
 (nat_lit 40,(cA #[.ref 24]))::
 (nat_lit 47,aX)::
 (nat_lit 48,⟨.type "dict",none,(.dict #[aU P "__module__" 230 (.str "quarterfold.errors" 187),aU P "__firstlineno__" 234 (.int 6 233),aU P "__static_attributes__" 235 (.ref 47),aU P "__doc__" 236 .none] 2),#[]⟩)::
 (nat_lit 49,⟨.type "type",none,(.cls ⟨"NoAddress",[.ref 24],[.ref 49,.ref 24,.type "ValueError",.type "Exception",.type "BaseException",.type "object"],48,"NoAddress",true,[],[],false,none,false⟩),#[some (.ref 40),none,some (.str "NoAddress" 223),some (.str "NoAddress" 231),some (.builtin "ValueError.__new__"),some (.bool true)]⟩)::
 (nat_lit 52,(cA #[.ref 24]))::
 (nat_lit 59,aX)::
 (nat_lit 60,⟨.type "dict",none,(.dict #[aU P "__module__" 246 (.str "quarterfold.errors" 187),aU P "__firstlineno__" 250 (.int 8 249),aU P "__static_attributes__" 251 (.ref 59),aU P "__doc__" 252 .none] 2),#[]⟩)::
 (nat_lit 61,⟨.type "type",none,(.cls ⟨"NoCell",[.ref 24],[.ref 61,.ref 24,.type "ValueError",.type "Exception",.type "BaseException",.type "object"],60,"NoCell",true,[],[],false,none,false⟩),#[some (.ref 52),none,some (.str "NoCell" 239),some (.str "NoCell" 247),some (.builtin "ValueError.__new__"),some (.bool true)]⟩)::
 (nat_lit 64,(cA #[.ref 24]))::
 (nat_lit 71,aX)::
 (nat_lit 72,⟨.type "dict",none,(.dict #[aU P "__module__" 262 (.str "quarterfold.errors" 187),aU P "__firstlineno__" 266 (.int 10 265),aU P "__static_attributes__" 267 (.ref 71),aU P "__doc__" 268 .none] 2),#[]⟩)::
 (nat_lit 73,⟨.type "type",none,(.cls ⟨"NoShape",[.ref 24],[.ref 73,.ref 24,.type "ValueError",.type "Exception",.type "BaseException",.type "object"],72,"NoShape",true,[],[],false,none,false⟩),#[some (.ref 64),none,some (.str "NoShape" 255),some (.str "NoShape" 263),some (.builtin "ValueError.__new__"),some (.bool true)]⟩)::
 (nat_lit 76,(cA #[.ref 24]))::
 (nat_lit 83,aX)::
 (nat_lit 84,⟨.type "dict",none,(.dict #[aU P "__module__" 278 (.str "quarterfold.errors" 187),aU P "__firstlineno__" 282 (.int 12 281),aU P "__static_attributes__" 283 (.ref 83),aU P "__doc__" 284 .none] 2),#[]⟩)::
 (nat_lit 85,⟨.type "type",none,(.cls ⟨"TooMany",[.ref 24],[.ref 85,.ref 24,.type "ValueError",.type "Exception",.type "BaseException",.type "object"],84,"TooMany",true,[],[],false,none,false⟩),#[some (.ref 76),none,some (.str "TooMany" 271),some (.str "TooMany" 279),some (.builtin "ValueError.__new__"),some (.bool true)]⟩)::
 (nat_lit 88,(cA #[.ref 24]))::
 (nat_lit 95,aX)::
 (nat_lit 96,⟨.type "dict",none,(.dict #[aU P "__module__" 294 (.str "quarterfold.errors" 187),aU P "__firstlineno__" 298 (.int 14 297),aU P "__static_attributes__" 299 (.ref 95),aU P "__doc__" 300 .none] 2),#[]⟩)::
 (nat_lit 97,⟨.type "type",none,(.cls ⟨"NotFull",[.ref 24],[.ref 97,.ref 24,.type "ValueError",.type "Exception",.type "BaseException",.type "object"],96,"NotFull",true,[],[],false,none,false⟩),#[some (.ref 88),none,some (.str "NotFull" 287),some (.str "NotFull" 295),some (.builtin "ValueError.__new__"),some (.bool true)]⟩)::
 (nat_lit 100,aX)::
 (nat_lit 102,(cA #[.str "thing" 312]))::
 (nat_lit 103,aX)::
 (nat_lit 105,oC "is_whole" "is_whole" 309 310 311 19 1 100 101 (.ref 102) (.ref 103) 104 313 314)::
 (nat_lit 106,oF "is_whole" (Pr.top 11) rJ 105)::
 (nat_lit 107,aX)::
 (nat_lit 109,(cA #[.str "row" 319]))::
 (nat_lit 110,aX)::
 (nat_lit 112,oC "is_plain" "is_plain" 316 317 318 21 1 107 108 (.ref 109) (.ref 110) 111 320 321)::
 (nat_lit 113,oF "is_plain" (Pr.top 12) rJ 112)::
 (nat_lit 114,aX)::
 (nat_lit 117,oC "depths_of" "depths_of" 323 324 325 23 1 114 115 .none .none 116 326 327)::
 (nat_lit 118,oF "depths_of" (Pr.top 13) rJ 117)::
 (nat_lit 119,aX)::
 (nat_lit 121,(cA #[.str "rows" 332,.str "number" 333,.str "ended" 334,.str "quarter" 335]))::
 (nat_lit 122,aX)::
 (nat_lit 124,oC "end_rows" "end_rows" 329 330 331 28 3 119 120 (.ref 121) (.ref 122) 123 336 337)::
 (nat_lit 125,oF "end_rows" (Pr.top 14) rJ 124)::
 (nat_lit 126,aX)::
 (nat_lit 128,(cA #[.str "rows" 342,.str "top" 343,.str "ended" 344]))::
 (nat_lit 129,aX)::
 (nat_lit 131,oC "places_as_ended" "places_as_ended" 339 340 341 34 2 126 127 (.ref 128) (.ref 129) 130 345 346)::
 (nat_lit 132,oF "places_as_ended" (Pr.top 15) rJ 131)::
 (nat_lit 133,aX)::
 (nat_lit 135,(cA #[.str "thing" 355]))::
 (nat_lit 136,aX)::
 (nat_lit 138,oC "is_size" "is_size" 352 353 354 40 1 133 134 (.ref 135) (.ref 136) 137 356 357)::
 (nat_lit 139,oF "is_size" (Pr.top 18) rH 138)::
 (nat_lit 140,aX)::
 (nat_lit 143,oC "is_address" "is_address" 359 360 361 42 2 140 141 .none .none 142 362 363)::
 (nat_lit 144,oF "is_address" (Pr.top 19) rH 143)::
 (nat_lit 145,aX)::
 (nat_lit 147,(cA #[.str "n" 368,.str "row" 369,.str "column" 370,.str "side" 371]))::
 (nat_lit 148,aX)::
 (nat_lit 150,oC "is_cell" "is_cell" 365 366 367 44 3 145 146 (.ref 147) (.ref 148) 149 372 373)::
 (nat_lit 151,oF "is_cell" (Pr.top 20) rH 150)::
 (nat_lit 152,aX)::
 (nat_lit 154,(cA #[.str "n" 378]))::
 (nat_lit 155,aX)::
 (nat_lit 157,oC "want_floor" "want_floor" 375 376 377 47 1 152 153 (.ref 154) (.ref 155) 156 379 380)::
 (nat_lit 158,oF "want_floor" (Pr.top 21) rH 157)::
 (nat_lit 159,aX)::
 (nat_lit 161,(cA #[.str "n" 385,.str "address" 386]))::
 (nat_lit 162,aX)::
 (nat_lit 164,oC "want_address" "want_address" 382 383 384 50 2 159 160 (.ref 161) (.ref 162) 163 387 388)::
 (nat_lit 165,oF "want_address" (Pr.top 22) rH 164)::
 (nat_lit 166,aX)::
 (nat_lit 168,(cA #[.str "n" 393,.str "row" 394,.str "column" 395]))::
 (nat_lit 169,aX)::
 (nat_lit 171,oC "want_cell" "want_cell" 390 391 392 53 3 166 167 (.ref 168) (.ref 169) 170 396 397)::
 (nat_lit 172,oF "want_cell" (Pr.top 23) rH 171)::
 (nat_lit 173,aX)::
 (nat_lit 175,(cA #[.str "n" 402]))::
 (nat_lit 176,aX)::
 (nat_lit 178,oC "side_of" "side_of" 399 400 401 56 1 173 174 (.ref 175) (.ref 176) 177 403 404)::
 (nat_lit 179,oF "side_of" (Pr.top 24) rH 178)::
 (nat_lit 180,aX)::
 (nat_lit 182,(cA #[.str "n" 409,.str "address" 410,.str "row" 411,.str "column" 412,.str "side" 413,.str "figure" 414]))::
 (nat_lit 183,aX)::
 (nat_lit 185,oC "box_at" "box_at" 406 407 408 58 2 180 181 (.ref 182) (.ref 183) 184 415 416)::
 (nat_lit 186,oF "box_at" (Pr.top 25) rH 185)::
 (nat_lit 187,aX)::
 (nat_lit 189,(cA #[.str "n" 421,.str "address" 422]))::
 (nat_lit 190,aX)::
 (nat_lit 192,oC "box_of" "box_of" 418 419 420 66 2 187 188 (.ref 189) (.ref 190) 191 423 424)::
 (nat_lit 193,oF "box_of" (Pr.top 26) rH 192)::
 (nat_lit 194,aX)::
 (nat_lit 196,(cA #[.str "thing" 431,.str "many" 432]))::
 (nat_lit 197,aX)::
 (nat_lit 199,oC "is_number" "is_number" 428 429 430 71 2 194 195 (.ref 196) (.ref 197) 198 433 434)::
 (nat_lit 200,oF "is_number" (Pr.top 28) yx 199)::
 (nat_lit 201,aX)::
 (nat_lit 204,oC "is_row" "is_row" 436 437 438 73 2 201 202 .none .none 203 439 440)::
 (nat_lit 205,oF "is_row" (Pr.top 29) yx 204)::
 (nat_lit 206,aX)::
 (nat_lit 209,oC "are_rows" "are_rows" 442 443 444 77 1 206 207 .none .none 208 445 446)::
 (nat_lit 210,oF "are_rows" (Pr.top 30) yx 209)::
 (nat_lit 211,aX)::
 (nat_lit 213,(cA #[.str "thing" 451,.str "n" 452,.str "top" 453,.str "rows" 454]))::
 (nat_lit 214,aX)::
 (nat_lit 216,oC "is_telling" "is_telling" 448 449 450 79 1 211 212 (.ref 213) (.ref 214) 215 455 456)::
 (nat_lit 217,oF "is_telling" (Pr.top 31) yx 216)::
 (nat_lit 218,aX)::
 (nat_lit 221,oC "is_shape" "is_shape" 458 459 460 86 1 218 219 .none .none 220 461 462)::
 (nat_lit 222,oF "is_shape" (Pr.top 32) yx 221)::
 (nat_lit 223,aX)::
 (nat_lit 225,(cA #[.str "shape" 467]))::
 (nat_lit 226,aX)::
 (nat_lit 228,oC "want_shape" "want_shape" 464 465 466 93 1 223 224 (.ref 225) (.ref 226) 227 468 469)::
 (nat_lit 229,oF "want_shape" (Pr.top 33) yx 228)::
 (nat_lit 230,aX)::
 (nat_lit 233,oC "count_leaves" "count_leaves" 475 476 477 98 2 230 231 .none .none 232 478 479)::
 (nat_lit 234,oF "count_leaves" (Pr.top 36) Ao 233)::
 (nat_lit 235,aX)::
 (nat_lit 237,(cA #[.str "rows" 484,.str "number" 485,.str "address" 486,.str "leaves" 487,.str "at" 488,.str "quarter" 489]))::
 (nat_lit 238,aX)::
 (nat_lit 240,oC "gather_leaves" "gather_leaves" 481 482 483 103 4 235 236 (.ref 237) (.ref 238) 239 490 491)::
 (nat_lit 241,oF "gather_leaves" (Pr.top 37) Ao 240)::
 (nat_lit 242,aX)::
 (nat_lit 244,(cA #[.str "shape" 496,.str "most" 497]))::
 (nat_lit 245,aX)::
 (nat_lit 247,oC "want_leaves" "want_leaves" 493 494 495 109 2 242 243 (.ref 244) (.ref 245) 246 498 499)::
 (nat_lit 248,oF "want_leaves" (Pr.top 38) Ao 247)::
 (nat_lit 249,aX)::
 (nat_lit 251,(cA #[.str "shape" 504]))::
 (nat_lit 252,aX)::
 (nat_lit 254,oC "want_coarse" "want_coarse" 501 502 503 112 1 249 250 (.ref 251) (.ref 252) 253 505 506)::
 (nat_lit 255,oF "want_coarse" (Pr.top 39) Ao 254)::
 (nat_lit 256,aX)::
 (nat_lit 258,(cA #[.str "shape" 511,.str "top" 512,.str "rows" 513,.str "leaves" 514]))::
 (nat_lit 259,aX)::
 (nat_lit 261,oC "leaves_of" "leaves_of" 508 509 510 114 1 256 257 (.ref 258) (.ref 259) 260 515 516)::
 (nat_lit 262,oF "leaves_of" (Pr.top 40) Ao 261)::
 (nat_lit 263,aX)::
 (nat_lit 265,(cA #[.str "row" 523,.str "column" 524,.str "box" 525,.str "first_row" 526,.str "first_column" 527,.str "side" 528,.str "above" 529,.str "left" 530,.str "far" 531]))::
 (nat_lit 266,aX)::
 (nat_lit 268,oC "least_far" "least_far" 520 521 522 122 3 263 264 (.ref 265) (.ref 266) 267 532 533)::
 (nat_lit 269,oF "least_far" (Pr.top 42) (.str "quarterfold.near" 518) 268)::
 (nat_lit 270,aX)::
 (nat_lit 273,oC "seen_leaves" "seen_leaves" 535 536 537 128 3 270 271 .none .none 272 538 539)::
 (nat_lit 274,oF "seen_leaves" (Pr.top 43) (.str "quarterfold.near" 518) 273)::
 (nat_lit 275,aX)::
 (nat_lit 278,oC "inside" "inside" 541 542 543 133 3 275 276 .none .none 277 544 545)::
 (nat_lit 279,oF "inside" (Pr.top 44) (.str "quarterfold.near" 518) 278)::
 (nat_lit 280,aX)::
 (nat_lit 282,(cA #[.str "_law_script" 552,.str "_law_k" 553,.str "_law_cell" 554]))::
 (nat_lit 283,aX)::
 (nat_lit 285,oC "_law_pot" "_law_pot" 549 550 551 143 2 280 281 (.ref 282) (.ref 283) 284 555 556)::
 (nat_lit 286,oF "_law_pot" (Pr.top 46) iz 285)::
 (nat_lit 287,aX)::
 (nat_lit 289,(cA #[.str "_law_pot_here" 561,.str "_law_many" 562,.str "_law_digit_here" 563]))::
 (nat_lit 290,aX)::
 (nat_lit 292,oC "_law_digit" "_law_digit" 558 559 560 148 2 287 288 (.ref 289) (.ref 290) 291 564 565)::
 (nat_lit 293,oF "_law_digit" (Pr.top 47) iz 292)::
 (nat_lit 294,aX)::
 (nat_lit 297,oC "_law_cells" "_law_cells" 567 568 569 155 2 294 295 .none .none 296 570 571)::
 (nat_lit 298,oF "_law_cells" (Pr.top 48) iz 297)::
 (nat_lit 299,aX)::
 (nat_lit 301,(cA #[.str "_law_pot_here" 576,.str "_law_n" 577,.str "_law_most" 578,.str "_law_side" 579,.str "_law_size" 580,.str "_law_row" 581,.str "_law_column" 582,.str "_law_high" 583,.str "_law_wide" 584]))::
 (nat_lit 302,aX)::
 (nat_lit 304,oC "_law_box" "_law_box" 573 574 575 158 3 299 300 (.ref 301) (.ref 302) 303 585 586)::
 (nat_lit 305,oF "_law_box" (Pr.top 49) iz 304)::
 (nat_lit 306,aX)::
 (nat_lit 309,oC "_law_boxes" "_law_boxes" 588 589 590 170 2 306 307 .none .none 308 591 592)::
 (nat_lit 310,oF "_law_boxes" (Pr.top 50) iz 309)::
 (nat_lit 311,aX)::
 (nat_lit 313,(cA #[.str "_law_box_here" 597,.str "_law_row" 598,.str "_law_column" 599,.str "_law_side" 600]))::
 (nat_lit 314,aX)::
 (nat_lit 316,oC "_law_meets" "_law_meets" 594 595 596 174 4 311 312 (.ref 313) (.ref 314) 315 601 602)::
 (nat_lit 317,oF "_law_meets" (Pr.top 51) iz 316)::
 (nat_lit 318,aX)::
 (nat_lit 320,(cA #[.str "_law_box_here" 607,.str "_law_row" 608,.str "_law_column" 609,.str "_law_side" 610]))::
 (nat_lit 321,aX)::
 (nat_lit 323,oC "_law_has" "_law_has" 604 605 606 178 4 318 319 (.ref 320) (.ref 321) 322 611 612)::
 (nat_lit 324,oF "_law_has" (Pr.top 52) iz 323)::
 (nat_lit 325,aX)::
 (nat_lit 328,oC "_law_number" "_law_number" 614 615 616 182 5 325 326 .none .none 327 617 618)::
 (nat_lit 329,oF "_law_number" (Pr.top 53) iz 328)::
 (nat_lit 330,aX)::
 (nat_lit 332,(cA #[.str "_law_n" 623,.str "_law_boxes_here" 624,.str "_law_rows" 625,.str "_law_top" 626]))::
 (nat_lit 333,aX)::
 (nat_lit 335,oC "_law_shape" "_law_shape" 620 621 622 193 2 330 331 (.ref 332) (.ref 333) 334 627 628)::
 (nat_lit 336,oF "_law_shape" (Pr.top 54) iz 335)::
 (nat_lit 337,aX)::
 (nat_lit 339,(cA #[.str "_law_told" 633,.str "_law_row" 634,.str "_law_column" 635,.str "_law_n" 636,.str "_law_number_here" 637,.str "_law_rows" 638,.str "_law_address" 639,.str "_law_k" 640,.str "_law_quarter" 641]))::
 (nat_lit 340,aX)::
 (nat_lit 342,oC "_law_leaf" "_law_leaf" 630 631 632 197 3 337 338 (.ref 339) (.ref 340) 341 642 643)::
 (nat_lit 343,oF "_law_leaf" (Pr.top 55) iz 342)::
 (nat_lit 344,aX)::
 (nat_lit 346,(cA #[.str "_law_n" 648,.str "_law_address" 649,.str "_law_row" 650,.str "_law_column" 651,.str "_law_side" 652,.str "_law_figure" 653]))::
 (nat_lit 347,aX)::
 (nat_lit 349,oC "_law_square" "_law_square" 645 646 647 206 2 344 345 (.ref 346) (.ref 347) 348 654 655)::
 (nat_lit 350,oF "_law_square" (Pr.top 56) iz 349)::
 (nat_lit 351,aX)::
 (nat_lit 353,(cA #[.str "_law_pot_here" 660,.str "_law_boxes_here" 661,.str "_law_n" 662,.str "_law_row" 663,.str "_law_column" 664,.str "_law_box_here" 665]))::
 (nat_lit 354,aX)::
 (nat_lit 356,oC "_law_near_box" "_law_near_box" 657 658 659 215 3 351 352 (.ref 353) (.ref 354) 355 666 667)::
 (nat_lit 357,oF "_law_near_box" (Pr.top 57) iz 356)::
 (nat_lit 358,aX)::
 (nat_lit 360,(cA #[.str "_law_box_here" 672,.str "_law_other" 673,.str "_law_high" 674,.str "_law_wide" 675]))::
 (nat_lit 361,aX)::
 (nat_lit 363,oC "_law_common" "_law_common" 669 670 671 223 2 358 359 (.ref 360) (.ref 361) 362 676 677)::
 (nat_lit 364,oF "_law_common" (Pr.top 58) iz 363)::
 (nat_lit 365,aX)::
 (nat_lit 367,(cA #[.str "_law_row" 682,.str "_law_column" 683,.str "_law_far" 684,.str "_law_place" 685,.str "_law_above" 686,.str "_law_first" 687,.str "_law_amid" 688,.str "_law_wide" 689]))::
 (nat_lit 368,aX)::
 (nat_lit 370,oC "_law_ahead" "_law_ahead" 679 680 681 227 4 365 366 (.ref 367) (.ref 368) 369 690 691)::
 (nat_lit 371,oF "_law_ahead" (Pr.top 59) iz 370)::
 (nat_lit 372,aX)::
 (nat_lit 375,oC "_law_share" "_law_share" 693 694 695 235 2 372 373 .none .none 374 696 697)::
 (nat_lit 376,oF "_law_share" (Pr.top 60) iz 375)::
 (nat_lit 377,aX)::
 (nat_lit 380,oC "_law_exchanged" "_law_exchanged" 699 700 701 237 1 377 378 .none .none 379 702 703)::
 (nat_lit 381,oF "_law_exchanged" (Pr.top 61) iz 380)::
 (nat_lit 382,aX)::
 (nat_lit 384,(cA #[.str "_law_told" 708,.str "_law_found" 709,.str "_law_waiting" 710,.str "_law_number_here" 711,.str "_law_row" 712,.str "_law_column" 713,.str "_law_side" 714,.str "_law_half" 715,.str "_law_k" 716,.str "_law_quarter" 717]))::
 (nat_lit 385,aX)::
 (nat_lit 387,oC "_law_full_boxes" "_law_full_boxes" 705 706 707 241 1 382 383 (.ref 384) (.ref 385) 386 718 719)::
 (nat_lit 388,oF "_law_full_boxes" (Pr.top 62) iz 387)::
 (nat_lit 389,aX)::
 (nat_lit 391,(cA #[.str "_law_told" 724,.str "_law_row" 725,.str "_law_column" 726,.str "_law_far" 727,.str "_law_leaves" 728,.str "_law_side" 729,.str "_law_around" 730,.str "_law_many" 731,.str "_law_leaf_here" 732,.str "_law_first" 733,.str "_law_left" 734,.str "_law_wide" 735,.str "_law_share_here" 736]))::
 (nat_lit 392,aX)::
 (nat_lit 394,oC "_law_deep_right" "_law_deep_right" 721 722 723 253 5 389 390 (.ref 391) (.ref 392) 393 737 738)::
 (nat_lit 395,oF "_law_deep_right" (Pr.top 63) iz 394)::
 (nat_lit 396,aX)::
 (nat_lit 399,oC "_law_shut_right" "_law_shut_right" 740 741 742 266 5 396 397 .none .none 398 743 744)::
 (nat_lit 400,oF "_law_shut_right" (Pr.top 64) iz 399)::
 (nat_lit 401,aX)::
 (nat_lit 403,(cA #[.str "_law_told" 749,.str "_law_row" 750,.str "_law_column" 751,.str "_law_some" 752,.str "_law_far" 753,.str "_law_place" 754,.str "_law_leaves" 755]))::
 (nat_lit 404,aX)::
 (nat_lit 406,oC "_law_right" "_law_right" 746 747 748 280 3 401 402 (.ref 403) (.ref 404) 405 756 757)::
 (nat_lit 407,oF "_law_right" (Pr.top 65) iz 406)::
 (nat_lit 408,aX)::
 (nat_lit 410,(cA #[.str "_law_script" 762,.str "_law_k" 763,.str "_law_pot_here" 764,.str "_law_n" 765,.str "_law_boxes_here" 766,.str "_law_told" 767,.str "_law_turn" 768,.str "_law_row" 769,.str "_law_column" 770]))::
 (nat_lit 411,aX)::
 (nat_lit 413,oC "law" "law" 759 760 761 291 1 408 409 (.ref 410) (.ref 411) 412 771 772)::
 (nat_lit 414,oF "law" (Pr.top 66) iz 413)::[]
def uW:List af:=[2,3,15,22,23,24,25,28,35,36,37,40,47,48,49,52,59,60,61,64,71,72,73,76,83,84,85,88,95,96,97,100,102,103,105,106,107,109,110,112,113,114,117,118,119,121,122,124,125,126,128,129,131,132,133,135,136,138,139,140,143,144,145,147,148,150,151,152,154,155,157,158,159,161,162,164,165,166,168,169,171,172,173,175,176,178,179,180,182,183,185,186,187,189,190,192,193,194,196,197,199,200,201,204,205,206,209,210,211,213,214,216,217,218,221,222,223,225,226,228,229,230,233,234,235,237,238,240,241,242,244,245,247,248,249,251,252,254,255,256,258,259,261,262,263,265,266,268,269,270,273,274,275,278,279,280,282,283,285,286,287,289,290,292,293,294,297,298,299,301,302,304,305,306,309,310,311,313,314,316,317,318,320,321,323,324,325,328,329,330,332,333,335,336,337,339,340,342,343,344,346,347,349,350,351,353,354,356,357,358,360,361,363,364,365,367,368,370,371,372,375,376,377,380,381,382,384,385,387,388,389,391,392,394,395,396,399,400,401,403,404,406,407,408,410,411,413,414]
def C5:List Nat:=[1,2,3,4,5,6,7,9,10,11,12,13,14,15,17,18,19,20,21,22,23,24,25,26,28,29,30,31,32,33,35,36,37,38,39,40,42,43,44,46,47,48,49,50,51,52,53,54,55,56,57,58,59,60,61,62,63,64,65,66]
def N0:Nat:=6254
noncomputable def bx(P:Params)(a t l:Nat)(x:ar):List az:=[(cA #[.ref 24]),
⟨.type "builtin_function_or_method",none,(.fields #[.builtin "type.__prepare__",.type "type"]),#[]⟩,
⟨.type "dict",none,(.dict #[⟨kh P "__module__",.str "__module__" (t+7),.str "quarterfold.errors" 187⟩,⟨kh P "__qualname__",.str "__qualname__" (t+9),.str x (t+8)⟩,⟨kh P "__firstlineno__",.str "__firstlineno__" (t+11),.int l (t+10)⟩,⟨kh P "__static_attributes__",.str "__static_attributes__" (t+12),.ref (a+7)⟩] 4),#[]⟩,
aX,
dQ,
⟨.type "code",none,(.fields #[.str x (t+2),.str x (t+3),.str "/claim/cut.py" (t+4),.int l 0,.int 0 0,.int 0 0,.int 0 0,.int 0 0,.ref (a+3),.bool false,.int 181 0,.ref (a+4),.none,.none,.none,.none,.int (t+5) 0,.int l 0,.str "/claim/cut.py" (t+6)]),#[]⟩,
⟨.type "frame",none,.plain,#[some (.ref (a+5)),some (.ref 3),some (.ref (a+2)),none,some (.str "quarterfold.errors" 187),none,some (.ref 0)]⟩,
aX,
⟨.type "dict",none,(.dict #[⟨kh P "__module__",.str "__module__" (t+7),.str "quarterfold.errors" 187⟩,⟨kh P "__firstlineno__",.str "__firstlineno__" (t+11),.int l (t+10)⟩,⟨kh P "__static_attributes__",.str "__static_attributes__" (t+12),.ref (a+7)⟩,⟨kh P "__doc__",.str "__doc__" (t+13),.none⟩] 2),#[]⟩,
⟨.type "type",none,(.cls ⟨x,[.ref 24],[.ref (a+9),.ref 24,.type "ValueError",.type "Exception",.type "BaseException",.type "object"],(a+8),x,true,[],[],false,none,false⟩),#[some (.ref a),none,some (.str x t),some (.str x (t+8)),some (.builtin "ValueError.__new__"),some (.bool true)]⟩,
⟨.type "super",none,(.fields #[.ref (a+9),.ref (a+9),.ref (a+9)]),#[]⟩,
⟨.type "builtin_function_or_method",none,(.fields #[.builtin "object.__init_subclass__",.ref (a+9)]),#[]⟩]
noncomputable def ob(P:Params):List az:=[boot_o_0 P,boot_o_1 P,boot_o_2 P,⟨.type "dict",none,(.dict #[aU P "__name__" 165 (.str "quarterfold.rows" 303),aU P "__doc__" 166 .none,aU P "__package__" 167 .none,aU P "__loader__" 168 (.builtin "__main__.__loader__#opaque"),aU P "__spec__" 169 .none,aU P "__annotations__" 170 (.ref 6),aU P "__builtins__" 171 (.ref 4),aU P "__file__" 173 (.str "/claim/cut.py" 172),aU P "__cached__" 174 .none,aU P "FloorError" 206 (.ref 24),aU P "NoFloor" 222 (.ref 37),aU P "NoAddress" 238 (.ref 49),aU P "NoCell" 254 (.ref 61),aU P "NoShape" 270 (.ref 73),aU P "TooMany" 286 (.ref 85),aU P "NotFull" 302 (.ref 97),aU P "FULL" 306 (.int 1 305),aU P "FIRST" 308 (.int 2 307),aU P "is_whole" 315 (.ref 106),aU P "is_plain" 322 (.ref 113),aU P "depths_of" 328 (.ref 118),aU P "end_rows" 338 (.ref 125)] 22),#[]⟩,boot_o_4 P,boot_o_5 P,boot_o_6 P,boot_o_7 P,boot_o_8 P,boot_o_9 P,boot_o_10 P,aX,⟨.none,none,(.fields #[.int 2 0,.int 0 0,.ref 20,.int 4 0,.int 0 0,.ref 33,.int 6 0,.int 0 0,.ref 45,.int 8 0,.int 0 0,.ref 57,.int 10 0,.int 0 0,.ref 69,.int 12 0,.int 0 0,.ref 81,.int 14 0,.int 0 0,.ref 93,.int 19 0,.int 0 0,.ref 105,.int 21 0,.int 0 0,.ref 112,.int 23 0,.int 0 0,.ref 117,.int 28 0,.int 0 0,.ref 124]),#[]⟩,⟨.type "code",none,(.fields #[.str "<module>" 182,.str "<module>" 183,.str "/claim/cut.py" 184,.int 1 0,.int 0 0,.int 0 0,.int 0 0,.int 0 0,.ref 11,.bool false,.int 181 0,.ref 12,.none,.none,.none,.none,.int 185 0,.int 1 0,.str "/claim/cut.py" 186]),#[]⟩,⟨.type "frame",none,.plain,#[some (.ref 13),some (.ref 3),some (.ref 3),none,some (.str "__main__" 164),none,some (.ref 0)]⟩,(cA #[.type "ValueError"]),⟨.type "builtin_function_or_method",none,(.fields #[.builtin "type.__prepare__",.type "type"]),#[]⟩,⟨.type "dict",none,(.dict #[aU P "__module__" 196 (.str "quarterfold.errors" 187),aU P "__qualname__" 198 (.str "FloorError" 197),aU P "__firstlineno__" 200 (.int 2 199),aU P "__static_attributes__" 201 (.ref 22)] 4),#[]⟩,aX,dQ,⟨.type "code",none,(.fields #[.str "FloorError" 191,.str "FloorError" 192,.str "/claim/cut.py" 193,.int 2 0,.int 0 0,.int 0 0,.int 0 0,.int 0 0,.ref 18,.bool false,.int 181 0,.ref 19,.none,.none,.none,.none,.int 194 0,.int 2 0,.str "/claim/cut.py" 195]),#[]⟩,⟨.type "frame",none,.plain,#[some (.ref 20),some (.ref 3),some (.ref 17),none,some (.str "quarterfold.errors" 187),none,some (.ref 0)]⟩,aX,⟨.type "dict",none,(.dict #[aU P "__module__" 196 (.str "quarterfold.errors" 187),aU P "__firstlineno__" 200 (.int 2 199),aU P "__static_attributes__" 201 (.ref 22),aU P "__weakref__" 203 (.ref 25),aU P "__doc__" 204 .none] 3),#[]⟩,⟨.type "type",none,(.cls ⟨"FloorError",[.type "ValueError"],[.ref 24,.type "ValueError",.type "Exception",.type "BaseException",.type "object"],23,"FloorError",true,[],[.ref 37,.ref 49,.ref 61,.ref 73,.ref 85,.ref 97],false,none,false⟩),#[some (.ref 15),none,some (.str "FloorError" 189),some (.str "FloorError" 197),some (.builtin "ValueError.__new__"),some (.bool true)]⟩,⟨.type "getset_descriptor",none,(.fields #[.str "__weakref__" 202,.ref 24,.builtin "ExceptionGroup.__weakref__",.none]),#[]⟩,⟨.type "super",none,(.fields #[.ref 24,.ref 24,.ref 24]),#[]⟩,⟨.type "builtin_function_or_method",none,(.fields #[.builtin "object.__init_subclass__",.ref 24]),#[]⟩]++(bx P 28 207 4 "NoFloor"++(bx P 40 223 6 "NoAddress"++(bx P 52 239 8 "NoCell"++(bx P 64 255 10 "NoShape"++(bx P 76 271 12 "TooMany"++(bx P 88 287 14 "NotFull"++([aX,dQ,(cA #[.str "thing" 312]),aX,oT "is_whole" "is_whole" (Pr.top 11),oC "is_whole" "is_whole" 309 310 311 19 1 100 101 (.ref 102) (.ref 103) 104 313 314,oF "is_whole" (Pr.top 11) rJ 105,aX,dQ,(cA #[.str "row" 319]),aX,oT "is_plain" "is_plain" (Pr.top 12),oC "is_plain" "is_plain" 316 317 318 21 1 107 108 (.ref 109) (.ref 110) 111 320 321,oF "is_plain" (Pr.top 12) rJ 112,aX,dQ,oT "depths_of" "depths_of" (Pr.top 13),oC "depths_of" "depths_of" 323 324 325 23 1 114 115 .none .none 116 326 327,oF "depths_of" (Pr.top 13) rJ 117,aX,dQ,(cA #[.str "rows" 332,.str "number" 333,.str "ended" 334,.str "quarter" 335]),aX,oT "end_rows" "end_rows" (Pr.top 14),oC "end_rows" "end_rows" 329 330 331 28 3 119 120 (.ref 121) (.ref 122) 123 336 337,oF "end_rows" (Pr.top 14) rJ 124])))))))
noncomputable def hA(P:Params):ao:=⟨⟨((((ob P).take 15).set 3 (boot_o_3 P)).set 12 (dQ))⟩,(boot_heap P).life⟩
noncomputable def h1(P:Params):ao:=⟨⟨(ob P)⟩,(boot_heap P).life⟩
noncomputable def bd:List aB:=behindTheImports pw
noncomputable def ev:Env:={scope:=pw.main.scope,locals:=mainNs,globals:=mainNs,cells:=[],code:=.ref 13,frame:=some 14}
noncomputable def cE:Code:=.body bd ev
noncomputable abbrev sh (h:Params->ao) (k:Nat) (w:aj) (a:OsState):ae:=⟨h w.params,Array.mk [],boot_drawn,k,a⟩
noncomputable abbrev fr:List Frame:=[topFrame ⟨0,0,0,0⟩]
theorem KP(w:aj)(a:OsState):topGo treeTable pw w 11 (some (.ref 6)) 12 (sh boot_heap boot_toks w a) (topStub pw)=some (sh hA 187 w a,⟨denote treeTable cE,cE,⟨0,0,0,0⟩,fr⟩):=by kernel_rfl
theorem Nz(w:aj)(a:OsState):segRun treeTable pw w 11 (some (.ref 6)) 1 1 (sh hA 187 w a) (blockOf bd ev cE ⟨0,0,0,0⟩ fr)=some (.next,sh hA 187 w a,cE,⟨0,0,0,0⟩):=by kernel_rfl
theorem qK2{tb:String->Option Builtin}{p:ah}{w:aj}{d:Nat}{a:Option aa}{env:Env}{q:aC}{n N j:Nat}{s s' r:ae}{l:List aB}{c:Code}{b e:aC}(h:segRun tb p w d a 1 n s (piecesOf (l.take j) env c b [topFrame q])=some (.next,s',c,e))
  (k:topRun tb p w d a N s' (restOf (l.drop j) env c e [topFrame q])=some r):topRun tb p w d a (n+N) s (restOf l env c b [topFrame q])=some r:=by
 have:=piece_app (l:=l.take j) (rest:=l.drop j) h k
 rwa [Xe]at this
theorem xd6{p q:ah}{loose:List ar}{Xt:ae->Bool}{α:Type}{m:ae->α}{u:aj->α}{N:Nat}{v:Bool}{aJ:Params->ao}{c:Array GenState}{g:Drawn}{l f M x:Nat}{a:Option aa}{Z:aj->OsState->ae}{T:Thread}
  (I:∀w:aj,(fencedOpening treeTable p w N).map (λs=>(s.heap,s.gens,s.drawn,s.toks))=some (aJ w.params,c,g,l))
  (size:∀w:aj,((aJ w.params).isNs mainGlobals&&c.size==0,(aJ w.params).objs.size,(aJ w.params).nsMap mainGlobals "__annotations__")=(true,f,a))
  (j:∀(w:aj)(b:OsState)(r:ae),topRun treeTable p w f a x (Z w b) T=some r->topRun treeTable p w f a M ⟨aJ w.params,c,g,l,b⟩ (topStub p)=some r) (le:Nat.ble M N=true)
  (fin:∀(w:aj)(b:OsState),(topRun treeTable p w f a x (Z w b) T).map (λs=>(staticsOk (importedModules p.main.body) (aJ w.params) s.heap&&namesBound p s.heap&&gensDone s&&laidKept (aJ w.params) s.heap,openSeen q loose (importedModules p.main.body) Xt v s,m s))=some (true,openGood q loose,u w)):LeftO p q loose Xt m u N v:=λw=>by
 obtain⟨⟨h,i,d,k,b⟩,e,G⟩:=Zj.mp (I w);obtain⟨rfl,rfl,rfl,rfl⟩:h=aJ w.params/\i=c/\d=g/\k=l:=by simpa using G
 obtain⟨H,B,F⟩:_/\_/\_:=by simpa only[Uj]using size w
 obtain⟨r,y,D⟩:=Zj.mp (fin w b);obtain⟨A,C,E⟩:_/\_/\_:=by simpa only[Uj]using D
 have n:=topRun_mono (N-M) _ _ _ _ (j w b r y);rw[show M+(N-M)=N by have:=Nat.le_of_ble_eq_true le;lia]at n;have t:topFrom treeTable p w N ⟨aJ w.params,i,d,k,b⟩=some r:=by
  unfold topFrom;dsimp only;rw[H,B,F,n];show(match staticsOk (importedModules p.main.body) (aJ w.params) r.heap&&namesBound p r.heap&&gensDone r&&laidKept (aJ w.params) r.heap with|true=>_|false=>_)=_;rw[A]
 unfold openEnds;rw[e];show(topFrom treeTable p w N ⟨aJ w.params,i,d,k,b⟩).map _=_;rw[t];show some (_,_)=some (_,_);rw[C,E]
theorem Je(w:aj)(a:OsState):segRun treeTable pw w 11 (some (.ref 6)) 1 1666 (sh hA 187 w a) (piecesOf (bd.take 15) ev cE ⟨0,0,0,0⟩ fr)=some (.next,sh h1 339 w a,cE,⟨28,0,33,32⟩):=by kernel_rfl
theorem Jm(w:aj)(a:OsState)(r:ae)(h:topRun treeTable pw w 11 (some (.ref 6)) 1509 (sh h1 339 w a) (restOf (bd.drop 15) ev cE ⟨28,0,33,32⟩ fr)=some r):topRun treeTable pw w 11 (some (.ref 6)) (12+(1+(1666+1509))) (sh boot_heap boot_toks w a) (topStub pw)=some r:=go_top (KP w a) (piece_block (Nz w a) (qK2 (Je w a) h))
theorem KU:opening pw=plainProg pw.main.scope.names:=by kernel_rfl
theorem Nf(s:ae):fenceModules? pw s=some s:=by kernel_rfl
def q0:ah:={pw with main:={pw.main with body:=C5.map Pr.top}}
theorem mJ:∀P,uW=(K0 P).map (·.1):=λ_=>by kernel_rfl
abbrev X0:ae->Bool:=λs=>xlAt q0 [] s&&recOk (RowW.records (OpenRow.toRowW (OpenLaw.row PySem.Challenge.rw_quarterfold_k56_whole_inside_on_great_fl))) s
set_option maxHeartbeats 0 in
theorem Nd(w:aj)(os:OsState):(topRun treeTable pw w 11 (some (.ref 6)) 1509 (sh h1 339 w os) (restOf (bd.drop 15) ev cE ⟨28,0,33,32⟩ fr)).map (λs=>(staticsOk (importedModules pw.main.body) (boot_heap w.params) s.heap&&namesBound pw s.heap&&gensDone s&&laidKept (boot_heap w.params) s.heap,openSeen q0 [] (importedModules pw.main.body) X0 true s,Hook.obs (kHook Hd.K0 Hd.uW Hd.mJ) s))=some (true,openGood q0 [],Hook.val (kHook Hd.K0 Hd.uW Hd.mJ) w):=by kernel_rfl
theorem xQ5:LeftO pw q0 [] X0 (Hook.obs (kHook Hd.K0 Hd.uW Hd.mJ)) (Hook.val (kHook Hd.K0 Hd.uW Hd.mJ)) N0:=xd6 (boot_open KU rfl Nf) (λw=>by kernel_rfl) Jm (by rfl) Nd
end Hd
section
variable{a b c d e f g h i j k l m n o p:Nat}{z y x w v u t s r:Int}
theorem nW(H:a<b)(J:b<c):a<c:=by lia
theorem mw:0<=((a:Nat):Int):=by lia
theorem fc(H:a<b)(J:b<=c):(b-1)<c:=by lia
theorem xF(H:a<b):(b-1)<b:=by lia
theorem uL(H:a<b)(J:c=b):a<c:=by lia
theorem jo:a<=(a+b):=by lia
theorem iE(H:¬(a<b)):b<=a:=by lia
theorem nN(H:a<b)(J:b=c):a<c:=by lia
theorem uK(H:a=b)(J:a<=c):b<=c:=by lia
theorem uJ(H:a<=b):a<=(b+c):=by lia
theorem qm(H:a<b):a<(b+c):=by lia
theorem eJ(H:(a+b)<=c):a<=c:=by lia
theorem eI(H:(a+b)<c):a<c:=by lia
theorem dZ(H:a<b)(J:(c+b)<=d):(c+a)<d:=by lia
theorem mq(H:a<=b)(J:¬(a=b)):a<b:=by lia
theorem fO(H:a<=b):¬(b<a):=by lia
theorem nV(H:a=b):a<=b:=by lia
theorem mn(H:a<=b)(J:¬(a<b)):a=b:=by lia
theorem i5(H:a=b)(J:(c+d)<(b+d)):c<a:=by lia
theorem nU(H:a<=b)(J:b<=c):a<=c:=by lia
theorem nR(H:a<=b)(J:¬(a=b)):(a+1)<=b:=by lia
theorem qj(H:a<=12):((a:Nat):Int)<=1000000:=by lia
theorem g_(H:a<=b)(J:(c<d)/\(d<=a)):(d-1)<b:=by lia
theorem kn(H:a<b):(a+1)<=b:=by lia
theorem iZ(H:a<b):a<=(b-1):=by lia
theorem nQ(H:a<b):(b-(a+1))<(b-a):=by lia
theorem qi(H:a<=b)(J:¬(a=b)):(b-(a+1))<(b-a):=by lia
theorem qh(H:a<b)(J:b<=c):a<c:=by lia
theorem xE:((2*(a%2))+(b%2))<4:=by lia
theorem nP(H:(a+b)<(c+b)):a<c:=by lia
theorem iY(H:a<=b):(c+a)<=(c+b):=by lia
theorem xD(H:¬(a<b)):((a-b)+b)=a:=by lia
theorem tw(H:a<=4096):a<1000000:=by lia
theorem tq(H:a<b):(c+a)<(c+b):=by lia
theorem tj(H:z<y):y≠z:=by lia
theorem xC(H:z<y):z<=y:=by lia
theorem xB:((a+b)-a)=b:=by lia
theorem s_(H:a<b):(a+c)<(b+c):=by lia
theorem sZ:((a+b)+c)=(a+(c+b)):=by lia
theorem nO(H:¬(z<=y)):y<z:=by lia
theorem xA:¬(((a:Nat):Int)<0):=by lia
theorem xy(H:a<b)(J:c=a):c<b:=by lia
theorem qg(H:a<b)(J:c<(a+d)):c<(b+d):=by lia
theorem sY(H:a<(b+c))(J:¬(a<c)):(a-c)<b:=by lia
theorem C0(H:a<b):0<=((((b:Nat):Int)-1)-((a:Nat):Int)):=by lia
theorem sX:0<=a:=by lia
theorem xx(H:a<b):a<=b:=by lia
theorem qe(H:¬(a=0)):0<a:=by lia
theorem xw(H:a<=900):a<=1000:=by lia
theorem p_(H:a<=b):(a-c)<=b:=by lia
theorem xu:((a%2)=0)\/((a%2)=1):=by lia
theorem p9(H:a<b):((b-1)+1)=b:=by lia
theorem xt(H:a<=b):b=(a+(b-a)):=by lia
theorem xr(H:(a-b)=(c+1)):b<a:=by lia
theorem CZ(H:a=b)(J:¬(c<b)):a<=c:=by lia
theorem xq(H:a<(b+1))(J:¬(a=b)):a<b:=by lia
theorem p6(H:a<b)(J:(c+b)<=d):c<d:=by lia
theorem p5(H:a<=b)(J:(c+b)<=d):(c+a)<=d:=by lia
theorem xp(H:(a-b)=(c+d)):(a-(b+d))=c:=by lia
theorem pZ(H:a<(b+(c+1)))(J:¬(a=(b+c))):a<(b+c):=by lia
theorem pY(H:a<(b+2))(J:c=b)(K:(((a:Nat):Int)-2)=((d:Nat):Int)):d<c:=by lia
theorem sW:(0:Nat)<1:=by lia
theorem xo:a<=a:=by lia
theorem sV:(z-z)<=0:=by lia
theorem CY:a<=(b+a):=by lia
theorem sU(H:a<b):0<b:=by lia
theorem sT(H:a<(b+1)):a<=b:=by lia
theorem sS:(a+b)<=(a+(c+b)):=by lia
theorem sR(H:a<=b):(a+(b-a))=b:=by lia
theorem xn(H:a=b)(J:b<=c):a<=c:=by lia
theorem CW(H:a<=b):(a+c)<=(b+c):=by lia
theorem xl(H:¬(a<b)):a=((a-b)+b):=by lia
theorem CV(H:a<=b)(J:(b-a)=0):a=b:=by lia
theorem sQ(H:a<9)(J:b=(4+a)):b<=12:=by lia
theorem CU(H:a<b)(J:c<=(a+1)):c<=b:=by lia
theorem xk(H:a<(b+1))(J:¬(a<b)):a=b:=by lia
theorem xj(H:a<b)(J:c<=a)(K:d<=c):d<b:=by lia
theorem CT(H:a=b)(J:c=b)(K:a<=d):c<=d:=by lia
theorem ER(H:a<=(b+1))(J:¬(a=(b+1))):a<=b:=by lia
theorem EO(H:a<b)(J:¬((a+1)=b)):(a+1)<b:=by lia
theorem IA(H:a<=b)(J:(c+b)<d):(c+a)<d:=by lia
theorem Ot(H:0<=z):(((Int.toNat z):Nat):Int)=z:=by lia
theorem Iz:((((a+2):Nat):Int)-2)=((a:Nat):Int):=by lia
theorem Iy(H:a<=b):(((a:Nat):Int)-((b:Nat):Int))<=0:=by lia
theorem EN(H:a<(b+1))(J:b<=12):((a:Nat):Int)<=1000000:=by lia
theorem EM(H:a<b)(J:c<((d+b)+e))(K:f=((b-a)+e)):(c-(d+a))<f:=by lia
theorem Oq:a=a:=by lia
theorem Iw:(1-a)<2:=by lia
theorem Iu(H:a<=0):a=0:=by lia
theorem Oo:((a+b)-b)=a:=by lia
theorem Ir:(0+a)<=(b+a):=by lia
theorem Iq:(a-b)<=(c+a):=by lia
theorem Ip(H:z<=y):0<=(y-z):=by lia
theorem Io(H:a<b):(min a b)=a:=by lia
theorem Im:(a+(b+c))=((a+c)+b):=by lia
theorem Om(H:((a+b)+c)<d):a<d:=by lia
theorem Il(H:a=b)(J:¬(c<a)):b<=c:=by lia
theorem Ik(H:(a+(b+c))<=d):((a+c)+b)<=d:=by lia
theorem Ol(H:(a+(b+c))<d):((a+c)+b)<d:=by lia
theorem Ij(H:a<(min b (c-d))):(d+a)<c:=by lia
theorem Ii(H:a<b)(J:(c+b)<=d):(c-e)<d:=by lia
theorem Ih:((((a*2):Nat):Int)/2)=((a:Nat):Int):=by lia
theorem Ig(H:a=b)(J:c<=a)(K:¬(c=b)):c<=(b-1):=by lia
theorem Oj(H:((a:Nat):Int)<=((b:Nat):Int)):a<=b:=by lia
theorem Ie(H:a=(b+c))(J:d<=c)(K:a<=(e+b)):d<=e:=by lia
theorem Oi(H:((a+(3*(b+c)))+d)<e):(((a+c)+(3*b))+d)<e:=by lia
theorem Rw:z<=z:=by lia
theorem Rv:(a-b)<=a:=by lia
theorem Ru:a<((2*a)+1):=by lia
theorem Rt(H:a<b):b≠a:=by lia
theorem Rr(H:a<b):¬(a>=b):=by lia
theorem Rq(H:¬(a>b)):a<=b:=by lia
theorem Rp(H:a<=12):(a+2)<=14:=by lia
theorem Ro(H:a<b):(0+a)<b:=by lia
theorem Rn:(min 9 a)<1000000:=by lia
theorem Rm(H:¬(a=0)):(a-1)<a:=by lia
theorem Rk(H:a<b):(a-c)<b:=by lia
theorem Rj(H:a<2):(a=0)\/(a=1):=by lia
theorem Ri(H:0<=z):0<=((2*z)+1):=by lia
theorem Rh(H:¬(a>=(b+1))):a<=b:=by lia
theorem Rg(H:¬((a-b)=0)):b<a:=by lia
theorem Rf(H:a=b)(J:b≠0):0<a:=by lia
theorem Rc(H:a<=2000):a<=1191000:=by lia
theorem Rb(H:(min a b)=a):a<=b:=by lia
theorem Ra:(z+(y*(-1)))=(z-y):=by lia
theorem Q_(H:z<=y)(J:y<=x):z<=x:=by lia
theorem Q9(H:a<2):((a:Nat):Int)<2:=by lia
theorem Q8(H:a<=b):c<=((c+b)-a):=by lia
theorem Q7(H:a<b):(c+a)<=(c+b):=by lia
theorem Q6(H:a<(b-c)):(c+a)<b:=by lia
theorem Q5(H:(a<b)/\(b<=c)):a<b:=by lia
theorem Q4(H:1<a):((a-1)-1)<(a-1):=by lia
theorem Q3(H:(a+(b+1))<=c):a<c:=by lia
theorem QZ(H:a=b)(J:¬(b=0)):0<a:=by lia
theorem QY(H:(z-y)<=x):(z-x)<=y:=by lia
theorem QX(H:z<=(y+x)):(z-x)<=y:=by lia
theorem QW(H:z<=y):(x+z)<=(y+x):=by lia
theorem QV(H:z=y):(x+z)=(y+x):=by lia
theorem QU:((a+b)-(a+c))=(b-c):=by lia
theorem QT(H:a<b):((b:Nat):Int)≠0:=by lia
theorem QS(H:a<b):0<(min 9 (b-a)):=by lia
theorem QR(H:a<=b)(J:¬(a<c)):c<=b:=by lia
theorem QP(H:¬(a<(b+c))):c<=(a-b):=by lia
theorem QO(H:a<(min b c)):(1+a)<=b:=by lia
theorem QN(H:a<b):(a+c)<((2*b)+c):=by lia
theorem QM(H:a<b):((c+b)-1)<(c+b):=by lia
theorem QL(H:(z+y)<=x):(z+(y-1))<x:=by lia
theorem QK(H:a<=b)(J:1<a):((a-1)-1)<b:=by lia
theorem QJ(H:(a+b)<=100000):a<=1191000:=by lia
theorem QI(H:a<b)(J:b<=900):(a+2)<=1000:=by lia
theorem QH(H:(a+1)<b):(a+((b-1)-a))<b:=by lia
theorem QG(H:z<=y)(J:¬((z-x)<=0)):x<y:=by lia
theorem QF(H:a=b)(J:b<=2000):a<=1191000:=by lia
theorem QE(H:a=b)(J:b<=c):(a+(c-a))=c:=by lia
theorem QD(H:a<(b+c))(J:b<=a):(a-b)<c:=by lia
theorem QC(H:a<=(b-c))(J:1<=a):(c+a)<=b:=by lia
theorem QB(H:(a+1)<=b):((c+b)-1)<(c+b):=by lia
theorem QA(H:a<b)(J:(b-(0+1))<=a):a=(b-1):=by lia
theorem Qz(H:a>b)(J:a<=(c-d)):(d+a)<=c:=by lia
theorem Qy(H:a<=b)(J:(c<d)/\(d<=a)):d<=b:=by lia
theorem Qx(H:a<(b+c))(J:c<=d):a<(b+d):=by lia
theorem Qw(H:a<b)(J:c<(d+b)):(c-d)<b:=by lia
theorem Qv(H:z<=y)(J:(x+y)<=w):(x+z)<=w:=by lia
theorem Qu(H:a<(min (b-c) d)):(c+a)<b:=by lia
theorem Qt(H:z<=((y-x)-w)):(w+(x+z))<=y:=by lia
theorem Qs(H:z=((y-x)-w)):(w+(x+z))=y:=by lia
theorem Qr(H:a=b)(J:c=a)(K:¬(d<c)):b<=d:=by lia
theorem Qq(H:a<b)(J:c<=b)(K:d<=c):(d-1)<b:=by lia
theorem Qp(H:(z+y)<x):((z-y)+((2*y)+1))<=x:=by lia
theorem Qo(H:a<(min b (c-d))):(d+(1+a))<=c:=by lia
theorem Qn(H:a<=b)(J:c<=(a-1))(K:1<a):(c-1)<b:=by lia
theorem Qm(H:a<b)(J:z=((b:Nat):Int)):0<z:=by lia
theorem Ql(H:(((a+1)+1)=(a+1))\/(((a+1)+1)=a)):False:=by lia
theorem Qk(H:a<b)(J:c=d)(K:(e+b)<=d):(e+a)<c:=by lia
theorem Qj(H:a<b)(J:c=d)(K:(e+b)<=d):(e+a)<=c:=by lia
theorem Qi(H:a=b)(J:c<=d)(K:(e+d)<=b):(e+c)<=a:=by lia
theorem Qh(H:a<=60)(J:(b+64)<c):(b+(min a d))<c:=by lia
theorem Qg(H:a<(b+1)):0<=(((b:Nat):Int)-((a:Nat):Int)):=by lia
theorem Qe(H:a<b)(J:c=d)(K:(e+b)<=d):((e+a)-f)<c:=by lia
theorem Qd(H:a<=12):(((a:Nat):Int)-((b:Nat):Int))<=1000000:=by lia
theorem Qc(H:((a+(16*(b+1)))+c)<d):(((a+3)+(16*b))+c)<d:=by lia
theorem Qb(H:((a:Nat):Int)<=z):z=(((Int.toNat z):Nat):Int):=by lia
theorem Qa(H:(((a:Nat):Int)+z)<=((b:Nat):Int))(J:1<=z):a<b:=by lia
theorem P_(H:((a:Nat):Int)<(((b:Nat):Int)+((c:Nat):Int))):a<(b+c):=by lia
theorem P9(H:a<b)(J:c=((b-a)+d))(K:d<=e)(L:((f+b)+e)<=g):((f+a)+c)<=g:=by lia
theorem P8(H:z=(((a:Nat):Int)-y))(J:a<=b)(K:(((b:Nat):Int)-y)<=x):z<=x:=by lia
theorem P7(H:a<(b+c))(J:z=((1-((c:Nat):Int))-(((b:Nat):Int)-y)))(K:(y-((a:Nat):Int))<=x):z<=x:=by lia
end
theorem P6{p A B:Prop}[Decidable p](h:p)(a:A):if decide p=true then A else B:=by rw[Zx (Zt h)];exact a
theorem xQ6{p A B:Prop}[Decidable p](h:¬p)(b:B):if decide p=true then A else B:=by rw[Zl (λz=>h (ZG z))];exact b
namespace L2
open PySem PySem.Spec PyProof.Rows
abbrev Key:=Sum Int ar
def xb:Key->aa->Bool
 |.inl k,v=>Value.isInt k v
 |.inr x,v=>Value.isStrOf x v
def Lh(w:aj):Key->Int
 |.inl k=>hashInt k
 |.inr x=>hashStr w x
theorem rA:∀{k:Key}{v:aa},xb k v=true->(∃i t,k=Sum.inl i/\v=Value.int i t)\/(∃x t,k=Sum.inr x/\v=Value.str x t)
 |.inl i,v,h=>by
  obtain⟨t,e⟩:=Value.isInt_shape (k:=i) (v:=v) h;exact .inl ⟨i,t,rfl,e⟩
 |.inr x,v,h=>by
  obtain⟨t,e⟩:=Value.isStrOf_shape (x:=x) (v:=v) h;exact .inr ⟨x,t,rfl,e⟩
theorem qY0(i:Int)(t:Tok):xb (.inl i) (.int i t)=true:=by simp[xb,Value.isInt]
theorem qY1(x:ar)(t:Tok):xb (.inr x) (.str x t)=true:=by simp[xb,Value.isStrOf]
theorem xI2(a b:Int):decide ((Sum.inl a:Key)=Sum.inl b)=(a==b):=by
 by_cases e:a=b
 ·subst e;simp
 ·have h:¬(Sum.inl a:Key)=Sum.inl b:=λq=>e (Sum.inl.inj q);rw[Zo h];exact(VG.mpr e).symm
theorem xI3(a b:ar):decide ((Sum.inr a:Key)=Sum.inr b)=decide (a=b):=by
 by_cases e:a=b
 ·subst e;simp
 ·have h:¬(Sum.inr a:Key)=Sum.inr b:=λq=>e (Sum.inr.inj q);rw[Zo h,Zo e]
theorem xI4(a:Int)(b:ar):decide ((Sum.inl a:Key)=Sum.inr b)=false:=Zo (λq=>nomatch q)
theorem xI5(a:ar)(b:Int):decide ((Sum.inr a:Key)=Sum.inl b)=false:=Zo (λq=>nomatch q)
def kg(prog:ah)(w:aj):PySem.KeyKind prog w Key where
 is:=xb
 hash:=Lh w
 inj:=λv a b f hb=>by
  rcases rA f with⟨i,t,rfl,rfl⟩|⟨x,t,rfl,rfl⟩
  ·rcases rA hb with⟨j,u,rfl,e⟩|⟨y,u,rfl,e⟩
   ·injection e with e1 _;rw[e1]
   ·exact nomatch e
  ·rcases rA hb with⟨j,u,rfl,e⟩|⟨y,u,rfl,e⟩
   ·exact nomatch e
   ·injection e with e1 _;rw[e1]
 byValue:=λk v h=>by
  rcases rA h with⟨i,t,rfl,rfl⟩|⟨x,t,rfl,rfl⟩<;>rfl
 pyHash:=λc h=>by
  rcases rA c with⟨i,t,rfl,rfl⟩|⟨x,t,rfl,rfl⟩
  ·exact wpAny_pyHash_int h
  ·exact wpAny_pyHash_str h
 eqBool:=λd c h=>by
  rcases rA d with⟨i,t,rfl,rfl⟩|⟨x,t,rfl,rfl⟩
  ·rcases rA c with⟨j,u,rfl,rfl⟩|⟨y,u,rfl,rfl⟩
   ·rw[xI2]at h;exact wpAny_eqBool_int h
   ·rw[xI4]at h;exact SeqAt.EqAt.int_str i t y u _ _ _ _ h
  ·rcases rA c with⟨j,u,rfl,rfl⟩|⟨y,u,rfl,rfl⟩
   ·rw[xI5]at h;exact SeqAt.EqAt.str_int x t j u _ _ _ _ h
   ·rw[xI3]at h;exact wpAny_eqBool_str h
 «strs»:=λk x t v h=>by
  rcases rA h with⟨i,u,rfl,e⟩|⟨y,u,rfl,e⟩
  ·exact nomatch e
  ·injection e with e1 _
   subst e1;cases v<;>rfl
theorem qK4(prog:ah)(w:aj)(i:Int)(t:Tok):(kg prog w).is (.inl i) (.int i t)=true:=qY0 i t
theorem qK5(prog:ah)(w:aj)(x:ar)(t:Tok):(kg prog w).is (.inr x) (.str x t)=true:=qY1 x t
inductive V where
 |cu|bl (b:Bool)|int (i:Int)|str (x:ar)|qU (b:Array UInt8)|Ag (b:UInt64)|ref (a:af)|ty (n:String)
 deriving DecidableEq
def RelV:V->aa->Prop
 |.cu,u=>u=Value.none
 |.bl b,u=>u=Value.bool b
 |.int i,u=>∃t,u=Value.int i t
 |.str x,u=>∃t,u=Value.str x t
 |.qU b,u=>∃t,u=Value.bytes b t
 |.Ag b,u=>∃t,u=Value.float b t
 |.ref a,u=>u=Value.ref a
 |.ty n,u=>u=Value.type n
abbrev Vals:List V->List aa->Prop:=Paired RelV
theorem Vals.length{xs:List V}{us:List aa}(r:Vals xs us):xs.length=us.length:=XA r
theorem Vals.get:∀{b:List V}{a:List aa}{i:Nat}{x:V},Vals b a->b[i]?=some x->∃u,a[i]?=some u/\RelV x u
 |_,_,_,_,.nil,e=>by simp at e
 |_,_,0,_,.cons r _,e=>by simp at e;subst e;exact⟨_,rfl,r⟩
 |_,_,i+1,x,.cons _ t,e=>by
  obtain⟨u,h1,c⟩:=Vals.get (i:=i) (x:=x) t (by simpa using e);exact⟨u,by simpa using h1,c⟩
theorem Vals.set{x:V}{u:aa}(r:RelV x u):∀{b:List V}{a:List aa}(i:Nat),Vals b a->Vals (b.set i x) (a.set i u)
 |_,_,_,.nil=>.nil
 |_,_,0,.cons _ t=>.cons r t
 |_,_,i+1,.cons q t=>.cons q (Vals.set r i t)
theorem Vals.append:∀{d c:List V}{b a:List aa},Vals d b->Vals c a->Vals (d++c) (b++a)
 |_,_,_,_,.nil,s=>s
 |_,_,_,_,.cons r t,s=>.cons r (Vals.append t s)
theorem Vals.take:∀{a:List V}{b:List aa}(n:Nat),Vals a b->Vals (a.take n) (b.take n)
 |_,_,0,_=>.nil
 |_,_,_+1,.nil=>.nil
 |_,_,n+1,.cons r t=>.cons r (Vals.take n t)
theorem Vals.drop:∀{a:List V}{b:List aa}(n:Nat),Vals a b->Vals (a.drop n) (b.drop n)
 |_,_,0,r=>r
 |_,_,_+1,.nil=>.nil
 |_,_,n+1,.cons _ t=>Vals.drop n t
def ig:Option V->Option aa->Prop
 |some v,some u=>RelV v u
 |none,none=>True
 |_,_=>False
def KV{κ:Type}:List (κ×V)->List (κ×aa)->Prop:=Paired λ(p:κ×V) (q:κ×aa)=>p.1=q.1/\RelV p.2 q.2
def kV:Key->V
 |.inl i=>.int i
 |.inr x=>.str x
inductive HO where
 |lst (xs:List V)
 |tup (xs:List V)
 |dK (kvs:List (Key×V))|dT (kvs:List (List Key×V))
 |set (S:Int->Bool) (n:Nat)
 |ins (C dx:af) (fs:List (ar×V))
 |own (x:af)
 |xd (fs:List (ar×V))
 |met (f x:af)
 |uh (lo hi:Int)
 |mE (o:az) (u:HO)
 |uc (ps:Array aa)
 |ext (φ:ao->Prop)
abbrev Hp:=af->Option HO
def upd(H:Hp)(a:af)(o:HO):Hp:=λb=>if b=a then some o else H b
theorem bu{H:Hp}{a:af}{o:HO}:upd H a o a=some o:=by unfold upd;rw[Zx rfl]
theorem cN{H:Hp}{a b:af}{o:HO}(h:b≠a):upd H a o b=H b:=by unfold upd;rw[Zl h]
theorem xr0{H:Hp}{a:af}{o u:HO}:upd (upd H a o) a u=upd H a u:=by
 funext b;unfold upd;split<;>rfl
theorem xQ7{H:Hp}{a b:af}{o u:HO}(h:H a=some o)(h':H b=some u)(d:o≠u):a≠b:=by
 intro e;subst e;rw[h]at h';exact d (ZT h')
theorem dI{H:Hp}{a b:af}{o:HO}(h:H a=some o)(h':H b=none):a≠b:=by
 intro e;subst e;rw[h]at h';cases h'
def cQ(h:ao)(a:af)(items:Array aa):Prop:=∃o,h.get? a=some o/\o.cls=.type "tuple" /\ ∃n:{n:Nat // o.dict=none},o.data=.seq items n.1
theorem cQ.is{h:ao}{a:af}{items:Array aa}(x:cQ h a items):IsTup h a items:=let ⟨o,h1,h2,n,h3⟩:=x;⟨o,h1,h2,n.1,h3⟩
theorem cQ.new(h:ao)(items:Array aa):cQ (h.push {cls:=.type "tuple",data:=.seq items}) h.objs.size items:=⟨_,Zg _ rfl,rfl,⟨_,rfl⟩,rfl⟩
instance{h:ao}{a:af}{items:Array aa}:Coe (cQ h a items) (IsTup h a items):=⟨cQ.is⟩
instance{h:ao}{a:af}{items:Array aa}:Coe (cQ h a items) (h.IsTuple a items):=⟨cQ.is⟩
section
variable(P:ah)(w:aj)
def bh(H:Hp)(h:ao)(a:af):HO->Prop
 |.lst c=>c.length<=sizeLine/\∃(e:List aa)(n:Nat),Vals c e/\h.get? a=some {cls:=.type "list",data:=.seq e.toArray n}
 |.tup c=>c.length<=sizeLine/\∃e:List aa,Vals c e/\cQ h a e.toArray
 |.dK b=>b.length<=sizeLine/\(a==sysModules)=false/\∃k,KV b k/\h.DictOf (kg P w) a k
 |.dT b=>b.length<=sizeLine/\(a==sysModules)=false/\∃c:List (List Key×af×aa),
   Paired (λ(p:List Key×V) (q:List Key×af×aa)=>p.1=q.1/\H q.2.1=some (.tup (p.1.map kV))/\RelV p.2 q.2.2) b c /\
   ∃o j s,h.get? a=some o/\o.ExactDict/\o.data=.dict j s/\j.toList=c.map (entryOfKey (tupleKind (kg P w)))/\(c.map (·.1)).Nodup
 |.set S n=>h.SetOf (intKind P w) a S n
 |.ins C g fs=>H g=some (.own a)/\fs.length<=1000/\g≠a/\h.get? a=some (PySem.W.instObj C g) /\
   ∃d,h.Ns1 g d/\(∀f,ig (fs.lookup f) (d f))/\PySem.Within d (fs.map (·.1))
 |.own _=>∃o,h.get? a=some o
 |.xd fs=>∃d,h.Ns1 a d/\∀f,ig (fs.lookup f) (d f)
 |.uh m y=>∃t u v,h.get? a=some {cls:=.type "range",data:=.fields #[.int m t,.int y u,.int 1 v]}
 |.mE o u=>h.get? a=some o/\bh H h a u
 |.uc r=>h.get? a=some {cls:=.none,data:=.fields r}
 |.met f x=>h.get? a=some (PySem.W.methodObj (.ref f) (.ref x))
 |.ext i=>i h/\(∃o,h.get? a=some o)/\∀h1 l:ao,i h1->(∀o,h1.get? a=some o->l.get? a=some o)->i l
def dH(H:Hp)(h:ao):Prop:=∀a o,H a=some o->bh P w H h a o
end
section
variable{H H':Hp}{h h':ao}{a:af}{o:HO}
theorem bh.lt(x:bh P w H h a o):a<h.objs.size:=by
 cases o with
 |lst c=>obtain⟨_,_,_,_,e⟩:=x;exact Zi e
 |tup c=>obtain⟨_,_,_,p⟩:=x;exact(cQ.is p).lt
 |dK b=>obtain⟨_,_,_,_,o,_,_,e,_⟩:=x;exact Zi e
 |dT b=>obtain⟨_,_,_,_,o,_,_,e,_⟩:=x;exact Zi e
 |set S n=>obtain⟨o,_,_,_,e,_⟩:=x;exact Zi e
 |ins C g fs=>obtain⟨_,_,_,e,_⟩:=x;exact Zi e
 |own y=>obtain⟨_,e⟩:=x;exact Zi e
 |xd fs=>obtain⟨_,⟨_,_,_,e,_⟩,_⟩:=x;exact Zi e
 |uh i j=>obtain⟨_,_,_,e⟩:=x;exact Zi e
 |mE ob u=>obtain⟨e,_⟩:=x;exact Zi e
 |uc k=>exact Zi (show h.get? a=some _ from x)
 |met f y=>exact Zi (show h.get? a=some _ from x)
 |ext d=>obtain⟨_,⟨_,e⟩,_⟩:=x;exact Zi e
theorem Paired.xh{α e:Type}{F G:α->e->Prop}:∀{d:List α}{c:List e},Paired F d c->(∀a b,F a b->G a b)->Paired G d c
 |_,_,.nil,_=>.nil
 |_,_,.cons r t,f=>.cons (f _ _ r) (Paired.xh t f)
theorem bh.cX(x:bh P w H h a o)(k:∀b u,(b=a\/H b=some (.own a))->h.get? b=some u->h'.get? b=some u)
  (G:∀b,H b=some (.own a)->H' b=some (.own a)) (E:∀b j,H b=some (.tup j)->H' b=some (.tup j)):bh P w H' h' a o:=by
 induction o with
 |lst j=>obtain⟨z,m,n,r,e⟩:=x;exact⟨z,m,n,r,k _ _ (.inl rfl) e⟩
 |tup j=>obtain⟨z,m,r,ob,e,c⟩:=x;exact⟨z,m,r,ob,k _ _ (.inl rfl) e,c⟩
 |dK A=>obtain⟨z,y,J,r,ob,g,i,e,c⟩:=x;exact⟨z,y,J,r,ob,g,i,k _ _ (.inl rfl) e,c⟩
 |dT A=>
  obtain⟨z,y,j,r,ob,g,i,e,c⟩:=x;exact⟨z,y,j,Paired.xh r λp q z=>⟨z.1,E _ _ z.2.1,z.2.2⟩,ob,g,i,k _ _ (.inl rfl) e,c⟩
 |set S n=>obtain⟨ob,g,i,t,e,c⟩:=x;exact⟨ob,g,i,t,k _ _ (.inl rfl) e,c⟩
 |ins C M fs=>
  obtain⟨d,z,I,e,l,⟨s,g,i,F,c⟩,r⟩:=x;exact⟨G _ d,z,I,k _ _ (.inl rfl) e,l,⟨s,g,i,k _ _ (.inr d) F,c⟩,r⟩
 |own y=>obtain⟨ob,e⟩:=x;exact⟨ob,k _ _ (.inl rfl) e⟩
 |xd fs=>obtain⟨l,⟨s,g,i,e,c⟩,r⟩:=x;exact⟨l,⟨s,g,i,k _ _ (.inl rfl) e,c⟩,r⟩
 |uh N O=>obtain⟨t,u,v,e⟩:=x;exact⟨t,u,v,k _ _ (.inl rfl) e⟩
 |mE ob u K=>obtain⟨e,q⟩:=x;exact⟨k _ _ (.inl rfl) e,K q⟩
 |uc D=>
  have e:h.get? a=some {cls:=.none,data:=.fields D}:=x;show h'.get? a=some {cls:=.none,data:=.fields D};exact k a _ (.inl rfl) e
 |met f y=>
  have e:h.get? a=some (PySem.W.methodObj (.ref f) (.ref y)):=x;show h'.get? a=some (PySem.W.methodObj (.ref f) (.ref y));exact k a _ (.inl rfl) e
 |ext L=>obtain⟨p,⟨o,e⟩,B⟩:=x;exact⟨B _ _ p λo q=>k _ _ (.inl rfl) q,⟨o,k _ _ (.inl rfl) e⟩,B⟩
theorem dH.lt(x:dH P w H h)(e:H a=some o):a<h.objs.size:=(x a o e).lt
theorem dH.fresh(x:dH P w H h)(e:h.objs.size<=a):H a=none:=by
 cases q:H a with
 |none=>rfl
 |some u=>exact absurd (ZR (x.lt q) e) (Yc _)
theorem dH.kept(x:dH P w H h)(k:∀b u,h.get? b=some u->h'.get? b=some u):dH P w H h':=λa o e=>
 (x a o e).cX (λb u _ q=>k b u q) (λ_ q=>q) λ_ _ q=>q
theorem dH.laid(x:dH P w H h)(k:∀b u,h.get? b=some u->h'.get? b=some u)(f:h.objs.size<=a)(new:bh P w (upd H a o) h' a o):dH P w (upd H a o) h':=λb u e=>by
 have d:=x.fresh f;by_cases hb:b=a
 ·subst hb;rw[bu]at e;cases e;exact new
 ·rw[cN hb]at e;exact(x b u e).cX (λc v _ q=>k c v q) (λc q=>by rw[cN (dI q d)];exact q) λc g q=>by rw[cN (dI q d)];exact q
end
def Rd(H:Hp)(a:af)(u:HO):Prop:=H a=some u\/∃o,H a=some (.mE o u)
theorem Rd.ok{P:ah}{w:aj}{H:Hp}{h:ao}{a:af}{u:HO}(r:Rd H a u)(x:dH P w H h):bh P w H h a u:=by
 rcases r with r|⟨o,r⟩
 ·exact x a u r
 ·obtain⟨_,q⟩:=x a _ r;exact q
def Et:Option HO->Prop
 |some (.lst _)=>True
 |some (.dK _)=>True
 |some (.dT _)=>True
 |some (.set _ _)=>True
 |some (.ins _ _ _)=>True
 |some (.ext _)=>True
 |_=>False
section
variable{H:Hp}{h h':ao}{x e:af}{o':HO}
theorem dH.write(ok:dH P w H h)(f:Et (H x))(i:e=x\/H e=some (.own x))(k:∀b u,b≠e->h.get? b=some u->h'.get? b=some u)(n:∃u,h'.get? e=some u)
  (new:bh P w (upd H x o') h' x o'):dH P w (upd H x o') h':=λb u q=>by
 have l:∀c y,H c=some (.own y)->c≠x:=λc y r z=>by subst z;rw[r]at f;exact f
 have m:∀c g,H c=some (.tup g)->c≠x:=λc g r z=>by subst z;rw[r]at f;exact f
 by_cases hb:b=x
 ·subst hb;rw[bu]at q;cases q;exact new
 ·rw[cN hb]at q;by_cases a:b=e
  ·have j:H b=some (.own x):=by
    rcases i with z|z
    ·exact absurd (a.trans z) hb
    ·rw[a];exact z
   rw[q]at j;cases j;obtain⟨v,p⟩:=n;exact⟨v,by rw[a];exact p⟩
  ·refine(ok b u q).cX (λc v d r=>k c v ?_ r) (λc r=>by rw[cN (l c b r)];exact r) λc g r=>by rw[cN (m c g r)];exact r
   rcases d with rfl|d
   ·exact a
   ·rintro rfl;rcases i with z|z
    ·exact l c b d z
    ·rw[d]at z;cases z;exact hb rfl
end
structure Un(fs ex:List af)(H H':Hp)(h h':ao):Prop where
 keep:∀b o,h.get? b=some o->H b=none->b∉fs->b∉ex->h'.get? b=some o
 slot:∀b o,h.get? b=some o->H b=none->b∈fs->b∉ex->∃sl,h'.get? b=some {o with slots:=sl}
 free:∀b o,h.get? b=some o->H b=none->b∉ex->H' b=none
 there:∀b o,h.get? b=some o->b∉ex->∃o',h'.get? b=some o'
 b_:∀b xs,H b=some (.tup xs)->H' b=some (.tup xs)
 fV:∀b o u,H b=some (.mE o u)->H' b=some (.mE o u)
 gn:∀b ps,H b=some (.uc ps)->∃more,H' b=some (.uc (ps++more))
section
variable{fs fs' ex ex':List af}{H H1 H2:Hp}{h h1 h2 h':ao}{a x e:af}{o:HO}
theorem Un.any(u:Un fs ex H H1 h h1){b:af}{ob:az}(q:h.get? b=some ob)(n:H b=none)(c:b∉ex):∃d,h1.get? b=some {ob with slots:=d}:=by
 by_cases hb:b∈fs
 ·exact u.slot b ob q n hb c
 ·exact⟨ob.slots,u.keep b ob q n hb c⟩
theorem Un.kept(k:∀b u,h.get? b=some u->h'.get? b=some u):Un fs ex H H h h':=
 ⟨λb ob q _ _ _=>k b ob q,λb ob q _ _ _=>⟨ob.slots,k b ob q⟩,λ_ _ _ n _=>n,λb ob q _=>⟨ob,k b ob q⟩,λ_ _ q=>q,λ_ _ _ q=>q,λ_ c q=>⟨#[],by rw[q];simp⟩⟩
theorem Un.refl:Un fs ex H H h h:=Un.kept λ_ _ q=>q
theorem Un.laid(k:∀b u,h.get? b=some u->h'.get? b=some u)(d:h.objs.size<=a)(c:H a=none):Un fs ex H (upd H a o) h h' where
 keep:=λb u q _ _ _=>k b u q
 slot:=λb u q _ _ _=>⟨u.slots,k b u q⟩
 free:=λb u q n _=>by rw[cN (Zp (ZR (Zi q) d))];exact n
 there:=λb u q _=>⟨u,k b u q⟩
 b_:=λb f q=>by rw[cN (dI q c)];exact q
 fV:=λb u f q=>by rw[cN (dI q c)];exact q
 gn:=λb g q=>⟨#[],by rw[cN (dI q c),q];simp⟩
theorem Un.write(c:Et (H x))(j:e=x\/H e=some (.own x))(k:∀b u,b≠e->h.get? b=some u->h'.get? b=some u)(l:∃u,h'.get? e=some u):Un fs ex H (upd H x o) h h':=by
 have f:∀b,H b=none->b≠x:=λb n z=>by subst z;rw[n]at c;exact c
 have hb:∀b,H b=none->b≠e:=λb n z=>by
  subst z;rcases j with r|r
  ·exact f b n r
  ·rw[n]at r;cases r
 have d:∀b u,H b=some u->¬Et (some u)->b≠x:=λb u q i z=>by subst z;rw[q]at c;exact i c
 refine⟨λb u q n _ _=>k b u (hb b n) q,λb u q n _ _=>⟨u.slots,k b u (hb b n) q⟩,λb u q n _=>by rw[cN (f b n)];exact n,λb u q _=>?_,
  λb m q=>by rw[cN (d b _ q λz=>z)];exact q,λb u m q=>by rw[cN (d b _ q λz=>z)];exact q,λb p q=>⟨#[],by rw[cN (d b _ q λz=>z),q];simp⟩⟩
 by_cases g:b=e
 ·subst g;exact l
 ·exact⟨u,k b u g q⟩
end
def ET(h:ao)(H:Hp):List af:=(List.range h.objs.size).filter λa=>(H a).isSome
def i8(h:ao)(H:Hp):ao:=PySem.W.hideAll h (ET h H)
theorem qY2(h:ao)(H:Hp):(i8 h H).objs.size=h.objs.size:=PySem.W.hideAll_size _ _
theorem xe1{h:ao}{H:Hp}{b:af}{o:az}(e:h.get? b=some o)(n:H b=none):(i8 h H).get? b=some o:=
 VH _ e λa=>by
  have q:(H b).isSome=true:=(Y9.mp a).2;rw[n]at q;simp at q
theorem xr1{h:ao}{H:Hp}{b:af}{o:az}(e:(i8 h H).get? b=some o):h.get? b=some o/\H b=none:=by
 have a:h.get? b=some o:=WO (ET h H) e;refine⟨a,?_⟩;cases q:H b with
 |none=>rfl
 |some x=>
  have c:b∈ET h H:=Y9.mpr ⟨YJ.mpr (Zi a),by simp[q]⟩;have z:(i8 h H).get? b=none:=PySem.W.hideAll_none (ET h H) c;rw[z]at e;cases e
structure Mod(K:PySem.W.Frag)(mg:ar->Option aa)(base:ao):Prop where
 oz:K.In base
 glob:base.Ns mainGlobals mg
 blt:∃mb,base.Ns builtinsNs mb/\∀x:ar,x ≠ "__name__"->mb x=bootBuiltins x
 nolimit:base.NoLimit
structure Cx where
 prog:ah
 w:aj
 K:PySem.W.Frag
 mg:ar->Option aa
 base:ao
 A:aq
 N:List ar
 aH:ae
 aJ:Hp
 env:Env
 outer:List Env
 stack:List Env
 ex:List af
 fn:ar->Bool
 calm:Bool
 pn:List (af×az)
 xe:aa->ae->Prop
def dA(l:List Env):List af:=l.filterMap (·.frame)
abbrev Cx.fs(X:Cx):List af:=dA X.outer
def tZ(a:aA)(x:ar):Prop:=a.names.lookup x=some .local\/a.names.lookup x=some .cell\/a.names.lookup x=some .free
def Loc(a:aA)(x:ar):Prop:=a.names.lookup x=some .local\/a.names.lookup x=some .cell
def Look(env:Env)(h:ao)(m:ar->Option aa)(x:ar)(u:aa):Prop:=
 (env.kindOf x=some .local/\m x=some u)\/((env.kindOf x=some .cell\/env.kindOf x=some .free)/\∃c,env.cells.lookup x=some c/\h.IsCell c (some u))
structure Cx.Ok(X:Cx):Prop where
 mod:Mod X.K X.mg X.base
 kind:X.env.scope.kind=.function
 glob:X.env.globals=mainGlobals
 blt:X.env.builtins=builtinsNs
 above:X.aH.heap.objs.size<=X.env.locals
 inj:∀x y c,X.env.cells.lookup x=some c->X.env.cells.lookup y=some c->x=y
 has:∀x,(X.env.kindOf x=some .cell\/X.env.kindOf x=some .free)->∃c,X.env.cells.lookup x=some c
 tX:∀x c,X.fn x=true->X.env.cells.lookup x=some c->X.aH.heap.objs.size<=c
 hd:X.calm=true->X.A.handled=none
 frames:X.A.frames=some X.stack
 rO:X.stack=X.outer\/(X.stack=X.env::X.outer/\X.env.frame=some X.env.locals)
 Ah:∀b∈X.ex,b≠X.env.locals/\∀x c,X.env.cells.lookup x=some c->c≠b
 bs:∀b o,X.base.get? b=some o->X.aH.heap.get? b=some o/\X.aJ b=none
 oH:X.base.objs.size<=X.aH.heap.objs.size
 iX:∀b o,X.base.get? b=some o->b∉X.ex
 ky:∀b∈X.ex,b∉X.fs
 dP:X.aH.heap.FunFrames X.base X.outer
 qM:∀b∈X.fs,X.aJ b=none
structure Inv(X:Cx)(j8:List (af×az))(σ:List (Option V))(H:Hp)(s:ae):Prop where
 ok:X.Ok
 os:s.os=X.aH.os
 bare:AllBare s.gens
 base:Un X.fs X.ex X.aJ H X.aH.heap s.heap
 loc:∃m,s.heap.Ns X.env.locals m/\∀(i:Nat)(x:ar)(v:V),X.N[i]?=some x->σ[i]?=some (some v)->tZ X.env.scope x->∃u,RelV v u/\Look X.env s.heap m x u
 cell:∀x c,X.env.cells.lookup x=some c->∃v,s.heap.IsCell c v
 free:H X.env.locals=none
 cV:∀x c,X.env.cells.lookup x=some c->H c=none
 pin:∀p∈X.pn++j8,s.heap.get? p.1=some p.2/\H p.1=none/\p.1≠X.env.locals/\p.1∉X.fs/\∀v,p.2.data≠.cell v
 aT:dH X.prog X.w H s.heap
 len:σ.length=X.N.length
section
variable{X:Cx}{j8:List (af×az)}{σ:List (Option V)}{H H':Hp}{s:ae}{h':ao}
theorem Cx.Ok.K3(ok:X.Ok){b:af}{o:az}(e:X.base.get? b=some o):b∉X.fs:=λhb=>by
 have:=(ok.dP.mem hb).1;rw[e]at this;cases this
theorem Inv.bs(I:Inv X j8 σ H s):∀b o,X.base.get? b=some o->s.heap.get? b=some o/\H b=none:=λb o e=>
 ⟨I.base.keep b o (I.ok.bs b o e).1 (I.ok.bs b o e).2 (I.ok.K3 e) (I.ok.iX b o e),I.base.free b o (I.ok.bs b o e).1 (I.ok.bs b o e).2 (I.ok.iX b o e)⟩
theorem Inv.bk(I:Inv X j8 σ H s):∀b o,X.base.get? b=some o->s.heap.get? b=some o:=λb o e=>(I.bs b o e).1
theorem Inv.mod(I:Inv X j8 σ H s):Mod X.K X.mg X.base:=I.ok.mod
theorem Inv.hJ(I:Inv X j8 σ H s):X.K.In s.heap:=I.ok.mod.oz.keeps I.bk
theorem Inv.lt(I:Inv X j8 σ H s):X.env.locals<s.heap.objs.size:=let ⟨_,hn,_⟩:=I.loc;hn.lt
theorem Inv.sz(I:Inv X j8 σ H s):X.aH.heap.objs.size<=s.heap.objs.size:=ZI I.ok.above (Xz I.lt)
theorem Inv.K2(I:Inv X j8 σ H s){a:af}(h:s.heap.objs.size<=a):a∉X.fs:=λhb=>by
 obtain⟨_,o,b,_⟩:=I.ok.dP.mem hb;exact absurd (ZR (Zi b) (ZI I.sz h)) (Yc _)
theorem Inv.yh(I:Inv X j8 σ H s):∀x c,X.env.cells.lookup x=some c->c≠X.env.locals:=λx c e z=>by
 obtain⟨v,o,a,b⟩:=I.cell x c e;obtain⟨m,⟨g,h,i,f,d,_⟩,_⟩:=I.loc;rw[z,f]at a;cases a;rw[d]at b;cases b
theorem Inv.dP(I:Inv X j8 σ H s):s.heap.FunFrames X.base X.outer:=by
 have all:∀(l:List Env),(∀b∈dA l,b∈X.fs)->X.aH.heap.FunFrames X.base l->s.heap.FunFrames X.base l:=by
  intro l
  induction l with
  |nil=>intro _ _;trivial
  |cons n r g=>
   intro d k;obtain⟨f,⟨L,o,a,h,m,i⟩,j⟩:=k;have c:L∈X.fs:=d L (by unfold dA;rw[Ys,a];exact ZE);obtain⟨p,e⟩:=I.base.slot L o m (I.ok.qM L c) c λz=>I.ok.ky L z c;exact⟨f,⟨L,_,a,h,e,i⟩,g (λb hb=>d b (by unfold dA;rw[Ys,a];exact Zk _ hb)) j⟩
 exact all X.outer (λ_ hb=>hb) I.ok.dP
theorem Inv.stack(I:Inv X j8 σ H s):s.heap.FunFrames X.base X.stack:=by
 rcases I.ok.rO with e|⟨e,b⟩
 ·rw[e];exact I.dP
 ·rw[e];obtain⟨m,a,_⟩:=I.loc;refine .cons (by rw[I.ok.kind];decide) b a ?_ I.dP;exact Heap.get?_none_of_le (ZI I.ok.oH I.ok.above)
theorem Inv.fb(I:Inv X j8 σ H s):∀b∈dA X.stack,b∈X.env.locals::X.fs:=λb hb=>by
 rcases I.ok.rO with e|⟨e,a⟩
 ·rw[e]at hb;exact Zk _ hb
 ·rw[e]at hb;unfold dA at hb;rw[Ys,a]at hb;exact hb
theorem Inv.iS(I:Inv X j8 σ H s):∀b∈dA X.stack,H b=none:=λb hb=>by
 rcases Zu.mp (I.fb b hb)with e|hb
 ·rw[e];exact I.free
 ·obtain⟨_,o,a,_⟩:=I.ok.dP.mem hb;exact I.base.free b o a (I.ok.qM b hb) λz=>I.ok.ky b z hb
theorem Inv.step{g':Array GenState}{t':Nat}{d':Drawn}{ch:List af}(I:Inv X j8 σ H s)
  (A:∀b∈ch,(b∈X.ex\/X.aH.heap.objs.size<=b)/\b≠X.env.locals/\(∀x c,X.env.cells.lookup x=some c->c≠b)/\∀p∈X.pn++j8,p.1≠b)
  (keep:∀b o,b≠X.env.locals->b∉X.fs->b∉ch->s.heap.get? b=some o->H b=none->h'.get? b=some o)
  (slot:∀b o,b≠X.env.locals->b∈X.fs->b∉ch->s.heap.get? b=some o->H b=none->∃E,h'.get? b=some {o with slots:=E}) (free:∀b o,b∉ch->s.heap.get? b=some o->H b=none->H' b=none)
  (there:∀b o,b∉ch->s.heap.get? b=some o->∃t,h'.get? b=some t)
  (b_:∀b h,H b=some (.tup h)->H' b=some (.tup h)) (fV:∀b o u,H b=some (.mE o u)->H' b=some (.mE o u)) (gn:∀b B,H b=some (.uc B)->∃more,H' b=some (.uc (B++more)))
  (P:∀m,s.heap.Ns X.env.locals m->h'.Ns X.env.locals m) (N:dH X.prog X.w H' h') (U:AllBare g'):
  Inv X j8 σ H' {s with heap:=h',gens:=g',drawn:=d',toks:=t'}:=by
 have K:∀b o,X.aH.heap.get? b=some o->b≠X.env.locals:=λb o e=>Zp (ZR (Zi e) I.ok.above);have C:∀b o,X.aH.heap.get? b=some o->b∉X.ex->b∉ch:=λb o e a hb=>by
  rcases(A b hb).1 with z|z
  ·exact a z
  ·exact absurd (ZR (Zi e) z) (Yc _)
 have f:∀x c,X.env.cells.lookup x=some c->∀v,s.heap.IsCell c v->h'.IsCell c v:=λx c e v ⟨o,j,D⟩=>by
  have w:c∉ch:=λz=>(A c z).2.2.1 x c e rfl;by_cases F:c∈X.fs
  ·obtain⟨E,q⟩:=slot c o (I.yh x c e) F w j (I.cV x c e);exact⟨_,q,D⟩
  ·exact⟨o,keep c o (I.yh x c e) F w j (I.cV x c e),D⟩
 refine⟨I.ok,I.os,U,⟨λb o e n hb a=>?_,λb o e n hb a=>?_,λb o e n a=>?_,λb o e a=>?_,λb h e=>b_ b h (I.base.b_ b h e),λb o h e=>fV b o h (I.base.fV b o h e),λb B e=>?_⟩,?_,λx c e=>?_,?_,λx c e=>?_,λp L=>?_,N,I.len⟩
 ·exact keep b o (K b o e) hb (C b o e a) (I.base.keep b o e n hb a) (I.base.free b o e n a)
 ·obtain⟨E,g⟩:=I.base.slot b o e n hb a;obtain⟨R,y⟩:=slot b _ (K b o e) hb (C b o e a) g (I.base.free b o e n a);exact⟨R,y⟩
 ·obtain⟨t,g⟩:=I.base.there b o e a;exact free b t (C b o e a) g (I.base.free b o e n a)
 ·obtain⟨t,g⟩:=I.base.there b o e a;exact there b t (C b o e a) g
 ·obtain⟨S,g⟩:=I.base.gn b B e;obtain⟨Q,y⟩:=gn b _ g;exact⟨S++Q,by rw[y,Array.append_assoc]⟩
 ·obtain⟨m,T,O⟩:=I.loc;refine⟨m,P m T,λi x v g y M=>?_⟩;obtain⟨u,r,l⟩:=O i x v g y M;refine⟨u,r,?_⟩;rcases l with l|⟨k,c,e,z⟩
  ·exact .inl l
  ·exact .inr ⟨k,c,e,f x c e _ z⟩
 ·obtain⟨v,z⟩:=I.cell x c e;exact⟨v,f x c e v z⟩
 ·obtain⟨m,⟨o,_,_,j,_⟩,_⟩:=I.loc;exact free _ o (λz=>(A _ z).2.1 rfl) j I.free
 ·obtain⟨v,o,j,D⟩:=I.cell x c e;exact free c o (λz=>(A c z).2.2.1 x c e rfl) j (I.cV x c e)
 ·obtain⟨e,n,J,G,d⟩:=I.pin p L;have w:p.1∉ch:=λz=>(A p.1 z).2.2.2 p L rfl;exact⟨keep p.1 p.2 J G w e n,free p.1 p.2 w e n,J,G,d⟩
theorem Inv.un{t':Nat}(I:Inv X j8 σ H s)(u:Un X.fs [] H H' s.heap h')(f:dH X.prog X.w H' h'):Inv X j8 σ H' {s with heap:=h',toks:=t'}:=by
 obtain⟨m,⟨o,t,p,d,r⟩,_⟩:=id I.loc;obtain⟨l,g⟩:=u.any d I.free (by simp);exact I.step (g':=s.gens) (d':=s.drawn) (ch:=[]) (λ_ z=>nomatch z) (λb o _ hb _ e n=>u.keep b o e n hb (by simp)) (λb o _ hb _ e n=>u.slot b o e n hb (by simp)) (λb o _ e n=>u.free b o e n (by simp)) (λb o _ e=>u.there b o e (by simp)) u.b_ u.fV u.gn (λk i=>by
  obtain⟨q,a,j,c,h⟩:=i;rw[d]at c;cases c;exact⟨_,a,j,g,h⟩) f I.bare
theorem Inv.call{g':Array GenState}{t':Nat}{d':Drawn}{ch:List af}(I:Inv X j8 σ H s)(u:Un (dA X.stack) ch H H' s.heap h')(k:dH X.prog X.w H' h')(l:AllBare g')
  (i:∀b∈ch,(b∈X.ex\/X.aH.heap.objs.size<=b)/\b≠X.env.locals/\(∀x c,X.env.cells.lookup x=some c->c≠b)/\∀p∈X.pn++j8,p.1≠b):
  Inv X j8 σ H' {s with heap:=h',gens:=g',drawn:=d',toks:=t'}:=by
 obtain⟨m,⟨o,w,B,h,r⟩,_⟩:=id I.loc;obtain⟨A,f⟩:=u.any h I.free λz=>(i _ z).2.1 rfl;exact I.step (ch:=ch) i (λb o f hb a e n=>u.keep b o e n (λz=>(Zu.mp (I.fb b z)).elim f hb) a) (λb o _ _ a e n=>u.any e n a) (λb o a e n=>u.free b o e n a) (λb o a e=>u.there b o e a) u.b_ u.fV u.gn (λy t=>by
  obtain⟨v,d,j,g,q⟩:=t;rw[h]at g;cases g;exact⟨_,d,j,f,q⟩) k l
theorem Inv.turned{t':Nat}{it:af}(I:Inv X j8 σ H s)(k:∀b o,b≠it->s.heap.get? b=some o->h'.get? b=some o)(l:H it=none)(f:it≠X.env.locals)
  (h1:it∈X.ex\/X.aH.heap.objs.size<=it) (j:∀x c,X.env.cells.lookup x=some c->c≠it) (i:∀p∈X.pn++j8,p.1≠it):Inv X j8 σ H {s with heap:=h',toks:=t'}:=by
 have d:∀b u,H b=some u->b≠it:=λb u e z=>by rw[z,l]at e;cases e
 refine I.step (g':=s.gens) (d':=s.drawn) (ch:=[it]) (λb hb=>?_) (λb o _ _ a e _=>k b o (λz=>a (by simp[z])) e) (λb o _ _ a e _=>⟨o.slots,k b o (λz=>a (by simp[z])) e⟩) (λ_ _ _ _ n=>n)
  (λb o a e=>⟨o,k b o (λz=>a (by simp[z])) e⟩) (λ_ _ e=>e) (λ_ _ _ e=>e) (λb y e=>⟨#[],by rw[e];simp⟩) (λm w=>?_) (λb u e=>?_) I.bare
 ·have e:b=it:=by simpa using hb
  subst e;exact⟨h1,f,j,i⟩
 ·obtain⟨o,g,t,h,r⟩:=w;exact⟨o,g,t,k _ o (Xc f) h,r⟩
 ·refine(I.aT b u e).cX (λc v a q=>k c v ?_ q) (λ_ q=>q) λ_ _ q=>q;rcases a with z|z
  ·rw[z];exact d b u e
  ·exact d c _ z
theorem Inv.tok(I:Inv X j8 σ H s)(t:Nat):Inv X j8 σ H {s with toks:=t}:=I.un (h':=s.heap) (t':=t) Un.refl I.aT
theorem Inv.kept{t':Nat}(I:Inv X j8 σ H s)(k:∀b u,s.heap.get? b=some u->h'.get? b=some u):Inv X j8 σ H {s with heap:=h',toks:=t'}:=I.un (Un.kept k) (I.aT.kept k)
theorem Inv.laid{a:af}{o:HO}{t':Nat}(I:Inv X j8 σ H s)(k:∀b u,s.heap.get? b=some u->h'.get? b=some u)(c:s.heap.objs.size<=a)(new:bh X.prog X.w (upd H a o) h' a o):
  Inv X j8 σ (upd H a o) {s with heap:=h',toks:=t'}:=I.un (Un.laid k c (I.aT.fresh c)) (I.aT.laid k c new)
theorem Inv.write{x e:af}{o:HO}{t':Nat}(I:Inv X j8 σ H s)(d:Et (H x))(a:e=x\/H e=some (.own x))(k:∀b u,b≠e->s.heap.get? b=some u->h'.get? b=some u)(c:∃u,h'.get? e=some u)
  (new:bh X.prog X.w (upd H x o) h' x o):Inv X j8 σ (upd H x o) {s with heap:=h',toks:=t'}:=I.un (Un.write d a k c) (I.aT.write d a k c new)
theorem Inv.m8{a:List (af×az)}(I:Inv X j8 σ H s)(h:∀p∈a,s.heap.get? p.1=some p.2/\H p.1=none/\p.1≠X.env.locals/\p.1∉X.fs/\∀v,p.2.data≠.cell v):Inv X a σ H s:=
 ⟨I.ok,I.os,I.bare,I.base,I.loc,I.cell,I.free,I.cV,λp b=>(ZX.mp b).elim (λz=>I.pin p (Xn _ z)) (h p),I.aT,I.len⟩
theorem SN{N:List ar}(d:N.Nodup){i j:Nat}{x:ar}(a:N[i]?=some x)(b:N[j]?=some x):i=j:=by
 obtain⟨h1,e⟩:=cz a;obtain⟨f,c⟩:=cz b;exact(List.getElem_inj d).mp (e.trans c.symm)
theorem qY3{M:Model}{A:aq}{E:aa->ae->Prop}{i:Nat}{x:ar}{v:V}{u:aa}{Q:Unit->ae->Prop}(I:Inv X j8 σ H s)(hN:X.N.Nodup)(F:X.N[i]?=some x)(w:Loc X.env.scope x)(r:RelV v u)
  (h:∀Z,Inv X j8 (σ.set i (some v)) H Z->(∃a,Heap.SameBut a s.heap Z.heap/\(a=X.env.locals\/X.env.cells.lookup x=some a))->Q () Z) (hf:X.fn x=true\/X.env.scope.names.lookup x=some .local:=by first|exact .inl rfl|exact .inr rfl|assumption):ag M A (storeName X.env x u) Q E s:=by
 obtain⟨m,W,hl⟩:=id I.loc;have xZ:(X.env.scope.kind==.class||(X.env.scope.kind==.module&&X.env.locals != X.env.globals))=false:=by rw[I.ok.kind];rfl
 have DN:i<σ.length:=by rw[I.len];exact(cz F).1
 have yh:=I.yh;have l:∀{a:af}{h':ao},(∃o,s.heap.get? a=some o/\H a=none)->Heap.SameBut a s.heap h'->dH X.prog X.w H h':=λ{a h'} ha f b ob e=>by
  obtain⟨_,_,uP⟩:=ha;refine(I.aT b ob e).cX (λc G t q=>(f.2 c ?_).trans q) (λ_ q=>q) λ_ _ q=>q;rintro rfl;rcases t with rfl|t
  ·rw[uP]at e;cases e
  ·rw[uP]at t;cases t
 rcases w with C|C
 ·refine wpAny_storeName_local C W (λh' xU f=>?_) xZ;obtain⟨oL,_,_,T,_⟩:=id W;refine h _ ⟨I.ok,I.os,I.bare,⟨λb o e n hb w=>?_,λb o e n hb w=>?_,I.base.free,λb o e w=>?_,I.base.b_,I.base.fV,I.base.gn⟩,⟨_,xU,λj y Y g B L=>?_⟩,λy c e=>?_,I.free,I.cV,λp U=>?_,l ⟨oL,T,I.free⟩ f,by simpa using I.len⟩ ⟨_,f,.inl rfl⟩
  ·exact(f.2 b (Zp (ZR (Zi e) I.ok.above))).trans (I.base.keep b o e n hb w)
  ·obtain⟨S,g⟩:=I.base.slot b o e n hb w;exact⟨S,(f.2 b (Zp (ZR (Zi e) I.ok.above))).trans g⟩
  ·obtain⟨N,g⟩:=I.base.there b o e w;exact⟨N,(f.2 b (Zp (ZR (Zi e) I.ok.above))).trans g⟩
  ·by_cases D:j=i
   ·subst D;rw[F]at g;cases g;rw[List.getElem?_set_self DN]at B;cases B;exact⟨u,r,.inl ⟨C,by simp⟩⟩
   ·rw[List.getElem?_set_ne (Xc D)]at B;obtain⟨P,r',q⟩:=hl j y Y g B L;refine⟨P,r',?_⟩;rcases q with⟨k,e⟩|⟨k,c,e,z⟩
    ·refine .inl ⟨k,?_⟩;have:y≠x:=λe=>D (SN hN g (e▸F));simp[this,e]
    ·exact .inr ⟨k,c,e,z.sameBut f (yh y c e)⟩
  ·obtain⟨G,z⟩:=I.cell y c e;exact⟨G,z.sameBut f (yh y c e)⟩
  ·obtain⟨e,n,J,R,d⟩:=I.pin p U;exact⟨(f.2 p.1 J).trans e,n,J,R,d⟩
 ·have O:X.fn x=true:=by
   rcases hf with z|z
   ·exact z
   ·rw[z]at C;cases C
  obtain⟨c,t⟩:=I.ok.has x (.inl C);obtain⟨G,z⟩:=I.cell x c t;refine wpAny_storeName_cell I.ok.kind C t z (λh' tR f=>?_);obtain⟨oc,GZ,Mc⟩:=id z;refine h {s with heap:=h'} ⟨I.ok,I.os,I.bare,⟨λb o e n hb w=>?_,λb o e n hb w=>?_,I.base.free,λb o e w=>?_,I.base.b_,I.base.fV,I.base.gn⟩,⟨m,W.sameBut f (Xc (yh x c t)),λj y Y g B L=>?_⟩,λy K e=>?_,I.free,I.cV,λp U=>?_,l ⟨oc,GZ,I.cV x c t⟩ f,by simpa using I.len⟩ ⟨c,f,.inr t⟩
  ·exact(f.2 b (Zp (ZR (Zi e) (I.ok.tX x c O t)))).trans (I.base.keep b o e n hb w)
  ·obtain⟨S,g⟩:=I.base.slot b o e n hb w;exact⟨S,(f.2 b (Zp (ZR (Zi e) (I.ok.tX x c O t)))).trans g⟩
  ·obtain⟨N,g⟩:=I.base.there b o e w;exact⟨N,(f.2 b (Zp (ZR (Zi e) (I.ok.tX x c O t)))).trans g⟩
  ·by_cases D:j=i
   ·subst D;rw[F]at g;cases g;rw[List.getElem?_set_self DN]at B;cases B;exact⟨u,r,.inr ⟨.inl C,c,t,tR⟩⟩
   ·rw[List.getElem?_set_ne (Xc D)]at B;obtain⟨P,r',q⟩:=hl j y Y g B L;refine⟨P,r',?_⟩;rcases q with q|⟨k,K,e,z'⟩
    ·exact .inl q
    ·refine .inr ⟨k,K,e,z'.sameBut f ?_⟩;rintro rfl;exact D (SN hN g (I.ok.inj _ _ _ e t▸F))
  ·by_cases Hi:K=c
   ·subst Hi;exact⟨_,tR⟩
   ·obtain⟨w2,z2⟩:=I.cell y K e;exact⟨w2,z2.sameBut f Hi⟩
  ·obtain⟨e,n,J,R,d⟩:=I.pin p U;refine⟨(f.2 p.1 ?_).trans e,n,J,R,d⟩;intro q;rw[q,GZ]at e;have q':oc=p.2:=ZT e;exact d G (by rw[<- q'];exact Mc)
theorem Fj{M:Model}{A:aq}{E:aa->ae->Prop}{i:Nat}{x:ar}{v:V}{u:aa}{Q:Unit->ae->Prop}(I:Inv X j8 σ H s)(f:X.N.Nodup)(c:X.N[i]?=some x)(d:Loc X.env.scope x)(r:RelV v u)
  (h:∀a,Inv X j8 (σ.set i (some v)) H a->Q () a) (b:X.fn x=true\/X.env.scope.names.lookup x=some .local:=by first|exact .inl rfl|exact .inr rfl|assumption):ag M A (storeName X.env x u) Q E s:=
 qY3 I f c d r (λa e _=>h a e) b
theorem Inv.uV{s':ae}{ch:List af}(I:Inv X j8 σ H s)(h:s'.os=s.os)(u:Un (dA X.stack) ch H H' s.heap s'.heap)(d:dH X.prog X.w H' s'.heap)(f:AllBare s'.gens)
  (a:∀b∈ch,(b∈X.ex\/X.aH.heap.objs.size<=b)/\b≠X.env.locals/\(∀x c,X.env.cells.lookup x=some c->c≠b)/\∀p∈X.pn++j8,p.1≠b):Inv X j8 σ H' s':=by
 obtain⟨h',g',d',t',g⟩:=s';have e:g=s.os:=h;subst e;exact I.call (g':=g') (t':=t') (d':=d') u d f a
end
abbrev XK:=aa->Option af->Hp->Prop
abbrev St:=List (Option V)
abbrev VK:=V->Hp->Prop
abbrev TE:=St->Hp->VK->Prop
abbrev TT:=St->Hp->(Bool->Hp->Prop)->Prop
abbrev TA:=St->Hp->(List V->Hp->Prop)->Prop
structure Ends where
 nx:St->Hp->Prop
 rt:VK
 bk:St->Hp->Prop:=λ_ _=>False
 ct:St->Hp->Prop:=λ_ _=>False
abbrev TS:=Ends->St->Hp->Prop
def EP(X:Cx)(b:List (af×az))(σ:St)(Q:VK)(u:aa)(s':ae):Prop:=∃v a,Inv X b σ a s'/\RelV v u/\Q v a
def TP(X:Cx)(c:List (af×az))(σ:St)(Q:Bool->Hp->Prop)(b:Bool)(s':ae):Prop:=∃a,Inv X c σ a s'/\Q b a
def AP(X:Cx)(c:List (af×az))(σ:St)(Q:List V->Hp->Prop)(us:List aa)(s':ae):Prop:=∃b a,Inv X c σ a s'/\Vals b us/\Q b a
def SP(X:Cx)(c:List (af×az))(D:Ends)(f:Flow)(s':ae):Prop:=
 match f with
 |.next=>∃a b,Inv X c a b s'/\D.nx a b
 |.brk=>∃a b,Inv X c a b s'/\D.bk a b
 |.cont=>∃a b,Inv X c a b s'/\D.ct a b
 |.ret u=>∃v a b,Inv X c a b s'/\RelV v u/\D.rt v b
def PE(X:Cx)(e:av)(t:TE):Prop:=
 ∀(b:List (af×az))(s:ae)(a:St)(H:Hp)(Q:VK),Inv X b a H s->t a H Q->ag (ai X.prog X.w) X.A (eval e X.env) (EP X b a Q) X.xe s
def PT(X:Cx)(e:av)(t:TT):Prop:=
 ∀(b:List (af×az))(s:ae)(a:St)(H:Hp)(Q:Bool->Hp->Prop),Inv X b a H s->t a H Q->ag (ai X.prog X.w) X.A (isTrue e X.env (eval e X.env)) (TP X b a Q) X.xe s
def PW(X:Cx)(e:av)(t:TT):Prop:=
 ∀(whole:Sem aa)(b:List (af×az))(s:ae)(a:St)(H:Hp)(Q:Bool->Hp->Prop),Inv X b a H s->t a H Q->ag (ai X.prog X.w) X.A (isTrue e X.env whole) (TP X b a Q) X.xe s
theorem PW.pt{X:Cx}{e:av}{t:TT}(h:PW X e t):PT X e t:=h _
def PA(X:Cx)(c:List av)(t:TA):Prop:=
 ∀(pos:aC)(b:List (af×az))(s:ae)(a:St)(H:Hp)(Q:List V->Hp->Prop),Inv X b a H s->t a H Q->ag (ai X.prog X.w) X.A (spliced (backTo pos (starEach c X.env))) (AP X b a Q) X.xe s
def PS(X:Cx)(st:aB)(t:TS):Prop:=
 ∀(a:List (af×az))(s:ae)(b:St)(H:Hp)(D:Ends),Inv X a b H s->t D b H->ag (ai X.prog X.w) X.A (exec st X.env) (SP X a D) X.xe s
def ir(X:Cx)(st:List aB)(t:TS):Prop:=
 ∀(a:List (af×az))(s:ae)(b:St)(H:Hp)(D:Ends),Inv X a b H s->t D b H->ag (ai X.prog X.w) X.A (execs st X.env) (SP X a D) X.xe s
theorem bo{α:Type}{t:Sem α}{Q b:α->ae->Prop}{M:Model}{A:aq}{E:aa->ae->Prop}{s:ae}(h:ag M A t Q E s)(c:∀a s,Q a s->b a s):ag M A t b E s:=Yv h c λ_ _ x=>x
section
variable{X:Cx}
inductive Ar(i:Nat)(σ:St)(H:Hp)(Q:VK):Prop
 |mk(v:_)(e0:σ[i]?=some (some v))(e1:Q v H)
def eZ(i:Nat):TE:=λa H Q=>Ar i a H Q
def tC(v:V):TE:=λ_ H Q=>Q v H
theorem xI6{i:Nat}{x:ar}{f:aC}(p:X.N[i]?=some x)(A:tZ X.env.scope x)(d:(x==("__debug__":ar))=false:=by decide)(k:(x==("__classdict__":ar))=false:=by decide):PE X (.Name x f) (eZ i):=by
 intro t s q H Q I h;obtain⟨v,e,h⟩:=h;obtain⟨m,w,n⟩:=I.loc;obtain⟨u,r,l⟩:=n i x v p e A;have b:EP X t q Q u s:=⟨v,H,I,r,h⟩;rcases l with⟨a,y⟩|⟨a,c,g,j⟩
 ·exact wpAny_Name (wpAny_loadName_local I.ok.kind a w y b) d
 ·rcases a with a|a
  ·exact wpAny_Name (wpAny_loadName_cell I.ok.kind a g j b) d
  ·exact wpAny_Name (wpAny_loadName_free I.ok.kind a g j b k) d
theorem aK {i j pos}:PE X (.Constant (.int i) j pos) (tC (.int i)):=λ_ _ _ H _ I h=>wpAny_Constant_int ⟨.int i,H,I.tok _,⟨_,rfl⟩,h⟩
theorem j_ {b j pos}:PE X (.Constant (.bool b) j pos) (tC (.bl b)):=λ_ _ _ H _ I h=>Constant_bool ⟨.bl b,H,I,rfl,h⟩
theorem Pa {j pos}:PE X (.Constant .none j pos) (tC .cu):=λ_ _ _ H _ I h=>Constant_none ⟨.cu,H,I,rfl,h⟩
theorem se {x j pos}:PE X (.Constant (.str x) j pos) (tC (.str x)):=λ_ _ _ H _ I h=>Calls.Constant_str ⟨.str x,H,I.tok _,⟨_,rfl⟩,h⟩
def Gl(X:Cx)(x:ar):Prop:=X.env.kindOf x=some .globalImplicit
theorem zi{E:aa->ae->Prop}{c:List (af×az)}{s:ae}{σ:St}{H:Hp}{x:ar}{u:aa}{a:aC}{Q:aa->ae->Prop}(I:Inv X c σ H s)(b:Gl X x)(e:X.mg x=some u)(h:Q u s)
  (d:(x==("__debug__":ar))=false:=by decide):ag (ai X.prog X.w) X.A (eval (.Name x a) X.env) Q E s:=
 Calls.Name_function_global I.ok.kind b (Calls.loadGlobal_global (by rw[I.ok.glob];exact I.mod.glob.keeps I.bk) e h) d
theorem uq{E:aa->ae->Prop}{d:List (af×az)}{s:ae}{σ:St}{H:Hp}{x:ar}{u:aa}{a:aC}{Q:aa->ae->Prop}(I:Inv X d σ H s)(b:Gl X x)(c:X.mg x=none)(g:bootBuiltins x=some u)(h:Q u s)
  (i:x ≠ "__name__":=by decide) (e:(x==("__debug__":ar))=false:=by decide):ag (ai X.prog X.w) X.A (eval (.Name x a) X.env) Q E s:=by
 obtain⟨j,h1,f⟩:=I.mod.blt;exact Calls.Name_function_global I.ok.kind b (Calls.loadGlobal_builtin (by rw[I.ok.glob];exact I.mod.glob.keeps I.bk) c (by rw[I.ok.blt];exact h1.keeps I.bk) ((f x i).trans g) h) e
theorem mf{x:ar}{v:V}{u:aa}{a:aC}(b:Gl X x)(d:X.mg x=some u)(r:RelV v u)(c:(x==("__debug__":ar))=false:=by decide):PE X (.Name x a) (tC v):=
 λ_ _ _ H _ I h=>zi I b d ⟨v,H,I,r,h⟩ c
theorem si{x:ar}{v:V}{u:aa}{a:aC}(b:Gl X x)(c:X.mg x=none)(e:bootBuiltins x=some u)(r:RelV v u)(f:x ≠ "__name__":=by decide)(d:(x==("__debug__":ar))=false:=by decide):PE X (.Name x a) (tC v):=
 λ_ _ _ H _ I h=>uq I b c e ⟨v,H,I,r,h⟩ f d
variable{a b:av}{ta tb:TE}{pos:aC}
def PC(X:Cx)(op:CmpOp)(a b:av)(t:TE):Prop:=
 ∀(d:List (af×az))(s:ae)(c:St)(H:Hp)(Q:VK),Inv X d c H s->t c H Q ->
  ag (ai X.prog X.w) X.A (eval a X.env) (λv f=>ag (ai X.prog X.w) X.A (eval b X.env) (λu e=>ag (ai X.prog X.w) X.A (compareOp op v u) (EP X d c Q) X.xe e) X.xe f) X.xe s
inductive tB_(Q:Bool->Hp->Prop)(x:V)(H1:Hp):Prop
 |mk(c:_)(e0:x=.bl c)(e1:Q c H1)
def tB(t:TE):TT:=λd H Q=>t d H λx c=>tB_ Q x c
theorem JU{op:CmpOp}{t:TE}(h:PC X op a b t)(h1:behindInMarks op b=false:=by first|exact CF _ (by decide) (by decide)|rfl):PT X (.Compare a [op] [b] pos) (tB t):=by
 intro j s l H Q I i;refine wpAny_isTrue_Compare1 (bo (h j s l H _ I i) λv r h1=>bo h1 λu p k=>bo k λc n ⟨x,g,m,f,e⟩=>?_) h1;obtain⟨d,rfl,q⟩:=e;cases f;exact Yt ⟨g,m,q⟩
theorem jm{e:av}{t:TE}(h:PE X e t)(i:∀c,isTrue e X.env c=(do let v <- c;standAt e.pos;holding [v] (truthy v)):=by intro _;rfl):PT X e (tB t):=by
 intro k s f H Q I j;refine isTrue_plain (bo (h k s f H _ I j) λv p ⟨x,g,l,n,m⟩=>?_) (i _);obtain⟨d,rfl,q⟩:=m;cases n;exact Yt ⟨g,l,q⟩
variable{tA EW:TT}{rest:List av}
def Ja(t u:TT):TT:=λe H Q=>t e H λc d=>if c=true then u e d Q else Q false d
def tOr(t u:TT):TT:=λe H Q=>t e H λc d=>if c=true then Q true d else u e d Q
def IV(t:TT):TT:=λe H Q=>t e H λc d=>Q (!c) d
theorem Gr(f:PT X a tA):PW X (.BoolOp .And [a] pos) tA:=by
 intro i d s g H Q I h;refine isTrue_and (bo (f d s g H Q I h) λc j e=>?_);cases c with
 |true=>exact isTrue_and_nil e
 |false=>exact e
theorem mZ(f:PT X a tA):PW X (.BoolOp .Or [a] pos) tA:=by
 intro i d s g H Q I h;refine isTrue_or (bo (f d s g H Q I h) λc j e=>?_);cases c with
 |false=>exact isTrue_or_nil e
 |true=>exact e
theorem Ga(l:PT X a tA)(hb:PW X (.BoolOp .And (b::rest) pos) EW):PW X (.BoolOp .And (a::b::rest) pos) (Ja tA EW):=by
 intro j e s i H Q I h;refine isTrue_and (bo (l e s i H _ I h) λc k ⟨d,f,g⟩=>?_);cases c with
 |true=>exact hb j e k i d Q f g
 |false=>exact⟨d,f,g⟩
theorem iW(l:PT X a tA)(hb:PW X (.BoolOp .Or (b::rest) pos) EW):PW X (.BoolOp .Or (a::b::rest) pos) (tOr tA EW):=by
 intro j e s i H Q I h;refine isTrue_or (bo (l e s i H _ I h) λc k ⟨d,f,g⟩=>?_);cases c with
 |true=>exact⟨d,f,g⟩
 |false=>exact hb j e k i d Q f g
theorem md(f:PT X a tA):PT X (.UnaryOp .Not a pos) (IV tA):=by
 intro e s g H Q I h;exact isTrue_not (f e s g H (λc d=>Q (!c) d) I h)
inductive vf(tb:TE)(σ:St)(Q:VK)(x:V)(H1:Hp):Prop
 |mk(c:_)(e0:x=.bl c)(e1:if c=true then tb σ H1 Q else Q (.bl false) H1)
def xQ8(ta tb:TE):TE:=λc H Q=>ta c H λx d=>vf tb c Q x d
inductive vd(Q:VK)(x:V)(H1:Hp):Prop
 |mk(c:_)(e0:x=.bl c)(e1:Q (.bl (!c)) H1)
def xQ9(ta:TE):TE:=λd H Q=>ta d H λx c=>vd Q x c
theorem rn {op}{t:TE}(h:PE X a t):PE X (.BoolOp op [a] pos) t:=λd s e H Q I c=>BoolOp_one (h d s e H Q I c)
theorem nK(k:PE X a ta)(hb:PE X (.BoolOp .And (b::rest) pos) tb):PE X (.BoolOp .And (a::b::rest) pos) (xQ8 ta tb):=by
 intro f s i H Q I h;refine BoolOp_and (bo (k f s i H _ I h) λv j ⟨x,e,g,l,d⟩=>?_);obtain⟨c,rfl,d⟩:=d;cases l;refine Yt ?_;cases c with
 |true=>exact hb f j i e Q g d
 |false=>exact⟨.bl false,e,g,rfl,d⟩
theorem xI7(i:PE X a ta):PE X (.UnaryOp .Not a pos) (xQ9 ta):=by
 intro f s j H Q I h;refine UnaryOp_ (bo (i f s j H _ I h) λv l ⟨x,e,g,k,d⟩=>?_);obtain⟨c,rfl,d⟩:=d;cases k;exact not_of (Yt ⟨.bl (!c),e,g,rfl,d⟩)
end
def cH(K:PySem.W.Frag)(H:Hp)(a:af)(xs:List V):Prop:=
 Rd H a (.lst xs) \/
  ∃(o:az)(b:Array aa)(n:Nat),K.lookup a=some o/\o.cls=.type "list" /\ o.dict=none/\o.data=.seq b n/\b.size<=sizeLine/\Vals xs b.toList
def aZ(K:PySem.W.Frag)(H:Hp)(a:af)(xs:List V):Prop:=
 Rd H a (.tup xs) \/
  ∃(o:az)(b:Array aa)(n:Nat),K.lookup a=some o/\o.cls=.type "tuple" /\ o.data=.seq b n/\b.size<=sizeLine/\Vals xs b.toList
def NF:aa->Option V
 |.none=>some .cu
 |.bool b=>some (.bl b)
 |.int i _=>some (.int i)
 |.str x _=>some (.str x)
 |.bytes b _=>some (.qU b)
 |.float b _=>some (.Ag b)
 |.ref a=>some (.ref a)
 |.type n=>some (.ty n)
 |_=>none
theorem RelV.abs{x:V}{u:aa}(r:RelV x u):NF u=some x:=by
 cases x with
 |cu=>cases r;rfl
 |bl _=>cases r;rfl
 |int _=>obtain⟨t,rfl⟩:=r;rfl
 |str _=>obtain⟨t,rfl⟩:=r;rfl
 |qU _=>obtain⟨t,rfl⟩:=r;rfl
 |Ag _=>obtain⟨t,rfl⟩:=r;rfl
 |ref _=>cases r;rfl
 |ty _=>cases r;rfl
theorem RelV.inj{x y:V}{u:aa}(r:RelV x u)(q:RelV y u):x=y:=ZT (r.abs.symm.trans q.abs)
theorem Vals.inj:∀{c b:List V}{a:List aa},Vals c a->Vals b a->c=b
 |_,_,_,.nil,.nil=>rfl
 |_,_,_,.cons r t,.cons e d=>by rw[r.inj e,Vals.inj t d]
section
variable{X:Cx}{j8:List (af×az)}{σ:St}{H:Hp}{s:ae}{a:af}{xs ys:List V}
theorem cH.of{K:PySem.W.Frag}(h:H a=some (.lst xs)):cH K H a xs:=.inl (.inl h)
theorem aZ.of{K:PySem.W.Frag}(h:H a=some (.tup xs)):aZ K H a xs:=.inl (.inl h)
theorem Inv.list(I:Inv X j8 σ H s)(h:cH X.K H a xs):∃b:List aa,Vals xs b/\PlainL s.heap a b.toArray/\xs.length<=sizeLine:=by
 rcases h with h|⟨o,b,n,d,g,i,f,c,r⟩
 ·obtain⟨z,b,n,r,e⟩:=h.ok I.aT;exact⟨b,r,⟨_,n,e,rfl,rfl,rfl⟩,z⟩
 ·refine⟨b.toList,r,⟨o,n,I.hJ a o d,g,i,by simpa using f⟩,?_⟩;have e:=r.length;simp only[ZL]at e;exact xn e c
theorem Inv.tuple(I:Inv X j8 σ H s)(h:aZ X.K H a xs):∃b:List aa,Vals xs b/\IsTup s.heap a b.toArray/\xs.length<=sizeLine:=by
 rcases h with h|⟨o,b,n,d,g,f,c,r⟩
 ·obtain⟨z,b,r,p⟩:=h.ok I.aT;exact⟨b,r,p,z⟩
 ·refine⟨b.toList,r,⟨o,I.hJ a o d,g,n,by simpa using f⟩,?_⟩;have e:=r.length;simp only[ZL]at e;exact xn e c
theorem Inv.qo(I:Inv X j8 σ H s)(h:cH X.K H a xs)(h':cH X.K H a ys):xs=ys:=by
 obtain⟨g,r,⟨o,n,e,_,_,d⟩,_⟩:=I.list h;obtain⟨b,i,⟨j,k,f,_,_,c⟩,_⟩:=I.list h';rw[e]at f;cases f;rw[d]at c;injection c with d1 _
 have:g=b:=by simpa using Z9 Array.toList d1
 subst this;exact r.inj i
theorem Inv.iJ(I:Inv X j8 σ H s)(h:aZ X.K H a xs)(h':aZ X.K H a ys):xs=ys:=by
 obtain⟨g,r,⟨o,e,_,n,d⟩,_⟩:=I.tuple h;obtain⟨b,i,⟨j,f,_,k,c⟩,_⟩:=I.tuple h';rw[e]at f;cases f;rw[d]at c;injection c with d1 _
 have:g=b:=by simpa using Z9 Array.toList d1
 subst this;exact r.inj i
end
abbrev Cx.iy(X:Cx)(E:aa->ae->Prop):Cx:={X with xe:=E}
abbrev Cx.km(X:Cx):Cx:=X.iy λ_ _=>False
theorem Cx.Ok.iy{X:Cx}(ok:X.Ok)(E:aa->ae->Prop):(X.iy E).Ok:=
 ⟨ok.mod,ok.kind,ok.glob,ok.blt,ok.above,ok.inj,ok.has,ok.tX,ok.hd,ok.frames,ok.rO,ok.Ah,ok.bs,ok.oH,ok.iX,ok.ky,ok.dP,ok.qM⟩
theorem Cx.Ok.dU{X:Cx}{E:aa->ae->Prop}(ok:(X.iy E).Ok):X.Ok:=
 ⟨ok.mod,ok.kind,ok.glob,ok.blt,ok.above,ok.inj,ok.has,ok.tX,ok.hd,ok.frames,ok.rO,ok.Ah,ok.bs,ok.oH,ok.iX,ok.ky,ok.dP,ok.qM⟩
section
variable{X:Cx}{j8:List (af×az)}{σ:St}{H:Hp}{s:ae}{E:aa->ae->Prop}
theorem Inv.iy(I:Inv X j8 σ H s)(E:aa->ae->Prop):Inv (X.iy E) j8 σ H s:=⟨I.ok.iy E,I.os,I.bare,I.base,I.loc,I.cell,I.free,I.cV,I.pin,I.aT,I.len⟩
theorem Inv.dU(I:Inv (X.iy E) j8 σ H s):Inv X j8 σ H s:=⟨I.ok.dU,I.os,I.bare,I.base,I.loc,I.cell,I.free,I.cV,I.pin,I.aT,I.len⟩
theorem SP.dU{D:Ends}{f:Flow}{s':ae}(h:SP (X.iy E) j8 D f s'):SP X j8 D f s':=by
 cases f with
 |next=>obtain⟨a,b,I,q⟩:=h;exact⟨a,b,I.dU,q⟩
 |brk=>obtain⟨a,b,I,q⟩:=h;exact⟨a,b,I.dU,q⟩
 |cont=>obtain⟨a,b,I,q⟩:=h;exact⟨a,b,I.dU,q⟩
 |ret u=>obtain⟨v,a,b,I,r,q⟩:=h;exact⟨v,a,b,I.dU,r,q⟩
theorem ir.km{st:List aB}{t:TS}(h:ir X.km st t):ir X st t:=λj8 s σ H D I a=>
 Yv (h j8 s σ H D (I.iy _) a) (λ_ _ q=>q.dU) λ_ _ z=>False.elim z
end
section
variable{X:Cx}{st:aB}{rest:List aB}{t u:TS}{e:av}{te:TE}{pos:aC}
def P5:TS:=λD a H=>D.nx a H
def oQ(t u:TS):TS:=λD a H=>t {D with nx:=u D} a H
theorem dG:ir X [] P5:=λ_ _ a H _ I h=>Wi ⟨a,H,I,h⟩
theorem gk(h1:PS X st t)(c:ir X rest u):ir X (st::rest) (oQ t u):=by
 intro b s j H D I h;refine wpAny_execs_cons (bo (h1 b s j H {D with nx:=u D} I h) λf d q=>?_);cases f with
 |next=>
  obtain⟨a,g,i,q⟩:=q;exact c b d a g D i q
 |ret v=>exact q
 |brk=>exact q
 |cont=>exact q
theorem cR(h1:PS X st t):ir X [st] t:=by
 intro a s b H D I h;refine wpAny_execs_cons (bo (h1 a s b H D I h) λf c q=>?_);cases f with
 |next=>exact Wi q
 |ret v=>exact q
 |brk=>exact q
 |cont=>exact q
theorem Inv.quiet{a:List (af×az)}{σ:St}{H:Hp}{s:ae}(I:Inv X a σ H s):interactive X.env=false:=by simp[interactive,I.ok.kind]
def xR0(te:TE):TS:=λD a H=>te a H λ_ b=>D.nx a b
theorem ke(c:PE X e te)(hs:swapsWith e none pos.line X.env=pure false:=by rfl):PS X (.Expr e pos) (xR0 te):=by
 intro d s a H D I h;exact wpAny_Expr_any (bo (c d s a H _ I h) λv i ⟨x,b,f,j,g⟩=>⟨a,b,f,g⟩) I.quiet hs
def IU(te:TE):TS:=λD a H=>te a H D.rt
theorem cF(c:PE X e te):PS X (.Return (some e) pos) (IU te):=by
 intro d s a H D I h;exact wpAny_Return_some (bo (c d s a H _ I h) λv j ⟨x,b,f,i,g⟩=>⟨x,a,b,f,i,g⟩)
def xR1:TS:=λD _ H=>D.rt .cu H
theorem Gq:PS X (.Return none pos) xR1:=λ_ _ a H _ I h=>wpAny_Return_none ⟨.cu,a,H,I,rfl,h⟩
def As(c:TT)(t u:TS):TS:=λD a H=>c a H λb d=>if b=true then t D a d else u D a d
theorem dE{c:av}{a b:List aB}{l:TT}(hc:PT X c l)(n:ir X a t)(hb:ir X b u):PS X (.If c a b pos) (As l t u):=by
 intro f s g H D I h;refine wpAny_If (bo (hc f s g H _ I h) λd j ⟨i,k,m⟩=>?_);cases d with
 |true=>exact n f j g i D k m
 |false=>exact hb f j g i D k m
def xI9:TS:=λ_ _ _=>False
theorem wx{a:List aB}:ir X a xI9:=λ_ _ _ _ _ _ h=>h.elim
end
abbrev TG:=V->St->Hp->(St->Hp->Prop)->Prop
abbrev qX:=List V->St->Hp->(St->Hp->Prop)->Prop
def PG(X:Cx)(a:av)(t:TG):Prop:=
 ∀(c:List (af×az))(s:ae)(e:St)(H:Hp)(v:V)(u:aa)(Q:St->Hp->Prop),Inv X c e H s->RelV v u->t v e H Q ->
  ag (ai X.prog X.w) X.A (assign a X.env u) (λ_ f=>∃b d,Inv X c b d f/\Q b d) X.xe s
def Er(X:Cx)(g:List av)(t:qX):Prop:=
 ∀(c:List (af×az))(s:ae)(f:St)(H:Hp)(e:List V)(b:List aa)(Q:St->Hp->Prop),Inv X c f H s->Vals e b->t e f H Q ->
  ag (ai X.prog X.w) X.A (assignInOrder ((assignEach g X.env).map (·.2)) b) (λ_ h=>∃a d,Inv X c a d h/\Q a d) X.xe s
abbrev yo:=V->V->V->Hp->(Hp->Prop)->Prop
def Ep(X:Cx)(t:yo):Prop:=
 ∀(a:List (af×az))(s:ae)(c:St)(H:Hp)(o i v:V)(ov d u:aa)(Q:Hp->Prop),Inv X a c H s->RelV o ov->RelV i d->RelV v u->t o i v H Q ->
  ag (ai X.prog X.w) X.A (setItem ov d u) (λ_ e=>∃b,Inv X a c b e/\Q b) X.xe s
abbrev HA:=V->V->Hp->VK->Prop
def PIp(X:Cx)(op:Operator)(t:HA):Prop:=
 ∀(a:List (af×az))(s:ae)(b:St)(H:Hp)(x y:V)(v u:aa)(Q:VK),Inv X a b H s->RelV x v->RelV y u->t x y H Q ->
  ag (ai X.prog X.w) X.A (inplaceOp op v u) (EP X a b Q) X.xe s
section
variable{X:Cx}{pos:aC}
def di(i:Nat):TG:=λv a H Q=>Q (a.set i (some v)) H
theorem sg{i:Nat}{x:ar}(b:X.N.Nodup)(c:X.N[i]?=some x)(d:Loc X.env.scope x)(a:X.fn x=true\/X.env.scope.names.lookup x=some .local:=by first|exact .inl rfl|exact .inr rfl|assumption):PG X (.Name x pos) (di i):=by
 intro f s j H v u Q I r h;exact wpAny_assign_Name (Fj I b c d r (λg e=>⟨_,H,e,h⟩) a)
def iG:qX:=λb a H Q=>b=[]/\Q a H
inductive x9(t:TG)(u:qX)(vs:List V)(σ:St)(H:Hp)(Q:St->Hp->Prop):Prop
 |mk(v:_)(r:_)(e0:vs=v::r)(e1:t v σ H λσ' H'=>u r σ' H' Q)
def gT(t:TG)(u:qX):qX:=λb a H Q=>x9 t u b a H Q
theorem lM:Er X [] iG:=by
 intro c s a H d b Q I r h;obtain⟨e,h⟩:=h;subst e;cases r;exact assignInOrder_nil ⟨a,H,I,h⟩
theorem dz{e:av}{a:List av}{t:TG}{u:qX}(h1:PG X e t)(i:Er X a u)
  (hs:(assignEach (e::a) X.env).map (·.2)=assign e X.env::(assignEach a X.env).map (·.2):=by rfl):Er X (e::a) (gT t u):=by
 intro b s l H q p Q I r h;obtain⟨v,n,f,h⟩:=h;subst f;cases r with
 |cons r c=>
  rw[hs];refine assignInOrder_cons (bo (h1 b s l H _ _ _ I r h) λ_ k ⟨j,g,m,d⟩=>?_);exact i b k j g _ _ Q m c d
inductive Ea(K:PySem.W.Frag)(n:Nat)(t:qX)(v:V)(σ:St)(H:Hp)(Q:St->Hp->Prop):Prop
 |mk(a:_)(xs:_)(e0:v=.ref a)(e1:aZ K H a xs)(e2:xs.length=n)(e3:t xs σ H Q)
def hZ(K:PySem.W.Frag)(n:Nat)(t:qX):TG:=λv a H Q=>Ea K n t v a H Q
theorem l_{c:List av}{k:Nat}{t:qX}{n:Nat}(hc:X.calm=true)(h:Er X c t)
  (y:(assignEach c X.env).length=n:=by rfl) (q:(assignEach c X.env).findIdx? (·.1)=none:=by rfl):PG X (.Tuple c k pos) (hZ X.K n t):=by
 intro g s i H v u Q I r d;obtain⟨a,m,w,p,x,d⟩:=d;subst w;cases r;obtain⟨C,f,l,D⟩:=I.tuple p;refine assign_Tuple_tuple (I.ok.hd hc) l (by simp[y,<- x,f.length]) q λj A=>?_;have B:Inv X g i H {s with heap:=j}:=I.kept (t':=s.toks) λb o e=>A b o (Zp (Zi e)) e;exact h g _ i H m _ Q B (by simpa using f) d
def M9(d f:TE)(t:yo):TG:=λv a H Q=>d a H λo b=>f a b λi c=>t o i v c λe=>Q a e
theorem O_{o i:av}{e d:TE}{t:yo}(m:PE X o e)(C:PE X i d)(hs:Ep X t)
  (n:∀v,assign (.Subscript o i pos) X.env v=(do
   let ov <- holding [v] (eval o X.env)
   let a <- holding [v,ov] (eval i X.env)
   standAt pos
   holding [v,ov,a] (setItem ov a v)
   release [v,ov,a] []):=by intro _;rfl):PG X (.Subscript o i pos) (M9 e d t):=by
 intro c s b H v u Q I r h;rw[n];refine Za (ZP (bo (m c s b H _ I h) λov D ⟨x,p,F,j,g⟩=>?_));refine Za (ZP (bo (C c D b p _ F g) λa w ⟨y,l,B,E,q⟩=>?_));refine Za (Uk (Za (ZP (bo (hs c w b l x y v ov a u _ B j E r q) λ_ G ⟨k,A,f⟩=>?_))));exact wpAny_release ⟨b,k,A,f⟩
def iR(te:TE)(g:TG):TS:=λD a H=>te a H λx b=>g x a b D.nx
theorem mY{a e:av}{te:TE}{g:TG}(d:PE X e te)(k:PG X a g)(hs:swapsWithSole [a] e pos.line X.env=pure false:=by rfl)(hw:swappedStores [a] e X.env=pure none:=by rfl)
  (h1:(assignEach [a] X.env).map (·.2)=[assign a X.env]:=by rfl):PS X (.Assign [a] e pos) (iR te g):=by
 intro b s c H D I h;refine wpAny_Assign_stores (bo (d b s c H _ I h) λv l ⟨x,j,m,i,f⟩=>?_) hs hw;rw[h1];exact bo (k b l c j x v _ m i f) λ_ n q=>q
theorem xJ0{i:Nat}{x:ar}{e:av}{te:TE}{a:aC}(g:X.N.Nodup)(n:X.N[i]?=some x)(m:Loc X.env.scope x)(b:PE X e te)(hs:swapsWith e (some (.Name x a)) pos.line X.env=pure false:=by rfl)(f:X.fn x=true\/X.env.scope.names.lookup x=some .local:=by first|exact .inl rfl|exact .inr rfl|assumption):
  PS X (.Assign [.Name x a] e pos) (iR te (di i)):=by
 intro k s p H D I h;refine wpAny_Assign_Name (bo (b k s p H _ I h) λv t ⟨y,j,q,d,c⟩=>?_) hs;exact Fj q g n m d (λr l=>⟨_,j,l,c⟩) f
inductive Av(i:Nat)(te:TE)(ti:HA)(D:Ends)(σ:St)(H:Hp):Prop
 |mk(x:_)(e0:σ[i]?=some (some x))(e1:te σ H λy H1=>ti x y H1 λz H2=>D.nx (σ.set i (some z)) H2)
def I_(i:Nat)(te:TE)(b:HA):TS:=λD a H=>Av i te b D a H
theorem O9{i:Nat}{x:ar}{e:av}{te:TE}{op:Operator}{j:HA}{b:aC}(M:X.N.Nodup)(n:X.N[i]?=some x)(f:Loc X.env.scope x)(q:PE X e te)(L:PIp X op j)(E:X.fn x=true\/X.env.scope.names.lookup x=some .local:=by first|exact .inl rfl|exact .inr rfl|assumption):
  PS X (.AugAssign (.Name x b) op e pos) (I_ i te j):=by
 intro d s p H D I h;obtain⟨v,J,h⟩:=h;obtain⟨m,Q,K⟩:=I.loc;have g:tZ X.env.scope x:=by rcases f with k|k;exact .inl k;exact .inr (.inl k)
 obtain⟨u,r,l⟩:=K i x v n J g;refine wpAny_AugAssign_Name ?_;have go:ag (ai X.prog X.w) X.A (eval e X.env) (λw R=>ag (ai X.prog X.w) X.A (inplaceOp op u w) (λr B=>ag (ai X.prog X.w) X.A (storeName X.env x r) (λ_=>SP X d D .next) X.xe B) X.xe R) X.xe s:=by
  refine bo (q d s p H _ I h) λw V ⟨y,O,G,C,A⟩=>?_;refine bo (L d V p O v y u w _ G r C A) λz s2 ⟨Z,F,U,N,P⟩=>?_;exact Fj U M n f N (λY T=>⟨_,F,T,P⟩) E
 rcases l with⟨a,W⟩|⟨a,c,t,S⟩
 ·exact wpAny_loadName_local I.ok.kind a Q W go
 ·rcases a with a|a
  ·exact wpAny_loadName_cell I.ok.kind a t S go
  ·rcases f with k|k
   ·have:X.env.scope.names.lookup x=some .free:=a;rw[k]at this;cases this
   ·have:X.env.scope.names.lookup x=some .free:=a;rw[k]at this;cases this
def xJ1(c:TT)(tb:TS):TS:=λD a H=>∃W:Nat->St->Hp->Prop,(∃m,W m a H)/\∀m a H,W m a H ->
 c a H λb e=>if b=true then ∃N:St->Hp->Prop,(∀d g,N d g->∃f,f<m/\W f d g)/\tb {D with nx:=N,ct:=N,bk:=D.nx} a e else D.nx a e
theorem xe2{c:av}{a:List aB}{E:TT}{tb:TS}(B:PassesOwn (ai X.prog X.w) X.A X.env X.xe)(hc:PT X c E)(hb:ir X a tb):PS X (.While c a [] pos) (xJ1 E tb):=by
 intro q s O H D I h;obtain⟨W,⟨G,K⟩,i⟩:=h;refine wpAny_While (codeAny_whileLoop (λn M=>∃e A,Inv X q e A M/\W n e A) ?_ G ⟨O,H,I,K⟩);rintro n L ⟨l,y,P,F⟩;refine YC B (bo (hc q L l y _ P (i n l y F)) λb J ⟨w,C,k⟩=>?_);cases b with
 |true=>
  obtain⟨N,x,k⟩:=k;rw[Zx rfl];refine YC B (bo (hb q J l w _ C k) λf Q j=>?_);cases f with
  |next=>
   obtain⟨g,d,r,m⟩:=j;obtain⟨p,u,t⟩:=x g d m;exact⟨p,u,g,d,r,t⟩
  |cont=>
   obtain⟨g,d,r,m⟩:=j;obtain⟨p,u,t⟩:=x g d m;exact⟨p,u,g,d,r,t⟩
  |brk=>exact j
  |ret v=>exact j
 |false=>
  rw[Zl Zy];exact Wi ⟨l,w,C,k⟩
end
structure It where
 go:Nat->Hp->Prop
 iI:Nat->Hp->V->Hp->Prop
 stop:Nat->Hp->Prop
def eQ(X:Cx)(a:List (af×az))(H:Hp)(b:af):Prop:=
 H b=none/\b≠X.env.locals/\b∉X.fs/\(b∈X.ex\/X.aH.heap.objs.size<=b)/\(∀x c,X.env.cells.lookup x=some c->c≠b)/\∀p∈X.pn++a,p.1≠b
theorem Inv.i9{X:Cx}{a:List (af×az)}{σ:St}{H d:Hp}{s:ae}{b:af}(I:Inv X a σ H s)(hb:s.heap.objs.size<=b)(g:d b=none):eQ X a d b:=by
 refine⟨g,XN (ZR I.lt hb),I.K2 hb,.inr (ZI I.sz hb),λx c e z=>?_,λp f z=>?_⟩
 ·obtain⟨v,q⟩:=I.cell x c e;exact absurd (ZR q.lt (by rw[z];exact hb)) (Yc _)
 ·exact absurd (ZR (Zi (I.pin p f).1) (by rw[z];exact hb)) (Yc _)
structure Turn(P:ah)(w:aj)(K:PySem.W.Frag)(tg:av)(J:It)(fp:List af)(it:af)(tn:Nat->ao->Prop):Prop where
 mem:it∈fp
 obj:∀i h,tn i h->∀b∈fp,∃o,h.get? b=some o/\∀v,o.data≠.cell v
 keep:∀i h h',tn i h->(∀b∈fp,∀o,h.get? b=some o->h'.get? b=some o)->tn i h'
 item:∀(X:Cx),X.prog=P->X.w=w->X.K=K->X.calm=true->∀(i:Nat)(j8:List (af×az))(s:ae)(σ:St)(H:Hp)(E:aa->ae->Prop),Inv X j8 σ H s->(∀b∈fp,eQ X j8 H b)->tn i s.heap->J.go i H ->
  ag (ai P w) X.A (pyNext (.ref it)) (λr s1=>∃u,r=some u /\
   ag (ai P w) X.A (letOwnedTupleGo tg (.ref it) u) (λ_ s2=>∃x H',Inv X j8 σ H' s2/\RelV x u/\J.iI i H x H'/\tn (i+1) s2.heap/\∀b∈fp,H' b=none) E s1) E s
 done:∀(X:Cx),X.prog=P->X.w=w->X.K=K->X.calm=true->∀(i:Nat)(j8:List (af×az))(s:ae)(σ:St)(H:Hp)(E:aa->ae->Prop),Inv X j8 σ H s->(∀b∈fp,eQ X j8 H b)->tn i s.heap->J.stop i H ->
  ag (ai P w) X.A (pyNext (.ref it)) (λr s1=>r=none/\Inv X j8 σ H s1) E s
 self:∀(A:aq)(i:Nat)(s:ae)(Q:aa->ae->Prop)(E:aa->ae->Prop),tn i s.heap->Q (.ref it) s->ag (ai P w) A (pyIter (.ref it)) Q E s
abbrev TI:=St->Hp->(It->Hp->Prop)->Prop
def PIE(X:Cx)(e:List (af×az))(σ:St)(h:av)(R:It->Hp->Prop)(i:aa)(g:ae):Prop:=
 ∃(f:af)(c:List af)(d:Nat->ao->Prop)(J:It)(a:Hp),i=.ref f/\Inv X e σ a g/\Turn X.prog X.w X.K h J c f d/\d 0 g.heap/\(∀b∈c,eQ X e a b)/\R J a
def PI(X:Cx)(c iter:av)(e:TI):Prop:=
 ∀(b:List (af×az))(s:ae)(a:St)(H:Hp)(R:It->Hp->Prop),Inv X b a H s->e a H R ->
  ag (ai X.prog X.w) X.A (eval iter X.env) (λv d=>ag (ai X.prog X.w) X.A (pyIter v) (PIE X b a c R) X.xe d) X.xe s
theorem EL{M:Model}{A:aq}{E:aa->ae->Prop}{s:ae}{b:av}{it:af}{u:aa}{o:az}{n:String}{c:Array aa}{Q:Unit->ae->Prop}(e:s.heap.get? it=some o)(hc:o.cls=.type n)(d:o.data=.fields c)
  (f:["enumerate","zip","dict_itemiterator","dict_reverseitemiterator","odict_iterator","itertools.zip_longest","itertools.pairwise"].contains n=false) (a:Q () s):ag M A (letOwnedTupleGo b (.ref it) u) Q E s:=by
 unfold letOwnedTupleGo;cases b<;>first
  |exact Zc a
  |(cases u<;>first
    |exact Zc a
    |(refine Za (wpAny_load e ?_)
      rw[hc,d];show ag M A (if(["enumerate","zip","dict_itemiterator","dict_reverseitemiterator","odict_iterator","itertools.zip_longest","itertools.pairwise"].contains n&&c[0]?==some (rawInt _))=true then _ else _) Q E s;rw[Zl (by intro h;rw[f,Wq]at h;cases h)];exact Zc a))
def Ak(K:PySem.W.Frag)(a:af):It:=
 ⟨λi H=>∃b x,cH K H a b/\b[i]?=some x,λi H x c=>c=H/\∀b,cH K H a b->b[i]?=some x,λi H=>∃b,cH K H a b/\b.length<=i⟩
def Aj(K:PySem.W.Frag)(a:af):It:=
 ⟨λi H=>∃b x,aZ K H a b/\b[i]?=some x,λi H x c=>c=H/\∀b,aZ K H a b->b[i]?=some x,λi H=>∃b,aZ K H a b/\b.length<=i⟩
def mM(lo:Int)(n:Nat):It:=⟨λi _=>i<n,λi H x a=>a=H/\x=.int (lo+i),λi _=>n<=i⟩
theorem qY5{P:ah}{w:aj}{K:PySem.W.Frag}{S:av}(a it:af):Turn P w K S (Ak K a) [it] it (λi h=>h.IsListIter it a i) where
 mem:=by simp
 obj:=λi h f b hb=>by
  have e:b=it:=by simpa using hb
  subst e;obtain⟨o,e,c,d⟩:=f;exact⟨o,e,λv z=>by rw[d]at z;cases z⟩
 keep:=λi h g f k=>f.at λo e=>k it (by simp) o e
 item:=by
  intro X n y B G i L s M H E I l f C;subst n y B;obtain⟨Q,x,j,m⟩:=C;obtain⟨O,r,p,Y⟩:=I.list j;obtain⟨u,T,W⟩:=r.get m;obtain⟨q,t,V,D,F,A⟩:=l it (by simp);refine wpAny_pyNext_list_item f p.isList (x:=u) (by simpa using T) λg J Z=>?_;have I1:Inv X L M H {s with heap:=g}:=I.turned (t':=s.toks) (λb o hb e=>(Z.2 b hb).trans e) q t D F A;obtain⟨o,e,c,d⟩:=id J;exact⟨u,rfl,EL (s:={s with heap:=g}) e c d (by decide) ⟨x,H,I1,W,⟨rfl,λys U=>by rw[I.qo U j];exact m⟩,J,λb hb=>(l b hb).1⟩⟩
 done:=by
  intro X n y B G i L s M H E I l f C;subst n y B;obtain⟨Q,j,m⟩:=C;obtain⟨O,r,p,Y⟩:=I.list j;obtain⟨q,t,V,D,F,A⟩:=l it (by simp);have R:=r.length;exact wpAny_pyNext_list_end (I.ok.hd G) f p.isList (by simp;exact uK R m) λg N=>⟨rfl,I.turned (t':=s.toks) (λb o hb e=>N b o hb e) q t D F A⟩
 self:=λ_ _ _ _ _ f h=>wpAny_pyIter_listiter f h
theorem qU0{P:ah}{w:aj}{K:PySem.W.Frag}{S:av}(a it:af):Turn P w K S (Aj K a) [it] it (λi h=>h.IsTupleIter it a i) where
 mem:=by simp
 obj:=λi h f b hb=>by
  have e:b=it:=by simpa using hb
  subst e;obtain⟨o,e,c,d⟩:=f;exact⟨o,e,λv z=>by rw[d]at z;cases z⟩
 keep:=λi h g f k=>f.at λo e=>k it (by simp) o e
 item:=by
  intro X n A C J i M s N H E I l f D;subst n A C;obtain⟨Q,x,j,m⟩:=D;obtain⟨r,t,p,Y⟩:=I.tuple j;obtain⟨u,T,W⟩:=t.get m;obtain⟨q,y,V,F,G,B⟩:=l it (by simp);refine wpAny_pyNext_tuple_item f (show s.heap.IsTuple a r.toArray from p) (x:=u) (by simpa using T) λg L Z=>?_;have I1:Inv X M N H {s with heap:=g}:=I.turned (t':=s.toks) (λb o hb e=>(Z.2 b hb).trans e) q y F G B;obtain⟨o,e,c,d⟩:=id L;exact⟨u,rfl,EL (s:={s with heap:=g}) e c d (by decide) ⟨x,H,I1,W,⟨rfl,λys U=>by rw[I.iJ U j];exact m⟩,L,λb hb=>(l b hb).1⟩⟩
 done:=by
  intro X n A C J i M s N H E I l f D;subst n A C;obtain⟨Q,j,m⟩:=D;obtain⟨r,t,p,Y⟩:=I.tuple j;obtain⟨q,y,V,F,G,B⟩:=l it (by simp);have R:=t.length;exact wpAny_pyNext_tuple_end (I.ok.hd J) f (show s.heap.IsTuple a r.toArray from p) (by simp;exact uK R m) λg O=>⟨rfl,I.turned (t':=s.toks) (λb o hb e=>O b o hb e) q y F G B⟩
 self:=λ_ _ _ _ _ f h=>wpAny_pyIter_tupleiter f h
theorem qU1{P:ah}{w:aj}{K:PySem.W.Frag}{L:av}(it:af)(lo:Int)(n:Nat):Turn P w K L (mM lo n) [it] it (λi h=>IsRangeIter h it (lo+(i:Nat)*1) ((n:Int)-(i:Nat)) 1) where
 mem:=by simp
 obj:=λi h a b hb=>by
  have e:b=it:=by simpa using hb
  subst e;exact⟨_,a,λv z=>by
   have F:Data.fields _=Data.cell v:=z;cases F⟩
 keep:=λi h c a k=>k it (by simp) _ a
 item:=by
  intro X f m q g i A s C H E I d a r;subst f m q;obtain⟨j,l,M,u,x,p⟩:=d it (by simp);have W:=Walks.range (prog:=X.prog) (w:=X.w) (I.ok.hd g) it lo 1 n;refine W.item i s _ _ r a λv c B J y G=>?_;obtain⟨t,rfl⟩:=J;have N:Inv X A C H {s with heap:=c,toks:=B}:=I.turned (λb o hb e=>G b o (by simpa using hb) e) j l u x p;refine⟨_,rfl,EL (s:={s with heap:=c,toks:=B}) (n:= "range_iterator") y rfl rfl (by decide) ⟨.int (lo+i),H,N,⟨t,?_⟩,⟨rfl,rfl⟩,y,λb hb=>(d b hb).1⟩⟩;rw[Int.mul_one]
 done:=by
  intro X f m q g i A s C H E I d a r;subst f m q;obtain⟨j,l,M,u,x,p⟩:=d it (by simp);exact wpAny_pyNext_range_end (I.ok.hd g) a (by have:n<=i:=r;exact Iy this) λc D=>⟨rfl,I.turned (t':=s.toks) (λb o hb e=>D b o hb e) j l u x p⟩
 self:=λ_ _ _ _ _ a h=>W0 a h
section
variable{X:Cx}{tg:av}
inductive xM(K:PySem.W.Frag)(R:It->Hp->Prop)(x:V)(H1:Hp):Prop
 |mk(a:_)(e0:x=.ref a)(e1:(∃xs,cH K H1 a xs))(e2:R (Ak K a) H1)
def xR2(K:PySem.W.Frag)(b:TE):TI:=λc H R=>b c H λx a=>xM K R x a
inductive C_(K:PySem.W.Frag)(R:It->Hp->Prop)(x:V)(H1:Hp):Prop
 |mk(a:_)(e0:x=.ref a)(e1:(∃xs,aZ K H1 a xs))(e2:R (Aj K a) H1)
def Dc(K:PySem.W.Frag)(b:TE):TI:=λc H R=>b c H λx a=>C_ K R x a
theorem ux{l:av}{f:TE}(k:PE X l f):PI X tg l (xR2 X.K f):=by
 intro n s r H R I h;refine bo (k n s r H _ I h) λv c ⟨x,m,d,i,g⟩=>?_;obtain⟨a,e,⟨u,j⟩,q⟩:=g;subst e;cases i;obtain⟨t,w,p,y⟩:=d.list j;refine Xs p.isList ?_;refine⟨c.heap.objs.size,[c.heap.objs.size],_,_,m,rfl,d.kept (t':=c.toks) λb o e=>Zb _ e,qY5 a _,⟨_,Zg _ rfl,rfl,rfl⟩,λb hb=>?_,q⟩;have e:b=c.heap.objs.size:=by simpa using hb
 subst e;exact d.i9 (Ze _) (d.aT.fresh (Ze _))
theorem y_{l:av}{f:TE}(m:PE X l f):PI X tg l (Dc X.K f):=by
 intro r s t H R I h;refine bo (m r s t H _ I h) λv c ⟨x,n,d,j,i⟩=>?_;obtain⟨a,e,⟨u,k⟩,q⟩:=i;subst e;cases j;obtain⟨g,w,p,y⟩:=d.tuple k;refine YK (show c.heap.IsTuple a g.toArray from p) ?_;refine⟨c.heap.objs.size,[c.heap.objs.size],_,_,n,rfl,d.kept (t':=c.toks) λb o e=>Zb _ e,qU0 a _,⟨_,Zg _ rfl,rfl,rfl⟩,λb hb=>?_,q⟩;have e:b=c.heap.objs.size:=by simpa using hb
 subst e;exact d.i9 (Ze _) (d.aT.fresh (Ze _))
theorem pG{c:List (af×az)}{σ:St}{H:Hp}{s:ae}{R:It->Hp->Prop}{E:aa->ae->Prop}{lo a:Int}{t u v:Tok}{tk:Nat}(I:Inv X c σ H s)(h1:-(2^62)<=lo)(j:lo<2^62)(i:-(2^62)<=a)(f:a<2^62)
  (q:R (mM lo (a-lo).toNat) H):ag (ai X.prog X.w) X.A (pyIter (.ref s.heap.objs.size)) (PIE X c σ tg R) E {s with heap:=s.heap.push {cls:=.type "range",data:=.fields #[.int lo t,.int a u,.int 1 v]},toks:=tk}:=by
 refine VR (IsRange.new ..) (small_one h1 j i f) ?_;have d:Inv X c σ H {s with heap:=s.heap.push {cls:=.type "range",data:=.fields #[.int lo t,.int a u,.int 1 v]},toks:=tk}:=I.kept λb o e=>Zb _ e;refine⟨(s.heap.push {cls:=.type "range",data:=.fields #[.int lo t,.int a u,.int 1 v]}).objs.size,[(s.heap.push {cls:=.type "range",data:=.fields #[.int lo t,.int a u,.int 1 v]}).objs.size],_,_,H,rfl,
  d.kept (t':=tk) λb o e=>Zb _ e,qU1 _ lo (a-lo).toNat,?_,λb hb=>?_,q⟩
 ·have h:lo+((0:Nat):Int)*1=lo:=by simp
  have g:(((a-lo).toNat:Nat):Int)-((0:Nat):Int)=Builtin.Range.rangeSize lo a 1:=by rw[rangeSize_one];split<;>lia
  show IsRangeIter _ _ (lo+((0:Nat):Int)*1) ((((a-lo).toNat:Nat):Int)-((0:Nat):Int)) 1;rw[h,g];exact Zg _ rfl
 ·have e:b=(s.heap.push {cls:=.type "range",data:=.fields #[.int lo t,.int a u,.int 1 v]}).objs.size:=by simpa using hb
  subst e;exact d.i9 (Ze _) (d.aT.fresh (Ze _))
inductive xK(R:It->Hp->Prop)(vs:List V)(H1:Hp):Prop
 |mk(j:Int)(e0:vs=[.int j])(e1:-(2^62)<=j)(e2:j<2^62)(e3:R (mM 0 j.toNat) H1)
def P4(ta:TA):TI:=λc H R=>ta c H λb a=>xK R b a
theorem BM{a:av}{ta:TA}{p b:aC}(l:Gl X "range")(m:X.mg "range"=none)(g:PA X [a] ta)(hs:starEach [a] X.env=[(false,eval a X.env)]:=by rfl):PI X tg (.Call (.Name "range" p) [a] [] b) (P4 ta):=by
 intro k s n H R I h;refine Call_ (uq I l m boot_range (Y8 (bo (g b k s n H _ I h) λv y ⟨x,w,u,f,c⟩=>?_) hs rfl));obtain⟨j,e,c,i,q⟩:=c;subst e;cases f with
 |cons r d=>
  cases d;obtain⟨t,rfl⟩:=r;exact call_range_1 (pG u (by lia) (by lia) c i (by simpa using q))
def IY(j:TI)(g:TG)(tb:TS):TS:=λD a H=>j a H λJ e=>∃W:Nat->Nat->St->Hp->Prop,(∃m,W 0 m a e)/\∀i m a H,W i m a H ->
 (J.stop i H/\D.nx a H)\/(J.go i H/\∃N:St->Hp->Prop,(∀b c,N b c->∃d,d<m/\W (i+1) d b c)/\∀x c,J.iI i H x c->g x a c λh f=>tb {D with nx:=N,ct:=N,bk:=D.nx} h f)
def yZ(fp:List af)(h:ao):List (af×az):=fp.filterMap λb=>(h.get? b).map λo=>(b,o)
theorem zA{fp:List af}{h:ao}{b:af}{o:az}(hb:b∈fp)(e:h.get? b=some o):(b,o)∈yZ fp h:=WP.mpr ⟨b,hb,by rw[e];rfl⟩
theorem qY6{fp:List af}{h:ao}{p:af×az}(c:p∈yZ fp h):p.1∈fp/\h.get? p.1=some p.2:=by
 obtain⟨b,hb,e⟩:=WP.mp c;cases q:h.get? b with
 |none=>rw[q]at e;cases e
 |some o=>
  rw[q]at e;have a:(b,o)=p:=ZT e;subst a;exact⟨hb,q⟩
theorem Inv.pinned{a:List (af×az)}{σ:St}{H:Hp}{s:ae}{fp:List af}(I:Inv X a σ H s)(f:∀b∈fp,eQ X a H b)(k:∀b∈fp,∃o,s.heap.get? b=some o/\∀v,o.data≠.cell v):Inv X (a++yZ fp s.heap) σ H s:=
 I.m8 λp j=>(ZX.mp j).elim (λz=>I.pin p (ZN _ z)) λz=>by
  obtain⟨hb,e⟩:=qY6 z;obtain⟨h,g,i,_⟩:=f p.1 hb;obtain⟨o,c,d⟩:=k p.1 hb;rw[e]at c;cases c;exact⟨e,h,g,i,d⟩
theorem Inv.cS{a b:List (af×az)}{σ:St}{H:Hp}{s:ae}(I:Inv X (a++b) σ H s):Inv X a σ H s:=I.m8 λp c=>I.pin p (ZN _ (Xn _ c))
theorem pO{iter:av}{q:List aB}{wi:TI}{g:TG}{tb:TS}{M:aC}(E:PassesOwn (ai X.prog X.w) X.A X.env X.xe)(hc:X.calm=true)(hi:PI X tg iter wi)(hg:PG X tg g)(hb:ir X q tb)
  (hs:∀x,foldedSetIterable iter X.env x=pure x:=by intro _;rfl):PS X (.For tg iter q [] M) (IY wi g tb):=by
 intro w s Y H D I h;refine wpAny_For (bo (hi w s Y H _ I h) λv s1 h1=>bo h1 λzR s2 h2=>?_) hs;obtain⟨it,A,R,J,H2,e,I2,T,cm,S,W,⟨m0,w0⟩,y⟩:=h2;subst e;have L:∀{p:Hp},(∀b∈A,p b=none)->∀b∈A,eQ X w p b:=λhn b hb=>⟨hn b hb,(S b hb).2⟩;refine codeAny_forLoop_any (λn V=>∃i a p,Inv X w a p V/\R i V.heap/\(∀b∈A,p b=none)/\W i n a p) ?_ m0 ⟨0,Y,H2,I2,cm,λb hb=>(S b hb).1,w0⟩;rintro n Q ⟨i,B,G,U,gQ,uT,w3⟩;rcases y i n B G w3 with⟨F,qn⟩|⟨go,N,hN,step⟩
 ·refine YC E (bo (T.done X rfl rfl rfl hc i w Q B G X.xe U (L uT) gQ F) λr s4 ⟨K,I4⟩=>?_);subst K;exact Wi ⟨B,G,I4,qn⟩
 ·refine YC E (bo (T.item X rfl rfl rfl hc i w Q B G X.xe U (L uT) gQ go) λr s4 ⟨u,K,h4⟩=>?_);subst K;refine YC E (bo h4 λ_ Z ⟨x,H5,I5,r5,y5,P,Ee⟩=>?_);have Ey:=I5.pinned (L Ee) (T.obj _ _ P);refine YC E (bo (hg _ Z B H5 x u _ Ey r5 (step x H5 y5)) λ_ s6 ⟨EB,H6,I6,q6⟩=>?_);refine YC E (bo (hb _ s6 EB H6 _ I6 q6) λf O t=>?_);have j:∀{l:St}{k:Hp},Inv X (w++yZ A Z.heap) l k O->N l k->∃m,m<n/\∃i a p,Inv X w a p O/\R i O.heap/\(∀b∈A,p b=none)/\W i m a p:=λ{l k} c C=>by
   obtain⟨m',hm,w7⟩:=hN l k C;refine⟨m',hm,i+1,l,k,c.cS,T.keep _ _ _ P λb hb o e=>(c.pin (b,o) (ZN _ (ZN _ (zA hb e)))).1,λb hb=>?_,w7⟩;obtain⟨o,e,d⟩:=T.obj _ _ P b hb;exact(c.pin (b,o) (ZN _ (ZN _ (zA hb e)))).2.1
  cases f with
  |next=>obtain⟨l,k,c,C⟩:=t;exact j c C
  |cont=>obtain⟨l,k,c,C⟩:=t;exact j c C
  |brk=>obtain⟨l,k,c,t⟩:=t;exact⟨l,k,c.cS,t⟩
  |ret v=>obtain⟨x7,l,k,c,r7,t⟩:=t;exact⟨x7,l,k,c.cS,r7,t⟩
end
theorem xe4{K:PySem.W.Frag}{a:af}{xs:List V}{g:TG}{tb:TS}{D:Ends}{σ:St}{H:Hp}(Pv:Nat->St->Hp->Prop)(h0:Pv 0 σ H)(r:∀i σ H,i<=xs.length->Pv i σ H->cH K H a xs)
  (hs:∀i x σ H,xs[i]?=some x->Pv i σ H->g x σ H λf h=>tb {D with nx:=Pv (i+1),ct:=Pv (i+1),bk:=D.nx} f h) (l:∀σ H,Pv xs.length σ H->D.nx σ H):
  ∃W:Nat->Nat->St->Hp->Prop,(∃m,W 0 m σ H)/\∀i m σ H,W i m σ H ->
   ((Ak K a).stop i H/\D.nx σ H)\/((Ak K a).go i H/\∃N:St->Hp->Prop,(∀b c,N b c->∃j,j<m/\W (i+1) j b c)/\∀x c,(Ak K a).iI i H x c->g x σ c λf h=>tb {D with nx:=N,ct:=N,bk:=D.nx} f h):=by
 refine⟨λi m σ H=>m=xs.length-i/\i<=xs.length/\Pv i σ H,⟨xs.length,by simp,Zz _,h0⟩,?_⟩;rintro i m σ H ⟨rfl,k,p⟩;have q:=r i σ H k p;by_cases d:i<xs.length
 ·refine .inr ⟨⟨xs,xs[i],q,by simp[d]⟩,Pv (i+1),λb c n=>⟨xs.length-(i+1),nQ d,rfl,d,n⟩,λx c y=>?_⟩;obtain⟨e,y⟩:=y;subst e;exact hs i x σ _ (y xs q) p
 ·have e:i=xs.length:=by exact mn k d
  subst e;exact .inl ⟨⟨xs,q,Ze _⟩,l σ H p⟩
theorem Kh{K:PySem.W.Frag}{a:af}{xs:List V}{g:TG}{tb:TS}{D:Ends}{σ:St}{H:Hp}(Pv:Nat->St->Hp->Prop)(h0:Pv 0 σ H)(r:∀i σ H,i<=xs.length->Pv i σ H->aZ K H a xs)
  (hs:∀i x σ H,xs[i]?=some x->Pv i σ H->g x σ H λf h=>tb {D with nx:=Pv (i+1),ct:=Pv (i+1),bk:=D.nx} f h) (l:∀σ H,Pv xs.length σ H->D.nx σ H):
  ∃W:Nat->Nat->St->Hp->Prop,(∃m,W 0 m σ H)/\∀i m σ H,W i m σ H ->
   ((Aj K a).stop i H/\D.nx σ H)\/((Aj K a).go i H/\∃N:St->Hp->Prop,(∀b c,N b c->∃j,j<m/\W (i+1) j b c)/\∀x c,(Aj K a).iI i H x c->g x σ c λf h=>tb {D with nx:=N,ct:=N,bk:=D.nx} f h):=by
 refine⟨λi m σ H=>m=xs.length-i/\i<=xs.length/\Pv i σ H,⟨xs.length,by simp,Zz _,h0⟩,?_⟩;rintro i m σ H ⟨rfl,k,p⟩;have q:=r i σ H k p;by_cases d:i<xs.length
 ·refine .inr ⟨⟨xs,xs[i],q,by simp[d]⟩,Pv (i+1),λb c n=>⟨xs.length-(i+1),nQ d,rfl,d,n⟩,λx c y=>?_⟩;obtain⟨e,y⟩:=y;subst e;exact hs i x σ _ (y xs q) p
 ·have e:i=xs.length:=by exact mn k d
  subst e;exact .inl ⟨⟨xs,q,Ze _⟩,l σ H p⟩
theorem Tv{lo:Int}{n:Nat}{g:TG}{tb:TS}{D:Ends}{σ:St}{H:Hp}(Pv:Nat->St->Hp->Prop)(h0:Pv 0 σ H)
  (hs:∀i σ H,i<n->Pv i σ H->g (.int (lo+i)) σ H λd f=>tb {D with nx:=Pv (i+1),ct:=Pv (i+1),bk:=D.nx} d f) (j:∀σ H,Pv n σ H->D.nx σ H):
  ∃W:Nat->Nat->St->Hp->Prop,(∃m,W 0 m σ H)/\∀i m σ H,W i m σ H ->
   ((mM lo n).stop i H/\D.nx σ H)\/((mM lo n).go i H/\∃N:St->Hp->Prop,(∀a b,N a b->∃h,h<m/\W (i+1) h a b)/\∀x b,(mM lo n).iI i H x b->g x σ b λd f=>tb {D with nx:=N,ct:=N,bk:=D.nx} d f):=by
 refine⟨λi m σ H=>m=n-i/\i<=n/\Pv i σ H,⟨n,by simp,Zz _,h0⟩,?_⟩;rintro i m σ H ⟨rfl,l,p⟩;by_cases c:i<n
 ·refine .inr ⟨c,Pv (i+1),λa b k=>⟨n-(i+1),nQ c,rfl,c,k⟩,λx b y=>?_⟩;obtain⟨e,y⟩:=y;subst e y;exact hs i σ _ c p
 ·have e:i=n:=by exact mn l c
  subst e;exact .inl ⟨Ze _,j σ H p⟩
abbrev R2:=V->V->Hp->VK->Prop
def fk(X:Cx)(f:aa->aa->Sem aa)(r:R2):Prop:=
 ∀(a:List (af×az))(s:ae)(b:St)(H:Hp)(x y:V)(v u:aa)(Q:VK),Inv X a b H s->RelV x v->RelV y u->r x y H Q ->
  ag (ai X.prog X.w) X.A (f v u) (EP X a b Q) X.xe s
def NH(X:Cx)(f:aa->Sem aa)(r:V->Hp->VK->Prop):Prop:=
 ∀(a:List (af×az))(s:ae)(b:St)(H:Hp)(x:V)(v:aa)(Q:VK),Inv X a b H s->RelV x v->r x H Q ->
  ag (ai X.prog X.w) X.A (f v) (EP X a b Q) X.xe s
def fm(X:Cx)(f:aa)(r:List V->Hp->VK->Prop):Prop:=
 ∀(b:List (af×az))(s:ae)(c:St)(H:Hp)(d:List V)(a:List aa)(Q:VK),Inv X b c H s->Vals d a->r d H Q ->
  ag (ai X.prog X.w) X.A (call f a) (EP X b c Q) X.xe s
def js(r:R2)(ta tb:TE):TE:=λa H Q=>ta a H λx b=>tb a b λy c=>r x y c Q
def tUn(r:V->Hp->VK->Prop)(ta:TE):TE:=λb H Q=>ta b H λx a=>r x a Q
inductive rI_(C:Int->Int->Prop)(g:Int->Int->V)(x y:V)(H:Hp)(Q:VK):Prop
 |mk(i:_)(j:_)(e0:x=.int i)(e1:y=.int j)(e2:C i j)(e3:Q (g i j) H)
def rI(C:Int->Int->Prop)(g:Int->Int->V):R2:=λx y H Q=>rI_ C g x y H Q
inductive Jp(g:Int->Int->V)(x y:V)(H:Hp)(Q:VK):Prop
 |mk(i:_)(j:_)(e0:x=.int i)(e1:y=.int j)(e2:Q (g i j) H)
def l0(g:Int->Int->V):R2:=λx y H Q=>Jp g x y H Q
inductive rU_(g:Int->V)(x:V)(H:Hp)(Q:VK):Prop
 |mk(i:_)(e0:x=.int i)(e1:Q (g i) H)
def rU(g:Int->V):V->Hp->VK->Prop:=λx H Q=>rU_ g x H Q
section
variable{X:Cx}{a b c:av}{ta tb tc:TE}{pos:aC}
theorem yk(n:PE X a ta)(hb:PE X b tb){e:List (af×az)}{s:ae}{σ:St}{H:Hp}{R:V->V->Hp->Prop}(I:Inv X e σ H s)
  (h:ta σ H λx i=>tb σ i λy d=>R x y d){Q:aa->ae->Prop}{f:aa->aa->Sem aa}
  (m:∀v u g x y d,Inv X e σ d g->RelV x v->RelV y u->R x y d->ag (ai X.prog X.w) X.A (f v u) Q X.xe g):
  ag (ai X.prog X.w) X.A (eval a X.env) (λv j=>ag (ai X.prog X.w) X.A (eval b X.env) (λu q=>ag (ai X.prog X.w) X.A (f v u) Q X.xe q) X.xe j) X.xe s:=by
 refine bo (n e s σ H _ I h) λv t ⟨x,i,A,l,k⟩=>?_;refine bo (hb e t σ i _ A k) λu g ⟨y,d,r,w,p⟩=>?_;exact m v u g x y d r l w p
theorem aO{op:Operator}{r:R2}(f:fk X (binaryOp op) r)(e:PE X a ta)(hb:PE X b tb):PE X (.BinOp a op b pos) (js r ta tb):=by
 intro i s m H Q I h;exact wpAny_BinOp (yk e hb I h λv u j x y d k g l q=>f i j m d x y v u Q k g l q)
theorem EK{op:UnaryOp}{r:V->Hp->VK->Prop}(l:NH X (unaryOp op) r)(k:PE X a ta):PE X (.UnaryOp op a pos) (tUn r ta):=by
 intro d s e H Q I h;exact UnaryOp_ (bo (k d s e H _ I h) λv i ⟨x,g,j,m,f⟩=>l d i e g x v Q j m f)
theorem zL{f:aa->aa->Sem aa}{C:Int->Int->Prop}{g:Int->Int->Int}
  (d:∀(i j:Int)(t u:Tok)(s:ae)(Q:aa->ae->Prop)(E:aa->ae->Prop),C i j->Q (.int (g i j) s.toks) {s with toks:=s.toks+1}->ag (ai X.prog X.w) X.A (f (.int i t) (.int j u)) Q E s):
  fk X f (rI C λi j=>.int (g i j)):=by
 intro n s p H x y v u Q I l m h;obtain⟨i,j,rfl,rfl,k,q⟩:=h;obtain⟨t,rfl⟩:=l;obtain⟨e,rfl⟩:=m;exact d i j t e s _ _ k ⟨.int (g i j),H,I.tok _,⟨_,rfl⟩,q⟩
theorem sG{f:aa->aa->Sem aa}{g:Int->Int->Int}
  (d:∀(i j:Int)(t u:Tok)(s:ae)(Q:aa->ae->Prop)(E:aa->ae->Prop),Q (.int (g i j) s.toks) {s with toks:=s.toks+1}->ag (ai X.prog X.w) X.A (f (.int i t) (.int j u)) Q E s):
  fk X f (l0 λi j=>.int (g i j)):=by
 intro m s n H x y v u Q I k l h;obtain⟨i,j,rfl,rfl,q⟩:=h;obtain⟨t,rfl⟩:=k;obtain⟨e,rfl⟩:=l;exact d i j t e s _ _ ⟨.int (g i j),H,I.tok _,⟨_,rfl⟩,q⟩
theorem sH{f:aa->aa->Sem aa}{g:Int->Int->Bool}
  (d:∀(i j:Int)(t u:Tok)(s:ae)(Q:aa->ae->Prop)(E:aa->ae->Prop),Q (.bool (g i j)) s->ag (ai X.prog X.w) X.A (f (.int i t) (.int j u)) Q E s):
  fk X f (l0 λi j=>.bl (g i j)):=by
 intro m s n H x y v u Q I k l h;obtain⟨i,j,rfl,rfl,q⟩:=h;obtain⟨t,rfl⟩:=k;obtain⟨e,rfl⟩:=l;exact d i j t e s _ _ ⟨.bl (g i j),H,I,rfl,q⟩
def Oh(i j:Int):Prop:=0<j/\j<1073741824
def EA(i j:Int):Prop:=0<=j/\j<=1000000/\i.natAbs<2^64
def ua(i j:Int):Prop:=(-(2^64)<i/\i<2^64)\/(-(2^64)<j/\j<2^64)
theorem ua.ok{i j:Int}(h:ua i j):IntMulOk i j:=by
 rcases h with⟨h1,d⟩|⟨h1,d⟩
 ·exact .of_left (intBits_le_64 h1 d)
 ·exact .of_right (intBits_le_64 h1 d)
theorem qU2(k:Nat):(0:Int)<=2^k:=by
 rw[two_pow_cast];exact WQ _
theorem c7:fk X (binaryOp .Add) (l0 λi j=>.int (i+j)):=sG λ_ _ _ _ _ _ _ q=>add_int q
theorem c6:fk X (binaryOp .Sub) (l0 λi j=>.int (i-j)):=sG λ_ _ _ _ _ _ _ q=>sub_int q
theorem gJ:fk X (binaryOp .Mult) (rI ua λi j=>.int (i*j)):=zL λ_ _ _ _ _ _ _ d q=>mul_int q d.ok
theorem rq:fk X (binaryOp .FloorDiv) (rI Oh λi j=>.int (i/j)):=zL λi j _ _ _ _ _ d q=>by
 have h1:(0:Int)<j:=d.1;have e:j<1073741824:=d.2;exact floordiv_int (tj h1) (by rw[VS i (xC h1)];exact q) (.inl (W1 (by lia)))
theorem wj:fk X (binaryOp .Mod) (rI (λ_ j=>0<j) λi j=>.int (i%j)):=zL λi j _ _ _ _ _ d q=>by
 have h1:(0:Int)<j:=d;exact mod_int' (tj d) (by rw[Int.fmod_eq_emod_of_nonneg i (xC d)];exact q)
theorem xJ3:fk X (binaryOp .Pow) (rI EA λi j=>.int (i^j.toNat)):=zL λ_ _ _ _ _ _ _ d q=>pow_int_small d.1 d.2.1 d.2.2 q
theorem jl:fk X (binaryOp .LShift) (rI EA λi j=>.int (i*2^j.toNat)):=zL λ_ _ _ _ _ _ _ d q=>lshift_int_small d.1 d.2.1 d.2.2 q
theorem F_:fk X (binaryOp .RShift) (rI (λ_ j=>0<=j) λi j=>.int (i/2^j.toNat)):=zL λi j _ _ _ _ _ d q=>
 rshift_int d (by rw[VS i (qU2 _)];exact q)
theorem Cj:fk X (binaryOp .BitAnd) (l0 λi j=>.int (Builtin.bitAnd i j)):=sG λ_ _ _ _ _ _ _ q=>and_int q
theorem R5:fk X (inplaceOp .Add) (l0 λi j=>.int (i+j)):=sG λ_ _ _ _ _ _ _ q=>iadd_int q
theorem unI{f:aa->Sem aa}{g:Int->Int}
  (d:∀(i:Int)(t:Tok)(s:ae)(Q:aa->ae->Prop)(E:aa->ae->Prop),Q (.int (g i) s.toks) {s with toks:=s.toks+1}->ag (ai X.prog X.w) X.A (f (.int i t)) Q E s):
  NH X f (rU λi=>.int (g i)):=by
 intro j s k H x v Q I e h;obtain⟨i,rfl,q⟩:=h;obtain⟨t,rfl⟩:=e;exact d i t s _ _ ⟨.int (g i),H,I.tok _,⟨_,rfl⟩,q⟩
theorem FZ:NH X (unaryOp .USub) (rU λi=>.int (-i)):=unI λ_ _ _ _ _ q=>neg_int q
end
def Bg:V->V->Bool
 |.cu,.cu=>true|.cu,.int _=>true|.int _,.cu=>true|.cu,.bl _=>true|.bl _,.cu=>true|.cu,.str _=>true|.str _,.cu=>true
 |.int _,.int _=>true|.bl _,.bl _=>true|.str _,.str _=>true|.qU _,.qU _=>true
 |.int _,.str _=>true|.str _,.int _=>true|.bl _,.str _=>true|.str _,.bl _=>true
 |_,_=>false
def rEq:R2:=λx y H Q=>Bg x y=true/\Q (.bl (decide (x=y))) H
def rNe:R2:=λx y H Q=>Bg x y=true/\Q (.bl (!decide (x=y))) H
theorem R4{i j:Int}:decide (V.int i=V.int j)=(i==j):=by
 rw[Xw];simp
theorem O8{i j:Bool}:decide (V.bl i=V.bl j)=(i==j):=by
 rw[Xw];simp
theorem R3{i j:ar}:decide (V.str i=V.str j)=(i==j):=by
 rw[Xw];simp
theorem R1{i j:Array UInt8}:decide (V.qU i=V.qU j)=(i.toList==j.toList):=by
 rw[Xw];cases i;cases j;simp
section
variable{X:Cx}{a b c:av}{ta tb tc:TE}{pos:aC}
theorem eV{d:List (af×az)}{σ:St}{H:Hp}{s:ae}{Q:VK}{k f:Bool}(I:Inv X d σ H s)(q:Q (.bl k) H)(e:k=f):EP X d σ Q (.bool f) s:=by
 subst e;exact⟨.bl k,H,I,rfl,q⟩
theorem nG:fk X (compareOp .Eq) rEq:=by
 intro k s l H x y v u Q I g d h;obtain⟨f,q⟩:=h;cases x with
 |cu=>
  cases g;cases y with
  |cu=>cases d;exact PySem.EqNone.eq_none_none (eV I q (by simp))
  |bl j=>cases d;exact PySem.EqNone.eq_none_bool (eV I q (by simp))
  |int j=>obtain⟨e,rfl⟩:=d;exact PySem.EqNone.eq_none_int (eV I q (by simp))
  |str j=>obtain⟨e,rfl⟩:=d;exact PySem.EqNone.eq_none_str (eV I q (by simp))
  |_=>exact absurd (show false=true from f) Zy
 |bl i=>
  cases g;cases y with
  |cu=>cases d;exact PySem.EqNone.eq_bool_none (eV I q (by simp))
  |bl j=>cases d;exact eq_bool (eV I q O8)
  |str j=>obtain⟨e,rfl⟩:=d;exact PySem.EqMixed.eq_bool_str (eV I q (by simp))
  |_=>exact absurd (show false=true from f) Zy
 |int i=>
  obtain⟨t,rfl⟩:=g;cases y with
  |cu=>cases d;exact PySem.EqNone.eq_int_none (eV I q (by simp))
  |int j=>obtain⟨e,rfl⟩:=d;exact eq_int (eV I q R4)
  |str j=>obtain⟨e,rfl⟩:=d;exact PySem.EqMixed.eq_int_str (eV I q (by simp))
  |_=>exact absurd (show false=true from f) Zy
 |str i=>
  obtain⟨t,rfl⟩:=g;cases y with
  |cu=>cases d;exact PySem.EqNone.eq_str_none (eV I q (by simp))
  |bl j=>cases d;exact PySem.EqMixed.eq_str_bool (eV I q (by simp))
  |int j=>obtain⟨e,rfl⟩:=d;exact PySem.EqMixed.eq_str_int (eV I q (by simp))
  |str j=>obtain⟨e,rfl⟩:=d;exact eq_str (eV I q R3)
  |_=>exact absurd (show false=true from f) Zy
 |qU i=>
  obtain⟨t,rfl⟩:=g;cases y with
  |qU j=>obtain⟨e,rfl⟩:=d;exact PySem.W.eq_bytes (eV I q R1)
  |_=>exact absurd (show false=true from f) Zy
 |_=>cases y<;>exact absurd (show false=true from f) Zy
theorem BU:fk X (compareOp .NotEq) rNe:=by
 intro k s l H x y v u Q I g d h;obtain⟨f,q⟩:=h;cases x with
 |cu=>
  cases g;cases y with
  |cu=>cases d;exact PySem.EqNone.ne_none_none (eV I q (by simp))
  |bl j=>cases d;exact PySem.EqNone.ne_none_bool (eV I q (by simp))
  |int j=>obtain⟨e,rfl⟩:=d;exact PySem.EqNone.ne_none_int (eV I q (by simp))
  |str j=>obtain⟨e,rfl⟩:=d;exact PySem.EqNone.ne_none_str (eV I q (by simp))
  |_=>exact absurd (show false=true from f) Zy
 |bl i=>
  cases g;cases y with
  |cu=>cases d;exact PySem.EqNone.ne_bool_none (eV I q (by simp))
  |bl j=>cases d;exact ne_bool (eV I q (Z9 not O8))
  |str j=>obtain⟨e,rfl⟩:=d;exact PySem.EqMixed.ne_bool_str (eV I q (by simp))
  |_=>exact absurd (show false=true from f) Zy
 |int i=>
  obtain⟨t,rfl⟩:=g;cases y with
  |cu=>cases d;exact PySem.EqNone.ne_int_none (eV I q (by simp))
  |int j=>obtain⟨e,rfl⟩:=d;exact ne_int (eV I q (Z9 not R4))
  |str j=>obtain⟨e,rfl⟩:=d;exact PySem.EqMixed.ne_int_str (eV I q (by simp))
  |_=>exact absurd (show false=true from f) Zy
 |str i=>
  obtain⟨t,rfl⟩:=g;cases y with
  |cu=>cases d;exact PySem.EqNone.ne_str_none (eV I q (by simp))
  |bl j=>cases d;exact PySem.EqMixed.ne_str_bool (eV I q (by simp))
  |int j=>obtain⟨e,rfl⟩:=d;exact PySem.EqMixed.ne_str_int (eV I q (by simp))
  |str j=>obtain⟨e,rfl⟩:=d;exact ne_str (eV I q (Z9 not R3))
  |_=>exact absurd (show false=true from f) Zy
 |qU i=>
  obtain⟨t,rfl⟩:=g;cases y with
  |qU j=>obtain⟨e,rfl⟩:=d;exact PySem.W.ne_bytes (eV I q (Z9 not R1))
  |_=>exact absurd (show false=true from f) Zy
 |_=>cases y<;>exact absurd (show false=true from f) Zy
theorem iD:fk X (compareOp .Lt) (l0 λi j=>.bl (decide (i<j))):=sH λ_ _ _ _ _ _ _ q=>lt_int q
theorem om:fk X (compareOp .LtE) (l0 λi j=>.bl (decide (i<=j))):=sH λ_ _ _ _ _ _ _ q=>le_int q
theorem zG:fk X (compareOp .Gt) (l0 λi j=>.bl (decide (j<i))):=sH λ_ _ _ _ _ _ _ q=>gt_int q
theorem Ic:fk X (compareOp .GtE) (l0 λi j=>.bl (decide (j<=i))):=sH λ_ _ _ _ _ _ _ q=>ge_int q
inductive lh(x:V)(y:V)(H:Hp)(Q:VK):Prop
 |mk(i:_)(j:_)(aX:x=.str i)(dQ:y=.str j)(cA:Q (.bl (!(Builtin.Str.occurrences j i 0 j.length 1).isEmpty)) H)
theorem JE:fk X (compareOp .In) lh:=by
 intro g s k H x y v u Q I e d h;obtain⟨i,j,rfl,rfl,q⟩:=h;obtain⟨t,rfl⟩:=e;obtain⟨f,rfl⟩:=d;exact in_str (eV I q rfl)
theorem xJ4:fk X (compareOp .Is) (λx y H Q=>y=.cu/\Q (.bl (decide (x=.cu))) H):=by
 intro f s g H x y v u Q I d e h;obtain⟨rfl,q⟩:=h;cases e;refine is_none_gen (eV I q ?_);cases x<;>first
  |(cases d;rfl)
  |(obtain⟨t,rfl⟩:=d;rfl)
theorem cD(b:av){op:CmpOp}(h:op≠.In:=by decide)(d:op≠.NotIn:=by decide):behindInMarks op b=false:=by
 have f:(op==CmpOp.In)=false:=by cases op<;>first|rfl|exact absurd rfl h
 have e:(op==CmpOp.NotIn)=false:=by cases op<;>first|rfl|exact absurd rfl d
 cases b<;>simp[behindInMarks,f,e]
theorem jn{op:CmpOp}{r:R2}(f:fk X (compareOp op) r)(e:PE X a ta)(hb:PE X b tb)(m:behindInMarks op b=false):PE X (.Compare a [op] [b] pos) (js r ta tb):=by
 intro i s n H Q I h;exact wpAny_Compare1 (yk e hb I h λv u j x y d k g l q=>f i j n d x y v u Q k g l q) m
inductive vc(Q:Bool->Hp->Prop)(x:V)(H':Hp):Prop
 |mk(k:_)(e0:x=.bl k)(e1:Q k H')
def P2(t:TE):TT:=λe H Q=>t e H λx d=>vc Q x d
theorem c_{op:CmpOp}{r:R2}(q:fk X (compareOp op) r)(p:PE X a ta)(hb:PE X b tb)(E:behindInMarks op b=false):PT X (.Compare a [op] [b] pos) (P2 (js r ta tb)):=by
 intro d s f H Q I h;refine wpAny_isTrue_Compare1 (bo (p d s f H _ I h) λv D ⟨x,t,G,j,i⟩=>bo (hb d D f t _ G i) λu A ⟨y,n,C,F,w⟩=>
  bo (q d A f n x y v u _ C j F w) λc J ⟨z,l,B,m,k,e,g⟩=>?_) E
 subst e;cases m;exact Yt ⟨l,B,g⟩
inductive rK(r':R2)(tc:TE)(σ:St)(Q:VK)(y z:V)(H3:Hp):Prop
 |mk(k:_)(e0:z=.bl k)(e1:(if k=true then tc σ H3 λw' H4=>r' y w' H4 Q else Q (.bl false) H3))
def xJ6(r g:R2)(ta tb tc:TE):TE:=λd H Q=>ta d H λx e=>tb d e λy f=>r x y f λz h=>rK g tc d Q y z h
theorem Fi{op i:CmpOp}{r n:R2}(M:fk X (compareOp op) r)(F:fk X (compareOp i) n)(L:PE X a ta)(hb:PE X b tb)(hc:PE X c tc)
  (U:lastMarks [op,i] [b,c]=false:=by with_unfolding_all rfl):PE X (.Compare a [op,i] [b,c] pos) (xJ6 r n ta tb tc):=by
 intro f s g H Q I h;refine Compare_chain (bo (L f s g H _ I h) λv T ⟨x,N,V,C,A⟩=>chain_link (bo (hb f T g N _ V A) λu P ⟨y,G,R,p,O⟩=>
  bo (M f P g G x y v u _ R C p O) λd q ⟨z,l,m,E,k,e,j⟩=>?_)) U
 subst e;cases E;refine Yt ?_;cases k with
 |false=>exact ite_ff ⟨.bl false,l,m,rfl,j⟩
 |true=>exact ite_tt (chain_last (bo (hc f q g l _ m j) λK w ⟨B,S,t,J,D⟩=>F f w g S y B u K Q t p J D))
theorem yz:(sizeLine:Nat)<2^63:=by rw[Wr];decide
inductive gb(x:V)(y:V)(H:Hp)(Q:VK):Prop
 |mk(i:_)(j:_)(aX:x=.str i)(dQ:y=.str j)(cA:i.length+j.length<=sizeLine)(aU:Q (.str (i++j)) H)
theorem JK:fk X (binaryOp .Add) gb:=by
 intro k s m H x y v u Q I e g h;obtain⟨i,j,rfl,rfl,f,q⟩:=h;obtain⟨t,rfl⟩:=e;obtain⟨d,rfl⟩:=g;exact add_str (λd l=>⟨.str (i++j),H,I.tok _,⟨_,rfl⟩,q⟩) f
theorem gI{x:V}{us:List aa}(r:Vals [x] us):∃u,us=[u]/\RelV x u:=by
 cases r with
 |cons e d=>cases d;exact⟨_,rfl,e⟩
theorem Ib{x y:V}{us:List aa}(r:Vals [x,y] us):∃u d,us=[u,d]/\RelV x u/\RelV y d:=by
 cases r with
 |cons h g=>
  cases g with
  |cons e f=>cases f;exact⟨_,_,rfl,h,e⟩
inductive mL(xs:List V)(H:Hp)(Q:VK):Prop
 |mk(i:_)(aX:xs=[.int i])(dQ:Q (.int (if i<0 then -i else i)) H)
theorem BK:fm X (.builtin "abs") mL:=by
 intro e s g H j d Q I r h;obtain⟨i,rfl,q⟩:=h;obtain⟨u,rfl,t,rfl⟩:=gI r;exact call_abs_int λu f=>⟨.int (if i<0 then -i else i),H,I.tok _,⟨_,rfl⟩,q⟩
inductive lE(xs:List V)(H:Hp)(Q:VK):Prop
 |mk(i:_)(j:_)(aX:xs=[.int i,.int j])(dQ:Q (.int (if j>i then j else i)) H)
theorem m7(hc:X.calm=true):fm X (.builtin "max") lE:=by
 intro n s v H g l Q I r h;obtain⟨i,j,rfl,q⟩:=h;obtain⟨u,m,rfl,⟨t,rfl⟩,⟨e,rfl⟩⟩:=Ib r;refine max_two_ints (I.ok.hd hc) λf p k=>⟨_,H,I.kept k,?_,q⟩;by_cases d:j>i
 ·rw[Zx d,Zx d];exact⟨_,rfl⟩
 ·rw[Zl d,Zl d];exact⟨_,rfl⟩
inductive lA(xs:List V)(H:Hp)(Q:VK):Prop
 |mk(i:_)(j:_)(aX:xs=[.int i,.int j])(dQ:Q (.int (if j<i then j else i)) H)
theorem oy(hc:X.calm=true):fm X (.builtin "min") lA:=by
 intro n s v H g l Q I r h;obtain⟨i,j,rfl,q⟩:=h;obtain⟨u,m,rfl,⟨t,rfl⟩,⟨e,rfl⟩⟩:=Ib r;refine min_two_ints (I.ok.hd hc) λf p k=>⟨_,H,I.kept k,?_,q⟩;by_cases d:j<i
 ·rw[Zx d,Zx d];exact⟨_,rfl⟩
 ·rw[Zl d,Zl d];exact⟨_,rfl⟩
theorem JD:fm X (.type "int") (λd H Q=>(∃i,d=[.int i]/\Q (.int i) H)\/∃k,d=[.bl k]/\Q (.int (if k then 1 else 0)) H):=by
 intro g s j H d f Q I r h;rcases h with⟨i,rfl,q⟩|⟨k,rfl,q⟩
 ·obtain⟨u,rfl,t,rfl⟩:=gI r;exact call_int_int ⟨.int i,H,I,⟨_,rfl⟩,q⟩
 ·obtain⟨u,rfl,e⟩:=gI r;cases e;exact call_int_bool ⟨.int (if k then 1 else 0),H,I.tok _,⟨_,rfl⟩,q⟩
inductive ij(xs:List V)(H:Hp)(Q:VK):Prop
 |mk(i:_)(aX:xs=[.int i])(dQ:i.natAbs.log2<1920)(cA:Q (.str (toString i)) H)
theorem qE4:fm X (.type "str") ij:=by
 intro f s g H j e Q I r h;obtain⟨i,rfl,d,q⟩:=h;obtain⟨u,rfl,t,rfl⟩:=gI r;exact PySem.P.str_of_int d ⟨.str _,H,I.tok _,⟨_,rfl⟩,q⟩
end
structure yq(h:ao)(x dx C:af)(mA:ar->Option aa):Prop where
 obj:h.get? x=some (PySem.W.instObj C dx)
 ns:h.Ns1 dx mA
 ne:dx≠x
theorem qZ2{h:ao}{f:af}{c:ar->Option aa}(n:h.Ns1 f c):∃d,h.get? f=some d/\∀name,PySem.W.lookIn name d=some (c name):=by
 obtain⟨o,b,r,i,k,g,_,p⟩:=n;refine⟨o,i,λname=>?_⟩;have e:=p name;unfold nsFind findBy at e;rw[<- Array.find?_toList]at e;unfold PySem.W.lookIn;rw[k];dsimp only;split
 ·rename_i y q;rw[q]at e;exact Z9 some e
 ·rename_i q;rw[q]at e;have a:b.toList.any (·.refKey)=false:=by
   rw[V5];intro y m;obtain⟨z,t,j⟩:=g y (Array.mem_toList_iff.mp m);simp[DictEntry.refKey,j]
  have l:¬b.toList.any (·.refKey)=true:=by rw[a];exact Zy
  rw[Zl l];exact Z9 some e
theorem yq.look{h:ao}{x c C:af}{b:ar->Option aa}(I:yq h x c C b):∃a,PySem.W.InstAt h x (PySem.W.instObj C c) C (some a)/\∀name,PySem.W.lookIn name a=some (b name):=
 let ⟨a,ho,hl⟩:=qZ2 I.ns
 ⟨a,⟨I.obj,rfl,rfl,ho⟩,hl⟩
theorem ig.some_of{v:V}{o:Option aa}(r:ig (some v) o):∃u,o=some u/\RelV v u:=by
 cases o with
 |none=>exact(show False from r).elim
 |some u=>exact⟨u,rfl,r⟩
section
variable{H H':Hp}{h h':ao}{a C dx:af}{fs fs':List (ar×V)}
theorem xr4(g:dH P w H h)(e:H a=some (.ins C dx fs)):∃b,yq h a dx C b/\(∀f,ig (fs.lookup f) (b f))/\PySem.Within b (fs.map (·.1))/\fs.length<=1000/\H dx=some (.own a):=by
 obtain⟨d,z,c,ob,b,n,r,q⟩:=(show bh P w H h a (.ins C dx fs)from g a _ e);exact⟨b,⟨ob,n,c⟩,r,q,z,d⟩
end
structure Og(K:PySem.W.Frag)(C:af):Prop where
 pg:PySem.W.plainGet K C Str.empty=true
 hd:PySem.W.hasDictIn K C=true
 po:PySem.W.plainOver K C=true
 sa:PySem.W.findIn K (.ref C) "__setattr__"=some (some (.builtin "object.__setattr__"))
theorem Og.get{K:PySem.W.Frag}{C:af}(c:Og K C)(f:ar):PySem.W.plainGet K C f=true:=c.pg
section
variable{X:Cx}{j8:List (af×az)}{σ:St}{H:Hp}{s:ae}{A:aq}{E:aa->ae->Prop}{Q:aa->ae->Prop}{c:aa}{b:Bool}
inductive gv(K:PySem.W.Frag)(H:Hp):V->aa->Prop where
 |cu:gv K H .cu (.type "NoneType")
 |bl (x:Bool):gv K H (.bl x) (.type "bool")
 |int (i:Int):gv K H (.int i) (.type "int")
 |str (x:ar):gv K H (.str x) (.type "str")
 |Ag (x:UInt64):gv K H (.Ag x) (.type "float")
 |lst {a:af}{xs:List V}(e:H a=some (.lst xs)):gv K H (.ref a) (.type "list")
 |mE {a:af}{o:az}{xs:List V}(e:H a=some (.mE o (.lst xs))):gv K H (.ref a) (.type "list")
 |tup {a:af}{xs:List V}(e:H a=some (.tup xs)):gv K H (.ref a) (.type "tuple")
 |dK {a:af}{kvs:List (Key×V)}(e:H a=some (.dK kvs)):gv K H (.ref a) (.type "dict")
 |dT {a:af}{kvs:List (List Key×V)}(e:H a=some (.dT kvs)):gv K H (.ref a) (.type "dict")
 |ins {a C dx:af}{fs:List (ar×V)}(e:H a=some (.ins C dx fs)) (cl:Og K C) (ha:PySem.W.findIn K (.ref C) "__class__"=some (some (.builtin "object.__class__")))
   (hn:PySem.W.specialIn K (.builtin "object.__class__") "__get__"=some (some (.builtin "getset_descriptor.__get__"))) (rD:PySem.W.takesIn K (.builtin "object.__class__")=some true)
   (hm:PySem.W.mroIn K C (.type "object")=some true):gv K H (.ref a) (.ref C)
theorem qZ3{x:V}{u t:aa}(I:Inv X j8 σ H s)(f:RelV x u)(ty:gv X.K H x t)(e:PySem.W.kitOne X.K t c=some b)(h:∀B,Q (.bool b) {s with toks:=B}):
  ag (ai X.prog X.w) A (call (.builtin "isinstance") [u,c]) Q E s:=by
 cases ty with
 |cu=>cases(show u=Value.none from f);exact YO PySem.W.kitx_none I.hJ True.intro e (λz=>nomatch z) h
 |bl y=>cases(show u=Value.bool y from f);exact YO PySem.W.kitx_bool I.hJ True.intro e (λz=>nomatch z) h
 |int i=>obtain⟨t,q⟩:=(show ∃t,u=Value.int i t from f);cases q;exact YO PySem.W.kitx_int I.hJ True.intro e (λz=>nomatch z) h
 |str y=>obtain⟨t,q⟩:=(show ∃t,u=Value.str y t from f);cases q;exact YO PySem.W.kitx_str I.hJ True.intro e (λz=>nomatch z) h
 |Ag y=>obtain⟨t,q⟩:=(show ∃t,u=Value.float y t from f);cases q;exact YO PySem.W.kitx_float I.hJ True.intro e (λz=>nomatch z) h
 |@lst a j d=>
  cases(show u=Value.ref a from f);obtain⟨_,_,n,_,h1⟩:=(show bh X.prog X.w H s.heap a (.lst j)from I.aT a _ d);exact YO PySem.W.kitx_list I.hJ ⟨_,h1,rfl⟩ e (λz=>nomatch z) h
 |@mE a ob j d=>
  cases(show u=Value.ref a from f);obtain⟨_,_,_,n,_,h1⟩:=(show bh X.prog X.w H s.heap a (.mE ob (.lst j))from I.aT a _ d);exact YO PySem.W.kitx_list I.hJ ⟨_,h1,rfl⟩ e (λz=>nomatch z) h
 |@tup a j d=>
  cases(show u=Value.ref a from f);obtain⟨_,_,_,p⟩:=(show bh X.prog X.w H s.heap a (.tup j)from I.aT a _ d);obtain⟨o,h1,k,_⟩:=p;exact YO PySem.W.kitx_tuple I.hJ ⟨o,h1,k⟩ e (λz=>nomatch z) h
 |@dK a g d=>
  cases(show u=Value.ref a from f);obtain⟨_,_,M,_,p⟩:=(show bh X.prog X.w H s.heap a (.dK g)from I.aT a _ d);obtain⟨o,r,D,h1,k,_⟩:=p;exact YO PySem.W.kitx_dict I.hJ ⟨o,h1,k.1⟩ e (λz=>nomatch z) h
 |@dT a g d=>
  cases(show u=Value.ref a from f);obtain⟨_,_,j,_,o,r,D,h1,k,_⟩:=(show bh X.prog X.w H s.heap a (.dT g)from I.aT a _ d);exact YO PySem.W.kitx_dict I.hJ ⟨o,h1,k.1⟩ e (λz=>nomatch z) h
 |@ins a C K fs d l v w m F=>
  cases(show u=Value.ref a from f);obtain⟨G,O,_⟩:=xr4 I.aT d;obtain⟨L,J,_⟩:=O.look;exact YO (PySem.W.kitx_own (l.get _) l.hd v w m F) I.hJ J e (λz=>nomatch z) h
end
structure bf(k:Nat)(A:aq):Prop where
 hd:A.handled=none
 dp:A.depth+3*k+5<recursionLimit
 un:A.units+16*k+200<cLine
 gd:A.guards=some []
theorem bf.mono{j k:Nat}{A:aq}(r:bf k A)(h:j<=k):bf j A:=⟨r.hd,by have:=r.dp;lia,by have:=r.un;lia,r.gd⟩
theorem bf.deeper{k:Nat}{A:aq}(r:bf (k+1) A)(env:Env):bf k (A.deeper env):=
 ⟨r.hd,by have:=r.dp;show A.depth+1+3*k+5<_;exact Oi this,by have:=r.un;show A.units+3+16*k+200<_;exact Qc this,r.gd⟩
theorem bf.depth{k:Nat}{A:aq}(r:bf k A):A.depth<recursionLimit:=by have:=r.dp;exact Om this
theorem bf.units{k:Nat}{A:aq}(r:bf k A):A.units+64<cLine:=by have:=r.un;lia
def oR:TA:=λ_ H Q=>Q [] H
def uG(ta:TE)(tr:TA):TA:=λa H Q=>ta a H λx b=>tr a b λd c=>Q (x::d) c
section
variable{X:Cx}{e:av}{es:List av}{te:TE}{t:TA}{pos:aC}
theorem aP:PA X [] oR:=λ_ _ _ _ H Q I h=>Calls.spliced_nil ⟨[],H,I,.nil,h⟩
theorem aG(j:PE X e te)(c:PA X es t)(hs:starEach (e::es) X.env=(false,eval e X.env)::starEach es X.env:=by rfl):PA X (e::es) (uG te t):=by
 intro pos a s b H Q I h;rw[hs];show ag _ _ (spliced ((false,eval e X.env)::backTo pos (starEach es X.env))) _ _ s;refine Calls.spliced_cons (bo (j a s b H _ I h) λu n ⟨x,k,q,f,d⟩=>?_);exact bo (c pos a n b k _ q d) λr v ⟨g,i,m,p,l⟩=>⟨x::g,i,m,.cons f p,l⟩
def IT(t:TA):TE:=λc H Q=>t c H λb a=>b.length<=sizeLine/\∀p,a p=none->Q (.ref p) (upd a p (.tup b))
def IW(t:TA):TE:=λc H Q=>t c H λb a=>b.length<=sizeLine/\∀p,a p=none->Q (.ref p) (upd a p (.lst b))
theorem fo {x1} (h:PA X es t):PE X (.Tuple es x1 pos) (IT t):=by
 intro j s k H Q I f;refine wpAny_Tuple_spliced (bo (h pos j s k H _ I f) λi a ⟨l,c,d,r,z,q⟩=>⟨by rw[<- r.length];exact z,?_⟩);have g:c a.heap.objs.size=none:=d.aT.fresh (Ze _);refine⟨.ref a.heap.objs.size,upd c a.heap.objs.size (.tup l),d.laid (t':=a.toks) (λb u e=>Zb _ e) (Ze _) ?_,rfl,q _ g⟩;exact⟨z,i,r,⟨_,Zg _ rfl,rfl,⟨_,rfl⟩,rfl⟩⟩
theorem jk(h:PA X es t):PE X (.List es pos) (IW t):=by
 intro j s k H Q I f;refine wpAny_List_spliced (bo (h pos j s k H _ I f) λi a ⟨l,c,d,r,z,q⟩=>⟨by rw[<- r.length];exact z,?_⟩);have g:c a.heap.objs.size=none:=d.aT.fresh (Ze _);refine⟨.ref a.heap.objs.size,upd c a.heap.objs.size (.lst l),d.laid (t':=a.toks) (λb u e=>Zb _ e) (Ze _) ?_,rfl,q _ g⟩;exact⟨z,i,0,r,Zg _ rfl⟩
end
abbrev Sp:=List V->Hp->VK->XK->Prop
abbrev nv:=List Env->Hp->ae->XK->aa->ae->Prop
structure og(P:ah)(w:aj)(K:PySem.W.Frag)(mg:ar->Option aa)(base:ao)(A:aq)(outer:List Env)(s:ae)(H:Hp):Prop where
 frames:A.frames=some outer
 mod:Mod K mg base
 bs:∀b o,base.get? b=some o->s.heap.get? b=some o/\H b=none
 oH:base.objs.size<=s.heap.objs.size
 dP:s.heap.FunFrames base outer
 qM:∀b∈dA outer,H b=none
 aT:dH P w H s.heap
 bare:AllBare s.gens
def CE(outer:List Env)(P:ah)(w:aj)(H:Hp)(s:ae)(Q:VK)(u:aa)(s':ae):Prop:=
 ∃v a,s'.os=s.os/\AllBare s'.gens/\Un (dA outer) [] H a s.heap s'.heap/\dH P w a s'.heap/\RelV v u/\Q v a
def CR(CX:nv)(outer:List Env)(P:ah)(w:aj)(H:Hp)(s:ae)(Q:VK)(E:XK)(r:Result)(s':ae):Prop:=
 match r with
 |.ok (.ret u)=>CE outer P w H s Q u s'
 |.ok _=>False
 |.error e=>CX outer H s E e s'
structure aE(P:ah)(w:aj)(K:PySem.W.Frag)(mg:ar->Option aa)(base:ao)(CX:nv)(k:Nat)(f:af)(fd:ak)(ps:List ar)(sp:Sp):Prop where
 len:∀vs H Q E,sp vs H Q E->vs.length=ps.length
 run:∀(A:aq)(outer:List Env)(s:ae)(H:Hp)(args:Args)(us:List aa)(vs:List V)(Q:VK)(E:XK),bf k A->og P w K mg base A outer s H->BindsTo s fd args (ps.zip us)->Vals vs us->sp vs H Q E ->
  codeAny (ai P w) A (.call (.ref f) args) (CR CX outer P w H s Q E) s
section
variable{X:Cx}{j8:List (af×az)}{σ:St}{H:Hp}{s s':ae}
theorem Inv.yd(I:Inv X j8 σ H s):og X.prog X.w X.K X.mg X.base X.A X.stack s H:=
 ⟨I.ok.frames,I.ok.mod,I.bs,ZI I.ok.oH I.sz,I.stack,I.iS,I.aT,I.bare⟩
theorem Inv.after{Q:VK}{u:aa}(I:Inv X j8 σ H s)(h:CE X.stack X.prog X.w H s Q u s'):EP X j8 σ Q u s':=by
 obtain⟨v,f,j,a,un,e,r,q⟩:=h;obtain⟨c,g,d,t,i⟩:=s';obtain rfl:i=s.os:=j;exact⟨v,f,I.call (h':=c) (g':=g) (d':=d) (t':=t) (ch:=[]) un e a (λb z=>absurd z (by simp)),r,q⟩
end
def BS(sp:Sp)(b:List V)(E:XK)(t:TA):TE:=λd H Q=>t d H λc a=>sp (c++b) a Q E
def Binds(K:PySem.W.Frag)(c:ak)(ps:List ar)(b:List aa):Prop:=
 ∀(s:ae)(a:List aa),K.In s.heap->(a++b).length=ps.length->BindsTo s c ⟨a,[]⟩ (ps.zip (a++b))
theorem Binds.all{K:PySem.W.Frag}{b:ak}{ps:List ar}(h:∀a:List aa,a.length=ps.length->bindArgs b ⟨a,[]⟩=pure (ps.zip a)):Binds K b ps []:=λs a _ c=>by
 rw[Yo]at c ⊢;exact .of_eq (h a c)
def JT(CX:nv)(X:Cx)(E:XK):Prop:=∀(b:List (af×az))(c:St)(H:Hp)(s:ae)(e:aa)(a:ae),Inv X b c H s->CX X.stack H s E e a->X.xe e a
section
variable{X:Cx}{CX:nv}{k:Nat}{f C:af}{fd:ak}{ps:List ar}{sp:Sp}{mH:List V}{ds:List aa}{E:XK}{x m:ar}{p pos apos:aC}{e o:av}{es:List av}{ta:TE}{t:TA}
theorem xJ7{c:List (af×az)}{σ:St}{H:Hp}{s:ae}{Q:VK}{us:List aa}{b:List V}(F:aE X.prog X.w X.K X.mg X.base CX k f fd ps sp)(l:bf k X.A)(hb:Binds X.K fd ps ds)(j:Vals mH ds)(g:JT CX X E)
  (I:Inv X c σ H s) (r:Vals b us) (h:sp (b++mH) H Q E):ag (ai X.prog X.w) X.A (call (.ref f) us) (EP X c σ Q) X.xe s:=by
 have d:Vals (b++mH) (us++ds):=r.append j;have q:(us++ds).length=ps.length:=by rw[<- d.length];exact F.len _ _ _ _ h
 refine VT (XO (F.run X.A X.stack s H ⟨us,[]⟩ (us++ds) (b++mH) Q E l I.yd (hb s us I.hJ q) d h) λr n a=>?_);cases r with
 |error e=>exact g c σ H s e n I a
 |ok i=>
  cases i with
  |ret u=>exact I.after a
  |next=>exact False.elim a
  |brk=>exact False.elim a
  |cont=>exact False.elim a
theorem R0(F:aE X.prog X.w X.K X.mg X.base CX k f fd ps sp)(g:bf k X.A)(n:Gl X x)(w:X.mg x=some (.ref f))(b:PySem.W.keepIn X.K (.ref f)=true)(hb:Binds X.K fd ps ds)(d:Vals mH ds)(u:JT CX X E)
  (i:PA X (e::es) t) (v:(x==("__debug__":ar))=false:=by decide) (c:starEach (e::es) X.env=(false,eval e X.env)::starEach es X.env:=by rfl) (j:(backTo pos (starEach es X.env)).any (·.1)=false:=by rfl):
  PE X (.Call (.Name x p) (e::es) [] pos) (BS sp mH E t):=by
 intro l s y H Q I h;refine XD (zi I n w ?_ v);refine VU (h₀:=X.base) I.ok.mod.oz b (bo (i pos l s y H _ I h) λA G ⟨D,B,a,r,q⟩=>⟨a.hJ,?_⟩) c j;exact xJ7 F g hb d u a r q
end
structure aF(N P:List ar)(sc:aA):Prop where
 kind:sc.kind=.function
 co:sc.isCoroutine=false
 gen:sc.isGenerator=false
 nd:N.Nodup
 pre:N.take P.length=P
 par:∀x∈P,sc.names.lookup x=some .local\/sc.names.lookup x=some .cell
 pV:∀y∈sc.names,y.2≠.free
theorem Tu{a:ar->Option NameKind}{x:ar}:∀{binds:List (ar×aa)}{m:ar->Option aa},(∀v,(x,v)∉binds)->bindL a binds m x=m x
 |[],_,_=>rfl
 |(n,v)::r,m,h=>by
  unfold bindL;rw[Tu λw b=>h w (Zk _ b)];split
  ·have:x≠n:=by rintro rfl;exact h v ZE
   simp[this]
  ·rfl
theorem Tt{a:ar->Option NameKind}{x:ar}:∀{binds:List (ar×aa)}{m:ar->Option aa},(∀v,(x,v)∉binds)->bindC a binds m x=m x
 |[],_,_=>rfl
 |(n,v)::r,m,h=>by
  unfold bindC;rw[Tt λw b=>h w (Zk _ b)];split
  ·rfl
  ·have:x≠n:=by rintro rfl;exact h v ZE
   simp[this]
theorem JC{a:ar->Option NameKind}{x:ar}{v:aa}:∀{P:List ar}{b:List aa}{i:Nat}{m:ar->Option aa},P.Nodup->P[i]?=some x->b[i]?=some v->a x=some .local ->
  bindL a (P.zip b) m x=some v
 |[],_,_,_,_,h,_,_=>by simp at h
 |_::_,[],_,_,_,_,h,_=>by simp at h
 |p::P,w::b,0,m,nd,h1,c,d=>by
  simp at h1 c;subst h1;subst c;show bindL a ((p,w)::P.zip b) m p=_;unfold bindL;rw[Tu λv e=>(Y1.mp nd).1 (VA e).1,Zx d];simp
 |p::P,w::b,i+1,m,nd,h1,c,d=>by
  show bindL a ((p,w)::P.zip b) m x=_;unfold bindL;exact JC (i:=i) (Y1.mp nd).2 (by simpa using h1) (by simpa using c) d
theorem JB{a:ar->Option NameKind}{x:ar}{v:aa}:∀{P:List ar}{b:List aa}{i:Nat}{m:ar->Option aa},P.Nodup->P[i]?=some x->b[i]?=some v->a x≠some .local ->
  bindC a (P.zip b) m x=some v
 |[],_,_,_,_,h,_,_=>by simp at h
 |_::_,[],_,_,_,_,h,_=>by simp at h
 |p::P,w::b,0,m,nd,h1,c,d=>by
  simp at h1 c;subst h1;subst c;show bindC a ((p,w)::P.zip b) m p=_;unfold bindC;rw[Tt λv e=>(Y1.mp nd).1 (VA e).1,Zl d];simp
 |p::P,w::b,i+1,m,nd,h1,c,d=>by
  show bindC a ((p,w)::P.zip b) m x=_;unfold bindC;exact JB (i:=i) (Y1.mp nd).2 (by simpa using h1) (by simpa using c) d
def start(N:List ar)(a:List V):St:=a.map some++List.replicate (N.length-a.length) none
def jb(CX:nv)(P:ah)(w:aj)(K:PySem.W.Frag)(mg:ar->Option aa)(base:ao)(N:List ar)(a:ar)(scope:aA)(f:af)(b:aa)(A:aq)(outer:List Env)(s:ae)(H:Hp)(E:XK):Cx where
 prog:=P
 w:=w
 K:=K
 mg:=mg
 base:=base
 A:=A.deeper (envOfC a scope s.heap.objs.size f b)
 N:=N
 aH:=s
 aJ:=H
 env:=envOfC a scope s.heap.objs.size f b
 outer:=outer
 stack:=envOfC a scope s.heap.objs.size f b::outer
 ex:=[]
 calm:=true
 fn:=λ_=>true
 pn:=[]
 xe:=λe d=>ag (ai P w) (A.deeper (envOfC a scope s.heap.objs.size f b)) (leaving (envOfC a scope s.heap.objs.size f b) e) (λ_ c=>CX outer H s E e c) (λg c=>CX outer H s E g c) d
theorem Fh{a:aA}{n:Nat}{x:ar}(h:a.names.lookup x=some .cell):∃c,(cellsFrom n a.names []).lookup x=some c:=by
 have q:=W2 a.names n [] (.inl h);exact WF.mp q
theorem qZ7{CX:nv}{P:ah}{w:aj}{K:PySem.W.Frag}{mg:ar->Option aa}{base:ao}{N ps:List ar}{d:ar}{scope:aA}{f:af}{C:aa}{A:aq}{outer:List Env}{s L:ae}{H:Hp}{E:XK}{us:List aa}{m:List V}
  (S:aF N ps scope) (M:A.handled=none) (j:og P w K mg base A outer s H) (I:m.length=ps.length) (r:Vals m us)
  (x:InCallC s s.heap.objs.size (bindL (envOfC d scope s.heap.objs.size f C).kindOf (ps.zip us) λ_=>none) (cellsFrom (s.heap.objs.size+1) scope.names []) (bindC (envOfC d scope s.heap.objs.size f C).kindOf (ps.zip us) λ_=>none) L):
  Inv (jb CX P w K mg base N d scope f C A outer s H E) [] (start N m) H L:=by
 have Q:ps.length<=N.length:=by have:=Z9 List.length S.pre;rw[XC]at this;exact Rb this
 obtain⟨h1,U,rfl,F⟩:=x.done;have D:∀b:af,b∉(jb CX P w K mg base N d scope f C A outer s H E).ex:=λb z=>absurd (show b∈([]:List af)from z) (by simp);refine⟨⟨j.mod,S.kind,rfl,rfl,Ze _,λy z c h1 g=>?_,λy l=>?_,λy c _ h=>?_,λ_=>M,Around.frames_deeper j.frames,.inr ⟨rfl,rfl⟩,λb z=>absurd z (D b),j.bs,j.oH,λb _ _=>D b,λb z=>absurd z (D b),j.dP,j.qM⟩,
  rfl,j.bare,Un.kept F,⟨_,x.toInCall.ns,λi y v h1 g T=>?_⟩,λy c h=>⟨_,x.cell y c h⟩,j.aT.fresh (Ze _),λy c h=>?_,λp t=>absurd (show p∈([]:List (af×az))from t) (by simp),j.aT.kept F,?_⟩
 ·exact name_of_addr x.apart (Yw h1) (Yw g)
 ·have l:scope.names.lookup y=some .cell\/scope.names.lookup y=some .free:=l;rcases l with l|l
  ·exact Fh l
  ·exact absurd rfl (S.pV _ (Yw l))
 ·exact Xz (x.above y c (Yw h))
 ·have B:i<m.length:=by
   unfold start at g;by_cases B:i<m.length
   ·exact B
   ·rw[ZF (by simpa using B)]at g;rw[WV]at g;split at g<;>cases g
  have O:m[i]?=some v:=by
   unfold start at g;rw[Zw (by simpa using B),Zf]at g;cases e:m[i]? with
   |none=>rw[e]at g;cases g
   |some a=>rw[e]at g;cases g;rfl
  obtain⟨u,J,R⟩:=r.get O;have t:ps[i]?=some y:=by
   rw[<- S.pre,WG (nN B I)];exact h1
  have G:ps.Nodup:=by rw[<- S.pre];exact S.nd.sublist (List.take_sublist _ _)
  refine⟨u,R,?_⟩;rcases S.par y (Zv t)with k|k
  ·exact .inl ⟨k,JC G t J k⟩
  ·obtain⟨c,e⟩:=Fh (n:=s.heap.objs.size+1) k;refine .inr ⟨.inl k,c,e,?_⟩;have q:=x.cell y c e;rw[JB G t J (by show scope.names.lookup y≠_;rw[k];decide)]at q;exact q
 ·exact j.aT.fresh (Xz (x.above y c (Yw h)))
 ·unfold start;show _=N.length;rw[Zn,Zh,Vh];exact QE I Q
theorem P1{CX:nv}{P:ah}{w:aj}{K:PySem.W.Frag}{mg:ar->Option aa}{base:ao}{k:Nat}{f:af}{name c:ar}{d:Arguments}{g:List aB}{scope:aA}{O kV B L l ct oc:aa}{T od:Option af}
  {nL:Array (Option aa)}{N ps:List ar}{sp:Sp}(lk:K.lookup f=some ⟨oc,od,.func (PySem.W.fnOf name c d g scope O kV B L T l ct),nL⟩) (kS:PySem.W.codeIn K l c=true) (S:aF N ps scope)
  (len:∀i H Q E,sp i H Q E->i.length=ps.length)
  (k6:∀(A:aq)(a:List Env)(s:ae)(H:Hp)(i:List V)(Q:VK)(E:XK),bf k (A.deeper (envOfC c scope s.heap.objs.size f l))->sp i H Q E ->
   ∃t,ir (jb CX P w K mg base N c scope f l A a s H E) g t/\t {nx:=λ_ j=>Q .cu j,rt:=Q} (start N i) H):
  aE P w K mg base CX (k+1) f (PySem.W.fnOf name c d g scope O kV B L T l ct) ps sp:=by
 refine⟨len,λA a s H M us i Q E D C hb r U=>?_⟩;have hl:=len _ _ _ _ U;have R:K.In s.heap:=C.mod.oz.keeps λb o e=>(C.bs b o e).1;have lim:s.heap.NoLimit:=C.mod.nolimit.keeps λb o e=>(C.bs b o e).1;have jD:∀y∈ps.zip us,scope.names.lookup y.1=some .local\/(scope.names.lookup y.1=some .cell/\((cellsFrom (s.heap.objs.size+1) scope.names []).lookup y.1).isSome=true):=λ⟨n,v⟩ hy=>by
  rcases S.par n (VA hy).1 with q|q
  ·exact .inl q
  ·exact .inr ⟨q,W2 _ _ _ (.inl q)⟩
 refine codeAny_call_function D.depth (R _ _ lk) rfl S.co S.gen rfl (PySem.W.codeRec_of R kS) (hb _ _ _ _ ?_);refine wpAny_newFunctionEnv_cells S.kind jD λenv X W x=>?_;subst X;refine⟨lim.keeps x.toInCall.keep,codeAny_func ?_⟩;obtain⟨t,Y,Z⟩:=k6 A a s H i Q E (D.deeper _) U;have I:Inv (jb CX P w K mg base N c scope f l A a s H E) [] (start N i) H W:=qZ7 S D.hd C hl r x;refine Yv (Y [] W (start N i) H _ I Z) (λfl G m=>?_) λe G m=>m;have p:∀{h:St}{j:Hp}{v:V}{u:aa},Inv (jb CX P w K mg base N c scope f l A a s H E) [] h j G->RelV v u->Q v j->CE a P w H s Q u G:=
  λ{h j v u} J F q=>⟨v,j,J.os,J.bare,J.base,J.aT,F,q⟩
 cases fl with
 |ret u=>
  obtain⟨v,h,j,J,F,q⟩:=m;exact p J F q
 |next=>
  obtain⟨h,j,J,q⟩:=m;exact p (v:=V.cu) (u:=Value.none) J rfl q
 |brk=>
  obtain⟨_,_,_,q⟩:=m;exact False.elim q
 |cont=>
  obtain⟨_,_,_,q⟩:=m;exact False.elim q
section
variable{X:Cx}{x:ar}{p pos:aC}{e:av}{es:List av}{t:TA}{id T:String}{r:List V->Hp->VK->Prop}
def Ry(r:List V->Hp->VK->Prop)(t:TA):TE:=λc H Q=>t c H λb a=>r b a Q
theorem cB(hc:fm X (.builtin id) r)(n:Gl X x)(v:X.mg x=none)(w:bootBuiltins x=some (.builtin id))(i:PA X (e::es) t)(m:x ≠ "__name__":=by decide)(u:(x==("__debug__":ar))=false:=by decide)
  (c:starEach (e::es) X.env=(false,eval e X.env)::starEach es X.env:=by rfl) (j:(backTo pos (starEach es X.env)).any (·.1)=false:=by rfl):PE X (.Call (.Name x p) (e::es) [] pos) (Ry r t):=by
 intro b s a H Q I h;refine XD (uq I n v w ?_ m u);exact PyProof.Rows.callWith_builtin1 (bo (i pos b s a H _ I h) λg q ⟨l,k,y,f,d⟩=>hc b q a k l g Q y f d) c j
theorem ki(hc:fm X (.type T) r)(n:Gl X x)(v:X.mg x=none)(w:bootBuiltins x=some (.type T))(i:PA X (e::es) t)(m:x ≠ "__name__":=by decide)(u:(x==("__debug__":ar))=false:=by decide)
  (c:starEach (e::es) X.env=(false,eval e X.env)::starEach es X.env:=by rfl) (j:(backTo pos (starEach es X.env)).any (·.1)=false:=by rfl):PE X (.Call (.Name x p) (e::es) [] pos) (Ry r t):=by
 intro b s a H Q I h;refine XD (uq I n v w ?_ m u);exact Y8 (bo (i pos b s a H _ I h) λg q ⟨l,k,y,f,d⟩=>hc b q a k l g Q y f d) c j
end
end L2
namespace HT
open PySem PyProof.Rows
def dB(n d:Nat):Option Int->Nat
 |none=>d
 |some v=>if v<0 then(v+(n:Int)).toNat else min v.toNat n
theorem xJ9(n d:Nat)(b:d<=n)(o:Option Int):dB n d o<=n:=by
 cases o with
 |none=>exact b
 |some v=>
  show(if v<0 then(v+(n:Int)).toNat else min v.toNat n)<=n;by_cases a:v<0
  ·rw[Zx a];lia
  ·rw[Zl a];exact Nat.min_le_right _ _
theorem RZ(v:Int)(n d:Nat):(if v<0 then max (v+(n:Int)) 0 else min v (n:Int))=((dB n d (some v):Nat):Int):=by
 show(if v<0 then max (v+(n:Int)) 0 else min v (n:Int))=(((if v<0 then(v+(n:Int)).toNat else min v.toNat n):Nat):Int);by_cases a:v<0
 ·simp only[Zx a];lia
 ·simp only[Zl a];lia
theorem qU4(lo a:Option Int)(n:Nat):Builtin.Slice.sliceAdjust lo a 1 (n:Int)=(((dB n 0 lo:Nat):Int),((dB n n a:Nat):Int)):=by
 have h1:¬((1:Int)<0):=by lia
 unfold Builtin.Slice.sliceAdjust;simp only[h1,Z5];refine Prod.ext ?_ ?_
 ·cases lo with
  |none=>rfl
  |some v=>exact RZ v n 0
 ·cases a with
  |none=>rfl
  |some v=>exact RZ v n n
theorem qU5(i j:Nat):Builtin.Slice.slicePlaces (i:Int) (j:Int) 1=j-i:=by
 unfold Builtin.Slice.slicePlaces;have h1:(1:Int)>0:=by lia
 simp only[h1,XQ,Int.ediv_one];split<;>lia
theorem RG{v:aa}{o:Option Int}{Q:Option Int->ae->Prop}(p:IsPart v o)(h:Q o s):ag (ai prog w) A (Builtin.Slice.slicePartIndex v) Q E s:=by
 cases p with
 |none=>exact slicePart_none h
 |int i t=>exact slicePart_int h
theorem qs3{f:af}{b e:aa}{lo a:Option Int}{n:Nat}{Q:Int×Int×Nat->ae->Prop}(hs:s.heap.IsSliceOf f b e .none)(g:IsPart b lo)(i:IsPart e a)
  (h:Q (((dB n 0 lo:Nat):Int),1,dB n n a-dB n 0 lo) s):ag (ai prog w) A (Builtin.Slice.sliceApplied (.ref f) (pure (n:Int))) Q E s:=by
 obtain⟨k,d,j,c⟩:=id hs;unfold Builtin.Slice.sliceApplied Builtin.Slice.sliceFields;refine Za (Za (Yj d c (x:=b) rfl (Za (Yj d c (x:=e) rfl (Za (Yj d c (x:=.none) rfl (Zc ?_)))))));refine Za (slicePart_none ?_);show ag _ _ (if((1:Int)==0)=true then _ else _) _ _ s;rw[Zl (by decide)];refine Za (RG g (Za (RG i (Za (Zc ?_)))));show ag _ _ (match Builtin.Slice.sliceAdjust lo a 1 (n:Int)with|(lo,a)=>pure (lo,(1:Int),Builtin.Slice.slicePlaces lo a 1)) _ _ s;rw[qU4 lo a n];show ag _ _ (pure (((dB n 0 lo:Nat):Int),(1:Int),Builtin.Slice.slicePlaces ((dB n 0 lo:Nat):Int) ((dB n n a:Nat):Int) 1)) _ _ s;rw[qU5];exact Zc h
theorem xe6(xs:Array aa)(i k:Nat):((List.range k).filterMap λ(m:Nat)=>xs[((i:Int)+(m:Int)*1).toNat]?).toArray=((xs.toList.drop i).take k).toArray:=by
 have e:(λ(m:Nat)=>xs[((i:Int)+(m:Int)*1).toNat]?)=λm=>xs[i+m]?:=by
  funext m;have:((i:Int)+(m:Int)*1).toNat=i+m:=by lia
  rw[this]
 rw[e];have:=pick_run xs i k;rw[List.filterMap_map]at this;have a:((λx=>xs[x]?)∘λx=>i+x)=λm=>xs[i+m]?:=rfl;rw[a]at this;rw[this]
theorem fQ{t d:af}{items:Array aa}{f g:aa}{lo a:Option Int}{Q:aa->ae->Prop}(c:IsTup s.heap t items)(hs:s.heap.IsSliceOf d f g .none)(k:IsPart f lo)(l:IsPart g a)
  (hw:¬(dB items.size 0 lo=0/\dB items.size items.size a=items.size))
  (h:Q (.ref s.heap.objs.size) {s with heap:=s.heap.push {cls:=.type "tuple",data:=.seq ((items.toList.drop (dB items.size 0 lo)).take (dB items.size items.size a-dB items.size 0 lo)).toArray}})
  (hsz:items.size<=sizeLine):ag (ai prog w) A (getItem (.ref t) (.ref d)) Q E s:=by
 have b:sizeOk (.seq ((items.toList.drop (dB items.size 0 lo)).take (dB items.size items.size a-dB items.size 0 lo)).toArray):=by
  show((items.toList.drop (dB items.size 0 lo)).take (dB items.size items.size a-dB items.size 0 lo)).toArray.size<=sizeLine;rw[ZK,XC,List.length_drop,ZL];lia
 have r:dB items.size items.size a<=items.size:=xJ9 _ _ (Ze _) a;obtain⟨p,n,i,x⟩:=id hs;have e:s.TypeIs (.ref d) "slice":=⟨p,n,i⟩;unfold getItem
 try with_reducible refine ZP ?_
 first|refine Za (Zc ?_)|skip
 refine Za (wpAny_sequenceKey c.typeIs (by decide) ?_);refine Za (Z0 (name:=Str.ofString "__getitem__") c.typeIs X5
  (Z3 X5 c.typeIs entry_tuple_getitem ?_ (args_tuple_getitem _ _)))
 show ag _ _ (Builtin.Tuple.tupleItemsOf (.ref t) >>= _) _ _ s;refine Za (tupleItemsOf_ c ?_);refine Za (VM e ?_);rw[Zx (by decide)];refine Za (qs3 hs k l ?_);have j:¬((((dB items.size 0 lo:Nat):Int)==0&&(1:Int)==1&&(dB items.size items.size a-dB items.size 0 lo)==items.size)=true):=by
  intro q;rw[Vo,Vo]at q;have v:((dB items.size 0 lo:Nat):Int)=0:=eq_of_beq q.1.1;have u:dB items.size items.size a-dB items.size 0 lo=items.size:=eq_of_beq q.2;exact hw ⟨by lia,by lia⟩
 show ag _ _ (if(((dB items.size 0 lo:Nat):Int)==0&&(1:Int)==1&&(dB items.size items.size a-dB items.size 0 lo)==items.size)=true then _ else _) _ _ s;rw[Zl j,xe6]
 first
  |exact Za (m:=Builtin.Tuple.tupleExact _) (ZJ (Zc ⟨_,rfl,Zc h⟩) b)
  |exact Za (m:=Builtin.Tuple.tupleExact _) (ZJ (Za (Zc (Zc ⟨_,rfl,Zc h⟩))) b)
  |exact Za (Za (m:=Builtin.Tuple.tupleExact _) (ZJ (Zc (Zc ⟨_,rfl,Zc h⟩)) b))
  |exact Za (Za (m:=Builtin.Tuple.tupleExact _) (ZJ (Zc ⟨_,rfl,Zc h⟩) b))
end HT
namespace L2
open PySem PySem.Spec PyProof.Rows
abbrev TO:=St->Hp->(Option Int->Hp->Prop)->Prop
def PO(X:Cx)(e:Option av)(t:TO):Prop:=
 ∀(b:List (af×az))(s:ae)(a:St)(H:Hp)(Q:Option Int->Hp->Prop),Inv X b a H s->t a H Q ->
  ag (ai X.prog X.w) X.A (evalPart e X.env) (λu d=>∃o c,Inv X b a c d/\IsPart u o/\Q o c) X.xe s
def xr5:TO:=λ_ H Q=>Q none H
def xR3(t:TE):TO:=λb H Q=>t b H λx a=>∃i,x=.int i/\Q (some i) a
section
variable{X:Cx}{e:av}{te:TE}{lo hi:Option av}{tl th:TO}{pos p2:aC}
theorem RY:PO X none xr5:=by
 intro a s b H Q I h;rw[evalPart_none];exact Zc ⟨none,H,I,.none,h⟩
theorem UT(h:PE X e te):PO X (some e) (xR3 te):=by
 intro c s g H Q I b;rw[evalPart_some];refine bo (h c s g H _ I b) λu k ⟨x,a,d,j,f⟩=>?_;obtain⟨i,rfl,q⟩:=f;obtain⟨t,rfl⟩:=j;exact⟨some i,a,d,.int i t,q⟩
def SlR(X:Cx)(r:V->Option Int->Option Int->Hp->VK->Prop):Prop:=
 ∀(b:List (af×az))(s:ae)(d:St)(H:Hp)(x:V)(v c f:aa)(lo hi:Option Int)(a:af)(Q:VK),Inv X b d H s->RelV x v->s.heap.IsSliceOf a c f .none->IsPart c lo->IsPart f hi->r x lo hi H Q ->
  ∃T id,typeLookup (.type T) "__getitem__"=pure (some (.builtin id))/\s.TypeIs v T/\ag (ai X.prog X.w) X.A (getItem v (.ref a)) (EP X b d Q) X.xe s
def tSl(r:V->Option Int->Option Int->Hp->VK->Prop)(te:TE)(tl th:TO):TE:=λa H Q=>te a H λx b=>tl a b λl c=>th a c λu d=>r x l u d Q
theorem SM{r:V->Option Int->Option Int->Hp->VK->Prop}(n:SlR X r)(j:PE X e te)(C:PO X lo tl)(F:PO X hi th):PE X (.Subscript e (.Slice lo hi none p2) pos) (tSl r te tl th):=by
 intro c s d H Q I h;refine Subscript_ (bo (j c s d H _ I h) λv N ⟨x,E,O,y,w⟩=>?_);refine wpAny_Slice (bo (C c N d E _ O w) λf J ⟨l,A,M,m,G⟩=>bo (F c J d A _ M G) λg a ⟨u,i,L,B,p⟩=>?_);rw[evalPart_none];refine Zc ?_;have k:Inv X c d i {a with heap:=a.heap.push {cls:=.type "slice",data:=.fields #[f,g,.none]}}:=L.kept (t':=a.toks) λb ob q=>Zb _ q;obtain⟨T,id,D,t,K⟩:=n c {a with heap:=a.heap.push {cls:=.type "slice",data:=.fields #[f,g,.none]}} d i x v f g l u a.heap.objs.size Q k y (Heap.IsSliceOf.new ..) m B p;show ag (ai X.prog X.w) X.A (subscriptTail e (.Slice lo hi none p2) v (.ref a.heap.objs.size)) (EP X c d Q) X.xe {a with heap:=a.heap.push {cls:=.type "slice",data:=.fields #[f,g,.none]}};exact tail_any (ops:=[.ref a.heap.objs.size,v]) t D K (by with_unfolding_all rfl)
def tW(xs:List V)(lo hi:Option Int):List V:=(xs.drop (HT.dB xs.length 0 lo)).take (HT.dB xs.length xs.length hi-HT.dB xs.length 0 lo)
theorem qK7(xs:List V)(lo hi:Option Int):(tW xs lo hi).length<=xs.length:=by
 unfold tW;rw[XC,List.length_drop];lia
inductive Bj(K:PySem.W.Frag)(x:V)(lo hi:Option Int)(H:Hp)(Q:VK):Prop
 |mk(a:_)(xs:_)(e0:x=.ref a)(e1:aZ K H a xs)(e2:¬(HT.dB xs.length 0 lo=0/\HT.dB xs.length xs.length hi=xs.length))(e3:∀p,H p=none->Q (.ref p) (upd H p (.tup (tW xs lo hi))))
def Jn(K:PySem.W.Frag):V->Option Int->Option Int->Hp->VK->Prop:=λx lo hi H Q=>Bj K x lo hi H Q
theorem O7:SlR X (Jn X.K):=by
 intro w s A H x v t y lo hi u Q I n l i k h;obtain⟨a,c,rfl,p,m,q⟩:=h;cases n;obtain⟨j,r,f,g⟩:=I.tuple p;have d:j.toArray.size=c.length:=by rw[ZK];exact r.length.symm
 refine⟨"tuple",_,X5.lookup,f.typeIs,?_⟩;refine HT.fQ f l i k (by rw[d];exact m) ?_ (by rw[d];exact g);rw[d];refine⟨.ref s.heap.objs.size,_,I.laid (t':=s.toks) (o:=.tup (tW c lo hi)) (λb ob q=>Zb _ q) (Ze _) ?_,rfl,q _ (I.aT.fresh (Ze _))⟩;exact⟨ZI (qK7 c lo hi) g,_,(r.drop (HT.dB c.length 0 lo)).take (HT.dB c.length c.length hi-HT.dB c.length 0 lo),cQ.new _ _⟩
end
def xI(n:Nat)(i:Int):Option Nat:=if 0<=i then(if i<n then some i.toNat else none)else if -(n:Int)<=i then some (i+n).toNat else none
def qW{α:Type}(xs:List α)(i:Int):Option α:=(xI xs.length i).bind λj=>xs[j]?
theorem US{n:Nat}{i:Int}{j:Nat}(h:xI n i=some j):seqIndex? i n=some j/\j<n/\-(n:Int)<=i/\i<n:=by
 unfold xI at h;by_cases a:0<=i
 ·rw[Zx a]at h;by_cases h1:i<n
  ·rw[Zx h1]at h;have e:i.toNat=j:=ZT h;exact⟨by rw[seqIndex_of a h1,e],by lia,by lia,h1⟩
  ·rw[Zl h1]at h;cases h
 ·rw[Zl a]at h;by_cases h1:-(n:Int)<=i
  ·rw[Zx h1]at h;have e:(i+n).toNat=j:=ZT h;exact⟨by rw[seqIndex_neg (nO a) h1,e],by lia,h1,by lia⟩
  ·rw[Zl h1]at h;cases h
theorem Kg{α:Type}{xs:List α}{i:Int}{v:α}(h:qW xs i=some v):∃j,seqIndex? i xs.length=some j/\xs[j]?=some v/\j<xs.length/\-(xs.length:Int)<=i/\i<xs.length:=by
 unfold qW at h;cases e:xI xs.length i with
 |none=>rw[e]at h;cases h
 |some j=>
  rw[e]at h;obtain⟨h1,c,a,b⟩:=US e;exact⟨j,h1,h,c,a,b⟩
theorem uw{α:Type}{xs:List α}{j:Nat}{v:α}(h:xs[j]?=some v):qW xs (j:Int)=some v:=by
 have a:j<xs.length:=(cz h).1;have e:xI xs.length (j:Int)=some j:=by
  unfold xI;rw[Zx mw,Zx (by lia)];simp
 unfold qW;rw[e];exact h
def UR(b:av):Prop:=∀o i,subscripted b false o i=operate [o,i] (getItem o i)
def oK(X:Cx)(r:R2):Prop:=
 ∀(value slice:av)(a:List (af×az))(s:ae)(b:St)(H:Hp)(x y:V)(v u:aa)(Q:VK),Inv X a b H s->RelV x v->RelV y u->r x y H Q ->
  subscripted slice false v u=operate [v,u] (getItem v u)->ag (ai X.prog X.w) X.A (subscriptTail value slice v u) (EP X a b Q) X.xe s
def MtR(X:Cx)(id:String)(r:V->List V->Hp->VK->Prop):Prop:=
 ∀(b:List (af×az))(s:ae)(c:St)(H:Hp)(x:V)(d:List V)(v:aa)(a:List aa)(Q:VK),Inv X b c H s->RelV x v->Vals d a->r x d H Q ->
  ag (ai X.prog X.w) X.A (call (.builtin id) (v::a)) (EP X b c Q) X.xe s
section
variable{X:Cx}{a b:av}{ta tb:TE}{pos:aC}
theorem oK.or{r j:R2}(h:oK X r)(h':oK X j):oK X (λx y H Q=>r x y H Q\/j x y H Q):=by
 intro d c g s k H x y v u Q I i f q e;rcases q with q|q
 ·exact h d c g s k H x y v u Q I i f q e
 ·exact h' d c g s k H x y v u Q I i f q e
theorem xR4{r:R2}(c:oK X r)(e:PE X a ta)(hb:PE X b tb)(hs:UR b):PE X (.Subscript a b pos) (js r ta tb):=by
 intro g s l H Q I h;exact Subscript_ (yk e hb I h λv u i x y d j f k q=>c a b g i l d x y v u Q j f k q (hs _ _))
inductive Bn(K:PySem.W.Frag)(x y:V)(H:Hp)(Q:VK):Prop
 |mk(p:_)(xs:_)(i:_)(v:_)(e0:x=.ref p)(e1:y=.int i)(e2:cH K H p xs)(e3:qW xs i=some v)(e4:Q v H)
def wb(K:PySem.W.Frag):R2:=λx y H Q=>Bn K x y H Q
inductive Bl(K:PySem.W.Frag)(x y:V)(H:Hp)(Q:VK):Prop
 |mk(p:_)(xs:_)(i:_)(v:_)(e0:x=.ref p)(e1:y=.int i)(e2:aZ K H p xs)(e3:qW xs i=some v)(e4:Q v H)
def pH(K:PySem.W.Frag):R2:=λx y H Q=>Bl K x y H Q
inductive Bm(x y:V)(H:Hp)(Q:VK):Prop
 |mk(z:_)(i:_)(c:_)(e0:x=.str z)(e1:y=.int i)(e2:z.length<=sizeLine)(e3:qW z.cps.toList i=some c)(e4:Q (.str ⟨#[c]⟩) H)
def pI:R2:=λx y H Q=>Bm x y H Q
theorem oq:oK X (wb X.K):=by
 intro k g n s A H x y v u Q I K M h m;obtain⟨p,O,i,z,rfl,rfl,E,B,q⟩:=h;cases K;obtain⟨t,rfl⟩:=M;obtain⟨C,r,e,S⟩:=I.list E;obtain⟨j,h1,L,P,J,G⟩:=Kg B;obtain⟨w,l,D⟩:=r.get L;have F:=r.length;have R:=yz;have c:EP X n A Q w s:=⟨z,H,I,D,q⟩;by_cases d:0<=i
 ·have f:i.toNat=j:=by
   rw[seqIndex_of d G]at h1;exact ZT h1
  exact item_listR e.isList d (by lia) (by rw[f];simpa using l) c m
 ·have f:(i+(C.toArray.size:Int)).toNat=j:=by
   rw[seqIndex_neg (nO d) J]at h1;rw[ZK,<- F];exact ZT h1
  exact subscriptTail_builtinR (x:=w) e.isList.typeIs slot_list_getitem.lookup
   (wpAny_getItem_list_neg (Q:=λr N=>r=w/\EP X n A Q r N) e.isList (nO d) (by rw[ZK]<;>lia) (by lia) (by rw[f];simpa using l) ⟨rfl,c⟩) m
theorem cJ:oK X (pH X.K):=by
 intro e d g s k H x y v u Q I D F h C;obtain⟨p,K,i,z,rfl,rfl,n,l,q⟩:=h;cases D;obtain⟨t,rfl⟩:=F;obtain⟨J,r,f,P⟩:=I.tuple n;obtain⟨j,h1,E,L,N,M⟩:=Kg l;obtain⟨w,A,m⟩:=r.get E;have B:=r.length;have O:=yz;have c:EP X g k Q w s:=⟨z,H,I,m,q⟩;exact subscriptTail_builtinR (x:=w) f.typeIs slot_tuple_getitem.lookup
  (getItem_tuple (j:=j) (Q:=λr G=>r=w/\EP X g k Q r G) f (by lia) (by lia) (by rw[ZK,<- B];exact h1) (by simpa using A) ⟨rfl,c⟩) C
theorem O6:oK X pI:=by
 intro e d D s G H x y v u Q I r A h m;obtain⟨z,i,c,rfl,rfl,F,f,q⟩:=h;obtain⟨t,rfl⟩:=r;obtain⟨B,rfl⟩:=A;obtain⟨j,h1,w,C,p,n⟩:=Kg f;have k:z.cps.toList.length=z.length:=by simp[Str.length]
 rw[k]at h1 p n;have E:=yz;exact tail_any (typeIs_str s z t) slot_str_getitem.lookup (getItem_str (c:=c) (by
  have g:decide (i < -(2^63:Int))=false:=Zo (by lia);have l:decide (i>=2^63)=false:=Zo (by lia);rw[g,l,Bool.or_false]) (by rw[h1];simpa using w) ⟨.str ⟨#[c]⟩,H,I.tok _,⟨_,rfl⟩,q⟩) m
theorem qU6(c:List aa)(n j:Nat)(u:aa):Obj.mapSeq (·.setIfInBounds j u) {cls:=.type "list",data:=.seq c.toArray n}={cls:=.type "list",data:=.seq (c.set j u).toArray n}:=by
 simp[Obj.mapSeq]
theorem Inv.lst{d:List (af×az)}{σ:St}{H:Hp}{s:ae}{p:af}{xs:List V}(I:Inv X d σ H s)(h:H p=some (.lst xs)):
  ∃(c:List aa)(n:Nat),Vals xs c/\s.heap.get? p=some {cls:=.type "list",data:=.seq c.toArray n}/\xs.length<=sizeLine:=by
 obtain⟨z,c,n,r,e⟩:=I.aT p _ h;exact⟨c,n,r,e,z⟩
theorem Inv.xi{j:List (af×az)}{σ:St}{H:Hp}{s:ae}{p:af}{xs c:List V}{i its':List aa}{n d:Nat}{f:az->az}(I:Inv X j σ H s)(h:H p=some (.lst xs))
  (k:s.heap.get? p=some {cls:=.type "list",data:=.seq i.toArray n}) (g:f {cls:=.type "list",data:=.seq i.toArray n}={cls:=.type "list",data:=.seq its'.toArray d}) (r:Vals c its') (hz:c.length<=sizeLine) (t:Nat):
  Inv X j σ (upd H p (.lst c)) {s with heap:=s.heap.update p f,toks:=t}:=by
 have e:(s.heap.update p f).get? p=some {cls:=.type "list",data:=.seq its'.toArray d}:=by
  rw[ZO f k (by rw[g]<;>rfl),g]
 refine I.write (x:=p) (e:=p) (by rw[h];trivial) (.inl rfl) (λb u hb q=>(Zq _ _ (Xc hb)).trans q) ⟨_,e⟩ ?_;exact⟨hz,its',d,r,e⟩
inductive v_(o i v:V)(H:Hp)(Q:Hp->Prop):Prop
 |mk(p:_)(xs:_)(k:_)(j:_)(e0:o=.ref p)(e1:i=.int k)(e2:H p=some (.lst xs))(e3:xI xs.length k=some j)(e4:Q (upd H p (.lst (xs.set j v))))
def xR5:V->V->V->Hp->(Hp->Prop)->Prop:=λo i v H Q=>v_ o i v H Q
theorem SK:Ep X xR5:=by
 intro E s G H o i v ov J u Q I y B D h;obtain⟨p,A,k,j,rfl,rfl,w,C,q⟩:=h;cases y;obtain⟨t,rfl⟩:=B;obtain⟨g,n,r,f,F⟩:=I.lst w;obtain⟨h1,K,l,m⟩:=US C;have e:=r.length;have L:=yz;have x:Inv X E G (upd H p (.lst (A.set j v))) {s with heap:=s.heap.update p (Obj.mapSeq (·.setIfInBounds j u))}:=
  I.xi w f (qU6 g n j u) (r.set D j) (by rw[List.length_set];exact F) s.toks
 by_cases c:0<=k
 ·have d:k.toNat=j:=by
   rw[seqIndex_of c m]at h1;exact ZT h1
  exact PySem.W.ki_setAt f c (by lia) (by rw[ZK,<- e];exact m) (by rw[d];exact⟨_,x,q⟩)
 ·have d:(k+(g.toArray.size:Int)).toNat=j:=by
   rw[seqIndex_neg (nO c) l]at h1;rw[ZK,<- e];exact ZT h1
  exact PySem.W.ki_setBack f (nO c) (by rw[ZK,<- e];exact l) (by lia) (by rw[d];exact⟨_,x,q⟩)
inductive ip(K_:PySem.W.Frag)(xs:List V)(H:Hp)(Q:VK):Prop
 |mk(p:_)(ys:_)(aX:xs=[.ref p])(dQ:(cH K_ H p ys\/aZ K_ H p ys))(cA:Q (.int ys.length) H)
theorem sC:fm X (.builtin "len") (ip X.K):=by
 intro n s v H l m Q I r h;obtain⟨p,g,rfl,c,q⟩:=h;obtain⟨u,rfl,j⟩:=gI r;cases j;have t:=yz;rcases c with c|c
 ·obtain⟨i,f,d,k⟩:=I.list c;have e:=f.length;exact Calls.call_len_list d.isList (by simp only[ZK]<;>lia) ⟨.int g.length,H,I.tok _,⟨s.toks+1,by rw[ZK,e]⟩,q⟩
 ·obtain⟨i,f,d,k⟩:=I.tuple c;have e:=f.length;exact len_tuple d (by simp only[ZK]<;>lia) ⟨.int g.length,H,I.tok _,⟨s.toks+1,by rw[ZK,e]⟩,q⟩
inductive il(xs:List V)(H:Hp)(Q:VK):Prop
 |mk(z:_)(aX:xs=[.str z])(dQ:z.length<=sizeLine)(cA:Q (.int z.length) H)
theorem qE8:fm X (.builtin "len") il:=by
 intro e s f H i d Q I r h;obtain⟨z,rfl,c,q⟩:=h;obtain⟨u,rfl,t,rfl⟩:=gI r;have g:=yz;exact len_str (by lia) ⟨.int z.length,H,I.tok _,⟨_,rfl⟩,q⟩
inductive dM(K_:PySem.W.Frag)(xs:List V)(H:Hp)(Q:VK):Prop
 |mk(p:_)(ys:_)(aX:xs=[.ref p])(dQ:((cH K_ H p ys/\∀l,H l=none->Q (.ref l) (upd H l (.tup ys)))\/(aZ K_ H p ys/\Q (.ref p) H)))
theorem qB0:fm X (.type "tuple") (dM X.K):=by
 intro l s m H y A Q I r h;obtain⟨p,k,rfl,h⟩:=h;obtain⟨u,rfl,w⟩:=gI r;cases w;rcases h with⟨g,q⟩|⟨g,q⟩
 ·obtain⟨f,j,d,i⟩:=I.list g;have t:=j.length;refine call_tuple_list d.isList (λc v=>?_) (by simp only[ZK]<;>exact uK t i);have n:Inv X l m H {s with heap:=c}:=I.kept (t':=s.toks) v;have x:Inv X l m (upd H c.objs.size (.tup k)) {s with heap:=c.push {cls:=.type "tuple",data:=.seq f.toArray}}:=
   n.laid (t':=s.toks) (λb o e=>Zb _ e) (Ze _) (show bh X.prog X.w _ _ _ (.tup k)from⟨i,f,j,cQ.new _ _⟩)
  exact⟨.ref c.objs.size,_,x,rfl,q _ (n.aT.fresh (Ze _))⟩
 ·obtain⟨f,j,d,i⟩:=I.tuple g;exact call_tuple_same d ⟨.ref p,H,I,rfl,q⟩
def IM(K:PySem.W.Frag)(T:String)(x:V)(H:Hp):Prop:=match x with
 |.str _=>T="str"
 |.int _=>T="int"
 |.ref p=>(T="list" /\ ∃d,cH K H p d)\/(T="tuple" /\ ∃o,K.lookup p=some o/\o.cls=.type "tuple" /\ o.dict=none) \/
   (T="dict" /\ ((∃c,H p=some (.dK c))\/∃c,H p=some (.dT c)))\/(T="set" /\ ∃S n,H p=some (.set S n))
 |_=>False
theorem O3{m:List (af×az)}{σ:St}{H:Hp}{s:ae}{T:String}{x:V}{v:aa}(I:Inv X m σ H s)(r:RelV x v)(ty:IM X.K T x H):
  s.TypeIs v T/\∀a,v=.ref a->∃ob,s.heap.get? a=some ob/\ob.dict=none:=by
 cases x with
 |str z=>
  obtain⟨t,rfl⟩:=r;cases(show T="str"from ty);exact⟨typeIs_str s z t,λ_ e=>nomatch e⟩
 |int i=>
  obtain⟨t,rfl⟩:=r;cases(show T="int"from ty);exact⟨typeIs_int s i t,λ_ e=>nomatch e⟩
 |ref p=>
  cases r;rcases ty with⟨rfl,u,k⟩|⟨rfl,o,d,l,f⟩|⟨rfl,d⟩|⟨rfl,S,n,d⟩
  ·obtain⟨q,_,j,_⟩:=I.list k;refine⟨j.isList.typeIs,λa e=>?_⟩;cases e;obtain⟨o,n,e,c,f,_⟩:=j;exact⟨o,e,f⟩
  ·refine⟨⟨o,I.hJ p o d,l⟩,λa e=>?_⟩;cases e;exact⟨o,I.hJ _ o d,f⟩
  ·have z:∃o,s.heap.get? p=some o/\o.ExactDict:=by
    rcases d with⟨g,d⟩|⟨g,d⟩
    ·obtain⟨_,_,_,_,o,_,_,e,ex,_⟩:=I.aT p _ d;exact⟨o,e,ex⟩
    ·obtain⟨_,_,_,_,o,_,_,e,ex,_⟩:=I.aT p _ d;exact⟨o,e,ex⟩
   obtain⟨o,e,ex⟩:=z;refine⟨⟨o,e,ex.1⟩,λa h=>?_⟩;cases h;exact⟨o,e,ex.2.1⟩
  ·obtain⟨o,_,_,_,e,ex,_⟩:=I.aT p _ d;refine⟨⟨o,e,ex.1⟩,λa h=>?_⟩;cases h;exact⟨o,e,ex.2.1⟩
 |_=>exact False.elim ty
def I0(K:PySem.W.Frag)(T:String)(r:V->List V->Hp->VK->Prop)(d:TE):TE:=λe H Q=>d e H λx c=>IM K T x c/\r x [] c Q
def tBM(K:PySem.W.Frag)(T:String)(r:V->List V->Hp->VK->Prop)(f:TE)(t:TA):TE:=λd H Q=>f d H λx c=>IM K T x c/\t d c λg e=>r x g e Q
variable{o e:av}{es:List av}{to:TE}{t:TA}{name:ar}{apos eO:aC}{T id:String}{r:V->List V->Hp->VK->Prop}
theorem xK0(j:PlainAttrs T)(slot:Slot T name id)(u:typeOf (.builtin id)=pure (.type "method_descriptor"))(w:MtR X id r)(l:PE X o to)
  (n:attributeBase o name X.env (eval o X.env)=eval o X.env:=by rfl) (i:(apos.endLine==eO.line)=true:=by rfl):PE X (.Call (.Attribute o name apos) [] [] eO) (I0 X.K T r to):=by
 intro d s f H Q I h;refine wpAny_Call_method0_late n i (bo (l d s f H _ I h) λv q ⟨x,m,g,c,ty,k⟩=>?_);obtain⟨h1,p⟩:=O3 g c ty;exact⟨T,id,j,slot,u,h1,p,Calls.callWith_builtin rfl (PySem.evalArgs_none (w d q f m x [] v [] Q g c .nil k))⟩
theorem zF(j:PlainAttrs T)(slot:Slot T name id)(G:typeOf (.builtin id)=pure (.type "method_descriptor"))(J:MtR X id r)(p:PE X o to)(n:PA X (e::es) t)
  (y:attributeBase o name X.env (eval o X.env)=eval o X.env:=by rfl)
  (B:((backTo eO (starEach (e::es) X.env)).all (λx=>!x.1)&&(backToKw eO (keywordEach [] X.env)).all (λx=>x.1.isSome)
   && decide ((e::es).length+([]:List Keyword).length+(if([]:List Keyword).isEmpty then 0 else 1)<30))=true:=by rfl)
  (i:(apos.endLine==eO.line)=true:=by rfl) (hs:starEach (e::es) X.env=(false,eval e X.env)::starEach es X.env:=by rfl) (q:(backTo eO (starEach es X.env)).any (·.1)=false:=by rfl):
  PE X (.Call (.Attribute o name apos) (e::es) [] eO) (tBM X.K T r to t):=by
 intro c s d H Q I h;refine wpAny_Call_method_late y B i rfl (bo (p c s d H _ I h) λv F ⟨x,u,g,f,ty,k⟩=>?_);obtain⟨h1,C⟩:=O3 g f ty;refine⟨T,id,j,slot,G,h1,C,?_⟩;have hA:=n eO c F d u _ g k;rw[hs]at hA ⊢;refine Calls.callWith_builtin (by show(false||(backTo eO (starEach es X.env)).any (·.1))=false;rw[q]<;>rfl) (Calls.evalArgs_plain ?_);exact bo hA λl D ⟨A,m,E,K,w⟩=>J c D d m x A v l Q E f K w
end
def MtM(X:Cx)(id:String)(r:V->List V->Hp->VK->Prop):Prop:=
 ∀(b:List (af×az))(s:ae)(c:St)(H:Hp)(x:V)(d:List V)(v:aa)(a:List aa)(Q:VK),Inv X b c H s->RelV x v->Vals d a->r x d H Q ->
  ag (ai X.prog X.w) X.A (call (.builtin id) (v::a)) (EP X b c Q) X.xe s
theorem Vals.one{x:V}{us:List aa}(h:Vals [x] us):∃u,us=[u]/\RelV x u:=by
 cases h with
 |cons r t=>cases t;exact⟨_,rfl,r⟩
theorem Vals.zero:∀{a:List aa},Vals [] a->a=[]
 |_,.nil=>rfl
theorem Vals.dropLast{xs:List V}{us:List aa}(h:Vals xs us):Vals xs.dropLast us.dropLast:=by
 induction h with
 |nil=>exact .nil
 |cons r t a=>
  cases t with
  |nil=>exact .nil
  |cons q b=>exact .cons r a
theorem qU8{α:Type}(l:List α):l.eraseIdx (l.length-1)=l.dropLast:=by
 induction l with
 |nil=>rfl
 |cons a r c=>
  cases r with
  |nil=>rfl
  |cons b r=>
   have e:(a::b::r).length-1=((b::r).length-1)+1:=by
    have h1:(a::b::r).length=r.length+2:=rfl;have d:(b::r).length=r.length+1:=rfl;lia
   rw[e,List.eraseIdx_cons_succ,c]
   all_goals rfl
section
variable{X:Cx}{j8:List (af×az)}{σ:St}{H:Hp}{s:ae}{l b:af}{xs ys zs:List V}
theorem Inv.CS{a its':List aa}{n:Nat}{f:Array aa->Array aa}{t':Nat}(I:Inv X j8 σ H s)(g:H l=some (.lst xs))
  (e:s.heap.get? l=some {cls:=.type "list",data:=.seq a.toArray n}) (c:f a.toArray=its'.toArray) (h:Vals ys its') (hz:ys.length<=sizeLine):
  Inv X j8 σ (upd H l (.lst ys)) {s with heap:=s.heap.update l (Obj.mapSeq f),toks:=t'}:=by
 have q:=PySem.IsL.update e f;rw[c]at q;refine I.write (x:=l) (e:=l) (by rw[g];exact trivial) (.inl rfl) (λi u hb d=>(Zq s.heap (Obj.mapSeq f) (Xc hb)).trans d) ⟨_,q⟩ ?_;exact⟨hz,its',_,h,q⟩
theorem Inv.fresh(I:Inv X j8 σ H s):H s.heap.objs.size=none:=I.aT.fresh (Ze _)
theorem Inv.CQ(I:Inv X j8 σ H s)(c:H l=some (.lst xs)):xs.length<=sizeLine/\∃(a:List aa)(n:Nat),Vals xs a/\xs.length=a.length/\s.heap.get? l=some {cls:=.type "list",data:=.seq a.toArray n}:=by
 obtain⟨z,a,n,r,e⟩:=I.aT l _ c;exact⟨z,a,n,r,r.length,e⟩
end
section
variable{X:Cx}
inductive pJ(x:V)(vs:List V)(H:Hp)(Q:VK):Prop
 |mk(l:_)(xs:_)(y:_)(e0:x=.ref l)(e1:vs=[y])(e2:H l=some (.lst xs))(e3:xs.length<sizeLine)(e4:Q .cu (upd H l (.lst (xs++[y]))))
def xr6:V->List V->Hp->VK->Prop:=λx a H Q=>pJ x a H Q
theorem wu:MtM X "list.append" xr6:=by
 intro m s t H x p v j Q I d c h;obtain⟨l,i,y,rfl,rfl,b,g,q⟩:=h;cases d;obtain⟨u,rfl,f⟩:=c.one;obtain⟨z,a,n,r,k,e⟩:=I.CQ b;refine call_meets F.slot_list_append ⟨_,e,rfl⟩ F.entry_list_append (F.args_list_append_2 _ _) (PySem.list_append l a.toArray n u (by rw[ZK];lia)) ⟨e,?_⟩;refine⟨.cu,_,I.CS (its':=a++[u]) b e (by simp) (r.append (.cons f .nil)) ?_,rfl,q⟩;rw[Zn,List.length_singleton];exact kn g
inductive Bk(x:V)(vs:List V)(H:Hp)(Q:VK):Prop
 |mk(l:_)(xs:_)(y:_)(e0:x=.ref l)(e1:vs=[])(e2:H l=some (.lst xs))(e3:xs[xs.length-1]?=some y)(e4:Q y (upd H l (.lst xs.dropLast)))
def Jo:V->List V->Hp->VK->Prop:=λx a H Q=>Bk x a H Q
theorem xK1:MtM X "list.pop" Jo:=by
 intro w s B H x A v t Q I j g h;obtain⟨l,p,y,rfl,rfl,b,k,q⟩:=h;cases j;have f:=g.zero;subst f;obtain⟨z,a,n,r,c,e⟩:=I.CQ b;obtain⟨u,i,m⟩:=r.get k;have d:a.toArray[a.toArray.size-1]?=some u:=by
  show a.toArray[a.length-1]?=some u;rw[<- Yp,<- c];exact i
 refine call_meets F.slot_list_pop ⟨_,e,rfl⟩ F.entry_list_pop (F.args_list_pop_1 _) (MeetsSeq.list_pop_last l a.toArray n u d (by rw[ZK];exact uK c z)) ⟨e,?_⟩;refine⟨y,_,I.CS (its':=a.dropLast) b e ?_ r.dropLast ?_,m,q⟩
 ·show a.toArray.eraseIdxIfInBounds (a.toArray.size-1)=a.dropLast.toArray;rw[ZK,List.eraseIdxIfInBounds_toArray,qU8]
 ·rw[List.length_dropLast];exact p_ z
end
end L2
namespace Att
open PySem PySem.W PySem.Calls PyProof.Rows
theorem qu6{P:Params}{h:ao}:∀(c:List Int)(d:List aa),WellAll P h d (c.map WData.int)->IntsAre d c:=by
 intro c
 induction c with
 |nil=>
  intro d w;rw[VN]at w;cases w;exact .nil
 |cons n c e=>
  intro d w;rw[ZC]at w;cases w with
  |cons a b=>
   cases a;exact .cons _ _ (e _ b)
theorem q03{l:OpenLaw}{n:Nat}(x:l.most=some n){P:Params}{h:ao}{args:List WData}{c:List aa}
  (i:l.row.toRowW.claim.pre args=true) (A:WellAll P h c args):
  ∃a j b,c=[Value.ref a]/\args=[WData.list (b.map WData.int)]/\h.get? a=some {cls:=.type "list",data:=.seq j.toArray}/\IntsAre j b/\b.length<=n:=by
 have m:WShape.hasAll [] args [.list .int]=true:=(pre_splitW i).1;have g:l.pre.holds [] {args:=args}=true:=(pre_splitW i).2;obtain⟨d,r,rfl,h1,w⟩:=hasAllW_cons m;obtain rfl:=hasAllW_nil w;obtain⟨B,rfl,v⟩:=hasW_list h1;obtain⟨b,rfl⟩:=items_int v;have t:b.length<=n:=by
  unfold OpenLaw.pre at g;have f:(WTm.not (.lt (.lit (.int (n:Int))) (.len (.arg 0)))).holds [] {args:=[.list (b.map .int)]}=true:=by
   have f:=(holds_andW g).1;rw[x]at f;exact f
  have e:=condW_of f (w_not (w_lt w_lit (w_len_list (w_arg rfl))));rw[Zh]at e;refine Um λq=>?_;have p:(n:Int)<((b.length:Nat):Int):=by lia
  first
   |(rw[Zt p]at e;exact absurd e (by decide))
   |(simp at e;lia)
 cases A with
 |cons s y=>
  cases y;cases s with
  |list u k=>exact⟨_,_,b,rfl,rfl,u,qu6 b _ k,t⟩
theorem q04(l:OpenLaw)(args:List WData):l.row.toRowW.claim.post args (.bool true) args=true:=
 postW_of (r:=l.row.toRowW) (X:=(true==true))
  (show WShape.has [] (.bool true) .bool=true by first|rfl|decide|simp[WShape.has,WShape.arms,WShape.armsAll])
  (show(WTm.eq .res (.lit (.bool true))).value [] {args:=args,res:=some (.bool true),after:=args}=some (.bool (true==true))from w_eq_bool (w_res rfl) w_lit) rfl
theorem lg{l:OpenLaw}{n:Nat}{q:ah}{loose:List ar}{XP:(ar->Option aa)->ao->Prop}{YP:aj->ao->Prop}{d:DefRec}
  (O:l.most=some n) (A:d.params.defaults=[])
  (call:∀(w:aj)(s b:ae)(i t:ar->Option aa)(h:af)(o:az)(p k c:aa)(a:af)(g:List aa)(j:List Int),
   Ground q loose [] XP w s i t b.heap->YP w b.heap ->
   b.heap.get? h=some o->o.data=.func (docDef d.name d.params d.body d.scope p k c)->b.heap.CodeRec k d.name->i d.name=some (.ref h) ->
   b.heap.get? a=some {cls:=.type "list",data:=.seq g.toArray}->IntsAre g j->j.length<=n->b.gens=#[] ->
   codeAny (ai l.prog w) callerA (.call (.ref h) ⟨[.ref a],[]⟩) (λr m=>r=.ok (.ret (.bool true))/\OldK b.heap m.heap/\m.os=b.os/\AllBare m.gens) b):
  WalkO q loose XP YP l.row.toRowW d [] (λf g=>PySem.call f g):=by
 intro w s b i t G Y h o p k c C kV J B H x y R v u as D T P Q L;obtain rfl:C=.none:=Dflts.none x A;obtain rfl:kV=.none:=Dflts.noKw x;obtain⟨a,g,j,rfl,rfl,F,e,I⟩:=q03 O D Q;refine enter_call (XO (call w s b i t h o p k c a g j G Y J (fd_plain B) H y F e I R) λr m E=>?_);obtain⟨rfl,N,K,M⟩:=E;exact⟨.inl ⟨.bool true,.bool true,[],rfl,λ_=>rfl,.bool true,q04 l _,λ_=>⟨List.Pairwise.nil,λ_ S=>(nomatch S)⟩⟩,N,K,M⟩
end Att
namespace L2
open PySem PySem.Spec PyProof.Rows
theorem Ts:∀{b:List aa}{a:List Int},IntsAre b a->Vals (a.map V.int) b
 |_,_,.nil=>.nil
 |_,_,.cons n t h=>.cons ⟨t,rfl⟩ (Ts h)
def yp(H:Hp):Prop:=∀b,H b=none\/∃o a,H b=some (.mE o (.lst a))
theorem xe7{P:ah}{w:aj}{K:PySem.W.Frag}{mg I:ar->Option aa}{CX:nv}{k:Nat}{J a:af}{T:ak}{x:ar}{sp:Sp}{c:ae}{j:List aa}{t:List Int}
  (R:K.In c.heap) (C:c.heap.Ns mainGlobals mg) (hb:c.heap.Ns builtinsNs I) (G:∀x:ar,x ≠ "__name__"->I x=bootBuiltins x) (Mr:c.heap.NoLimit) (hg:c.gens=#[])
  (D:c.heap.get? a=some {cls:=.type "list",data:=.seq j.toArray}) (U:IntsAre j t) (Q:t.length<=sizeLine) (X:bf k callerA)
  (F:∀f:ao,K.In f->f.Ns mainGlobals mg->aE P w K mg f CX k J T [x] sp) (DW:∀(s:ae)(u:aa),BindsTo s T ⟨[u],[]⟩ [(x,u)])
  (vD:∀H:Hp,yp H->cH K H a (t.map V.int)->sp [.ref a] H (λv _=>v=.bl true) λ_ _ _=>False)
  (M4:∀H e g,CX [] H c (λ_ _ _=>False) e g->False):
  codeAny (ai P w) callerA (.call (.ref J) ⟨[.ref a],[]⟩) (λr g=>r=.ok (.ret (.bool true))/\OldK c.heap g.heap/\g.os=c.os/\AllBare g.gens) c:=by
 have S:=Ts U;have Ld:=U.length;have i:∀H:Hp,yp H->cH K H a (t.map V.int)->dH P w H c.heap->(∀b,H b≠none->b=a)->(H a≠none->K.lookup a=none) ->
   codeAny (ai P w) callerA (.call (.ref J) ⟨[.ref a],[]⟩) (λr g=>r=.ok (.ret (.bool true))/\OldK c.heap g.heap/\g.os=c.os/\AllBare g.gens) c:=by
  intro H M Y N hA hK;have W:∀{b:af}{o:az},c.heap.get? b=some o->H b=none->(i8 c.heap H).get? b=some o:=λe n=>xe1 e n;have sI:∀{b:af}{o:az}{p:Array DictEntry}{B:Nat},c.heap.get? b=some o->o.data=.dict p B->H b=none:=λ{b o p B} e d=>by
   cases q:H b with
   |none=>rfl
   |some u=>
    have L:b=a:=hA b (by rw[q];simp);subst L;rw[D]at e;cases e;have d':Data.seq j.toArray _=Data.dict p B:=d;cases d'
  have E:∀{b:af}{m:ar->Option aa},c.heap.Ns b m->(i8 c.heap H).Ns b m:=λ{b m} ⟨o,p,B,e,d,r⟩=>⟨o,p,B,W e (sI e d),d,r⟩;have A:K.In (i8 c.heap H):=λb o e=>W (R b o e) (by
   cases q:H b with
   |none=>rfl
   |some u=>
    have L:b=a:=hA b (by rw[q];simp);subst L;rw[hK (by rw[q];simp)]at e;cases e)
  have hM:Mod K mg (i8 c.heap H):=⟨A,E C,⟨I,E hb,G⟩,let ⟨mc,h1,h2⟩:=Mr;⟨mc,E h1,h2⟩⟩;have e0:og P w K mg (i8 c.heap H) callerA [] c H:=⟨rfl,hM,λb o e=>xr1 e,VO (qY2 _ _),trivial,λb hb=>absurd (show b∈([]:List af)from hb) (by simp),N,.of_eq hg⟩;refine XO ((F _ A (E C)).run callerA [] c H ⟨[.ref a],[]⟩ [.ref a] [.ref a] _ _ X e0 (DW c (.ref a)) (.cons rfl .nil) (vD H M Y)) λr g h=>?_;cases r with
  |error e=>exact(M4 H e g h).elim
  |ok fl=>
   cases fl with
   |next=>exact False.elim h
   |brk=>exact False.elim h
   |cont=>exact False.elim h
   |ret u=>
    obtain⟨v,H',os,y,un,Mb,r',q⟩:=h;have q':v=.bl true:=q;subst q';obtain rfl:u=Value.bool true:=r';refine⟨rfl,OldK.of_keep λb o e=>?_,os,y⟩;cases q:H b with
    |none=>exact un.keep b o e q (by intro z;exact absurd (show b∈([]:List af)from z) (by simp)) (by simp)
    |some u=>
     rcases M b with z|⟨ob,xs,z⟩
     ·rw[q]at z;cases z
     ·have Z:=un.fV b ob _ z;obtain⟨O,_⟩:=N b _ z;obtain⟨e2,_⟩:=Mb b _ Z;rw[e]at O;cases O;exact e2
 cases hk:K.lookup a with
 |some o=>
  have e:=R a o hk;rw[D]at e;cases e;refine i (λ_=>none) (λ_=>.inl rfl) (.inr ⟨_,j.toArray,_,hk,rfl,rfl,rfl,by rw[ZK,Ld];exact Q,by simpa using S⟩) (λb u z=>by have l:(none:Option HO)=some u:=z;cases l) (λb z=>absurd rfl z) λz=>absurd rfl z
 |none=>
  refine i (λb=>if b=a then some (.mE {cls:=.type "list",data:=.seq j.toArray} (.lst (t.map V.int)))else none) (λb=>?_) (.inl (.inr ⟨{cls:=.type "list",data:=.seq j.toArray},Zx rfl⟩)) (λb u z=>?_) (λb z=>?_) λ_=>hk
  ·by_cases hb:b=a
   ·exact .inr ⟨_,_,Zx hb⟩
   ·exact .inl (Zl hb)
  ·by_cases hb:b=a
   ·have l:=(Zx hb).symm.trans z;cases l;subst hb;exact⟨D,by rw[Zh];exact Q,j,_,S,D⟩
   ·have l:=(Zl hb).symm.trans z;cases l
  ·by_cases hb:b=a
   ·exact hb
   ·exact absurd (Zl hb) z
theorem xr7{l:PySem.W.OpenLaw}{n k:Nat}{q:ah}{loose:List ar}{XP:(ar->Option aa)->ao->Prop}{YP:aj->ao->Prop}{d:DefRec}{K:Params->PySem.W.Frag}{CX:aj->nv}{sp:aj->Sp}{x:ar}
  (Q:l.most=some n) (m:n<=sizeLine) (D:d.params.defaults=[]) (J:bf k callerA)
  (I:∀(w:aj)(h:ao),YP w h->(K w.params).In h)
  (F:∀(w:aj)(g:ar->Option aa)(i:af)(h:ao),(K w.params).In h->h.Ns mainGlobals g->g d.name=some (.ref i) ->
   ∃p:ak,(∀(s:ae)(u:aa),BindsTo s p ⟨[u],[]⟩ [(x,u)]) /\
    ∀b:ao,(K w.params).In b->b.Ns mainGlobals g->aE l.prog w (K w.params) g b (CX w) k i p [x] (sp w))
  (R:∀(w:aj)(H:Hp)(a:af)(j:List Int),j.length<=n->yp H->cH (K w.params) H a (j.map V.int)->sp w [.ref a] H (λv _=>v=.bl true) λ_ _ _=>False)
  (P:∀(w:aj)(H:Hp)(s:ae)(e:aa)(r:ae),CX w [] H s (λ_ _ _=>False) e r->False):
  PySem.W.WalkO q loose XP YP l.row.toRowW d [] (λf A=>PySem.call f A):=by
 refine Att.lg Q D λw U C g Z i o T cd L a A j G Y ho W X B N c t S=>?_;have y:=I w _ Y;obtain⟨p,hb,O⟩:=F w g i _ y G.T.g B;exact xe7 y G.T.g G.T.b G.T.builtins G.T.nolimit S N c (ZI t m) J O hb (λH E M=>R w H a j t E M) λH e r=>P w H C e r
abbrev aS:nv:=λ_ _ _ _ _ _=>False
abbrev E0:XK:=λ_ _ _=>False
theorem P0{X:Cx}:JT aS X E0:=λ_ _ _ _ _ _ _ h=>h.elim
structure a_(K:PySem.W.Frag)(x qual:ar)(st:aB)(f:af)(fd:ak):Prop where
 ex:∃(oc:aa)(od:Option af)(kV doc pm:aa)(an:Option af)(bO ct:aa)(nL:Array (Option aa)),
  fd=PySem.W.fnOf x qual (sj st) (ou st) (bJ st) .none kV doc pm an bO ct/\K.lookup f=some ⟨oc,od,.func fd,nL⟩/\PySem.W.codeIn K bO qual=true
 kp:PySem.W.keepIn K (.ref f)=true
theorem a_.ok{x b:ar}{st:aB}{f:af}{e:ak}{N ps:List ar}{k:Nat}{sp:Sp}(F:a_ K x b st f e)(S:aF N ps (bJ st))(len:∀c H Q E,sp c H Q E->c.length=ps.length)
  (p:∀(d:aa)(A:aq)(a:List Env)(s:ae)(H:Hp)(c:List V)(Q:VK)(E:XK),bf k (A.deeper (envOfC b (bJ st) s.heap.objs.size f d))->sp c H Q E ->
   ∃t,ir (jb aS P w K mg base N b (bJ st) f d A a s H E).km (ou st) t/\t {nx:=λ_ m=>Q .cu m,rt:=Q} (start N c) H):aE P w K mg base aS (k+1) f e ps sp:=by
 obtain⟨u,v,kV,i,r,y,d,B,C,rfl,l,j⟩:=F.ex;refine P1 l j S len λA a s H c Q E g n=>?_;obtain⟨t,h,q⟩:=p d A a s H c Q E g n;exact⟨t,h.km,q⟩
theorem a_.binds{x a:ar}{st:aB}{f:af}{j:ak}{ps:List ar}(F:a_ K x a st f j)
  (h:∀(kV b c:aa)(d:Option af)(i g:aa)(e:List aa),e.length=ps.length->bindArgs (PySem.W.fnOf x a (sj st) (ou st) (bJ st) .none kV b c d i g) ⟨e,[]⟩=pure (ps.zip e)):Binds K j ps []:=by
 obtain⟨k,m,kV,b,c,d,i,g,p,rfl,n,l⟩:=F.ex;exact .all (h kV b c d i g)
theorem O1{x a:ar}{st:aB}{f:af}{h:aa}{i e:Option af}{j:Array (Option aa)}{kV b g d ct:aa}(l:K.lookup f=some ⟨h,i,.func (PySem.W.fnOf x a (sj st) (ou st) (bJ st) .none kV b g e d ct),j⟩)
  (c:PySem.W.codeIn K d a=true) (k:PySem.W.keepIn K (.ref f)=true):a_ K x a st f (PySem.W.fnOf x a (sj st) (ou st) (bJ st) .none kV b g e d ct):=⟨⟨h,i,kV,b,g,e,d,ct,j,rfl,l,c⟩,k⟩
theorem ow{n:Nat}(h:n<=1000):n<sizeLine:=Xf h (by decide)
section
variable{X:Cx}
theorem pv(i:Nat){x:ar}{a:aC}(e:X.N[i]?=some x:=by rfl)(d:tZ X.env.scope x:=by first|exact Or.inl rfl|exact Or.inr (Or.inl rfl)|exact Or.inr (Or.inr rfl))(c:(x==("__debug__":ar))=false:=by decide)
  (b:(x==("__classdict__":ar))=false:=by decide):PE X (.Name x a) (eZ i):=xI6 e d c b
end
theorem bY{A B:Prop}(h:B):if false=true then A else B:=by
 rw[Zl Zy];exact h
theorem dw{A B:Prop}(h:A):if true=true then A else B:=by
 rw[Zx rfl];exact h
theorem cw{c A B:Prop}[Decidable c](h1:c->A)(a:¬c->B):if c then A else B:=by
 by_cases h:c
 ·rw[Zx h];exact h1 h
 ·rw[Zl h];exact a h
theorem xR6{c A B:Prop}[Decidable c](hc:c)(h:B):if(!decide c)=true then A else B:=by
 rw[Zt hc];exact bY h
def aI(H a:Hp):Prop:=∀b o,H b=some o->a b=some o
theorem aI.refl(H:Hp):aI H H:=λ_ _ h=>h
theorem aI.trans{H d e:Hp}(a:aI H d)(b:aI d e):aI H e:=λc o h=>b c o (a c o h)
theorem aI.seq{K:PySem.W.Frag}{H b:Hp}{a:af}{xs:List V}(e:aI H b)(h:cH K H a xs):cH K b a xs:=by
 rcases h with(h|⟨o,h⟩)|h
 ·exact .inl (.inl (e _ _ h))
 ·exact .inl (.inr ⟨o,e _ _ h⟩)
 ·exact .inr h
end L2
namespace L2
open PySem
theorem O0{f:St->Hp->Prop}{σ σ':St}{H:Hp}(e:σ=σ')(h:f σ' H):f σ H:=by rw[e];exact h
theorem zK{tb:TS}{k:Ends}{σ:St}{H:Hp}(h:∀a:Ends,(∀σ H,k.nx σ H->a.nx σ H)->tb a σ H):tb k σ H:=h k λ_ _ z=>z
inductive Ex2(z:Option V->Option V->St)(σ:St):Prop
 |mk(a b:Option V)(e:σ=z a b)
inductive Ex3(z:Option V->Option V->Option V->St)(σ:St):Prop
 |mk(a b c:Option V)(e:σ=z a b c)
inductive Ex8(z:Option V->Option V->Option V->Option V->Option V->Option V->Option V->Option V->St)(σ:St):Prop
 |mk(a b c d e f g h:Option V)(e:σ=z a b c d e f g h)
end L2
namespace L2
theorem Cy{α:Type}{l:List α}(h:l.length=1):∃a,l=[a]:=List.length_eq_one_iff.mp h
theorem Gw{α:Type}{l:List α}(h:l.length=2):∃a b,l=[a,b]:=by
 obtain⟨a,m,rfl⟩:=YR h;obtain⟨b,rfl⟩:=Cy (Ur h);exact⟨a,b,rfl⟩
theorem Gv{α:Type}{l:List α}(h:l.length=3):∃a b c,l=[a,b,c]:=by
 obtain⟨a,m,rfl⟩:=YR h;obtain⟨b,c,rfl⟩:=Gw (Ur h);exact⟨a,b,c,rfl⟩
theorem UX{α:Type}{l:List α}(h:l.length=4):∃a b c d,l=[a,b,c,d]:=by
 obtain⟨a,m,rfl⟩:=YR h;obtain⟨b,c,d,rfl⟩:=Gv (Ur h);exact⟨a,b,c,d,rfl⟩
theorem os5{α:Type}{l:List α}(h:l.length=5):∃a b c d e,l=[a,b,c,d,e]:=by
 obtain⟨a,m,rfl⟩:=YR h;obtain⟨b,c,d,e,rfl⟩:=UX (Ur h);exact⟨a,b,c,d,e,rfl⟩
end L2
namespace L2
open PySem PySem.Spec PyProof.Rows
section
variable{X:Cx}
theorem JJ{env:Env}:∀{names:List (ar×NameKind)}{acc:List (ar×af)},
  (∀p∈names,p.2=.free->∃c,cellOf env p.1=pure c/\env.cells.lookup p.1=some c) ->
  (∀y c,acc.lookup y=some c->env.cells.lookup y=some c) ->
  ∃b:List (ar×af),(forIn names acc λp t=>(if p.2==.free then(do let c <- cellOf env p.1;pure (ForInStep.yield ((p.1,c)::t)))else pure (ForInStep.yield t):Sem (ForInStep (List (ar×af)))))=pure b /\
   (∀y c,b.lookup y=some c->env.cells.lookup y=some c)/\(∀y,(acc.lookup y).isSome=true->(b.lookup y).isSome=true)/\∀p∈names,p.2=.free->(b.lookup p.1).isSome=true
 |[],acc,_,g=>⟨acc,by simp,g,λ_ h=>h,λ_ h=>absurd h (by simp)⟩
 |(n,k)::r,acc,s,g=>by
  by_cases j:k=.free
  ·subst j;obtain⟨c,u,v⟩:=s (n,.free) ZE rfl;obtain⟨b,h1,q,i,m⟩:=JJ (env:=env) (names:=r) (acc:=(n,c)::acc) (λp a=>s p (Zk _ a)) (λy d h=>by
    rw[YS]at h;cases e:y==n with
    |true=>rw[e]at h;cases h;rw[eq_of_beq e];exact v
    |false=>rw[e]at h;exact g y d h)
   refine⟨b,?_,q,λy e=>i y (by
    rw[YS];cases y==n with
    |true=>rfl
    |false=>exact e),λp a f=>?_⟩
   ·rw[Uw];have l:cellOf env n=pure c:=u;simp only[Uo,XQ,l,VQ];exact h1
   ·rcases Zu.mp a with rfl|a
    ·exact i _ (by simp[YS])
    ·exact m p a f
  ·obtain⟨b,h1,q,i,m⟩:=JJ (env:=env) (names:=r) (acc:=acc) (λp a=>s p (Zk _ a)) g;refine⟨b,?_,q,i,λp a f=>?_⟩
   ·rw[Uw];have:(k==NameKind.free)=false:=by simpa using j
    simp only[this,Zr,Z5,VQ];exact h1
   ·rcases Zu.mp a with rfl|a
    ·exact absurd f j
    ·exact m p a f
def EJ(h:TI)(te:TE):TE:=λf H Q=>h f H λJ c=>∀D,c D=none->∃W:Nat->Nat->List V->Hp->Prop,(∃m,W 0 m [] (upd c D (.lst []))) /\
 ∀i m b a,W i m b a->a D=some (.lst b)/\b.length<sizeLine/\((J.stop i a/\Q (.ref D) a)\/(J.go i a/\∀y g,J.iI i a y g ->
  te (some y::f) g λv e=>e D=some (.lst b)/\∃d,d<m/\W (i+1) d (b++[v]) (upd e D (.lst (b++[v])))))
theorem qu7{scope:aA}{env:Env}(d:∀p∈scope.names,p.2=.free->∃c,env.cells.lookup p.1=some c):
  ∃a:List (ar×af),closureFor scope env=pure a/\(∀y c,a.lookup y=some c->env.cells.lookup y=some c)/\∀p∈scope.names,p.2=.free->(a.lookup p.1).isSome=true:=by
 obtain⟨a,h1,i,_,f⟩:=JJ (env:=env) (names:=scope.names) (acc:=[]) (λp g b=>by
  obtain⟨c,e⟩:=d p g b;refine⟨c,?_,e⟩;unfold cellOf;rw[e]) (λy c h=>by simp at h)
 refine⟨a,?_,i,f⟩;unfold closureFor;refine Eq.trans ?_ h1;simp only[bind_pure]
theorem BR{env:Env}:∀{names:List (ar×NameKind)}{y:ar}{k:NameKind},(names.map λ(n,k)=>if(k==NameKind.free&&env.scope.kind==.function&&env.kindOf n==some .cell)then(n,NameKind.cell)else(n,k)).lookup y=some k ->
  (∀p∈names,p.2≠.cell)->(k=.cell\/k=.free)->∃p∈names,p.1=y/\p.2=.free
 |[],_,_,h,_,_=>by simp at h
 |(n,a)::r,y,k,h,f,d=>by
  rw[ZC]at h;by_cases g:y=n
  ·subst g;by_cases c:a=.free
   ·exact⟨(y,a),ZE,rfl,c⟩
   ·exfalso;have e:(a==NameKind.free)=false:=by simpa using c
    simp only[e,Wq,Zr,Z5,YS,Uo,Option.some.injEq]at h;rcases d with z|z
    ·exact f _ ZE (h.trans z)
    ·exact c (h.trans z)
  ·have hb:(y==n)=false:=by simpa using g
   have i:(r.map λ(n,k)=>if(k==NameKind.free&&env.scope.kind==.function&&env.kindOf n==some .cell)then(n,NameKind.cell)else(n,k)).lookup y=some k:=by
    revert h;dsimp only;split<;>(intro h;simpa only[YS,hb]using h)
   obtain⟨p,b,e⟩:=BR i (λp b=>f p (Zk _ b)) d;exact⟨p,Zk _ b,e⟩
theorem RQ{env:Env}:∀{names:List (ar×NameKind)}{y:ar},(names.map λ(n,k)=>if(k==NameKind.free&&env.scope.kind==.function&&env.kindOf n==some .cell)then(n,NameKind.cell)else(n,k)).lookup y=some .local ->
  names.lookup y=some .local
 |[],_,h=>by simp at h
 |(n,b)::r,y,h=>by
  rw[ZC]at h;by_cases a:y=n
  ·subst a;rw[YS,Uo];revert h;dsimp only;split
   ·intro h;simp[YS]at h
   ·intro h;simpa[YS]using h
  ·have hb:(y==n)=false:=by simpa using a
   rw[YS,hb];refine RQ (env:=env) ?_;revert h;dsimp only;split<;>(intro h;simpa only[YS,hb]using h)
end
section
variable{κ:Type}[DecidableEq κ]
def dS(kvs:List (κ×V))(k:κ):Option V:=(kvs.find? λkv=>decide (kv.1=k)).map (·.2)
def putK(kvs:List (κ×V))(k:κ)(v:V):List (κ×V):=
 if(kvs.any λkv=>decide (kv.1=k))=true then kvs.map (λkv=>if kv.1=k then(kv.1,v)else kv)else kvs++[(k,v)]
theorem Fg{p:κ×V}{r:List (κ×V)}{k:κ}(e:p.1=k):dS (p::r) k=some p.2:=by simp[dS,Wj,e]
theorem Ff{p:κ×V}{r:List (κ×V)}{k:κ}(e:¬p.1=k):dS (p::r) k=dS r k:=by simp[dS,Wj,e]
theorem BJ(k:κ):∀a:List (κ×V),(a.any λkv=>decide (kv.1=k))=(dS a k).isSome
 |[]=>rfl
 |p::r=>by
  rw[Wk];by_cases e:p.1=k
  ·simp only[Fg e,Zt e,Bool.true_or,Option.isSome_some]
  ·rw[Ff e,Zo e,Bool.false_or];exact BJ k r
theorem RK(kvs:List (κ×V))(k:κ)(v:V):(putK kvs k v).length<=kvs.length+1:=by
 unfold putK;split
 ·rw[Zh];exact jo
 ·rw[Zn,Z4,WK];lia
theorem ig.dC{o:Option V}{u:Option aa}(r:ig o u):o.isSome=u.isSome:=by
 cases o with
 |none=>cases u with
  |none=>rfl
  |some _=>exact(show False from r).elim
 |some _=>cases u with
  |none=>exact(show False from r).elim
  |some _=>rfl
theorem KV.val{kvs:List (κ×V)}{d:List (κ×aa)}(r:KV kvs d)(k:κ):ig (dS kvs k) (valueAt d k):=by
 unfold KV at r
 induction r with
 |nil=>exact True.intro
 |@cons p q i a h t g=>
  obtain⟨h1,f⟩:=h;by_cases e:p.1=k
  ·have c:q.1=k:=h1.symm.trans e;have b:valueAt (q::a) k=some q.2:=by simp[valueAt,Wj,c]
   rw[Fg e,b];exact f
  ·have c:¬q.1=k:=λz=>e (h1.trans z);have b:valueAt (q::a) k=valueAt a k:=by simp[valueAt,Wj,c]
   rw[Ff e,b];exact g
theorem KV.any{kvs:List (κ×V)}{a:List (κ×aa)}(r:KV kvs a)(k:κ):(kvs.any λkv=>decide (kv.1=k))=a.any λkv=>decide (kv.1=k):=by
 unfold KV at r
 induction r with
 |nil=>rfl
 |cons h t b=>rw[Wk,Wk,b,h.1]
theorem KV.vz{kvs:List (κ×V)}{a:List (κ×aa)}(r:KV kvs a)(k:κ){y:V}{u:aa}(c:RelV y u):
  KV (kvs.map λkv=>if kv.1=k then(kv.1,y)else kv) (a.map λkv=>if kv.1=k then(kv.1,u)else kv):=by
 unfold KV at r ⊢
 induction r with
 |nil=>exact .nil
 |@cons p q g f h t b=>
  rw[ZC,ZC];refine .cons ?_ b;obtain⟨h1,d⟩:=h;by_cases e:p.1=k
  ·rw[Zx e,Zx (h1.symm.trans e)];exact⟨h1,c⟩
  ·rw[Zl e,Zl (λz=>e (h1.trans z))];exact⟨h1,d⟩
theorem KV.put{kvs:List (κ×V)}{a:List (κ×aa)}(r:KV kvs a)(k:κ){y:V}{u:aa}(b:RelV y u):KV (putK kvs k y) (stored a k u):=by
 unfold putK stored;rw[r.any k];by_cases e:(a.any λkv=>decide (kv.1=k))=true
 ·rw[Zx e,Zx e];exact r.vz k b
 ·rw[Zl e,Zl e];exact Paired.snoc r ⟨rfl,b⟩
theorem KV.keys{kvs:List (κ×V)}{a:List (κ×aa)}(r:KV kvs a):kvs.map (·.1)=a.map (·.1):=by
 unfold KV at r
 induction r with
 |nil=>rfl
 |cons h t b=>rw[ZC,ZC,b,h.1]
theorem KV.length{kvs:List (κ×V)}{a:List (κ×aa)}(r:KV kvs a):kvs.length=a.length:=XA r
end
theorem Cv{P:ah}{w:aj}{k:Key}{u:aa}(r:RelV (kV k) u):(kg P w).is k u=true:=by
 cases k with
 |inl i=>obtain⟨t,e⟩:=(show ∃t,u=Value.int i t from r);subst e;exact qK4 P w i t
 |inr x=>obtain⟨t,e⟩:=(show ∃t,u=Value.str x t from r);subst e;exact qK5 P w x t
theorem JA{P:ah}{w:aj}:∀{a:List Key}{b:List aa},Vals (a.map kV) b->ItemsAre (kg P w) a b
 |[],_,r=>by rw[VN]at r;cases r;exact .nil
 |k::a,_,r=>by
  rw[ZC]at r;cases r with
  |cons h t=>exact .cons (Cv h) (JA t)
abbrev KT(H:Hp):List (List Key×V)->List (List Key×af×aa)->Prop:=Paired λp q=>p.1=q.1/\H q.2.1=some (.tup (p.1.map kV))/\RelV p.2 q.2.2
theorem KT.val{H:Hp}{kvs:List (List Key×V)}{xs:List (List Key×af×aa)}(r:KT H kvs xs)(k:List Key):ig (dS kvs k) ((atKey xs k).map (·.2)):=by
 induction r with
 |nil=>exact True.intro
 |@cons p q g a h t d=>
  obtain⟨h1,_,f⟩:=h;by_cases e:p.1=k
  ·have c:q.1=k:=h1.symm.trans e;have b:atKey (q::a) k=some q.2:=by simp[atKey,Wj,c]
   rw[Fg e,b];exact f
  ·have c:¬q.1=k:=λz=>e (h1.trans z);have b:atKey (q::a) k=atKey a k:=by simp[atKey,Wj,c]
   rw[Ff e,b];exact d
theorem KT.vz{H:Hp}{kvs:List (List Key×V)}{xs:List (List Key×af×aa)}(r:KT H kvs xs)(k:List Key){y:V}{u:aa}(c:RelV y u):
  KT H (kvs.map λkv=>if kv.1=k then(kv.1,y)else kv) (xs.map (putAt k u)):=by
 induction r with
 |nil=>exact .nil
 |@cons p q g f h t b=>
  rw[ZC,ZC];refine .cons ?_ b;obtain⟨h1,a,d⟩:=h;unfold putAt;by_cases e:p.1=k
  ·rw[Zx e,Zx (h1.symm.trans e)];exact⟨h1,a,c⟩
  ·rw[Zl e,Zl (λz=>e (h1.trans z))];exact⟨h1,a,d⟩
theorem KT.put{H:Hp}{kvs:List (List Key×V)}{xs:List (List Key×af×aa)}(r:KT H kvs xs)(k:List Key){b:af}{y:V}{u:aa}(hb:H b=some (.tup (k.map kV)))(a:RelV y u):
  KT H (putK kvs k y) (storedH xs k b u):=by
 have e:(kvs.any λkv=>decide (kv.1=k))=(atKey xs k).isSome:=by
  rw[BJ,(r.val k).dC,V6]
 unfold putK storedH;rw[e];by_cases q:(atKey xs k).isSome=true
 ·rw[Zx q,Zx q];exact r.vz k a
 ·rw[Zl q,Zl q];exact Paired.snoc r ⟨rfl,hb,a⟩
theorem KT.keeps{H c:Hp}{kvs:List (List Key×V)}{xs:List (List Key×af×aa)}(r:KT H kvs xs)(d:∀b a,H b=some (.tup a)->c b=some (.tup a)):KT c kvs xs:=
 Paired.xh r λ_ _ z=>⟨z.1,d _ _ z.2.1,z.2.2⟩
section
variable{H:Hp}{h:ao}{a:af}
theorem PZ{u:HO}(ok:dH P w H h)(e:Rd H a u):bh P w H h a u:=e.ok ok
theorem Cu{kvs:List (Key×V)}(ok:dH P w H h)(e:Rd H a (.dK kvs)):kvs.length<=sizeLine/\(a==sysModules)=false/\∃b,KV kvs b/\h.DictOf (kg P w) a b:=
 show bh P w H h a (.dK kvs)from PZ ok e
theorem PY{kvs:List (Key×V)}(ok:dH P w H h)(e:H a=some (.dK kvs)):kvs.length<=sizeLine/\(a==sysModules)=false/\∃b,KV kvs b/\h.DictOf (kg P w) a b:=Cu ok (.inl e)
theorem Ci{b:List Key}(ok:dH P w H h)(e:H a=some (.tup (b.map kV))):(tupleKind (kg P w)).is h b a:=by
 obtain⟨_,c,r,o,h1,f,n,d⟩:=(show bh P w H h a (.tup (b.map kV))from ok a _ e);exact⟨o,c.toArray,n,h1,f,d,by simpa using JA r⟩
theorem Ct{kvs:List (List Key×V)}(ok:dH P w H h)(e:Rd H a (.dT kvs)):kvs.length<=sizeLine/\(a==sysModules)=false /\
  ∃c,KT H kvs c/\h.DictOfH (tupleKind (kg P w)) a c:=by
 obtain⟨z,y,c,r,o,f,n,h1,k,g,j,i⟩:=(show bh P w H h a (.dT kvs)from PZ ok e);refine⟨z,y,c,r,o,f,n,h1,k,g,j,λx b=>?_,i⟩;have all:∀{l:List (List Key×V)}{m:List (List Key×af×aa)},KT H l m->∀x∈m,(tupleKind (kg P w)).is h x.1 x.2.1:=by
  intro l m q
  induction q with
  |nil=>intro x b;exact nomatch b
  |@cons p q v u d t s=>
   intro x b;rcases Zu.mp b with e|b
   ·subst e;exact Ci ok (by rw[<- d.1];exact d.2.1)
   ·exact s x b
 exact all r x b
theorem xR7{kvs:List (List Key×V)}(ok:dH P w H h)(e:H a=some (.dT kvs)):kvs.length<=sizeLine/\(a==sysModules)=false /\
  ∃b,KT H kvs b/\h.DictOfH (tupleKind (kg P w)) a b:=Ct ok (.inl e)
end
def eR(H:Hp)(a:af)(y:V)(r:Option V):Prop:=
 (∃c k,Rd H a (.dK c)/\y=kV k/\r=dS c k)\/∃c k b,Rd H a (.dT c)/\y=.ref b/\H b=some (.tup (k.map kV))/\r=dS c k
def jg(H:Hp)(a:af)(y v:V)(d:Hp):Prop:=
 (∃c k,H a=some (.dK c)/\y=kV k/\c.length<sizeLine/\d=upd H a (.dK (putK c k v))) \/
 ∃c k b,H a=some (.dT c)/\y=.ref b/\H b=some (.tup (k.map kV))/\c.length<sizeLine/\d=upd H a (.dT (putK c k v))
theorem eR.k{H:Hp}{a:af}{kvs:List (Key×V)}{k:Key}(e:H a=some (.dK kvs)):eR H a (kV k) (dS kvs k):=.inl ⟨kvs,k,.inl e,rfl,rfl⟩
theorem eR.t{H:Hp}{a b:af}{kvs:List (List Key×V)}{k:List Key}(e:H a=some (.dT kvs))(c:H b=some (.tup (k.map kV))):eR H a (.ref b) (dS kvs k):=.inr ⟨kvs,k,b,.inl e,rfl,c,rfl⟩
theorem jg.k{H:Hp}{a:af}{kvs:List (Key×V)}{k:Key}{v:V}(e:H a=some (.dK kvs))(b:kvs.length<sizeLine):jg H a (kV k) v (upd H a (.dK (putK kvs k v))):=.inl ⟨kvs,k,e,rfl,b,rfl⟩
theorem jg.t{H:Hp}{a b:af}{kvs:List (List Key×V)}{k:List Key}{v:V}(e:H a=some (.dT kvs))(c:H b=some (.tup (k.map kV)))(d:kvs.length<sizeLine):
  jg H a (.ref b) v (upd H a (.dT (putK kvs k v))):=.inr ⟨kvs,k,b,e,rfl,c,d,rfl⟩
section
variable{X:Cx}{j8:List (af×az)}{σ:St}{H:Hp}{s:ae}{a:af}{y v:V}{u r:aa}{o:Option V}{A:aq}{E:aa->ae->Prop}
theorem Inv.big(I:Inv X j8 σ H s):sysModules<s.heap.objs.size:=by
 have h:mainGlobals<s.heap.objs.size:=(I.mod.glob.keeps I.bk).lt;exact WA (by decide) h
theorem q08{Q:aa->ae->Prop}(B:A.units+1<cLine)(I:Inv X j8 σ H s)(g:eR H a y (some v))(n:RelV y u)(h:∀c q,Inv X j8 σ H q->RelV v c->Q c q):
  ag (ai X.prog X.w) A (getItem (.ref a) u) Q E s:=by
 rcases g with⟨j,k,e,f,l⟩|⟨j,k,b,e,f,t,l⟩
 ·subst f;obtain⟨z,w,D,rel,m⟩:=Cu I.aT e;obtain⟨c,i,d⟩:=ig.some_of (v:=v) (o:=valueAt D k) (by rw[l];exact rel.val k);exact wpAny_getItem_of (Cv n) m.mapOf i (h c _ (I.tok _) d)
 ·subst f;cases(show u=Value.ref b from n);obtain⟨z,w,x,rel,m⟩:=Ct I.aT e;obtain⟨c,i,d⟩:=ig.some_of (v:=v) (o:=(atKey x k).map (·.2)) (by rw[l];exact rel.val k);obtain⟨p,C,F⟩:=Zj.mp i;refine wpAny_getItem_heap (WR B) (Ci I.aT t) m C ?_;rw[F];exact h c _ (I.tok _) d
theorem Nv{Q:aa->ae->Prop}(n:A.units+1<cLine)(I:Inv X j8 σ H s)(g:eR H a y o)(j:RelV y u)(h:∀m,Inv X j8 σ H m->Q (.bool o.isSome) m):
  ag (ai X.prog X.w) A (compareOp .In u (.ref a)) Q E s:=by
 rcases g with⟨f,k,e,i,l⟩|⟨f,k,b,e,i,p,l⟩
 ·subst i;obtain⟨z,d,t,rel,c⟩:=Cu I.aT e;refine wpAny_in_of (Cv j) d c.mapOf ?_;rw[<- (rel.val k).dC,<- l];exact h _ (I.tok _)
 ·subst i;cases(show u=Value.ref b from j);obtain⟨z,d,w,rel,c⟩:=Ct I.aT e;refine wpAny_in_heap (WR n) (Ci I.aT p) d c ?_;have q:=(rel.val k).dC;rw[V6]at q;rw[<- q,<- l];exact h _ (I.tok _)
theorem xr8{Q:aa->ae->Prop}(n:A.units+1<cLine)(I:Inv X j8 σ H s)(g:eR H a y o)(j:RelV y u)(h:∀m,Inv X j8 σ H m->Q (.bool (!o.isSome)) m):
  ag (ai X.prog X.w) A (compareOp .NotIn u (.ref a)) Q E s:=by
 rcases g with⟨f,k,e,i,l⟩|⟨f,k,b,e,i,p,l⟩
 ·subst i;obtain⟨z,d,t,rel,c⟩:=Cu I.aT e;refine wpAny_notIn_of (Cv j) d c.mapOf ?_;rw[<- (rel.val k).dC,<- l];exact h _ (I.tok _)
 ·subst i;cases(show u=Value.ref b from j);obtain⟨z,d,w,rel,c⟩:=Ct I.aT e;refine wpAny_notIn_heap (WR n) (Ci I.aT p) d c ?_;have q:=(rel.val k).dC;rw[V6]at q;rw[<- q,<- l];exact h _ (I.tok _)
theorem UQ{h':ao}{t':Nat}{ob:HO}(I:Inv X j8 σ H s)(c:Et (H a))(hs:Heap.SameBut a s.heap h')(d:∃q,h'.get? a=some q)(new:bh X.prog X.w (upd H a ob) h' a ob):
  Inv X j8 σ (upd H a ob) {s with heap:=h',toks:=t'}:=
 I.write (x:=a) (e:=a) c (.inl rfl) (λb q hb z=>(hs.2 b hb).trans z) d new
theorem xK5{P:ah}{w:aj}{d:Hp}{h':ao}{kvs:List (Key×V)}{b:List (Key×aa)}(z:kvs.length<=sizeLine)(c:(a==sysModules)=false)(rel:KV kvs b)(dd:h'.DictOf (kg P w) a b):
  bh P w d h' a (.dK kvs):=⟨z,c,b,rel,dd⟩
theorem q10{F:Hp}{Q:Unit->ae->Prop}(P:A.units+1<cLine)(I:Inv X j8 σ H s)(g:jg H a y v F)(J:RelV y u)(D:RelV v r)(h:∀K,Inv X j8 σ F K->Q () K):
  ag (ai X.prog X.w) A (setItem (.ref a) u r) Q E s:=by
 rcases g with⟨d,k,e,m,l,x⟩|⟨d,k,b,e,m,C,l,x⟩
 ·subst m x;obtain⟨z,j,T,rel,t⟩:=PY I.aT e;have w:T.length<=sizeLine:=by rw[<- rel.length];exact z
  have n:(putK d k v).length<=sizeLine:=by have:=RK d k v;exact CU l this
  refine wpAny_setItem_pairs (hsz:=w) (Cv J) t λB i p=>h _ ?_;have L:∃q,B.get? a=some q:=let ⟨q,_,_,f,_⟩:=i;⟨q,f⟩;exact UQ I (by rw[e];exact True.intro) p L (xK5 n j (rel.put k D) i)
 ·subst m x;cases(show u=Value.ref b from J);obtain⟨z,j,M,rel,t⟩:=xR7 I.aT e;have w:M.length<=sizeLine:=by rw[<- XA rel];exact z
  have n:(putK d k v).length<=sizeLine:=by have:=RK d k v;exact CU l this
  refine wpAny_setItem_heap (hsz:=w) (WR P) (Ci I.aT C) t λB i p=>h _ ?_;obtain⟨q,N,V,f,U,O,S,_,R⟩:=i;refine UQ I (by rw[e];exact True.intro) p ⟨q,f⟩ ⟨n,j,_,(rel.put k C D).keeps λc W G=>?_,q,N,V,f,U,O,S,R⟩;rw[cN (xQ7 G e (λz=>nomatch z))];exact G
end
def Es(i:av):Prop:=∀ov a,subscripted i false ov a=operate [ov,a] (getItem ov a)
theorem xr9{prog:ah}{w:aj}{A:aq}{E:aa->ae->Prop}{s:ae}{env:Env}{b a:av}{f:aC}{T id:String}{Q:aa->ae->Prop}
  (n:typeLookup (.type T) "__getitem__"=pure (some (.builtin id))) (hs:Es a)
  (h:ag (ai prog w) A (eval b env) (λo g=>ag (ai prog w) A (eval a env) (λi d=>d.TypeIs o T/\ag (ai prog w) A (getItem o i) Q E d) E g) E s):
  ag (ai prog w) A (eval (.Subscript b a f) env) Q E s:=by
 refine Subscript_ (Yv h (λo g l=>Yv l (λi d e=>?_) λ_ _ x=>x) λ_ _ x=>x);obtain⟨j,e⟩:=e;unfold subscriptTail;refine Za ?_;rw[getitemInPython_of_ne j.not_modules];refine Za (VB j n ?_);have c:ag (ai prog w) A (subscripted a false o i) (λr k=>ag (ai prog w) A (letTemporaryGo b o r >>= λ_=>pure r) Q E k) E d:=by
  rw[hs o i];exact wpAny_operating (Yv e (λr k m=>Za (wpAny_letTemporaryGo (Zc m))) λ_ _ x=>x)
 first
  |exact Zc (Za c)
  |exact Za (Zc (Za c))
  |exact Za c
theorem qK9{X:Cx}{f:List (af×az)}{σ:St}{H:Hp}{s:ae}{a:af}{y:V}{o:Option V}(I:Inv X f σ H s)(g:eR H a y o):s.TypeIs (.ref a) "dict":=by
 rcases g with⟨d,k,e,_,_⟩|⟨d,k,b,e,_,_,_⟩
 ·obtain⟨_,_,h,_,c⟩:=Cu I.aT e;exact c.typeIs
 ·obtain⟨_,_,i,_,c⟩:=Ct I.aT e;exact c.typeIs
inductive ve(Q:VK)(x y:V)(H2:Hp):Prop
 |mk(a:_)(v:_)(e0:x=.ref a)(e1:eR H2 a y (some v))(e2:Q v H2)
def xR8(d ty:TE):TE:=λa H Q=>d a H λx b=>ty a b λy c=>ve Q x y c
inductive Au(Q:VK)(x y:V)(H2:Hp):Prop
 |mk(a:_)(o:_)(e0:x=.ref a)(e1:eR H2 a y o)(e2:Q (.bl o.isSome) H2)
def IZ(ty d:TE):TE:=λa H Q=>ty a H λy b=>d a b λx c=>Au Q x y c
inductive oS(Q:VK)(x y:V)(H2:Hp):Prop
 |mk(a:_)(o:_)(e0:x=.ref a)(e1:eR H2 a y o)(e2:Q (.bl (!o.isSome)) H2)
def xs0(ty d:TE):TE:=λa H Q=>ty a H λy b=>d a b λx c=>oS Q x y c
inductive vx(D:Ends)(σ:St)(v x y:V)(H3:Hp):Prop
 |mk(a:_)(H4:_)(e0:x=.ref a)(e1:jg H3 a y v H4)(e2:D.nx σ H4)
def xR9(d ty e:TE):TS:=λD a H=>e a H λv b=>d a b λx c=>ty a c λy f=>vx D a v x y f
section
variable{X:Cx}{o i e value:av}{pos pos' dn:aC}{td ty tv:TE}
theorem xs1(n:X.A.units+1<cLine)(l:PE X o td)(A:PE X i ty)(hs:Es i):PE X (.Subscript o i pos) (xR8 td ty):=by
 intro b s d H Q I h;refine xr9 PySem.F.slot_dict_getitem.lookup hs (bo (l b s d H _ I h) λu w ⟨x,m,B,q,j⟩=>bo (A b w d m _ B j) λD F ⟨y,k,c,t,a,v,ex,g,p⟩=>?_);subst ex;obtain rfl:u=Value.ref a:=q;exact⟨qK9 c g,q08 n c g t λE C r f=>⟨v,k,r,f,p⟩⟩
theorem OZ(l:X.A.units+1<cLine)(v:PE X i ty)(j:PE X o td):PC X .In i o (IZ ty td):=by
 intro b s c H Q I h;refine bo (v b s c H _ I h) λB t ⟨y,k,w,r,d⟩=>bo (j b t c k _ w d) λu C ⟨x,f,q,n,a,ov,ex,g,m⟩=>?_;subst ex;obtain rfl:u=Value.ref a:=n;exact Nv l q g r λA p=>⟨.bl ov.isSome,f,p,rfl,m⟩
theorem q11(l:X.A.units+1<cLine)(v:PE X i ty)(j:PE X o td):PC X .NotIn i o (xs0 ty td):=by
 intro b s c H Q I h;refine bo (v b s c H _ I h) λB t ⟨y,k,w,r,d⟩=>bo (j b t c k _ w d) λu C ⟨x,f,q,n,a,ov,ex,g,m⟩=>?_;subst ex;obtain rfl:u=Value.ref a:=n;exact xr8 l q g r λA p=>⟨.bl (!ov.isSome),f,p,rfl,m⟩
theorem UP(q:X.A.units+1<cLine)(m:PE X o td)(J:PE X i ty)(l:PE X value tv)(hs:swapsWith value (some (.Subscript o i pos')) pos.line X.env=pure false):
  PS X (.Assign [.Subscript o i pos'] value pos) (xR9 td ty tv):=by
 intro c s b H D I h;refine wpAny_Assign_Subscript (bo (l c s b H _ I h) λr G ⟨v,p,K,n,j⟩=>bo (m c G b p _ K j) λu A ⟨x,k,C,w,t⟩=>bo (J c A b k _ C t) λO L ⟨y,N,B,E,a,F,ex,g,f⟩=>?_) hs;subst ex;obtain rfl:u=Value.ref a:=w;exact q10 q B g E n λM d=>⟨b,F,d,f⟩
end
theorem xe9{P:ah}{w:aj}{H:Hp}(h:ao)(hb:sysModules<h.objs.size):bh P w H (h.push {cls:=.type "dict",data:=.dict #[]}) h.objs.size (.dT []):=
 ⟨Zz _,VG.mpr (Xc (Zp hb)),[],.nil,_,#[],0,Zg _ rfl,⟨rfl,rfl,rfl⟩,rfl,rfl,VV⟩
def xK6:TE:=λ_ H Q=>∀p,H p=none->Q (.ref p) (upd H p (.dT []))
section
variable{X:Cx}{pos:aC}
theorem xf0:PE X (.Dict [] [] pos) xK6:=λb s c H Q I h=>
 wpAny_Dict_empty ⟨.ref s.heap.objs.size,_,I.laid (a:=s.heap.objs.size) (o:=.dT []) (t':=s.toks) (λ_ _ q=>Zb _ q) (Ze _) (xe9 s.heap I.big),rfl,h _ (I.aT.fresh (Ze _))⟩
end
end L2
namespace cI
open PySem
def g:Nat->Nat
 |0=>0
 |n+1=>5*g n+1
def F:Nat->Nat->Nat
 |0,x=>x
 |n+1,x=>5*F n x+1
theorem yt(n x:Nat):F n x=x+g n*(4*x+1):=by
 induction n with
 |zero=>simp[F,g]
 |succ n a=>
  show 5*F n x+1=x+(5*g n+1)*(4*x+1);rw[a,V7,Nat.one_mul,Xi];lia
theorem Ia(m n x:Nat):F (m+n) x=F m (F n x):=by
 induction m with
 |zero=>simp[F]
 |succ m a=>
  rw[Nat.succ_add];show 5*F (m+n) x+1=5*F m (F n x)+1;rw[a]
theorem g_F(n:Nat):g n=F n 0:=by
 rw[yt];simp
theorem xS0(m n:Nat):g (m+n)=g n+g m*(4*g n+1):=by
 rw[g_F,Ia,yt m,<- g_F n]
theorem PX:∀k:Nat,∃c,g (2^k)=2^k*(2*c+1)
 |0=>⟨0,rfl⟩
 |k+1=>by
  obtain⟨c,a⟩:=PX k;have e:g (2^(k+1))=g (2^k)*(4*g (2^k)+2):=by
   rw[YH,Nat.mul_two,xS0];generalize g (2^k)=y;rw[Ws,Ws];lia
  rw[e,a];refine⟨2^k*(2*c+1)*(2*c+1)+c,?_⟩;rw[YH];generalize 2^k=p;have h1:p*(2*c+1)*(4*(p*(2*c+1))+2)=p*2*((2*c+1)*(2*(p*(2*c+1))+1)):=by
   have:4*(p*(2*c+1))+2=2*(2*(p*(2*c+1))+1):=by lia
   rw[this,Xi,Xi,Nat.mul_left_comm (2*c+1) 2]
  rw[h1];congr 1;rw[Ws,V8,Nat.mul_left_comm,Wd (2*c+1) (p*(2*c+1))];lia
theorem Gp(k a q:Nat):(2^k*a+q)%2^(k+1)=(2^k*(a%2)+q)%2^(k+1):=by
 have b:a=2*(a/2)+a%2:=by lia
 have:2^k*a+q=(2^k*(a%2)+q)+2^(k+1)*(a/2):=by
  have h:2^k*a+q=2^k*(2*(a/2)+a%2)+q:=by rw[<- b]
  rw[h,YH,Ws,Xi];lia
 rw[this,Nat.add_mul_mod_self_left]
theorem PV:∀(k x y:Nat),∃r,r<2^k/\F r x%2^k=y%2^k
 |0,x,y=>⟨0,by decide,by simp[Nat.mod_one]⟩
 |k+1,x,y=>by
  obtain⟨r,j,e⟩:=PV k x y;obtain⟨c,d⟩:=PX k;have g:F (2^k+r) x=F r x+2^k*(2*c+1)*(4*F r x+1):=by
   rw[Ia,yt (2^k),d]
  have a:2^k*(y/2^k)+y%2^k=y:=Nat.div_add_mod y _;have f:2^k*(F r x/2^k)+F r x%2^k=F r x:=Nat.div_add_mod _ _;by_cases h:F r x/2^k%2=y/2^k%2
  ·refine⟨r,by lia,?_⟩;rw[<- f,<- a,Gp,h,<- Gp,e]
  ·refine⟨2^k+r,by lia,?_⟩;rw[g];generalize F r x=z at *;have o:(2*c+1)*(4*z+1)=2*(c*(4*z+1)+2*z)+1:=by
    rw[V7,Nat.one_mul,Xi];lia
   have b:z+2^k*(2*c+1)*(4*z+1)=2^k*(z/2^k+(2*(c*(4*z+1)+2*z)+1))+z%2^k:=by
    rw[Xi,o,Ws (2^k) (z/2^k)];lia
   rw[b,<- a,Gp,e];have i:(z/2^k+(2*(c*(4*z+1)+2*z)+1))%2=y/2^k%2:=by lia
   rw[i,<- Gp]
def jj(mask:Nat):Nat->Nat->Nat->Nat
 |0,i,_=>i
 |r+1,i,p=>jj mask r (SetTable.leap mask i p).1 (SetTable.leap mask i p).2
theorem RJ(k:Nat):∀(r i:Nat),jj (2^k-1) r (i%2^k) 0=F r i%2^k
 |0,i=>rfl
 |r+1,i=>by
  have b:0<2^k:=WL k;show jj (2^k-1) r ((i%2^k*5+1+0/32)%(2^k-1+1)) (0/32)=_;have c:2^k-1+1=2^k:=by exact p9 b
  have a:(i%2^k*5+1+0/32)%2^k=(5*i+1)%2^k:=by
   simp only[Nat.zero_div,VP];rw[Nat.add_mod,Nat.mul_mod,Nat.mod_mod,<- Nat.mul_mod,<- Nat.add_mod,Wd]
  rw[c,a,Nat.zero_div,RJ k r (5*i+1)];have:F r (5*i+1)=F (r+1) i:=by rw[Ia r 1 i];rfl
  rw[this]
theorem RF(mask:Nat):∀(a b i p:Nat),jj mask (a+b) i p=jj mask b (jj mask a i p) (p/32^a)
 |0,b,i,p=>by simp[jj]
 |a+1,b,i,p=>by
  rw[Nat.succ_add];show jj mask (a+b) _ _=jj mask b (jj mask a _ _) _;rw[RF mask a b];show jj mask b _ (p/32/32^a)=_;rw[Nat.div_div_eq_div_mul,YH,Wd (32^a) 32]
theorem Tq(mask:Nat):∀(a i p:Nat),i<mask+1->jj mask a i p<mask+1
 |0,i,p,h=>h
 |a+1,i,p,_=>Tq mask a _ _ (We _ (Us _))
theorem RI(k i p j:Nat)(h:i<2^k)(c:p<2^64)(d:j<2^k):∃r,r<13+2^k/\jj (2^k-1) r i p=j:=by
 have g:=Tq (2^k-1) 13 i p (by lia);obtain⟨r,b,e⟩:=PV k (jj (2^k-1) 13 i p) j;refine⟨13+r,tq b,?_⟩;rw[RF];have a:p/32^13=0:=Nat.div_eq_of_lt (WA c (by decide));have f:jj (2^k-1) 13 i p=jj (2^k-1) 13 i p%2^k:=(X9 (by lia)).symm;rw[a,f,RJ,e,X9 d]
theorem q13(mask i:Nat):SetTable.runEnd mask i-i<=9:=by unfold SetTable.runEnd;split<;>lia
def gY(t:aw):Nat->SetTable.Probe->SetTable.Probe
 |0,p=>p
 |n+1,p=>gY t n (t.advance p)
theorem UO(t:aw):∀(m:Nat)(p:SetTable.Probe),m<=p.more->gY t m p={p with j:=p.j+m,more:=p.more-m}
 |0,p,_=>by simp[gY]
 |m+1,p,h=>by
  have e:t.advance p={p with j:=p.j+1,more:=p.more-1}:=by
   unfold SetTable.advance;rw[Zx (by lia)]
  show gY t m (t.advance p)=_;rw[e,UO t m _ (by show m<=p.more-1;lia)];congr 1
  ·show p.j+1+m=p.j+(m+1);exact sZ
  ·show p.more-1-m=p.more-(m+1);lia
theorem BF(t:aw):∀(a b:Nat)(p:SetTable.Probe),gY t (a+b) p=gY t b (gY t a p)
 |0,b,p=>by simp[gY]
 |a+1,b,p=>by rw[Nat.succ_add];exact BF t a b _
structure Head(t:aw)(i perturb:Nat)(d:Option Nat)(p:SetTable.Probe):Prop where
 e:p={j:=i,more:=SetTable.runEnd t.mask i-i,i:=i,perturb:=perturb,dummy:=d}
theorem q15{t:aw}{i q:Nat}{d:Option Nat}{p:SetTable.Probe}(h:Head t i q d p):∃n,n<=10/\Head t (SetTable.leap t.mask i q).1 (SetTable.leap t.mask i q).2 d (gY t n p):=by
 have a:=q13 t.mask i;refine⟨(SetTable.runEnd t.mask i-i)+1,by lia,⟨?_⟩⟩;rw[BF,UO t _ p (by rw[h.e];exact Ze _)];show t.advance _=_;rw[h.e];unfold SetTable.advance;rw[Zl (by show ¬(SetTable.runEnd t.mask i-i)-(SetTable.runEnd t.mask i-i)>0;lia)]
theorem UN{t:aw}{d:Option Nat}:∀(r:Nat){i q:Nat}{p:SetTable.Probe},Head t i q d p->∃n,n<=10*r/\(gY t n p).j=jj t.mask r i q/\(gY t n p).dummy=d
 |0,i,q,p,h=>⟨0,Ze _,by show p.j=i;rw[h.e],by show p.dummy=d;rw[h.e]⟩
 |r+1,i,q,p,h=>by
  obtain⟨n,e,h1⟩:=q15 h;obtain⟨m,c,b,a⟩:=UN r h1;exact⟨n+m,by lia,by rw[BF];exact b,by rw[BF];exact a⟩
theorem Jz(t:aw):∀(n:Nat)(p:SetTable.Probe),(gY t n p).dummy=p.dummy
 |0,p=>rfl
 |n+1,p=>by
  show(gY t n (t.advance p)).dummy=_;rw[Jz t n];unfold SetTable.advance;split<;>rfl
theorem UM(h:Int):SetTable.bits h<2^64:=by
 unfold SetTable.bits;have:=WS h (show(0:Int)<2^64 by decide);lia
theorem meet{t:aw}{k:Nat}(b:t.mask=2^k-1)(h:Int){j:Nat}(c:j<2^k):∃n,n<10*SetTable.turns t.mask/\(gY t n (t.probeStart h)).j=j:=by
 have a:0<2^k:=WL k;have d:Head t (SetTable.bits h%(t.mask+1)) (SetTable.bits h) none (t.probeStart h):=⟨rfl⟩;obtain⟨r,g,e⟩:=RI k (SetTable.bits h%(t.mask+1)) (SetTable.bits h) j (by rw[b];have:=We (SetTable.bits h) a;rw[show 2^k-1+1=2^k from p9 a];exact this) (UM h) c;obtain⟨n,i,f,_⟩:=UN r d;refine⟨n,?_,by rw[f];rw[<- b]at e;exact e⟩;unfold SetTable.turns;lia
theorem SJ(j:Nat):SetTable.has #[] j=false:=by
 unfold SetTable.has;simp
theorem UL{t:aw}(a:t.dummies=#[])(j:Nat):(t.slot j=.empty)\/∃i,t.slot j=.live i/\t.place[i]?=some j:=by
 unfold SetTable.slot;simp only;split
 ·rename_i h;exact .inr ⟨_,rfl,by simpa using h⟩
 ·rw[a,SJ];exact .inl rfl
theorem q19{t:aw}(a:t.dummies=#[]){j:Nat}(h:j∉t.place.toList):t.slot j=.empty:=by
 rcases UL a j with e|⟨i,_,e⟩
 ·exact e
 ·refine absurd ?_ h;have:=Array.mem_of_getElem? e;simpa using this
theorem OY:∀(n:Nat)(l:List Nat),l.length<n->∃j,j<n/\j∉l
 |0,l,h=>absurd h (XM _)
 |n+1,l,h=>by
  by_cases a:n∈l
  ·obtain⟨j,b,c⟩:=OY n (l.erase n) (by rw[List.length_erase_of_mem a];have:=List.length_pos_of_mem a;lia);refine⟨j,qm b,λm=>c ?_⟩;exact(List.mem_erase_of_ne (by lia)).mpr m
  ·exact⟨n,Yd n,a⟩
structure cW(t:aw)(n:Nat):Prop where
 pl:t.place.size=n
 du:t.dummies=#[]
 ma:∃k,t.mask=2^k-1/\1<=k
 le:n<=t.mask
theorem cW.fill{t:aw}{n:Nat}(h:cW t n):t.fill=n:=by unfold SetTable.fill;rw[h.pl,h.du];rfl
theorem cW.way{t:aw}{n:Nat}(h:cW t n):t.gaveWay=false:=by
 obtain⟨k,e,b⟩:=h.ma;unfold SetTable.gaveWay;rw[e];obtain⟨k,rfl⟩:∃m,k=m+1:=⟨k-1,by lia⟩;have:=WL k;have a:(2^(k+1)-1)%2=1:=by rw[YH];lia
 rw[a]
 rfl
theorem cW.meets{t:aw}{n:Nat}(g:cW t n)(h:Int):∃m,m<10*SetTable.turns t.mask/\t.slot (gY t m (t.probeStart h)).j=.empty:=by
 obtain⟨k,e,_⟩:=g.ma;have f:=WL k;obtain⟨j,d,a⟩:=OY (2^k) t.place.toList (by simp only[ZL,g.pl];have:=g.le;lia);obtain⟨m,c,b⟩:=meet e h d;exact⟨m,c,by rw[b];exact q19 g.du a⟩
theorem UK{t:aw}(k:t.dummies=#[])(a:Nat->Int)(h:Int):∀(f m:Nat)(p:SetTable.Probe),m<f->p.dummy=none->t.slot (gY t m p).j=.empty ->
  (∃j,SetTable.probe.go t a h f p=some (.empty j none)) \/
  (∃b j i,b<m/\SetTable.probe.go t a h f p=some (.candidate j i (gY t (b+1) p))/\t.slot j=.live i/\t.place[i]?=some j/\a i=h)
 |0,m,p,h1,_,_=>absurd h1 (XM _)
 |f+1,m,p,h1,l,g=>by
  unfold SetTable.probe.go;rcases UL k p.j with e|⟨i,e,n⟩
  ·rw[e];exact .inl ⟨p.j,by rw[l]⟩
  ·rw[e];cases m with
   |zero=>
    have d:t.slot p.j=.empty:=g;rw[e]at d;cases d
   |succ m=>
    by_cases c:a i==h
    ·refine .inr ⟨0,p.j,i,Us _,?_,e,n,by simpa using c⟩;simp only;rw[Zx c]
     rfl
    ·simp only;rw[Zl c];rcases UK k a h f m (t.advance p) (nP h1) (by rw[<- l];exact Jz t 1 p) g with⟨j,ej⟩|⟨b,j,i',lP,ej,r⟩
     ·exact .inl ⟨j,ej⟩
     ·exact .inr ⟨b+1,j,i',s_ lP,ej,r⟩
theorem RP{α:Type}(xs:Array α)(p:Nat)(x:α):(SetTable.insertAt xs p x).size=xs.size+1:=by
 unfold SetTable.insertAt;simp;lia
theorem qF2{α:Type}{xs:Array α}{p:Nat}{x y:α}(h:y∈SetTable.insertAt xs p x):y=x\/y∈xs:=by
 unfold SetTable.insertAt at h;rcases Array.mem_append.mp h with h|h
 ·rcases Array.mem_push.mp h with h|h
  ·obtain⟨i,a,e⟩:=Vv.mp h;exact .inr (by rw[<- e];exact V9 _)
  ·exact .inl h
 ·obtain⟨i,a,e⟩:=Vv.mp h;exact .inr (by rw[<- e];exact V9 _)
theorem cW.put{t:aw}{n:Nat}(g:cW t n)(a:t.tooFull=false)(j:Nat):cW (t.put j).1 (n+1):=by
 have e:(t.put j).1={t with place:=SetTable.insertAt t.place (SetTable.below t.place j) j}:=by
  unfold SetTable.put;simp only;rw[g.du,SJ];simp[g.du]
 rw[e];refine⟨by rw[RP,g.pl],g.du,g.ma,?_⟩;show n+1<=t.mask;unfold SetTable.tooFull at a;rw[g.fill]at a;have:=YA a;lia
theorem Tp{mask:Nat}{owner:Array (Option Nat)}:∀(f r i p:Nat),r<f->(owner.getD (jj mask r i p) (some 0)).isNone=true ->
  ∃j,SetTable.layClean.free mask owner f i p=some j/\(owner.getD j (some 0)).isNone=true
 |0,r,i,p,h,_=>absurd h (XM _)
 |f+1,r,i,p,h,a=>by
  unfold SetTable.layClean.free;cases e:(List.range (SetTable.runEnd mask i+1-i)).find? λk=>(owner.getD (i+k) (some 0)).isNone with
  |some k=>
   have:=List.find?_some e;exact⟨i+k,rfl,this⟩
  |none=>
   cases r with
   |zero=>
    have b:∀x∈List.range (SetTable.runEnd mask i+1-i),¬(owner.getD (i+x) (some 0)).isNone=true:=by simpa using e
    have c:0∈List.range (SetTable.runEnd mask i+1-i):=YJ.mpr (by unfold SetTable.runEnd;split<;>lia);exact absurd a (b 0 c)
   |succ r=>exact Tp f r _ _ (nP h) a
def cnt(owner:Array (Option Nat)):Nat:=(owner.toList.filter Option.isSome).length
theorem RN:∀(l:List (Option Nat))(j k:Nat),l[j]?=some none->((l.set j (some k)).filter Option.isSome).length=(l.filter Option.isSome).length+1
 |[],j,k,h=>by simp at h
 |a::l,0,k,h=>by
  have:a=none:=by simpa using h
  subst this;simp
 |a::l,j+1,k,h=>by
  have b:=RN l j k (by simpa using h);rw[List.set_cons_succ,Yy,Yy];split
  ·rw[Z4,Z4,b]
  ·exact b
theorem UJ:∀(l:List (Option Nat)),(l.filter Option.isSome).length<l.length->∃j:Nat,l[j]?=some none
 |[],h=>by simp at h
 |none::l,_=>⟨0,rfl⟩
 |some a::l,h=>by
  obtain⟨j,b⟩:=UJ l (by simpa using h);exact⟨j+1,by simpa using b⟩
structure Laid(mask:Nat)(owner:Array (Option Nat))(K:Nat):Prop where
 sz:owner.size=mask+1
 ct:cnt owner=K
 lt:∀v,some v∈owner.toList->v<K
theorem Laid.step{mask k K:Nat}{owner:Array (Option Nat)}(p:mask=2^k-1)(g:Laid mask owner K)(s:K<=mask)(h:Int):
  ∃j,SetTable.layClean.free mask owner (SetTable.turns mask) (SetTable.bits h%(mask+1)) (SetTable.bits h)=some j/\Laid mask (owner.setIfInBounds j (some K)) (K+1):=by
 have q:=WL k;obtain⟨d,f⟩:=UJ owner.toList (by
  have:=g.ct;unfold cnt at this;rw[this,ZL,g.sz];lia)
 have m:d<mask+1:=by
  have:=(cz f).1;rw[ZL,g.sz]at this;exact this
 have i:mask+1=2^k:=by lia
 obtain⟨r,t,e⟩:=RI k (SetTable.bits h%(mask+1)) (SetTable.bits h) d (by rw[<- i];exact We _ (Us _)) (UM h) (nN m i);rw[<- p]at e;have b:∀j,(owner.getD j (some 0)).isNone=true<->owner.toList[j]?=some none:=λj=>by
  rw[Yp];by_cases c:j<owner.size
  ·simp[Array.getD,c]
  ·simp[Array.getD,c]
 obtain⟨j,n,c⟩:=Tp (mask:=mask) (owner:=owner) (SetTable.turns mask) r _ _ (by unfold SetTable.turns;lia) (by rw[e];exact(b d).mpr f);have l:=(b j).mp c;refine⟨j,n,by rw[Array.size_setIfInBounds];exact g.sz,?_,λv a=>?_⟩
 ·unfold cnt;rw[Wu,RN _ _ _ l];have:=g.ct;unfold cnt at this;rw[this]
 ·rw[Wu]at a;rcases List.mem_or_eq_of_mem_set a with a|a
  ·have:=g.lt v a;exact qm this
  ·have:v=K:=by simpa using a
   lia
theorem SI{mask k:Nat}(i:mask=2^k-1):∀(b:List Int)(a:Array (Option Nat))(K:Nat),Laid mask a K->K+b.length<=mask ->
  ∃f,(b.foldl (λ(c:Option (Array (Option Nat)×Nat)) (h:Int)=>do
   let (a,k) <- c
   let j <- SetTable.layClean.free mask a (SetTable.turns mask) (SetTable.bits h%(mask+1)) (SetTable.bits h)
   pure (a.setIfInBounds j (some k),k+1)) (some (a,K)))=some (f,K+b.length)/\Laid mask f (K+b.length)
 |[],a,K,g,_=>⟨a,rfl,g⟩
 |h::b,a,K,g,d=>by
  rw[Z4]at d;obtain⟨j,p,l⟩:=g.step i (eJ d) h;obtain⟨m,n,e⟩:=SI i b _ (K+1) l (Ik d);refine⟨m,?_,by rw[Z4,show K+(b.length+1)=K+1+b.length from Im];exact e⟩;rw[WM,Z4,show K+(b.length+1)=K+1+b.length from Im,<- n];congr 1;show(SetTable.layClean.free mask a (SetTable.turns mask) (SetTable.bits h%(mask+1)) (SetTable.bits h)).bind _=_;rw[p]
  rfl
theorem xs3{mask k:Nat}(d:mask=2^k-1)(hs:Array Int)(c:hs.size<=mask):∃a,SetTable.layClean mask hs=some a/\Laid mask a hs.size:=by
 have b:Laid mask (Array.replicate (mask+1) none) 0:=⟨by simp,by unfold cnt;simp,λv f=>by simp at f⟩;obtain⟨o,e,g⟩:=SI d hs.toList _ 0 b (by simpa using c);refine⟨o,?_,by simpa using g⟩;unfold SetTable.layClean;rw[<- Array.foldl_toList,e]
 rfl
theorem Kw{α b:Type}{f g:α->Option b}:∀(l:List α),(∀x∈l,f x=g x)->l.filterMap f=l.filterMap g
 |[],_=>rfl
 |a::l,h=>by
  rw[Ys,Ys,h a ZE,Kw l λx c=>h x (Zk _ c)]
theorem SH:∀(l:List (Option Nat))(a:Nat),((List.range' a l.length).filterMap λj=>((l[j-a]?).getD none).map (λv=>(j,v))).length=(l.filter Option.isSome).length
 |[],a=>rfl
 |x::l,a=>by
  rw[Z4,List.range'_succ,Ys];have b:=SH l (a+1);have e:(List.range' (a+1) l.length).filterMap (λj=>(((x::l)[j-a]?).getD none).map (λv=>(j,v)))=(List.range' (a+1) l.length).filterMap λj=>((l[j-(a+1)]?).getD none).map (λv=>(j,v)):=by
   refine Kw _ λj c=>?_;have:=(List.mem_range'_1.mp c).1;obtain⟨d,rfl⟩:∃d,j=a+1+d:=⟨j-(a+1),xt this⟩;rw[show a+1+d-a=d+1 by lia,show a+1+d-(a+1)=d from xB,List.getElem?_cons_succ]
  rw[e,Ut];cases x with
  |none=>simpa using b
  |some v=>simpa using b
theorem q22{mask k finger moves:Nat}{led plain:Bool}(l:mask=2^k-1)(h1:1<=k)(hs:Array Int)(i:hs.size<=mask):
  ∃t c,SetTable.laid mask finger moves led plain hs=some (t,c)/\cW t hs.size/\t.mask=mask/\t.led=led/\t.moves=moves/\c.size=hs.size/\∀v∈c,v<hs.size:=by
 obtain⟨b,e,g⟩:=xs3 l hs i;have p:∀a:Nat,(List.range (mask+1)).filterMap (λj=>(b.getD j none).map (λv=>(j,v)))=(List.range' 0 b.toList.length).filterMap λj=>((b.toList[j-0]?).getD none).map (λv=>(j,v)):=λ_=>by
  rw[ZL,g.sz,<- List.range_eq_range'];refine Kw _ λj f=>?_;have d:=YJ.mp f;rw[Nat.sub_zero,Yp];simp[Array.getD,g.sz,d]
 have len:((List.range (mask+1)).filterMap (λj=>(b.getD j none).map (λv=>(j,v)))).length=hs.size:=by
  rw[p 0,SH,<- g.ct]
  rfl
 refine⟨_,_,by unfold SetTable.laid;rw[e];rfl,⟨?_,rfl,⟨k,l,h1⟩,i⟩,rfl,rfl,rfl,?_,λv s=>?_⟩
 ·show((((List.range (mask+1)).filterMap (λj=>(b.getD j none).map (λv=>(j,v)))).map (·.1)).toArray).size=_;rw[ZK,Zh,len]
 ·show((((List.range (mask+1)).filterMap (λj=>(b.getD j none).map (λv=>(j,v)))).map (·.2)).toArray).size=_;rw[ZK,Zh,len]
 ·have m:v∈((List.range (mask+1)).filterMap (λj=>(b.getD j none).map (λv=>(j,v)))).map (·.2):=by simpa using s
  obtain⟨q,n,rfl⟩:=Yu.mp m;obtain⟨j,f,r⟩:=WP.mp n;obtain⟨h,ev,rfl⟩:=Zj.mp r;refine g.lt h ?_;have d:=YJ.mp f;have:b[j]'(by rw[g.sz];exact d)=some h:=by simpa[Array.getD,g.sz,d]using ev
  rw[<- this];simp
theorem To:∀(f k n:Nat),3<=k->n<2^(k+f)->∃a,SetTable.sizeAbove.go n f (2^k)=2^a/\3<=a/\n<2^a/\(2^k<=2*n+8->2^a<=2*n+8)
 |0,k,n,b,h=>⟨k,rfl,b,h,λz=>z⟩
 |f+1,k,n,b,h=>by
  unfold SetTable.sizeAbove.go;by_cases c:2^k<=n
  ·rw[Zx c,<- YH];obtain⟨a,e,h1,g,d⟩:=To f (k+1) n (uJ b) (by rw[show k+1+f=k+(f+1)from sZ];exact h);exact⟨a,e,h1,g,λ_=>d (by rw[YH];lia)⟩
  ·rw[Zl c];exact⟨k,rfl,b,by lia,λz=>z⟩
theorem RM{n:Nat}(h:n<2^60):∃k,SetTable.sizeAbove n=2^k/\3<=k/\n<2^k/\2^k<=2*n+8:=by
 obtain⟨k,e,h1,b,a⟩:=To 64 3 n (by decide) (WA h (by decide));exact⟨k,e,h1,b,a (by show 8<=2*n+8;exact CY)⟩
theorem qL0{t:aw}{hs:Array Int}{wanted:Nat}(hw:wanted<2^60)(l:hs.size<wanted):
  ∃b a,t.relaid hs wanted=some (b,a)/\cW b hs.size/\wanted<=b.mask/\b.mask<=2*wanted+8/\b.led=t.led/\a.size=hs.size/\∀v∈a,v<hs.size:=by
 obtain⟨k,e,h1,i,j⟩:=RM hw;obtain⟨b,a,f,g,c,h,_,d,ev⟩:=q22 (mask:=2^k-1) (k:=k) (finger:=t.finger) (moves:=t.movedTo (2^k-1)) (led:=t.led) (plain:=t.plain) rfl (by lia) hs (by lia);refine⟨b,a,?_,g,by rw[c];exact iZ i,by rw[c];exact p_ j,h,d,ev⟩;unfold SetTable.relaid;rw[e];exact f
theorem q23{α:Type}{c:Array α}{b:Array Nat}(h:∀v∈b,v<c.size):(b.filterMap (c[·]?)).size=b.size:=by
 rw[<- ZL,Array.toList_filterMap,<- ZL (xs:=b)];have:∀l:List Nat,(∀v∈l,v<c.size)->(l.filterMap (c[·]?)).length=l.length:=λl=>by
  induction l with
  |nil=>intro _;rfl
  |cons a l g=>
   intro e;rw[Ys];have f:=e a ZE;rw[show c[a]?=some c[a] by simp[f]];simp[g λv d=>e v (Zk _ d)]
 exact this _ λv d=>h v (by simpa using d)
theorem xf1{α:Type}{b:Array α}{a:Array Nat}{y:α}(h:y∈a.filterMap (b[·]?)):y∈b:=by
 obtain⟨v,_,e⟩:=Array.mem_filterMap.mp h;exact Array.mem_of_getElem? e
end cI
namespace cI
open PySem PySem.Spec PyProof.Rows
section
variable{K:Type}[DecidableEq K]{knd:KeyKind prog w K}{A:aq}{E:aa->ae->Prop}{s:ae}
theorem qv4(n:Nat){v:aa}(h:carriedByValue v=true):ofAClassStatement n v=pure false:=by
 cases v with
 |ref a=>simp[carriedByValue]at h
 |_=>first|rfl|(unfold ofAClassStatement;rfl)|(cases n<;>rfl)
theorem fu{M:Model}{a:af}{o:az}{items:Array aa}{n:Nat}{Q:Option (Array aa)->ae->Prop}(c:s.heap.get? a=some o)(b:o.data=.seq items n)(h:Q (some items) s):
  ag M A (seqItems? (.ref a)) Q E s:=Xo c b h
theorem RO{k:List K}{a:af}{Q:Bool->ae->Prop}(f:IsTupleKey knd s.heap k a)(h:Q false s):ag (ai prog w) A (ofAClassStatement 8 (.ref a)) Q E s:=by
 have p:=f.typeIs;obtain⟨o,e,n,j,_,l,i⟩:=f;unfold ofAClassStatement;refine Za (VM p ?_);show ag _ _ ((if("tuple"=="tuple")=true then pure true else isSubtype (.type "tuple") (.type "tuple")) >>= _) _ _ s;rw[Zx (by decide)];refine Za (Zc ?_);simp only[YY,Zr,Z5];refine Za (fu j l ?_);dsimp only;refine Za ?_;rw[<- Array.forIn_toList];refine WB _ (λb r d=>r.1=none/\d=s/\∀v∈b,carriedByValue v=true) _ ?_ ?_ _ _ ⟨rfl,rfl,i.byValue⟩
 ·rintro v b r d ⟨c,rfl,g⟩;rw[qv4 _ (g v ZE)];refine Za (Zc ?_);simp only[Zr,Z5];exact Zc ⟨rfl,rfl,λu m=>g u (Zk _ m)⟩
 ·rintro⟨t,q⟩ d ⟨c,rfl,_⟩;simp only at c;subst c;exact Zc h
theorem xK9{l:List K}{a:af}{Q:Bool->ae->Prop}(j:IsTupleKey knd s.heap l a)(h:Q false s){c:List aa}(m:∀y∈c,∃b e,y=.ref b/\IsTupleKey knd s.heap e b):
  ag (ai prog w) A (searchCouldBeSeen (.ref a) c) Q E s:=by
 unfold searchCouldBeSeen;refine Za ?_;refine WB _ (λd r f=>r.1=none/\f=s/\∀y∈d,∃b e,y=.ref b/\IsTupleKey knd s.heap e b) _ ?_ ?_ _ _ ⟨rfl,rfl,m⟩
 ·rintro y d r f ⟨g,rfl,k⟩;obtain⟨b,e,rfl,hb⟩:=k y ZE;have i:∀y∈d,∃b e,y=.ref b/\IsTupleKey knd f.heap e b:=λu n=>k u (Zk _ n);dsimp only;split
  ·exact Zc ⟨rfl,rfl,i⟩
  ·refine Za (wpAny_eqIsQuiet_tuple j ?_);simp only[YY,Zr,Z5];refine Za (wpAny_eqIsQuiet_tuple hb ?_);simp only[YY,Zr,Z5];refine Za (RO j ?_);simp only[Zr,Z5];refine Za (RO hb ?_);simp only[Zr,Z5];exact Zc ⟨rfl,rfl,i⟩
 ·rintro⟨q,p⟩ f ⟨g,rfl,_⟩;simp only at g;subst g;exact Zc h
def Hb(v:aa):Prop:=∃b,∀n,hashByValue n v=pure b
theorem Hb.int(k:Int)(t:Tok):Hb (.int k t):=⟨true,λn=>by cases n<;>rfl⟩
theorem Hb.str(x:ar)(t:Tok):Hb (.str x t):=⟨false,λn=>by cases n<;>rfl⟩
theorem qF5{a:af}{o:az}{items:Array aa}{n:Nat}{Q:Bool->ae->Prop}(g:s.heap.get? a=some o)(hc:o.cls=.type "tuple")(j:o.data=.seq items n)(i:∀v∈items.toList,Hb v)(h:∀b,Q b s):
  ag (ai prog w) A (hashByValue 8 (.ref a)) Q E s:=by
 have l:s.TypeIs (.ref a) "tuple":=⟨o,g,hc⟩;unfold hashByValue;refine Za (VB l F.slot_tuple_hash.lookup ?_);dsimp only;refine Za (fu g j ?_);dsimp only[Option.getD];refine Za ?_;rw[<- Array.forIn_toList];refine WB _ (λc r e=>r.1=none/\e=s/\∀v∈c,Hb v) _ ?_ ?_ _ _ ⟨rfl,rfl,i⟩
 ·rintro v c r e ⟨d,rfl,f⟩;obtain⟨b,hb⟩:=f v ZE;rw[hb];refine Za (Zc ?_);cases b with
  |true=>
   simp only[YY,Zr,Z5];exact Zc ⟨rfl,rfl,λu k=>f u (Zk _ k)⟩
  |false=>
   simp only[W3,XQ];exact Zc (Zc (h false))
 ·rintro⟨m,p⟩ e ⟨d,rfl,_⟩;simp only at d;subst d;exact Zc (h true)
theorem cW.fits{t:aw}{n:Nat}(g:cW t n):t.fits n=true:=by
 unfold SetTable.fits;rw[g.pl,g.fill];simp[g.le]
theorem Tn{t:aw}{f:Nat->Int}{h:Int}{p:SetTable.Probe}{b:Option SetTable.Met}{m:Nat}(k:t.probe f h p=b)(g:t.dummies=#[])(n:m<10*SetTable.turns t.mask)(c:p.dummy=none)(d:t.slot (gY t m p).j=.empty):
  (∃j,b=some (.empty j none))\/(∃a j i,a<m/\b=some (.candidate j i (gY t (a+1) p))/\t.slot j=.live i/\t.place[i]?=some j):=by
 subst k;rcases UK g f h (10*SetTable.turns t.mask) m p n c d with⟨j,e⟩|⟨a,j,i,h1,e,q,l,_⟩
 ·exact .inl ⟨j,e⟩
 ·exact .inr ⟨a,j,i,h1,e,q,l⟩
theorem xL0{a b:af}{o:az}{d:Array (Int×aa)}{ep:Nat}{t:aw}{O:List K}{h:Int}{Q:SetFound->ae->Prop}(R:A.units<cLine)
  (F:s.heap.get? a=some o) (C:o.data=.set d ep t) (g:cW t d.size) (x:IsTupleKey knd s.heap O b) (T:∀e∈d,∃u k,e.2=.ref u/\IsTupleKey knd s.heap k u/\k≠O) (q:∀j,Q (.free j false) s):
  ∀(m c:Nat)(n:Option SetTable.Probe),m<c->m<10*SetTable.turns t.mask->(n.getD (t.probeStart h)).dummy=none->t.slot (gY t m (n.getD (t.probeStart h))).j=.empty ->
   ag (ai prog w) A (setSearchFrom a (.ref b) h true c n) Q E s:=by
 intro m
 induction m using Nat.strongRecOn with
 |ind m ih=>
  intro c n D J I B;cases c with
  |zero=>exact absurd D (XM _)
  |succ c=>
   unfold setSearchFrom;refine Za (Z8 F C g.fits ?_);dsimp only;rw[g.way];simp only[Zr,Z5];split
   ·rename_i met r;rcases Tn r g.du J I B with⟨j,G⟩|⟨f,j,i,lP,G,P,X⟩
    ·cases G;dsimp only;exact Zc (q j)
    ·cases G;dsimp only;have U:i<d.size:=by
      have:=(YL.mp X).1;rw[g.pl]at this;exact this
     obtain⟨u,k,Y,S,M⟩:=T d[i] (V9 U);have v:d[i]?=some (d[i].1,.ref u):=by
      rw[<- Y];simp[U]
     have L:t.sameMemory t.moves t.mask=some true:=by
      unfold SetTable.sameMemory;rw[Zx (by simp)]
     have N:∀p,m<p+1->ag (ai prog w) A (setSearchFrom a (.ref b) h true p (some (gY t (f+1) (n.getD (t.probeStart h))))) Q E s:=λp hf'=>
      ih (m-(f+1)) (by lia) p _ (by lia) (Rk J) (by show(gY t (f+1) _).dummy=none;rw[Jz];exact I) (by
       show t.slot (gY t (m-(f+1)) (gY t (f+1) _)).j=.empty;rw[<- BF,show f+1+(m-(f+1))=m by lia];exact B)
     have l:∀y∈(d.filter (·.1==h)).toList.map (·.2),∃b k,y=.ref b/\IsTupleKey knd s.heap k b:=λy Z=>by
      obtain⟨e,V,rfl⟩:=Yu.mp Z;have:e∈d:=by
       have:=(Array.mem_filter.mp (show e∈d.filter (·.1==h) by simpa using V)).1;exact this
      obtain⟨H,qp,x1,W,_⟩:=T e this;exact⟨H,qp,x1,W⟩
     cases hl:t.led with
     |false=>
      simp only[W3,XQ];refine Za (xK9 x ?_ l);simp only[Zr,Z5];rw[v];dsimp only;refine Za (ZP (wpAny_eqBool_tuple R S x ?_));rw[Zo M];refine Za (Z8 F C g.fits ?_);dsimp only;simp only[VW,Zr,Z5];rw[L];dsimp only;simp only[XQ];rw[P];dsimp only;rw[v];dsimp only;refine Za (wpAny_isSame_ref_self ?_);refine Za (Zc ?_);simp only[XQ];exact N c D
     |true=>
      simp only[YY,Zr,Z5];rw[v];dsimp only;refine Za (ZP (wpAny_eqBool_tuple R S x ?_));rw[Zo M];refine Za (Z8 F C g.fits ?_);dsimp only;simp only[VW,Zr,Z5];rw[L];dsimp only;simp only[XQ];rw[P];dsimp only;rw[v];dsimp only;refine Za (wpAny_isSame_ref_self ?_);refine Za (Zc ?_);simp only[XQ];exact N c D
   ·rename_i r;exact Or.elim (Tn rfl g.du J I B) (λ⟨j,e⟩=>(r _ e).elim) (λ⟨_,_,_,_,e,_⟩=>(r _ e).elim)
structure gA(knd:KeyKind prog w K)(h:ao)(a:af)(Ks:List (List K))(n:Nat):Prop where
 ex:∃o es ep t,h.get? a=some o/\o.ExactSet/\o.data=.set es ep t/\cW t es.size/\t.tooFull=false/\t.mask<=8*n+8/\es.size=n/\∀e∈es,∃b ks,e.2=.ref b/\ks∈Ks/\IsTupleKey knd h ks b
theorem Tj{h:ao}{a b:af}{o:az}{i:List K}{k:Array (Int×aa)}{ep:Nat}{t:aw}(x:IsTupleKey knd h i b)(f:h.get? a=some o)(j:o.data=.set k ep t):b≠a:=by
 rintro rfl;obtain⟨g,c,n,e,_,d,_⟩:=x;obtain rfl:g=o:=ZT (e.symm.trans f);rw[j]at d;exact nomatch d
theorem Ti{h h':ao}{a b:af}{d:List K}(x:IsTupleKey knd h d b)(j:b≠a)(hs:Heap.SameBut a h h'):IsTupleKey knd h' d b:=by
 obtain⟨i,c,n,f,g,e,k⟩:=x;exact⟨i,c,n,(hs.2 b j).trans f,g,e,k⟩
theorem UI{h:ao}{a:af}{o:az}{c es':Array (Int×aa)}{ep:Nat}{t t':aw}(d:h.get? a=some o)(b:o.data=.set c ep t):
  (h.update a (Obj.putSet es' t')).get? a=some {o with data:=.set es' (ep+1) t'}:=by
 have:=ZO (Obj.putSet es' t') d (by rw[Up es' t' b];rfl);rw[Up es' t' b]at this;exact this
theorem xs4{a b:af}{J:List K}{O:List (List K)}{n:Nat}{h:Int}{Q:Bool->ae->Prop}(hu:A.units<cLine)(S:gA knd s.heap a O n)(M:IsTupleKey knd s.heap J b)(U:∀o i m,s.heap.get? b=some o->o.data=.seq i m->∀v∈i.toList,Hb v)
  (hn:J∉O) (hsz:n<1200) (q:∀T,Heap.SameBut a s.heap T->gA knd T a (J::O) (n+1)->Q true {s with heap:=T}):
  ag (ai prog w) A (setAddHashed a (.ref b) h) Q E s:=by
 obtain⟨o,d,ep,t,D,kD,C,g,hf,G3,rfl,vO⟩:=S.ex;unfold setAddHashed setAddHashedIn;refine ZP (Za (Z8 D C g.fits ?_));dsimp only;have hby:byScan (.ref b) d=false:=rfl;rw[hby];simp only[Zr,Z5];obtain⟨m,hm,Dj⟩:=g.meets h;have zY:m<100000:=by
  unfold SetTable.turns at hm;lia
 refine Za (xL0 hu D C g M (λe B=>?_) (λj=>?_) m 100000 none zY hm rfl Dj)
 ·obtain⟨H,F,Z,Y,L⟩:=vO e B;exact⟨H,F,Z,L,λz=>hn (by rw[<- z];exact Y)⟩
 dsimp only;refine Za (Z8 D C g.fits ?_);dsimp only;have y:=g.put hf j;generalize hp:t.put j=tp at y;obtain⟨I,p⟩:=tp;dsimp only at y ⊢;have V:I.mask=t.mask:=by
  have:(t.put j).1.mask=t.mask:=rfl;rw[hp]at this;exact this
 have W:b≠a:=Tj M D C;have pX:∀{h1:ao},Heap.SameBut a s.heap h1->∀e∈SetTable.insertAt d p (h,Value.ref b),∃H F,e.2=.ref H/\F∈J::O/\IsTupleKey knd h1 F H:=λ{h1} hs e B=>by
  rcases qF2 B with rfl|B
  ·exact⟨b,J,rfl,ZE,Ti M W hs⟩
  ·obtain⟨H,F,Z,Y,L⟩:=vO e B;exact⟨H,F,Z,Zk _ Y,Ti L (Tj L D C) hs⟩
 have u:(SetTable.insertAt d p (h,Value.ref b)).size=d.size+1:=RP _ _ _;have x:d.size+1<=sizeLine:=by rw[Wr];lia
 have l:∀r:aw,cW r (d.size+1)->r.mask=t.mask->ag (ai prog w) A (do
   storeSet a (SetTable.insertAt d p (h,Value.ref b)) r
   if(!false&&r.tooFull)=true then do
     setRelay a (SetTable.grown (d.size+1))
     pure true
    else pure true) Q E s:=λr g2 Mo=>by
  refine Za (W4 D C ?_ (by rw[u];exact x));have P:=UI (es':=SetTable.insertAt d p (h,Value.ref b)) (t':=r) D C;have R:=Yk s.heap a (Obj.putSet (SetTable.insertAt d p (h,Value.ref b)) r);cases ht:r.tooFull with
  |false=>
   simp only[VW,Zr,Z5];refine Zc (q _ R ⟨_,_,_,r,P,kD,rfl,by rw[u];exact g2,ht,by lia,u,pX R⟩)
  |true=>
   simp only[W3,Bool.and_self,XQ];refine Za ?_;unfold setRelay;refine Za (Z8 P rfl (by rw[u];exact g2.fits) ?_);dsimp only;have G:SetTable.grown (d.size+1)=(d.size+1)*4:=by
    unfold SetTable.grown;rw[Zl (by lia)]
   obtain⟨k,ek,_,_,G7⟩:=RM (n:=SetTable.grown (d.size+1)) (by rw[G];lia);rw[Zl (by rw[ek,Wr];rw[G]at G7;lia)];obtain⟨t3,f,er,g3,X,yN,_,eo,ev⟩:=qL0 (t:=r) (hs:=(SetTable.insertAt d p (h,Value.ref b)).map (·.1)) (wanted:=SetTable.grown (d.size+1)) (by rw[G];lia) (by rw[Array.size_map,u,G];lia);rw[Array.size_map]at g3 eo ev;rw[er];have N:(f.filterMap ((SetTable.insertAt d p (h,Value.ref b))[·]?)).size=d.size+1:=by rw[q23 ev,eo,u]
   refine Za ?_;show ag _ _ (if((f.filterMap ((SetTable.insertAt d p (h,Value.ref b))[·]?)).size != (SetTable.insertAt d p (h,Value.ref b)).size)=true then _ else _) _ _ _;rw[Zl (by rw[N,u];simp)];refine Zc ?_;dsimp only;refine W4 P rfl ?_ (by rw[N];exact x);have Mf:=UI (es':=f.filterMap ((SetTable.insertAt d p (h,Value.ref b))[·]?)) (t':=t3) P rfl;have y9:=R.trans (Yk _ a (Obj.putSet (f.filterMap ((SetTable.insertAt d p (h,Value.ref b))[·]?)) t3));refine Zc (q _ y9 ⟨_,_,_,t3,Mf,kD,rfl,by rw[N,<- u];exact g3,?_,?_,N,λe B=>pX y9 e (xf1 B)⟩)
   ·unfold SetTable.tooFull;rw[g3.fill,u];rw[G]at X;exact Zo (by lia)
   ·rw[G]at yN;lia
 cases jF:I.plain with
 |false=>
  simp only[Zr,Z5];refine Za (Zc ?_);simp only[XQ];exact l I y V
 |true=>
  simp only[XQ];obtain⟨ob,i,nn,wZ,kZ,wL,_⟩:=id M;refine Za (qF5 wZ kZ wL (U _ _ _ wZ wL) λc=>?_);cases c with
  |true=>
   simp only[XQ];exact l I y V
  |false=>
   simp only[Zr,Z5];exact l {I with plain:=false} ⟨y.pl,y.du,y.ma,y.le⟩ V
end
section
variable{K:Type}[DecidableEq K]{knd:KeyKind prog w K}
def gO(knd:KeyKind prog w K)(h:ao)(c:List K)(b:af):Prop:=∃o a n,h.get? b=some o/\o.cls=.type "tuple" /\ o.data=.seq a n/\ItemsAre knd c a.toList/\∀v∈a.toList,Hb v
theorem gO.key{h:ao}{a:List K}{b:af}(x:gO knd h a b):IsTupleKey knd h a b:=let ⟨o,items,n,h1,h2,h3,h4,_⟩:=x;⟨o,items,n,h1,h2,h3,h4⟩
theorem gO.hb{h:ao}{e:List K}{b:af}(x:gO knd h e b):∀o a m,h.get? b=some o->o.data=.seq a m->∀v∈a.toList,Hb v:=λo a m g f=>by
 obtain⟨j,i,k,h1,_,c,_,d⟩:=x;rw[g]at h1;cases h1;rw[f]at c;cases c;exact d
theorem gO.at{h h':ao}{a:List K}{b:af}(x:gO knd h a b)(k:∀o,h.get? b=some o->h'.get? b=some o):gO knd h' a b:=let ⟨o,items,n,h1,r⟩:=x;⟨o,items,n,k o h1,r⟩
theorem gA.at{h h':ao}{a:af}{j:List (List K)}{n:Nat}(S:gA knd h a j n)(k:∀b o,h.get? b=some o->h'.get? b=some o\/b≠a/\¬∃d,IsTupleKey knd h d b):gA knd h' a j n:=by
 obtain⟨o,v,E,t,A,q,m,g,p,u,C,D⟩:=S.ex;refine⟨o,v,E,t,?_,q,m,g,p,u,C,λe l=>?_⟩
 ·rcases k a o A with z|z
  ·exact z
  ·exact absurd rfl z.1
 ·obtain⟨b,d,y,x,f⟩:=D e l;refine⟨b,d,y,x,?_⟩;obtain⟨i,c,B,s,r⟩:=id f;rcases k b i s with z|z
  ·exact⟨i,c,B,z,r⟩
  ·exact absurd ⟨d,f⟩ z.2
variable{R:Result->ae->Prop}{I:af}{fp wr:List af}{G:Array GenState->Array GenState->Prop}{n:Nat}{P:Nat->aa->Prop}{St:Nat->ae->Prop}
def PU(knd:KeyKind prog w K)(S:af)(wr:List af)(P:Nat->aa->Prop)(val:Nat->List K)(h:ao):Prop:=∀i v,P i v->∃b,v=.ref b/\b≠S/\b∉wr/\gO knd h (val i) b
def xS1(knd:KeyKind prog w K)(wr:List af)(h:ao):Prop:=∀b∈wr,¬∃a,IsTupleKey knd h a b
theorem q25(W:WalksS prog w A.in1 I fp wr G n P St)(S:af)(O:S∉fp)(val:Nat->List K)(q:∀i j,i<j->j<n->val i≠val j)(hn:n<=1200)(T:A.in1.units<cLine)
  (nt:∀i s,St i s->xS1 knd wr s.heap):
  ∀(k i:Nat)(s:ae),n-i=k->i<=n->St i s->PU knd S wr P val s.heap->(∃d,gA knd s.heap S d i/\∀E∈d,∃j,j<i/\E=val j) ->
   (∀a,Moved (S::wr) G s a->(∃d,gA knd a.heap S d n)->R (.ok (.ret .none)) a) ->
   codeAny (ai prog w) A (.builtin "set.update.loop" ⟨[.ref S,.ref I],[]⟩) R s:=by
 have wM:S∉wr:=λz=>O (W.sub _ z);have Q:∀b∈wr,b∈S::wr:=λb hb=>Zk _ hb;have f:∀{i:Nat}{s a:ae}{d:List (List K)}{m:Nat},St i s->Moved wr G s a->gA knd s.heap S d m->gA knd a.heap S d m:=λ{i s a d m} h g r=>r.at λb o e=>by
  by_cases hb:b∈wr
  ·exact .inr ⟨λz=>wM (by rw[<- z];exact hb),nt i s h b hb⟩
  ·exact .inl (g.heap b o hb e)
 intro k
 induction k with
 |zero=>
  intro i s x hi h C D F;have Y:i=n:=by lia
  subst Y;obtain⟨d,r,_⟩:=D;refine Yb YV ?_;rw[Z6 Yl _];refine Za (W.done s _ _ h λa g=>?_);exact Zc (F a (g.mono Q) ⟨d,f h g r⟩)
 |succ k ih=>
  intro i s x hi h C D F;obtain⟨d,r,l⟩:=D;have t:i<n:=by exact xr x
  refine Yb YV ?_;rw[Z6 Yl _];refine Za (W.item i s _ _ t h λv a V aM g=>?_);obtain⟨b,rfl,MN,Z,hb⟩:=C i v V;have L:gO knd a.heap (val i) b:=hb.at λo e=>g.heap b o Z e;have S1:gA knd a.heap S d i:=f h g r;refine Za (ZP ?_);unfold setAdd;refine ZP ?_;refine Za (wpAny_pyHash_tuple T L.key ?_);refine xs4 (s:={a with toks:=a.toks+((val i).length+1)}) T S1 L.key L.hb (λz=>?_) (qh t hn) λX N S2=>?_
  ·obtain⟨j,H,e⟩:=l _ z;exact q j i H t e.symm
  ·have p:PU knd S wr P val X:=λj u J=>by
    obtain⟨c,rfl,h1,U,h3⟩:=C j u J;exact⟨c,rfl,h1,U,(h3.at λo e=>g.heap c o U e).at λo e=>(N.2 c h1).trans e⟩
   refine Zc ⟨YE Yl _,ih (i+1) _ (xp x) t (W.frame _ a _ _ aM (Y5 _ _) λc y o e=>?_) p ⟨val i::d,S2,λE M=>?_⟩ λnE La B=>?_⟩
   ·rw[N.2 c (λz:c=S=>O (by rw[<- z];exact y))];exact e
   ·rcases Zu.mp M with rfl|M
    ·exact⟨i,Yd i,rfl⟩
    ·obtain⟨j,H,e⟩:=l E M;exact⟨j,qm H,e⟩
   ·refine F nE (Ua W.gtrans ((g.mono Q).then_heap (Y5 _ _) λc o y e=>?_) La) B;rw[N.2 c (λz:c=S=>y (by rw[z];exact ZE))];exact e
end
end cI
namespace cI
open PySem PySem.Spec
section
variable{K:Type}[DecidableEq K]{knd:KeyKind prog w K}{A:aq}{E:aa->ae->Prop}{s:ae}
abbrev dk(led:Bool):az:={cls:=.type "set",dict:=none,data:=.set #[] 0 (.fresh 0 0 led)}
theorem qU9{h:ao}{a:af}{led:Bool}(e:h.get? a=some (dk led)):gA knd h a [] 0:=
 ⟨_,#[],0,.fresh 0 0 led,e,⟨rfl,rfl,rfl⟩,rfl,⟨rfl,rfl,⟨3,rfl,by decide⟩,Zz _⟩,by rfl,(by show 7<=8*0+8;decide),rfl,λe b=>by simp at b⟩
theorem h_{l:af}{items:Array aa}{val:Nat->List K}{Q:aa->ae->Prop}(hh:A.handled=none)(hu:A.units+8<cLine)(hl:s.heap.IsTuple l items)
  (hi:∀(i:Nat)(v:aa),items[i]?=some v->∃b,v=.ref b/\gO knd s.heap (val i) b) (n:∀i j,i<j->j<items.size->val i≠val j) (hb:items.size<=1200)
  (h:∀(d:ao)(q:Nat),(∃B,gA knd d s.heap.objs.size B items.size)->(∀b o,b<s.heap.objs.size->s.heap.get? b=some o->d.get? b=some o)->Q (.ref s.heap.objs.size) {s with heap:=d,toks:=q}):
  ag (ai prog w) A (call (.type "set") [.ref l]) Q E s:=by
 obtain⟨c,tl,Mk⟩:=F.called_set.mro;have CM:=F.called_set.made;have Jb:=F.called_set.sub;refine VT (VC ?_);show ag _ _ (callAny (.type "set") _) _ _ _;refine Zc ⟨VX _ (by decide +kernel),Yb F.entry_type_call ?_⟩;rw[Around.under_plain (weight_type_call_type "set" [.ref l] []) rfl];have f1:=F.called_set.notType;have f2:=F.called_set.canCreate;have f3:=F.typeCall_set_1 (.ref l)
 repeat (any_goals first|assumption|wp_step)
 refine XO (code_set_new_1 (.ref l) (E:=E) (Q₁:=λk C=>∃a:Bool,k=.ref s.heap.objs.size/\C={s with heap:=s.heap.push (dk a)}) λa=>⟨a,rfl,rfl⟩) λr C x=>?_;cases r with
 |error e=>exact x
 |ok X=>
  cases X with
  |ret k=>
   obtain⟨a,rfl,rfl⟩:=x;have H:(s.heap.push (dk a)).get? s.heap.objs.size=some (dk a):=Zg _ rfl;have Y:Shared.TypeIs {s with heap:=s.heap.push (dk a)} (.ref s.heap.objs.size) "set":=⟨_,H,rfl⟩;have i1:=F.called_set.init.lookup;have i2:=F.called_set.init.bind (.ref s.heap.objs.size)
   repeat (any_goals first|assumption|wp_step)
   refine XO (XR (R:=wants (λr P=>r=.none/\∃d q,P={s with heap:=d,toks:=q}/\(∃B,gA knd d s.heap.objs.size B items.size) /\
     (∀b o,b<s.heap.objs.size->s.heap.get? b=some o->d.get? b=some o)) E) F.called_set.init.plain F.entry_set_init (check_set_init_1 Y ?_)) λvy P y=>?_
   ·obtain⟨ol,N,J,M,D⟩:=id hl;obtain⟨KY,pU,CA,mh⟩:=ol;simp only at J D;subst J;subst D;have xR:(s.heap.push (dk a)).get? l=some {cls:=.type "tuple",dict:=pU,data:=.seq items M,slots:=mh}:=Zb _ N;have gD:=F.sub_tuple_set;have cm:=F.sub_tuple_frozenset;have U:(Value.type "tuple"== Value.type "dict")=false:=by decide
    have S:(s.heap.push (dk a)).IsTuple l items:=⟨_,xR,rfl,M,rfl⟩;unfold Builtin.«set.__init__» noKeywords Builtin.Frozenset.updateFrom;generalize MZ:pyIter=PI
    wp_walk
    subst MZ;refine YK S ?_;refine Za (W5 ?_);have O:l<s.heap.objs.size:=Zi N;have f:(s.heap.push (dk a)).objs.size=s.heap.objs.size+1:=ZS _ _;have xT:l≠(s.heap.push (dk a)).objs.size:=by rw[f];exact Zp (ZZ O)
    have k8:s.heap.objs.size∉[(s.heap.push (dk a)).objs.size,l]:=by
     rw[f];simp only[Zu,Wa,UB,not_or];exact⟨Zp (Yd _),XN O⟩
    refine q25 (knd:=knd) ((Ub (by simp[hh]) _ l xT items).toS) s.heap.objs.size k8 val n hb (by show A.units+1+1+1<cLine;lia) (λi G st b MJ=>?_) (items.size-0) 0 _ Oq (Zz _)
     ⟨⟨_,Zg _ rfl,rfl,rfl⟩,S.push _⟩ (λi v hv=>?_) ⟨[],qU9 (Zb _ H),λks DJ=>nomatch DJ⟩ λG t g=>?_
    ·rintro⟨ks,V,L,n',p,u,e3,_⟩;have:b=(s.heap.push (dk a)).objs.size:=by simpa using MJ
     subst this;obtain⟨oi,x1,x2,x3⟩:=st.1;rw[x1]at p;cases p;rw[x2]at u;injection u with u
     exact absurd u (by decide)
    ·obtain⟨b,rfl,I⟩:=hi i v hv;have m:b<s.heap.objs.size:=by obtain⟨V,_,_,p,_⟩:=I;exact Zi p
     refine⟨b,rfl,Zp m,(by rw[f];simp only[Zu,Wa,UB];exact Zp (ZZ m)),I.at λo e=>Zb _ (Zb _ e)⟩
    ·obtain⟨d,g',d',IQ,gL⟩:=G;have eg:g'=s.gens:=t.gens;have Z:d'=s.drawn:=t.drawn;have T:gL=s.os:=t.os;subst eg;subst Z;subst T;show ag _ _ _ _ _ _;refine Zc ?_;show ag _ _ (ret Value.none) _ _ _;refine Zc ⟨rfl,d,IQ,rfl,g,λb o m e=>?_⟩;exact t.heap b o (by rw[f];simp only[Zu,Wa,UB,not_or];exact⟨Zp m,Zp (ZZ m)⟩) (Zb _ (Zb _ e))
   ·cases vy with
    |error e=>exact y
    |ok W=>
     cases W with
     |ret r=>
      obtain⟨rfl,d,q,rfl,g,kp⟩:=y
      repeat (any_goals first|assumption|wp_step)
      exact h _ _ g kp
     |_=>exact y.elim
  |_=>exact x.elim
end
end cI
namespace L2
open PySem PySem.Spec PyProof.Rows PySem.W
def xS2(h base:ao)(e:af)(cls d:aa):Prop:=∃a b T oT c,h.get? e=some a/\a.cls=cls/\a.data=.fields b/\b[1]?=some (.ref T)/\b[2]?=some .none/\base.get? T=none/\T≠e/\h.get? T=some oT/\oT.data=.fields c/\c[3]?=some d
structure Over(base:ao)(l:List Env)(e:af)(cls fl:aa)(h:ao):Prop where
 stays:base.StaysIn h
 new:base.get? e=none
 frames:h.FunFrames base l
 uH:xS2 h base e cls fl
section
variable{M:Model}{A:aq}{E:aa->ae->Prop}{s:ae}{base:ao}{env:Env}{outer:List Env}{L e:af}{oe:az}{vs:Array aa}{head:aa}{tT:Bool}
theorem Th{Q:Unit->ae->Prop}(hfr:A.frames=some (env::outer))(l:s.heap.FunFrames base (env::outer))(y:env.frame=some L)(j:s.heap.get? e=some oe)(kb:base.StaysIn s.heap)(ne:base.get? e=none)
  (f:oe.data=.fields vs) (w:vs[2]?=some .none) (F:∀m,Over base (env::outer) e oe.cls (rawInt L) m->s.heap.UpToSlots m->Q () {s with heap:=m}):
  ag M A (do let a <- frameOf env;let c <- entryPlaceOf L tT;let b <- EntryCells.newEntry head a .none (rawInt L) .none c;setField (.ref e) 1 b) Q E s:=by
 have x:1<vs.size:=WA (by decide) (YL.mp w).1;have B:e∉(env::outer).filterMap (·.frame):=λz=>by
  obtain⟨_,o,g,D⟩:=l.mem z;rw[j]at g;cases g;exact D vs f
 refine Za (wpAny_frameOf_fun hfr l y λh k=>?_);refine Za (wpAny_entryPlaceOf λc C=>?_);unfold EntryCells.newEntry newFields;refine Za (ZJ ?_ (C.sizeOk5 _ _ _ _ _));dsimp only;have r:h.get? e=some oe:=(k.2.1 e B).trans j;have n:base.StaysIn h:=λb o q=>(k.2.1 b (λz=>by rw[(l.mem z).1]at q;cases q)).trans (kb b o q);have i:(([head,.ref L,.none,rawInt L,.none]++(if c.isEmpty then List.replicate 6 Value.none else c)).toArray:Array aa)[3]?=some (rawInt L):=by
  simp
 generalize ([head,.ref L,.none,rawInt L,.none]++(if c.isEmpty then List.replicate 6 Value.none else c)).toArray=v at i;have p:(h.push {cls:=.type "traceback",dict:=none,data:=.fields v}).get? e=some oe:=Zb _ r;have u:h.objs.size≠e:=XN (Zi r);refine YD p f x (F _ ⟨?_,ne,?_,?_⟩ ?_)
 ·exact λb o q=>(Zq _ _ (λz=>by rw[z,q]at ne;cases ne)).trans (Zb _ (n b o q))
 ·refine l.of_keeps λb o q d=>?_;obtain⟨t,g⟩:=k.2.2 b o q;exact⟨_,(Zq _ _ (λz=>by rw[<- z,j]at q;cases q;exact d vs f)).trans (Zb _ g),rfl⟩
 ·refine⟨_,_,h.objs.size,_,v,ZO _ p (YG (Z2 f _)),XS _ _,Z2 f _,by simp[x],?_,n.fresh,u,(Zq _ _ (Xc u)).trans (Zg h rfl),rfl,i⟩;rw[Array.getElem?_setIfInBounds_ne (by decide)];exact w
 ·intro b o q d;obtain⟨t,g⟩:=k.2.2 b o q;exact⟨t,(Zq _ _ (λz=>by rw[<- z,j]at q;cases q;exact d vs f)).trans (Zb _ g)⟩
theorem JI{Q:Unit->ae->Prop}{l:List Env}{cls n:aa}(O:Over base l e cls n s.heap)(w:∀c,Over base l e cls .none c->s.heap.UpToSlots c->Q () {s with heap:=c}):ag M A (setFlight (.ref e) none) Q E s:=by
 obtain⟨u,t,p,oe,vs,T,oT,j,g,m,h,h1,v,f,i,a,dT,r⟩:=O;have k:=(YL.mp r).1;unfold setFlight;refine Za (Yj g h h1 ?_);rw[Zx (by simp)];refine YD a dT k (w _ ⟨?_,t,?_,?_⟩ ?_)
 ·exact λb o q=>(Zq _ _ (λz=>by rw[z,q]at f;cases f)).trans (u b o q)
 ·exact p.of_keeps λb o q d=>⟨o,(Zq _ _ (λz=>by rw[<- z,a]at q;cases q;exact d j dT)).trans q,rfl⟩
 ·exact⟨oe,vs,T,_,_,(Zq _ _ i).trans g,m,h,h1,v,f,i,ZO _ a (YG (Z2 dT _)),Z2 dT _,by simp[k]⟩
 ·exact λb o q d=>⟨o.slots,(Zq _ _ (λz=>by rw[<- z,a]at q;cases q;exact d j dT)).trans q⟩
theorem qV0{Q:Unit->ae->Prop}(hfr:A.frames=some (env::outer))(g:s.heap.FunFrames base (env::outer))(b:env.frame=some L)(c:s.heap.get? e=some oe)(kb:base.StaysIn s.heap)(ne:base.get? e=none)
  (d:oe.data=.fields vs) (h1:vs[1]?=some .none) (h:vs[2]?=some .none) (f:∀a,Over base (env::outer) e oe.cls (rawInt L) a->s.heap.UpToSlots a->Q () {s with heap:=a}):ag M A (noteFrame (.ref e) env) Q E s:=by
 unfold noteFrame;simp only[b];refine Za (Yj c d h1 ?_);rw[Zl (by decide)];exact Th hfr g b c kb ne d h f
theorem q26{Q:Unit->ae->Prop}{cls:aa}(hfr:A.frames=some (env::outer))(j:env.frame=some L)(O:Over base (env::outer) e cls .none s.heap)(B:∀a,Over base (env::outer) e cls (rawInt L) a->s.heap.UpToSlots a->Q () {s with heap:=a}):
  ag M A (noteFrame (.ref e) env) Q E s:=by
 obtain⟨w,r,p,oe,vs,T,oT,u,f,m,i,h1,x,g,t,c,dT,k⟩:=O;subst m;have y:=(YL.mp k).1;unfold noteFrame;simp only[j];refine Za (Yj f i h1 ?_);rw[Zx (by simp)];refine Za (Yj c dT k ?_);rw[Zl (by simp[rawInt])];refine Za (YD c dT y ?_);have h:∀b o,s.heap.get? b=some o->(∀l,o.data≠.fields l)->T≠b:=λb o q d z=>by rw[<- z,c]at q;cases q;exact d u dT
 refine Th (s:={s with heap:=_}) hfr ?_ j ((Zq _ _ t).trans f) ?_ r i x λa n v=>B a n λb o q d=>?_
 ·exact p.of_keeps λb o q d=>⟨o,(Zq _ _ (h b o q d)).trans q,rfl⟩
 ·exact λb o q=>(Zq _ _ (λz=>by rw[z,q]at g;cases g)).trans (w b o q)
 ·exact v b o ((Zq _ _ (h b o q d)).trans q) d
theorem qL1{Q:Unit->ae->Prop}(hfr:A.frames=some (env::outer))(k:s.heap.FunFrames base (env::outer))(d:env.frame=some L)(f:s.heap.get? e=some oe)(kb:base.StaysIn s.heap)(ne:base.get? e=none)
  (i:oe.data=.fields vs) (h1:vs[1]?=some .none) (l:vs[2]?=some .none) (h:∀b,Over base outer e oe.cls .none b->s.heap.UpToSlots b->Q () {s with heap:=b}):ag M A (leaving env (.ref e)) Q E s:=by
 unfold leaving;refine Za (qV0 hfr k d f kb ne i h1 l λg O U=>?_);refine JI O λc a j=>h c ⟨a.stays,a.new,a.frames.2.2,a.uH⟩ (U.trans j)
end
end L2
namespace L2
open PySem PySem.Spec PyProof.Rows
theorem bh.there{P:ah}{w:aj}{H:Hp}{h:ao}{a:af}{o:HO}(x:bh P w H h a o):∃ob,h.get? a=some ob:=by
 cases o with
 |lst c=>obtain⟨_,_,_,_,e⟩:=x;exact⟨_,e⟩
 |tup c=>obtain⟨_,_,_,o,e,_⟩:=x;exact⟨_,e⟩
 |dK b=>obtain⟨_,_,_,_,o,_,_,e,_⟩:=x;exact⟨_,e⟩
 |dT b=>obtain⟨_,_,_,_,o,_,_,e,_⟩:=x;exact⟨_,e⟩
 |set S n=>obtain⟨o,_,_,_,e,_⟩:=x;exact⟨_,e⟩
 |ins C i fs=>obtain⟨_,_,_,e,_⟩:=x;exact⟨_,e⟩
 |own y=>exact x
 |xd fs=>obtain⟨_,⟨_,_,_,e,_⟩,_⟩:=x;exact⟨_,e⟩
 |uh j k=>obtain⟨_,_,_,e⟩:=x;exact⟨_,e⟩
 |mE ob u=>obtain⟨e,_⟩:=x;exact⟨_,e⟩
 |uc g=>exact⟨_,(show h.get? a=some _ from x)⟩
 |met f y=>exact⟨_,(show h.get? a=some _ from x)⟩
 |ext d=>exact x.2.1
def HC(P:ah)(w:aj)(outer:List Env)(H a:Hp)(h h':ao)(x:af)(cls:aa):Prop:=
 ∃(B:ao),Un (dA outer) [] H a h h'/\dH P w a h'/\Over B outer x cls .none h'/\(∀b o,h.get? b=some o->b∉dA outer->∃ob,B.get? b=some ob)/\(∀b o,a b=some o->∃ob,B.get? b=some ob)/\a x=none
def yv(P:ah)(w:aj):nv:=λa H s E e b=>∃(x:af)(cls:aa)(c:Hp),e=.ref x/\b.os=s.os/\AllBare b.gens/\HC P w a H c s.heap b.heap x cls/\E cls none c
def OX(X:Cx)(E:XK):Prop:=∀(b:List (af×az))(c:St)(H:Hp)(s:ae)(a:ao)(e:af)(cls:aa)(args:List aa),Inv X b c H s->Heap.MadeExcOf s.heap a e cls args->E cls none H->X.xe (.ref e) {s with heap:=a}
section
variable{H H1 H':Hp}{h h1 h':ao}{outer:List Env}{env:Env}{x L:af}{cls:aa}
theorem HC.left{B:ao}(d:Un (dA outer) [] H H1 h h1)(s:∀b o,h.get? b=some o->b≠L)(C:env.frame=some L)(g:Un (dA (env::outer)) [] H1 H' h1 h')(K:dH P w H' h')
  (m:∀b o,h1.get? b=some o->b∉dA (env::outer)->∃ob,B.get? b=some ob) (l:∀b o,H' b=some o->∃ob,B.get? b=some ob) (X:H' x=none) (st:B.StaysIn h') (J:h.FunFrames B' outer)
  {j:ao}(i:Over B outer x cls .none j) (I:h'.UpToSlots j):HC P w outer H H' h j x cls:=by
 have p:∀b,b∉dA outer->b≠L->b∉dA (env::outer):=λb hb V t=>by
  unfold dA at t hb;rw[Ys,C]at t;rcases Zu.mp t with z|z
  ·exact V z
  ·exact hb z
 have Q:∀b,b∈dA outer->b∈dA (env::outer):=λb hb=>by
  unfold dA at hb ⊢;rw[Ys,C];exact Zk _ hb
 have km:∀b:af,b∉([]:List af):=λb=>by simp
 have same:∀b ob o,B.get? b=some ob->h'.get? b=some o->j.get? b=some o:=λb ob o a f=>by
  have y:=st b ob a;have S:=i.stays b ob a;rw[f]at y;cases y;exact S
 refine⟨B,⟨λb o e n hb _=>?_,λb o e n hb _=>?_,λb o e n _=>?_,λb o e _=>?_,λb A e=>g.b_ b A (d.b_ b A e),λb o u e=>g.fV b o u (d.fV b o u e),λb O e=>?_⟩,λb o e=>?_,i,λb o e hb=>?_,l,X⟩
 ·have a:=d.keep b o e n hb (km b);have F:=p b hb (s b o e);have f:=g.keep b o a (d.free b o e n (km b)) F (km b);obtain⟨ob,z⟩:=m b o a F;exact same b ob o z f
 ·obtain⟨Y,a⟩:=d.slot b o e n hb (km b);obtain⟨Z,f⟩:=g.slot b _ a (d.free b o e n (km b)) (Q b hb) (km b);obtain⟨_,v,D,N⟩:=J.mem hb;rw[e]at D;cases D;obtain⟨W,G⟩:=I b _ f N;exact⟨W,G⟩
 ·obtain⟨v,a⟩:=d.there b o e (km b);exact g.free b v a (d.free b o e n (km b)) (km b)
 ·obtain⟨k,a⟩:=d.there b o e (km b);by_cases hb:b∈dA (env::outer)
  ·by_cases E:b∈dA outer
   ·obtain⟨_,R,f,_⟩:=i.frames.mem E;exact⟨R,f⟩
   ·exact absurd hb (p b E (s b o e))
  ·obtain⟨ob,z⟩:=m b k a hb;exact⟨ob,i.stays b ob z⟩
 ·obtain⟨U,a⟩:=d.gn b O e;obtain⟨T,f⟩:=g.gn b _ a;exact⟨U++T,by rw[f,Array.append_assoc]⟩
 ·refine(K b o e).cX (λc u M q=>?_) (λ_ q=>q) λ_ _ q=>q;rcases M with z|z
  ·obtain⟨ob,r⟩:=l b o e;rw[z]at q ⊢;exact same b ob u r q
  ·obtain⟨ob,r⟩:=l c _ z;exact same c ob u r q
 ·obtain⟨k,a⟩:=d.there b o e (km b);exact m b k a (p b hb (s b o e))
end
section
variable{N:List ar}{qual:ar}{scope:aA}{f:af}{cd:aa}{A:aq}{outer:List Env}{aH:ae}{aJ:Hp}{E:XK}
theorem xs7:OX (jb (yv P w) P w K mg base N qual scope f cd A outer aH aJ E) E:=by
 intro y D H s h' e h i I c u;have j:(envOfC qual scope aH.heap.objs.size f cd).frame=some aH.heap.objs.size:=rfl;have n:s.heap.FunFrames base (envOfC qual scope aH.heap.objs.size f cd::outer):=I.stack;have k:∀d∈(envOfC qual scope aH.heap.objs.size f cd::outer),∀a,d.frame=some a->a∈dA (envOfC qual scope aH.heap.objs.size f cd::outer):=λd g a m=>WP.mpr ⟨d,g,m⟩;obtain⟨t,g,_,_⟩:=c.there;have l:(PySem.W.hideAll s.heap (dA (envOfC qual scope aH.heap.objs.size f cd::outer))).get? e=none:=by
  cases q:(PySem.W.hideAll s.heap (dA (envOfC qual scope aH.heap.objs.size f cd::outer))).get? e with
  |none=>rfl
  |some o=>
   have:=WO _ q;rw[c.new]at this;cases this
 have r:H e=none:=by
  cases z:H e with
  |none=>rfl
  |some o=>
   obtain⟨ob,q⟩:=(I.aT e o z).there;rw[c.new]at q;cases q
 refine qL1 (base:=PySem.W.hideAll s.heap (dA (envOfC qual scope aH.heap.objs.size f cd::outer))) I.ok.frames ((PySem.W.funFrames_hide n k).of_keeps λb o hb _=>⟨o,c.keeps b o hb,rfl⟩) j g
  (λb o hb=>c.keeps b o (WO _ hb)) l rfl rfl rfl λC v p=>?_
 refine⟨e,h,H,rfl,I.os,I.bare,?_,u⟩;refine HC.left (B:=PySem.W.hideAll s.heap (dA (envOfC qual scope aH.heap.objs.size f cd::outer))) (h':=h') I.base (λb o z=>Zp (Zi z)) j (Un.kept c.keeps) (I.aT.kept c.keeps) (λb o z hb=>⟨o,VH _ z hb⟩) (λb o z=>?_) r (λb o hb=>c.keeps b o (WO _ hb)) I.ok.dP v p;obtain⟨ob,q⟩:=(I.aT b o z).there;refine⟨ob,VH _ q λx=>?_⟩;have:=I.iS b x;rw[z]at this;cases this
end
def t9(r:af)(n:Nat)(h:ao):Prop:=∃o a b t,h.get? r=some o/\o.ExactSet/\o.data=.set a b t/\t.fits a.size=true/\a.size=n
section
variable{X:Cx}
theorem xS3{k:Key}{u:aa}(r:RelV (kV k) u):cI.Hb u:=by
 cases k with
 |inl i=>obtain⟨t,rfl⟩:=r;exact cI.Hb.int i t
 |inr x=>obtain⟨t,rfl⟩:=r;exact cI.Hb.str x t
theorem OW:∀{c:List Key}{b:List aa},Vals (c.map kV) b->∀v∈b,cI.Hb v
 |[],_,.nil,v,a=>by cases a
 |k::c,_,.cons r t,v,a=>by
  rcases Zu.mp a with rfl|a
  ·exact xS3 r
  ·exact OW t v a
theorem xt0{P:ah}{w:aj}{H:Hp}{h:ao}{b:af}{a:List Key}(ok:dH P w H h)(e:H b=some (.tup (a.map kV))):cI.gO (kg P w) h a b:=by
 obtain⟨_,d,r,o,g,c,n,f⟩:=ok b _ e;exact⟨o,d.toArray,n,g,c,f,by simpa using JA r,λv i=>OW r v (by simpa using i)⟩
inductive ll(xs:List V)(H:Hp)(Q:VK):Prop
 |mk(p:af)(bs:List af)(rows:List (List Key))(aX:xs=[.ref p])(dQ:H p=some (.tup (bs.map V.ref)))(cA:bs.length=rows.length)(aU:(∀(i:Nat) b ks,bs[i]?=some b->rows[i]?=some ks->H b=some (.tup (ks.map kV))))(Hw:rows.Nodup)(Nr:rows.length<=1200)(e6_:∀r,H r=none->Q (.ref r) (upd H r (.ext (t9 r rows.length))))
theorem q27(hc:X.calm=true){k:Nat}(R:bf k X.A):fm X (.type "set") ll:=by
 intro j8 s σ H xs us Q I rv h;obtain⟨p,bs,rows,rfl,hp,n,U,wT,E,q⟩:=h;obtain⟨u,rfl,ru⟩:=gI rv;cases ru;obtain⟨_,l,L,A⟩:=I.aT p _ hp;have f:l.length=bs.length:=by have:=L.length;simpa using this.symm
 have un:=R.units;have d:∀(i:Nat)(v:aa),l[i]?=some v->∃b,bs[i]?=some b/\v=.ref b:=λi v m=>by
  have c:i<bs.length:=by rw[<- f];exact(cz m).1
  obtain⟨w',w,B⟩:=L.get (i:=i) (x:=V.ref bs[i]) (by simp[c]);rw[m]at w;cases w;exact⟨bs[i],by simp[c],B⟩
 refine cI.h_ (knd:=kg X.prog X.w) (items:=l.toArray) (val:=λi=>rows.getD i []) (I.ok.hd hc) (by lia) (show s.heap.IsTuple p l.toArray from A) (λi v m=>?_) (λi j jN C z=>?_) (by rw[ZK,f,n];exact E) λh' tk y Z=>?_
 ·obtain⟨b,hb,rfl⟩:=d i v (by simpa using m);have c:i<rows.length:=by rw[<- n];exact(cz hb).1
  have e:rows.getD i []=rows[i]:=by simp[List.getD,c]
  show ∃M,Value.ref b=.ref M/\cI.gO _ s.heap (rows.getD i []) M;rw[e];exact⟨b,rfl,xt0 I.aT (U i b rows[i] hb (by simp[c]))⟩
 ·rw[ZK,f,n]at C;have G:rows.getD i []=rows.getD j []:=z;have c:i<rows.length:=by exact nW jN C
  have w:rows.getD i []=rows[i]:=by simp[List.getD,c]
  have B:rows.getD j []=rows[j]:=by simp[List.getD,C]
  rw[w,B]at G;have:=(List.getElem_inj wT).mp G;lia
 ·obtain⟨Ks,S⟩:=y;obtain⟨o,J,ep,t,K,W,P,g,hf,_,hn,_⟩:=S.ex;have O:J.size=rows.length:=by rw[hn,ZK,f,n]
  refine⟨.ref s.heap.objs.size,_,I.laid (a:=s.heap.objs.size) (o:=.ext (t9 s.heap.objs.size rows.length)) (t':=tk) (λb o e=>Z b o (Zi e) e) (Ze _) ⟨⟨o,J,ep,t,K,W,P,g.fits,O⟩,⟨o,K⟩,λh1 h2 N k=>?_⟩,rfl,q _ (I.aT.fresh (Ze _))⟩;obtain⟨F,D,T,t',Y,r⟩:=N;exact⟨F,D,T,t',k F Y,r⟩
inductive iH(xs:List V)(H:Hp)(Q:VK):Prop
 |mk(r:af)(n:Nat)(aX:xs=[.ref r])(dQ:H r=some (.ext (t9 r n)))(cA:n<=1200)(aU:Q (.int n) H)
theorem qL2:fm X (.builtin "len") iH:=by
 intro l s v H j k Q I g h;obtain⟨r,n,rfl,c,m,q⟩:=h;obtain⟨u,rfl,i⟩:=gI g;cases i;obtain⟨⟨o,a,p,t,f,e,b,d,rfl⟩,_⟩:=I.aT r _ c;have hb:(a.size:Int)<=1200:=by lia
 exact call_len_set f e b d (Int.lt_of_le_of_lt hb (by decide)) ⟨.int a.size,H,I.tok _,⟨_,rfl⟩,q⟩
end
mutual
inductive bz(H:Hp):V->PyData->Prop
 |cu:bz H .cu .none
 |bl (b:Bool):bz H (.bl b) (.bool b)
 |int (i:Int):bz H (.int i) (.int i)
 |str (x:ar):bz H (.str x) (.str x)
 |lst {a:af}{xs:List V}{ds:List PyData}(h:H a=some (.lst xs)) (r:aR H xs ds):bz H (.ref a) (.list ds)
 |tup {a:af}{xs:List V}{ds:List PyData}(h:H a=some (.tup xs)) (r:aR H xs ds):bz H (.ref a) (.tuple ds)
inductive aR(H:Hp):List V->List PyData->Prop
 |nil:aR H [] []
 |cons {x:V}{xs:List V}{d:PyData}{ds:List PyData}(h:bz H x d) (r:aR H xs ds):aR H (x::xs) (d::ds)
end
section
variable{H:Hp}{h:ao}
mutual
theorem bz.reads(ok:dH P w H h):∀{x:V}{d:PyData}{u:aa},bz H x d->RelV x u->∃as,Reads h u d as
 |_,_,u,.cu,r=>⟨[],by cases(show u=Value.none from r);exact .none⟩
 |_,_,u,.bl b,r=>⟨[],by cases(show u=Value.bool b from r);exact .bool b⟩
 |_,_,u,.int i,r=>⟨[],by obtain⟨t,rfl⟩:=r;exact .int i t⟩
 |_,_,u,.str x,r=>⟨[],by obtain⟨t,rfl⟩:=r;exact .str x t⟩
 |_,_,u,.lst (a:=a) e rs,r=>by
  cases(show u=Value.ref a from r);obtain⟨_,k,n,g,f⟩:=ok a _ e;obtain⟨as,c⟩:=aR.reads ok rs g;exact⟨a::as,.list f rfl rfl (by simpa using c)⟩
 |_,_,u,.tup (a:=a) e rs,r=>by
  cases(show u=Value.ref a from r);obtain⟨_,k,g,o,f,j,n,l⟩:=ok a _ e;obtain⟨as,c⟩:=aR.reads ok rs g;exact⟨as,.tuple f j l (by simpa using c)⟩
theorem aR.reads(ok:dH P w H h):∀{c:List V}{b:List PyData}{a:List aa},aR H c b->Vals c a->∃as,ReadsAll h a b as
 |_,_,_,.nil,.nil=>⟨[],.nil⟩
 |_,_,_,.cons h1 g,.cons r f=>by
  obtain⟨as,e⟩:=bz.reads ok h1 r;obtain⟨bs,d⟩:=aR.reads ok g f;exact⟨as++bs,.cons e d⟩
end
mutual
theorem bz.same{a:Hp}(s:∀b o,H b=some o->a b=some o):∀{x:V}{d:PyData},bz H x d->bz a x d
 |_,_,.cu=>.cu
 |_,_,.bl b=>.bl b
 |_,_,.int i=>.int i
 |_,_,.str x=>.str x
 |_,_,.lst e r=>.lst (s _ _ e) (aR.same s r)
 |_,_,.tup e r=>.tup (s _ _ e) (aR.same s r)
theorem aR.same{a:Hp}(s:∀b o,H b=some o->a b=some o):∀{d:List V}{c:List PyData},aR H d c->aR a d c
 |_,_,.nil=>.nil
 |_,_,.cons h r=>.cons (bz.same s h) (aR.same s r)
end
theorem aR.ints:∀(a:List Int),aR H (a.map V.int) (a.map PyData.int)
 |[]=>.nil
 |n::a=>.cons (.int n) (aR.ints a)
end
section
variable{X:Cx}
inductive q8(x:V)(y:V)(H:Hp)(Q:VK):Prop
 |mk(d:_)(e:_)(aX:bz H x d)(dQ:bz H y e)(cA:d.canLay0=true)(aU:e.canLay0=true)(Hw:d.depth<=60)(Nr:Q (.bl (PyData.eqv d e)) H)
theorem KO{k:Nat}(c:bf k X.A):fk X (compareOp .Eq) q8:=by
 intro n s p H x y v u Q I i j h;obtain⟨d,e,b,a,g,f,dp,q⟩:=h;obtain⟨as,l⟩:=b.reads I.aT i;obtain⟨bs,m⟩:=a.reads I.aT j;have un:=c.units;exact SeqAt.rcAt_reads l m g f (Qh dp un) X.prog X.w X.xe _ ⟨.bl _,H,I,rfl,q⟩
inductive qY(x:V)(y:V)(H:Hp)(Q:VK):Prop
 |mk(d:_)(e:_)(aX:bz H x d)(dQ:bz H y e)(cA:d.canLay0=true)(aU:e.canLay0=true)(Hw:d.depth<=60)(Nr:Q (.bl (!PyData.eqv d e)) H)
theorem Cg{k:Nat}(c:bf k X.A):fk X (compareOp .NotEq) qY:=by
 intro n s p H x y v u Q I i j h;obtain⟨d,e,b,a,g,f,dp,q⟩:=h;obtain⟨as,l⟩:=b.reads I.aT i;obtain⟨bs,m⟩:=a.reads I.aT j;have un:=c.units;exact SeqAt.rcNeAt_reads l m g f (Qh dp un) X.prog X.w X.xe _ ⟨.bl _,H,I,rfl,q⟩
end
theorem JP:∀(a b:List Int),PyData.eqvAll (a.map PyData.int) (b.map PyData.int)=decide (a=b)
 |[],[]=>by simp[PyData.eqvAll]
 |x::a,[]=>by simp[PyData.eqvAll]
 |[],y::b=>by simp[PyData.eqvAll]
 |x::a,y::b=>by
  show(PyData.eqv (.int x) (.int y)&&PyData.eqvAll (a.map PyData.int) (b.map PyData.int))=_;rw[JP a b,show PyData.eqv (.int x) (.int y)=(x==y) by simp[PyData.eqv]];rw[Xw];simp
theorem JO:∀(a:List Int),PyData.canLayAll0 (a.map PyData.int)=true
 |[]=>by simp[PyData.canLayAll0]
 |x::a=>by
  show(PyData.canLay0 (.int x)&&PyData.canLayAll0 (a.map PyData.int))=true;rw[JO a];simp[PyData.canLay0]
def dT(a:List Int):PyData:=.tuple (a.map PyData.int)
def dL(a:List Int):PyData:=.list (a.map PyData.int)
theorem KN(a:List Int):(dT a).canLay0=true:=by
 exact JO a
theorem FY(a:List Int):(dL a).canLay0=true:=by
 exact JO a
theorem xL2(a b:List Int):PyData.eqv (dT a) (dT b)=decide (a=b):=by
 exact JP a b
theorem KL(a b:List Int):PyData.eqv (dL a) (dL b)=decide (a=b):=by
 exact JP a b
end L2
namespace nu
open PySem PySem.Spec
theorem qV1{it t:af}{i:Nat}{items:Array aa}{x:aa}{Q:aa->ae->Prop}(st:s.heap.IsTupleIter it t i)(h:s.heap.IsTuple t items)(e:items[i]?=some x)
  (q:∀c,c.IsTupleIter it t (i+1)->Heap.SameBut it s.heap c->Q x {s with heap:=c}):ag (ai prog w) A (Builtin.SmallTypes.nextOf (.ref it)) Q E s:=by
 obtain⟨o,b,g,a⟩:=id st;obtain⟨j,d,_,k,f⟩:=h;unfold Builtin.SmallTypes.nextOf;refine Za (Z0 (name:=Str.ofString "__next__") st.typeIs XE (Z3 XE st.typeIs F.entry_tuple_iterator_next ?_ (F.args_tuple_iterator_next_1 _)));show ag _ _ (field (.ref it) 0 >>= _) _ _ s;refine Za (Yj b a (x:=.ref t) rfl ?_);show ag _ _ (if(Value.ref t==Value.none)=true then _ else _) _ _ s;rw[Zl (show ¬((Value.ref t==Value.none)=true)from Zy)];show ag _ _ (field (.ref it) 1 >>= _) _ _ s;refine Za (Yj b a (x:=.int i 0) rfl ?_);show ag _ _ (seqItems? (.ref t) >>= _) _ _ s;refine Za (Xo d f ?_);simp only[ZD,e];refine Za (YD b a (by simp) (Zc ⟨x,rfl,Zc (q _ ⟨_,ZO _ b (YG (Z2 a _)),(XS ..).trans g,?_⟩ (Yk ..))⟩));rw[Z2 a];simp[rawInt]
theorem q31{it t:af}{i:Nat}{items:Array aa}{Q:aa->ae->Prop}(f:A.handled=none)(st:s.heap.IsTupleIter it t i)(k:s.heap.IsTuple t items)(h:items[i]?=none)
  (q:∀c e,Heap.ExtBut it s.heap c->(∃o,c.get? e=some o/\o.cls=.type "StopIteration")->E (.ref e) {s with heap:=c}):ag (ai prog w) A (Builtin.SmallTypes.nextOf (.ref it)) Q E s:=by
 obtain⟨o,d,p,b⟩:=id st;obtain⟨l,g,_,n,j⟩:=k;unfold Builtin.SmallTypes.nextOf;refine Za (Z0 (name:=Str.ofString "__next__") st.typeIs XE (Z3 XE st.typeIs F.entry_tuple_iterator_next ?_ (F.args_tuple_iterator_next_1 _)));show ag _ _ (field (.ref it) 0 >>= _) _ _ s;refine Za (Yj d b (x:=.ref t) rfl ?_);show ag _ _ (if(Value.ref t==Value.none)=true then _ else _) _ _ s;rw[Zl (show ¬((Value.ref t==Value.none)=true)from Zy)];show ag _ _ (field (.ref it) 1 >>= _) _ _ s;refine Za (Yj d b (x:=.int i 0) rfl ?_);show ag _ _ (seqItems? (.ref t) >>= _) _ _ s;refine Za (Xo g j ?_);simp only[ZD,h];refine Za (Y4 (Za (YD d b (by simp) ?_)));show ag _ _ (newExc (.type "StopIteration") [] >>= _) _ _ _;refine Za ?_;simp only[newExc,newTuple];refine Za (ZJ ?_ (by size_fits));refine Za (m:=firstArgMember _ _) (Wc (a:=Value.none) (by first|rfl|(simp only[firstArgMember];rfl)) ?_);refine ZJ ?_ (by size_fits);simp only[raiseNew];refine Za (Ul ?_)
 first|rw[show A.in1.handled=none from f]|rw[f]
 refine Za (Zc (wpAny_throw ?_));exact q _ _ (((Yk ..).extBut.push _).push _) ⟨_,Zg _ rfl,rfl⟩
theorem q32{e it:af}{i:Nat}{x a:aa}{St:ao->Prop}{Q:aa->ae->Prop}(D:IsEnum s.heap e it i a)(W:e≠it)
  (nx:∀V:aa->ae->Prop,(∀h,Heap.SameBut it s.heap h->St h->V x {s with heap:=h})->ag (ai prog w) A (Builtin.SmallTypes.nextOf (.ref it)) V E s)
  (q:∀h1 h,Heap.SameBut it s.heap h1->St h1->IsEnumOut h e it ((i:Int)+1) x s.heap.objs.size->h.get? s.heap.objs.size=some {cls:=.type "tuple",data:=.seq #[.int i s.toks,x]} ->
   (∀b o,b≠e->h1.get? b=some o->h.get? b=some o)->Q (.ref s.heap.objs.size) {s with heap:=h,toks:=s.toks+1}):
  ag (ai prog w) A (Builtin.«enumerate.__next__» ⟨[.ref e],[]⟩) (λG s'=>∃v,G=.done (.ret v)/\Q v s') E s:=by
 obtain⟨l,g,d,c,k⟩:=s;show ag _ _ (field (.ref e) 2 >>= _) _ _ _;refine Za (Yj D rfl (x:=.ref it) rfl ?_);refine Za (nx _ λf p X=>?_)
 replace p:Heap.SameBut it l f:=p
 have S:IsEnum f e it i a:=(p.2 e W).trans D;show ag _ _ (field (.ref e) 3 >>= _) _ _ ⟨f,g,d,c,k⟩;refine Za (Yj S rfl (x:=rawInt i) rfl ?_);show ag _ _ (field (.ref e) 4 >>= _) _ _ ⟨f,g,d,c,k⟩;refine Za (Yj S rfl (x:=.none) rfl ?_);show ag _ _ (mkInt i >>= _) _ _ ⟨f,g,d,c,k⟩;refine Za (wpAny_mkInt ?_);show ag _ _ (setField (.ref e) 3 (rawInt ((i:Int)+1)) >>= _) _ _ ⟨f,g,d,c+1,k⟩;refine Za (Wf S (by simp) λr J C=>?_)
 replace C:Heap.SameBut e f r:=C
 replace J:IsEnum r e it ((i:Int)+1) a:=J
 show ag _ _ (setField (.ref e) 4 .none >>= _) _ _ ⟨r,g,d,c+1,k⟩;refine Za (Wf J (by simp) λn I t=>?_)
 replace t:Heap.SameBut e r n:=t
 replace I:IsEnum n e it ((i:Int)+1) a:=I
 show ag _ _ (newTuple [.int i c,x] >>= _) _ _ ⟨n,g,d,c+1,k⟩;refine Za (wpAny_newTuple ?_);have T:n.objs.size=l.objs.size:=by rw[t.1,C.1,p.1]
 have P:e<l.objs.size:=Zi D;obtain⟨j,u⟩:∃j,n.push {cls:=.type "tuple",data:=.seq #[.int i c,x]}=j:=⟨_,rfl⟩;have F:IsEnum j e it ((i:Int)+1) a:=by rw[<- u];exact Zb _ I
 have Z:j.get? l.objs.size=some {cls:=.type "tuple",data:=.seq #[.int i c,x]}:=by rw[<- u,<- T];exact Zg _ rfl
 have Y:∀b o,b≠e->f.get? b=some o->j.get? b=some o:=λb o hb m=>by
  rw[<- u];exact Zb _ (t.extBut b o hb (C.extBut b o hb m))
 rw[u];show ag _ _ (Builtin.SmallTypes.ownedTupleIsFree (.ref e) >>= _) _ _ ⟨j,g,d,c+1,k⟩;rw[T];refine Za ?_;unfold Builtin.SmallTypes.ownedTupleIsFree;refine Za (Yj F rfl (x:=.none) rfl (Zc ?_));simp only[XQ];refine Za (Y4 ?_);refine Za (Yj F rfl (x:=a) rfl ?_);refine Za (Wf F (by simp) λy K H=>?_)
 replace H:Heap.SameBut e j y:=H
 replace K:IsEnum y e it ((i:Int)+1) x:=K
 show ag _ _ (Builtin.SmallTypes.ownedTupleHandOut (.ref e) (.ref l.objs.size) >>= _) _ _ ⟨y,g,d,c+1,k⟩;refine Za ?_;unfold Builtin.SmallTypes.ownedTupleHandOut;refine Za (Wf K (by simp) λL R O=>?_)
 replace O:Heap.SameBut e y L:=O
 replace R:IsEnumOut L e it ((i:Int)+1) x l.objs.size:=R
 refine Wf R (by simp) λB N M=>?_
 replace M:Heap.SameBut e L B:=M
 replace N:IsEnumOut B e it ((i:Int)+1) x l.objs.size:=N
 have U:∀b o,b≠e->j.get? b=some o->B.get? b=some o:=λb o hb m=>M.extBut b o hb (O.extBut b o hb (H.extBut b o hb m));exact Za (Vw (Zc ⟨_,rfl,q f B p X N (U _ _ (XN P) Z) λb o hb m=>U b o hb (Y b o hb m)⟩))
theorem nM{e it t:af}{i:Nat}{items:Array aa}{x d:aa}{Q:Option aa->ae->Prop}(g:IsEnum s.heap e it i d)(j:e≠it)(st:s.heap.IsTupleIter it t i)(n:s.heap.IsTuple t items)(y:items[i]?=some x)
  (q:∀h1 a,Heap.SameBut it s.heap h1->IsEnumOut a e it ((i:Int)+1) x s.heap.objs.size->a.IsTupleIter it t (i+1)->a.get? s.heap.objs.size=some {cls:=.type "tuple",data:=.seq #[.int i s.toks,x]} ->
   (∀b o,b≠e->h1.get? b=some o->a.get? b=some o)->Q (some (.ref s.heap.objs.size)) {s with heap:=a,toks:=s.toks+1}):ag (ai prog w) A (pyNext (.ref e)) Q E s:=by
 have k:s.TypeIs (.ref e) "enumerate":=⟨_,g,rfl⟩;unfold pyNext;refine Za (Xj (Z0 (name:=Str.ofString "__next__") k Wl (Z3 Wl k F.entry_enumerate_next
  (q32 (St:=λh=>h.IsTupleIter it t (i+1)) g j (λC p=>qV1 st n y λa v f=>p a f v) λh1 a f r u c l=>Zc (q h1 a f u ?_ c l)) (F.args_enumerate_next_1 _))))
 obtain⟨o,B,m⟩:=r;exact⟨o,l it o (Xc j) B,m⟩
theorem next_end{e it t:af}{i:Nat}{items:Array aa}{a:aa}{Q:Option aa->ae->Prop}(g:A.handled=none)(d:IsEnum s.heap e it i a)(st:s.heap.IsTupleIter it t i)(m:s.heap.IsTuple t items)(k:items[i]?=none)
  (q:∀c,Heap.ExtBut it s.heap c->Q none {s with heap:=c}):ag (ai prog w) A (pyNext (.ref e)) Q E s:=by
 have f:s.TypeIs (.ref e) "enumerate":=⟨_,d,rfl⟩;unfold pyNext;refine Za (Xj (Z0 (name:=Str.ofString "__next__") f Wl (Z3 Wl f F.entry_enumerate_next ?_ (F.args_enumerate_next_1 _))));show ag _ _ (field (.ref e) 2 >>= _) _ _ _;refine Za (Yj d rfl (x:=.ref it) rfl ?_);refine Za (q31 g st m k λc x h ⟨o,l,j⟩=>?_);exact Za (Xg (T:= "StopIteration") (b:=true) ⟨o,l,j⟩ W6 (Zc (q _ h)))
theorem q33(l:af)(items:Array aa)(n:Nat)(e:Option af)(f:Array (Option aa)):
  Meets (Builtin.«enumerate.__new__» ⟨[.type "enumerate",.ref l],[]⟩) (λ_ R s=>s.heap.get? l=some {cls:=.type "tuple",dict:=e,data:=.seq items n,slots:=f} /\
   R (.ok (.ret (.ref (s.heap.push {cls:=.type "tuple_iterator",data:=.fields #[.ref l,.int 0 0]}).objs.size)))
    {s with heap:=(s.heap.push {cls:=.type "tuple_iterator",data:=.fields #[.ref l,.int 0 0]}).push {cls:=.type "enumerate",data:=.fields #[.none,.bool false,.ref s.heap.objs.size,rawInt 0,.none,.none]}}):=
 .of_wp λprog w A R s h=>by
  obtain⟨j,g,d,i,k⟩:=s;obtain⟨a,h⟩:=h;have m:=sub_enumerate;have b:Heap.IsTuple (Shared.heap ⟨j,g,d,i,k⟩) l items:=⟨_,a,rfl,n,rfl⟩
  wp_walk using WH a
  refine wpAny_stack_any λp=>Zc ?_;split
  ·rename_i c _ _ _ _ _;cases(c==Value.type "enumerate")
   all_goals
    wp_walk using WH a,YK b
    exact⟨_,rfl,h⟩
  ·wp_walk using WH a,YK b
   exact⟨_,rfl,h⟩
theorem qT{l:af}{items:Array aa}{Q:aa->ae->Prop}(k:s.heap.IsTuple l items)
  (q:∀a,IsEnum a (s.heap.objs.size+1) s.heap.objs.size 0 .none->a.IsTupleIter s.heap.objs.size l 0->(∀b o,s.heap.get? b=some o->a.get? b=some o)->Q (.ref (s.heap.objs.size+1)) {s with heap:=a}):
  ag (ai prog w) A (call (.type "enumerate") [.ref l]) Q E s:=by
 obtain⟨⟨c,i,m,j⟩,p,e,n,f⟩:=k
 replace e:c=.type "tuple":=e
 replace f:m=.seq items n:=f
 subst e f;refine callType_new F.called_enumerate (by decide) (F.typeCall_enumerate_1 _) (F.newCall_enumerate_1 _) (λg=>F.args_object_init_2 g _) F.entry_enumerate_new (q33 l items n i j) ⟨p,?_⟩;have h:(s.heap.push {cls:=.type "tuple_iterator",data:=.fields #[.ref l,.int 0 0]}).objs.size=s.heap.objs.size+1:=ZS ..;show _/\_;rw[h];have d:=Zg (s.heap.push {cls:=.type "tuple_iterator",data:=.fields #[.ref l,.int 0 0]}) (o:={cls:=.type "enumerate",data:=.fields #[.none,.bool false,.ref s.heap.objs.size,rawInt 0,.none,.none]}) rfl;rw[h]at d;exact⟨⟨_,d,rfl⟩,q _ d ⟨_,Zb _ (Zg _ rfl),rfl,rfl⟩ λb o x=>Zb _ (Zb _ x)⟩
end nu
namespace L2
open PySem PySem.Spec PyProof.Rows
def Al(K:PySem.W.Frag)(a:af):It:=
 ⟨λi H=>∃b x,aZ K H a b/\b[i]?=some x,λi H y c=>∃p x,H p=none/\(∀b,aZ K H a b->b[i]?=some x)/\c=upd H p (.tup [.int i,x])/\y=.ref p,λi H=>∃b,aZ K H a b/\b.length<=i⟩
theorem UH{h:ao}{o a:az}{b:af}(e:(h.push o).get? b=some a)(c:b<h.objs.size):h.get? b=some a:=by
 unfold Heap.get? Heap.push at *;simp only[Array.getElem?_push]at e;rw[Zl (Zp c)]at e;exact e
theorem qV2{P:ah}{w:aj}{K:PySem.W.Frag}{t:List av}{x1:Nat}{dn:aC}(a e it:af)(jG:e≠it):
  Turn P w K (.Tuple t x1 dn) (Al K a) [e,it] e (λi h=>(∃c,IsEnum h e it i c)/\h.IsTupleIter it a i) where
 mem:=by simp
 obj:=λi h f b hb=>by
  rcases Zu.mp hb with rfl|hb
  ·obtain⟨⟨c,z⟩,_⟩:=f;exact⟨_,z,λv q=>by
    have r:Data.fields _=Data.cell v:=q;cases r⟩
  ·have:b=it:=by simpa using hb
   subst this;obtain⟨_,o,z,_,d⟩:=f;exact⟨o,z,λv q=>by rw[d]at q;cases q⟩
 keep:=λi h h' f k=>by
  obtain⟨⟨c,z⟩,l⟩:=f;exact⟨⟨c,k e (by simp) _ z⟩,l.at λo q=>k it (by simp) o q⟩
 item:=by
  intro X F N S Z i j8 s σ H E I A f T;subst F N S;obtain⟨⟨c,j⟩,l⟩:=f;obtain⟨xs,x,B,C⟩:=T;obtain⟨J,M,p,hz⟩:=I.tuple B;obtain⟨u,hu,ru⟩:=M.get C;obtain⟨e0,e1,e2,Y,e4,e5⟩:=A e (by simp);obtain⟨G,O,f2,V,W,Q⟩:=A it (by simp);refine nu.nM j jG l (show s.heap.IsTuple a J.toArray from p) (x:=u) (by simpa using hu) λh1 h' sb ho gQ ht kp=>?_;refine⟨_,rfl,wpAny_letOwnedTupleGo_enum ho λh2 wI RA=>?_⟩;have R:e<s.heap.objs.size:=Zi j;have U:it<s.heap.objs.size:=by obtain⟨o,z,_⟩:=l;exact Zi z
  have fresh:H s.heap.objs.size=none:=I.aT.fresh (Ze _);have D:h1.objs.size=s.heap.objs.size:=sb.1;have J0:Inv X j8 σ (upd H s.heap.objs.size (.tup [.int i,x])) {s with heap:=s.heap.push {cls:=.type "tuple",data:=.seq #[.int i s.toks,u]},toks:=s.toks+1}:=
   I.laid (λb o q=>Zb _ q) (Ze _) ⟨by show 2<=sizeLine;decide,[.int i s.toks,u],.cons ⟨_,rfl⟩ (.cons ru .nil),_,Zg _ rfl,rfl,⟨_,rfl⟩,rfl⟩
  have n:(upd H s.heap.objs.size (.tup [.int i,x])) it=none:=by rw[cN (Zp U)];exact G
  have g:(upd H s.heap.objs.size (.tup [.int i,x])) e=none:=by rw[cN (Zp R)];exact e0
  have J1:=J0.turned (it:=it) (h':=h1.push {cls:=.type "tuple",data:=.seq #[.int i s.toks,u]}) (t':=s.toks+1) (λb o hb q=>by
    have q:(s.heap.push {cls:=.type "tuple",data:=.seq #[.int i s.toks,u]}).get? b=some o:=q;by_cases y:b<s.heap.objs.size
    ·have r:s.heap.get? b=some o:=UH q y;exact Zb _ ((sb.2 b hb).trans r)
    ·have L:b<s.heap.objs.size+1:=by have:=Zi q;rw[ZS]at this;exact this
     have m:b=s.heap.objs.size:=Ux (Nat.le_of_lt_succ L) (Um y);subst m;rw[Zg _ rfl]at q;cases q;have:=Zg h1 (o:={cls:=.type "tuple",data:=.seq #[.int i s.toks,u]}) rfl;rw[D]at this;exact this) n O V W Q
  have J2:=J1.turned (it:=e) (h':=h') (t':=s.toks+1) (λb o hb q=>by
    have q:(h1.push {cls:=.type "tuple",data:=.seq #[.int i s.toks,u]}).get? b=some o:=q;by_cases y:b<s.heap.objs.size
    ·have r:h1.get? b=some o:=UH q (by rw[D];exact y);exact kp b o hb r
    ·have L:b<s.heap.objs.size+1:=by have:=Zi q;rw[ZS,D]at this;exact this
     have m:b=s.heap.objs.size:=Ux (Nat.le_of_lt_succ L) (Um y);subst m;have:=Zg h1 (o:={cls:=.type "tuple",data:=.seq #[.int i s.toks,u]}) rfl;rw[D]at this;rw[this]at q;cases q;exact ht) g e1 Y e4 e5
  have J3:=J2.turned (it:=e) (h':=h2) (t':=s.toks+1) (λb o hb q=>(RA.2 b hb).trans q) g e1 Y e4 e5;refine⟨.ref s.heap.objs.size,_,J3,rfl,⟨_,x,fresh,λys hy=>by rw[I.iJ hy B];exact C,rfl,rfl⟩,⟨⟨u,by
   have:(((i+1:Nat)):Int)=(i:Int)+1:=by lia
   rw[this];exact wI⟩,gQ.at λo q=>(RA.2 it (Xc jG)).trans q⟩,λb hb=>?_⟩
  rcases Zu.mp hb with rfl|hb
  ·exact g
  ·have:b=it:=by simpa using hb
   subst this;exact n
 done:=by
  intro X F N S Z i j8 s σ H E I A f T;subst F N S;obtain⟨⟨c,j⟩,l⟩:=f;obtain⟨xs,B,C⟩:=T;obtain⟨J,M,p,hz⟩:=I.tuple B;obtain⟨G,O,f2,V,W,Q⟩:=A it (by simp);have hl:=M.length;exact nu.next_end (I.ok.hd Z) j l (show s.heap.IsTuple a J.toArray from p) (by simp;exact uK hl C) λh' m=>⟨rfl,I.turned (t':=s.toks) (λb o hb e=>m b o hb e) G O V W Q⟩
 self:=λ_ _ _ _ _ f h=>by
  obtain⟨⟨c,j⟩,_⟩:=f;exact wpAny_pyIter_enum j h
section
variable{X:Cx}{elts:List av}{x1:Nat}{dn:aC}
def xL3(K:PySem.W.Frag)(ta:TA):TI:=λd H R=>ta d H λc b=>∃a,c=[.ref a]/\(∃e,aZ K b a e)/\R (Al K a) b
theorem Kv{e:av}{ta:TA}{p f:aC}(A:Gl X "enumerate")(B:X.mg "enumerate"=none)(w:PA X [e] ta)(hs:starEach [e] X.env=[(false,eval e X.env)]:=by rfl):PI X (.Tuple elts x1 dn) (.Call (.Name "enumerate" p) [e] [] f) (xL3 X.K ta):=by
 intro j s k H R I h;refine Call_ (uq I A B PyProof.Rows.boot_enumerate (Y8 (bo (w f j s k H _ I h) λD c ⟨F,i,d,t,n⟩=>?_) hs rfl));obtain⟨a,rfl,⟨C,v⟩,q⟩:=n;obtain⟨u,rfl,y⟩:=gI t;cases y;obtain⟨m,E,pt,G⟩:=d.tuple v;refine nu.qT (show c.heap.IsTuple a m.toArray from pt) λl g r x=>?_;refine wpAny_pyIter_enum g ?_;have J:Inv X j k i {c with heap:=l}:=d.kept (t':=c.toks) x;refine⟨c.heap.objs.size+1,[c.heap.objs.size+1,c.heap.objs.size],_,_,i,rfl,J,qV2 a _ _ (Nat.succ_ne_self _),⟨⟨.none,g⟩,r⟩,λb hb=>?_,q⟩;rcases Zu.mp hb with rfl|hb
 ·exact d.i9 (Xp _) (d.aT.fresh (Xp _))
 ·have:b=c.heap.objs.size:=by simpa using hb
  subst this;exact d.i9 (Ze _) (d.aT.fresh (Ze _))
end
section
variable{X:Cx}
def dF(X:Cx)(scope:aA)(a:List (ar×af))(C:af)(b:List ar)(fp:List af)(aH:ae)(aJ:Hp):Cx:=
 {X with N:=b++X.N,aH:=aH,aJ:=aJ,env:=compEnvC scope a C X.env,outer:=X.stack,stack:=X.stack,ex:=fp,fn:=λ_=>false,pn:=[],xe:=λ_ _=>False}
def rm(n:Nat)(r:TI)(g:TG)(q:TT)(te:TE):TE:=λp H Q=>r p H λJ j=>∀D,j D=none->∃W:Nat->Nat->List V->Hp->Prop,(∃m,W 0 m [] (upd j D (.lst []))) /\
 ∀i m a c,W i m a c->c D=some (.lst a)/\a.length<sizeLine/\((J.stop i c/\Q (.ref D) c)\/(J.go i c/\∀y f,J.iI i c y f->∀k:St,k.length=n ->
  g y (k++p) f λe s=>q e s λb h=>if b=true then te e h λv l=>l D=some (.lst a)/\∃d,d<m/\W (i+1) d (a++[v]) (upd l D (.lst (a++[v])))else ∃d,d<m/\W (i+1) d a h))
theorem q35{prog:ah}{w:aj}{A:aq}{R:Result->ae->Prop}{s:ae}{b a iter:av}{e:List av}{scope:aA}{d:aC}{it acc:aa}{env:Env}(T:Sem Bool)
  (E:compTurn (.ListComp b [⟨a,iter,e,0⟩] scope d) 0 it acc env=(standAt iter.pos >>= λ_=>pyNext it >>= λr=>match r with
   |none=>pure (.done .next)
   |some v=>letOwnedTupleGo a it v >>= λ_=>assign a env v >>= λ_=>T >>= λok=>(if ok=true then(eval b env >>= λx=>call (.builtin "list.append") [acc,x] >>= λ_=>pure ())else pure ()) >>= λ_=>
     again (.compLoop (.ListComp b [⟨a,iter,e,0⟩] scope d) 0 it acc env)))
  (I:Nat->ae->Prop)
  (f:∀n s,I n s->ag (ai prog w) A (pyNext it) (λr i=>match r with
   |none=>R (.ok .next) i
   |some v=>ag (ai prog w) A (letOwnedTupleGo a it v) (λ_ l=>ag (ai prog w) A (assign a env v) (λ_ q=>ag (ai prog w) A T (λok j=>
     if ok=true then ag (ai prog w) A (eval b env) (λx k=>ag (ai prog w) A (call (.builtin "list.append") [acc,x]) (λ_ p=>∃m,m<n/\I m p) (λ_ _=>False) k) (λ_ _=>False) j
     else ∃m,m<n/\I m j) (λ_ _=>False) q) (λ_ _=>False) l) (λ_ _=>False) i) (λ_ _=>False) s)
  (n:Nat) (h:I n s):codeAny (ai prog w) A (.compLoop (.ListComp b [⟨a,iter,e,0⟩] scope d) 0 it acc env) R s:=by
 refine codeAny_loop rfl I (λn s y=>?_) n h;show ag _ A ((compTurn (.ListComp b [⟨a,iter,e,0⟩] scope d) 0 it acc env).onRaise (λx=>do noteFrame x env;theTreesLotGoes x)) _ _ s;refine wpAny_noted ?_;rw[E];refine Za (Uk (Za (Yv (f n s y) (λr i t=>?_) λ_ _ c=>c.elim)));cases r with
 |none=>exact Zc t
 |some v=>
  refine Za (Yv t (λ_ l D=>?_) λ_ _ c=>c.elim);refine Za (Yv D (λ_ q u=>Za (Yv u (λok j g=>?_) λ_ _ c=>c.elim)) λ_ _ c=>c.elim);cases ok with
  |true=>
   rw[Zx rfl]at g;simp only[XQ];exact Za (Za (Yv g (λx k B=>Za (Yv B (λ_ p C=>Zc (Zc ⟨rfl,C⟩)) λ_ _ c=>c.elim)) λ_ _ c=>c.elim))
  |false=>
   rw[Zl Zy]at g;simp only[Zr,Z5];exact Za (Zc (Zc ⟨rfl,g⟩))
theorem Kf(b a iter:av)(scope:aA)(c:aC)(it acc:aa)(env:Env):compTurn (.ListComp b [⟨a,iter,[],0⟩] scope c) 0 it acc env=(standAt iter.pos >>= λ_=>pyNext it >>= λr=>match r with
   |none=>pure (.done .next)
   |some v=>letOwnedTupleGo a it v >>= λ_=>assign a env v >>= λ_=>(pure true:Sem Bool) >>= λok=>(if ok=true then(eval b env >>= λx=>call (.builtin "list.append") [acc,x] >>= λ_=>pure ())else pure ()) >>= λ_=>
     again (.compLoop (.ListComp b [⟨a,iter,[],0⟩] scope c) 0 it acc env)):=by
 rw[compTurn_list1];congr 1
theorem Ku(b a iter c:av)(scope:aA)(d:aC)(it acc:aa)(env:Env):compTurn (.ListComp b [⟨a,iter,[c],0⟩] scope d) 0 it acc env=(standAt iter.pos >>= λ_=>pyNext it >>= λr=>match r with
   |none=>pure (.done .next)
   |some v=>letOwnedTupleGo a it v >>= λ_=>assign a env v >>= λ_=>isTrue c env (eval c env) >>= λok=>(if ok=true then(eval b env >>= λx=>call (.builtin "list.append") [acc,x] >>= λ_=>pure ())else pure ()) >>= λ_=>
     again (.compLoop (.ListComp b [⟨a,iter,[c],0⟩] scope d) 0 it acc env)):=by
 rw[compTurn_list];refine Uu λ_=>Uu λr=>?_;cases r with
 |none=>rfl
 |some v=>
  refine Uu λ_=>Uu λ_=>?_;simp only[Uw,List.forIn_nil,XQ,bind_assoc,VQ];refine Uu λok=>?_;cases ok<;>simp
theorem qL4{N:List (af×az)}{σ:St}{H:Hp}{s:ae}{h':ao}{tk:Nat}{scope:aA}{r:List (ar×af)}{C:af}{nn:List ar}{fp:List af}{m:ar->Option aa}
  (I:Inv X N σ H s) (J:C=s.heap.objs.size) (keep:∀b o,s.heap.get? b=some o->h'.get? b=some o) (U:h'.Ns C m) (A:∀b∈fp,eQ X N H b) (V:∀b∈fp,b<s.heap.objs.size)
  (T:scope.kind=.function) (x:∀y∈scope.names,y.2≠.cell) (Y:∀y∈X.N,scope.names.lookup y≠some .local)
  (n:∀y c,r.lookup y=some c->X.env.cells.lookup y=some c) (M:∀p∈scope.names,p.2=.free->(r.lookup p.1).isSome=true)
  (hfr:∀p∈scope.names,p.2=.free->tZ X.env.scope p.1/\X.env.scope.names.lookup p.1≠some .local):
  Inv (dF X scope r C nn fp s H) [] ((nn.map λ_=>none)++σ) H {s with heap:=h',toks:=tk}:=by
 have f:∀y c,r.lookup y=some c->∃v,s.heap.IsCell c v:=λy c e=>I.cell y c (n y c e);have Nw:∀y c,r.lookup y=some c->c<s.heap.objs.size:=λy c e=>by
  obtain⟨v,q⟩:=f y c e;exact q.lt
 have O:∀c v,s.heap.IsCell c v->h'.IsCell c v:=λc v ⟨o,e,d⟩=>⟨o,keep c o e,d⟩;have L:∀b∈dA X.stack,∃o,s.heap.get? b=some o:=λb hb=>by
  rcases Zu.mp (I.fb b hb)with e|hb
  ·obtain⟨_,⟨o,_,_,D,_⟩,_⟩:=I.loc;exact⟨o,by rw[e];exact D⟩
  ·obtain⟨_,o,D,_⟩:=I.dP.mem hb;exact⟨o,D⟩
 refine⟨⟨I.ok.mod,T,I.ok.glob,I.ok.blt,VO J.symm,λy z c h1 g=>I.ok.inj y z c (n y c h1) (n z c g),λy k=>?_,λy c h _=>Bool.noConfusion h,I.ok.hd,I.ok.frames,.inl rfl,λb hb=>⟨?_,λy c e z=>?_⟩,I.bs,
  ZI I.ok.oH I.sz,λb o e hb=>?_,λb hb S=>?_,I.stack,I.iS⟩,rfl,I.bare,Un.kept keep,⟨m,U,λi y v h1 g a=>?_⟩,λy c e=>?_,?_,λy c e=>?_,λp l=>absurd l (by simp[dF]),I.aT.kept keep,?_⟩
 ·
  have k:(relabel scope X.env).names.lookup y=some .cell\/(relabel scope X.env).names.lookup y=some .free:=k;obtain⟨p,l,t,w⟩:∃p∈scope.names,p.1=y/\p.2=.free:=by
   rcases k with k|k
   ·exact BR k x (.inl rfl)
   ·exact BR k x (.inr rfl)
  obtain⟨c,e⟩:=WF.mp (M p l w);exact⟨c,by rw[<- t];exact e⟩
 ·show b≠C;rw[J];exact Zp (V b hb)
 ·exact(A b hb).2.2.2.2.1 y c (n y c e) z
 ·rcases(A b hb).2.2.2.1 with z|z
  ·exact I.ok.iX b o e z
  ·exact absurd (ZR (Zi (I.ok.bs b o e).1) z) (Yc _)
 ·rcases Zu.mp (I.fb b S)with z|z
  ·exact(A b hb).2.1 z
  ·exact(A b hb).2.2.1 z
 ·
  by_cases R:i<nn.length
  ·rw[Zw (by simpa using R)]at g;simp at g
  ·obtain⟨j,rfl⟩:∃j,i=nn.length+j:=⟨i-nn.length,by lia⟩;have h1:X.N[j]?=some y:=by
    have h1:(nn++X.N)[nn.length+j]?=some y:=h1;rw[ZF (Y5 _ _),WW]at h1;exact h1
   have g:σ[j]?=some (some v):=by
    rw[ZF (by simp)]at g;simpa using g
   have a:(relabel scope X.env).names.lookup y=some .local\/(relabel scope X.env).names.lookup y=some .cell\/(relabel scope X.env).names.lookup y=some .free:=a;rcases a with a|a
   ·exact absurd (RQ a) (Y y (Zv h1))
   ·obtain⟨p,l,t,w⟩:∃p∈scope.names,p.1=y/\p.2=.free:=by
     rcases a with a|a
     ·exact BR a x (.inl rfl)
     ·exact BR a x (.inr rfl)
    obtain⟨P,K⟩:=hfr p l w;rw[t]at P K;obtain⟨m0,_,E⟩:=I.loc;obtain⟨u,W,F⟩:=E j y v h1 g P;rcases F with⟨F,_⟩|⟨_,c,Q,B⟩
    ·exact absurd F K
    ·obtain⟨Z,G⟩:=WF.mp (M p l w);rw[t]at G;have:=n y Z G;rw[Q]at this;cases this;refine⟨u,W,.inr ⟨a,c,G,O c _ B⟩⟩
 ·obtain⟨v,q⟩:=f y c e;exact⟨v,O c v q⟩
 ·show H C=none;exact I.aT.fresh (VO J.symm)
 ·exact I.cV y c (n y c e)
 ·show((nn.map λ_=>none)++σ).length=(nn++X.N).length;simp[I.len]
theorem q36{h:List (af×az)}{σ σ':St}{H a:Hp}{s s':ae}{h':ao}{scope:aA}{k:List (ar×af)}{C:af}{nn:List ar}{fp:List af}
  (I:Inv X h σ H s) (v:C=s.heap.objs.size) (w:∀b∈fp,eQ X h H b) (J:Inv (dF X scope k C nn fp s H) [] σ' a s') (sb:Heap.SameBut C s'.heap h'):Inv X h σ a {s' with heap:=h'}:=by
 have g:∀b o,s.heap.get? b=some o->b≠C:=λb o e=>by rw[v];exact Zp (Zi e)
 have B:Un (dA X.stack) fp H a s.heap s'.heap:=J.base;have U:Un (dA X.stack) fp H a s.heap h':=
  ⟨λb o e n hb d=>(sb.2 b (g b o e)).trans (B.keep b o e n hb d),λb o e n hb d=>by
   obtain⟨l,q⟩:=B.slot b o e n hb d;exact⟨l,(sb.2 b (g b o e)).trans q⟩,B.free,λb o e d=>by
   obtain⟨j,q⟩:=B.there b o e d;exact⟨j,(sb.2 b (g b o e)).trans q⟩,B.b_,B.fV,B.gn⟩
 have f:a C=none:=J.free;have K:dH X.prog X.w a h':=λb o e=>(J.aT b o e).cX (λc u i q=>(sb.2 c (by
  rintro rfl;rcases i with z|z
  ·rw[z,e]at f;cases f
  ·rw[f]at z;cases z)).trans q) (λ_ q=>q) λ_ _ q=>q
 refine I.uV (s':={s' with heap:=h'}) (ch:=fp) J.os U K J.bare λb hb=>?_;obtain⟨_,r,_,p,m,t⟩:=w b hb;exact⟨p,r,m,t⟩
theorem RE{use:Option (aa->Sem Unit)}{QQ:aa->ae->Prop}{Q:VK}{t:List (af×az)}{s:ae}{σ:St}{H:Hp}{nn:List ar}{E:av}{A:List av}{B:aC}{j iter:av}{scope:aA}{wi:TI}{g:TG}{tt:TT}{te:TE}(T:Env->Sem Bool)(hc:X.calm=true)(hi:PI X E iter wi)
  (kr:∀it U env,compTurn (.ListComp j [⟨E,iter,A,0⟩] scope B) 0 it U env=(standAt iter.pos >>= λ_=>pyNext it >>= λr=>match r with
   |none=>pure (.done .next)
   |some v=>letOwnedTupleGo E it v >>= λ_=>assign E env v >>= λ_=>T env >>= λok=>(if ok=true then(eval j env >>= λx=>call (.builtin "list.append") [U,x] >>= λ_=>pure ())else pure ()) >>= λ_=>
     again (.compLoop (.ListComp j [⟨E,iter,A,0⟩] scope B) 0 it U env)))
  (tO:∀w C d aH aJ,PG (dF X scope w C nn d aH aJ) E g)
  (ku:∀y (l σ:St) H R,l.length=nn.length->g y (l++σ) H R->g y (l++σ) H λσ' k=>(∃gL:St,gL.length=nn.length/\σ'=gL++σ)/\R σ' k)
  (Dh:∀w C d aH aJ (t:List (af×az)) (s:ae) (σ:St) (H:Hp) (Q:Bool->Hp->Prop),Inv (dF X scope w C nn d aH aJ) t σ H s->tt σ H Q->ag (ai X.prog X.w) X.A (T (compEnvC scope w C X.env)) (TP (dF X scope w C nn d aH aJ) t σ Q) (λ_ _=>False) s)
  (he:∀w C d aH aJ,PE (dF X scope w C nn d aH aJ) j te)
  (jD:scope.kind=.function) (jB:∀y∈scope.names,y.2≠.cell) (jC:∀y∈scope.names,y.2=.local->scope.names.lookup y.1=some .local)
  (jI:∀y∈X.N,scope.names.lookup y≠some .local) (hfr:∀p∈scope.names,p.2=.free->tZ X.env.scope p.1/\X.env.scope.names.lookup p.1≠some .local)
  (hs:∀x,foldedSetIterable iter X.env x=pure x) (I:Inv X t σ H s) (h:rm nn.length wi g tt te σ H Q)
  (fin:∀(D C:af)(K:Hp)(P:ae)(m4:ar->Option aa),eQ X t K C->P.heap.Ns C m4->(∀h',Heap.SameBut C P.heap h'->Inv X t σ K {P with heap:=h'})->Q (.ref D) K->compPost (ai X.prog X.w) X.A X.xe use QQ (.ref D) C (.ok Flow.next) P):
  ag (ai X.prog X.w) X.A (comprehension (.ListComp j [⟨E,iter,A,0⟩] scope B) scope X.env (firstIterPos [⟨E,iter,A,0⟩] B) (newList []) false (eval iter X.env) use) QQ X.xe s:=by
 obtain⟨w,DT,kG,tQ⟩:=qu7 (scope:=scope) (env:=X.env) (λp hp hk=>by
  obtain⟨hv,hn⟩:=hfr p hp hk;refine I.ok.has p.1 ?_;rcases hv with z|z
  ·exact absurd z hn
  ·exact z)
 refine wpAny_comprehension_free (use:=use) rfl hs DT jD jC (bo (hi t s σ H _ I h) λv s1 h1=>bo h1 λzR a h2=>?_);obtain⟨it,d,tn,J,H2,rfl,I2,F,cm,f2,q⟩:=h2;have hD:H2 a.heap.objs.size=none:=I2.aT.fresh (Ze _);obtain⟨W,⟨m0,w0⟩,turn⟩:=q _ hD;refine ZJ (wpAny_newFunctionEnv jB (by intro y hy;simp at hy) (λdy mC mz=>?_) jD);dsimp only at mC mz ⊢;have I3:Inv X t σ (upd H2 a.heap.objs.size (.lst [])) {a with heap:=a.heap.push {cls:=.type "list",dict:=none,data:=.seq ([]:List aa).toArray}}:=
  I2.laid (t':=a.toks) (λb u e=>Zb _ e) (Ze _) ⟨Zz _,[],0,.nil,Zg _ rfl⟩
 have fpn:∀b∈d,b≠a.heap.objs.size:=λb hb=>by
  obtain⟨o,e,_⟩:=F.obj 0 a.heap cm b hb;exact Zp (Zi e)
 have x_:∀b∈d,b<(a.heap.push {cls:=.type "list",dict:=none,data:=.seq ([]:List aa).toArray}).objs.size:=λb hb=>by
  obtain⟨o,e,_⟩:=F.obj 0 a.heap cm b hb;rw[ZS];exact ZZ (Zi e)
 have f3:∀b∈d,eQ X t (upd H2 a.heap.objs.size (.lst [])) b:=λb hb=>⟨by rw[cN (fpn b hb)];exact(f2 b hb).1,(f2 b hb).2⟩;generalize hg2:a.heap.push {cls:=.type "list",dict:=none,data:=.seq ([]:List aa).toArray}=G at mC mz I3 x_ ⊢;have keep:∀b o,G.get? b=some o->dy.get? b=some o:=λb o e=>(mz.2 b (Zp (Zi e))).trans (Zb _ e);have J0:=qL4 (nn:=nn) (tk:=a.toks+([]:List (ar×aa)).length) I3 (C:=G.objs.size) rfl keep mC f3 x_ jD jB jI kG tQ hfr;generalize f:dF X scope w G.objs.size nn d {a with heap:=G} (upd H2 a.heap.objs.size (.lst []))=Y at J0;have eY:PE Y j te:=by rw[<- f];exact he _ _ _ _ _
 have eG:PG Y E g:=by rw[<- f];exact tO _ _ _ _ _
 have eT:∀(t:List (af×az))(s:ae)(σ:St)(H:Hp)(Q:Bool->Hp->Prop),Inv Y t σ H s->tt σ H Q->ag (ai Y.prog Y.w) Y.A (T Y.env) (TP Y t σ Q) Y.xe s:=by rw[<- f];exact Dh _ _ _ _ _
 have eP:Y.prog=X.prog:=by rw[<- f];rfl
 have Z:Y.w=X.w:=by rw[<- f];rfl
 have eK:Y.K=X.K:=by rw[<- f];rfl
 have eA:Y.A=X.A:=by rw[<- f];rfl
 have eC:Y.calm=true:=by rw[<- f];exact hc
 have O:Y.env=compEnvC scope w G.objs.size X.env:=by rw[<- f];rfl
 have eX:Y.xe=λ_ _=>False:=by rw[<- f];rfl
 have eN:Y.N=nn++X.N:=by rw[<- f];rfl
 have eEx:Y.ex=d:=by rw[<- f];rfl
 have eFs:Y.fs=dA X.stack:=by rw[<- f];rfl
 have ePn:Y.pn=[]:=by rw[<- f];rfl
 have Nc:∀{k:Hp},(∀b∈d,k b=none)->∀b∈d,eQ Y [] k b:=λhn b hb=>by
  have g:=f3 b hb;refine⟨hn b hb,?_,?_,.inl (by rw[eEx];exact hb),?_,λp hp=>absurd hp (by rw[ePn];simp)⟩
  ·rw[O];exact Zp (x_ b hb)
  ·rw[eFs];intro z;rcases Zu.mp (I3.fb b z)with z|z
   ·exact g.2.1 z
   ·exact g.2.2.1 z
  ·rw[O];exact λy c e=>g.2.2.2.2.1 y c (kG y c e)
 have N:∀gH:ae,gH={a with heap:=dy,toks:=a.toks+([]:List (ar×aa)).length} ->
   codeAny (ai X.prog X.w) X.A (.compLoop (.ListComp j [⟨E,iter,A,0⟩] scope B) 0 (.ref it) (.ref a.heap.objs.size) (compEnvC scope w G.objs.size X.env))
    (compPost (ai X.prog X.w) X.A X.xe use QQ (.ref a.heap.objs.size) G.objs.size) gH:=by
  rintro gH rfl;refine q35 (T (compEnvC scope w G.objs.size X.env)) (kr _ _ _) (λn s'=>∃i S k l,l.length=nn.length/\Inv Y [] (l++σ) k s'/\tn i s'.heap/\(∀b∈d,k b=none)/\W i n S k) ?_ m0
   ⟨0,[],_,nn.map λ_=>none,by simp,J0,F.keep 0 _ _ cm (λb hb o e=>keep b o (by rw[<- hg2];exact Zb _ e)),λb hb=>(f3 b hb).1,w0⟩
  rintro n s3 ⟨i,S,K,l,yB,I4,gQ,uT,w3⟩;obtain⟨hDx,hlx,alt⟩:=turn i n S K w3;rcases alt with⟨stop,qn⟩|⟨go,step⟩
  ·have D1:=F.done Y eP Z eK eC i [] s3 _ K (λ_ _=>False) I4 (Nc uT) gQ stop;rw[eA]at D1;refine bo D1 λr P ⟨hr,I5⟩=>?_;subst hr;obtain⟨m4,vF,_⟩:=id I5.loc;rw[O]at vF;have hC0:K G.objs.size=none:=by
    have:=I5.free;rw[O]at this;exact this
   rw[<- f]at I5;exact fin _ _ K P m4 (I3.i9 (Ze _) hC0) vF (λh' sb=>q36 I3 rfl f3 I5 sb) qn
  ·have G1:=F.item Y eP Z eK eC i [] s3 _ K (λ_ _=>False) I4 (Nc uT) gQ go;rw[eA]at G1;refine bo G1 λr P ⟨u,hr,h4⟩=>?_;subst hr;refine bo h4 λ_ s5 ⟨y,H5,I5,r5,y5,oj,Ee⟩=>?_;have Ey:=I5.pinned (Nc Ee) (F.obj _ _ oj);have S1:=eG _ s5 _ H5 y u _ Ey r5 (ku y l σ H5 _ yB (step y _ y5 l yB));rw[eP,Z,eA,O,eX]at S1;refine bo S1 λ_ s6 ⟨EB,H6,I6,⟨UW,L_,e6⟩,q6⟩=>?_;subst e6;have S2:=eT _ s6 _ _ _ I6 q6;rw[eP,Z,eA,O,eX]at S2;refine bo S2 λok s7 ⟨H7,I7,q7⟩=>?_;have L:∀{s9:ae}{M:Hp}{m':Nat}{zs:List V},Inv Y ([]++yZ d s5.heap) (UW++σ) M s9->m'<n->W (i+1) m' zs M->∃m,m<n/\∃i S k l,l.length=nn.length/\Inv Y [] (l++σ) k s9/\tn i s9.heap/\(∀b∈d,k b=none)/\W i m S k:=λ{s9 M m' zs} I9 lP w9=>by
    have pin:∀b∈d,∀ob,s5.heap.get? b=some ob->s9.heap.get? b=some ob/\M b=none:=λb hb ob e=>by
     have z:=I9.pin (b,ob) (ZN _ (ZN _ (zA hb e)));exact⟨z.1,z.2.1⟩
    refine⟨m',lP,i+1,zs,M,UW,L_,I9.cS,F.keep _ _ _ oj (λb hb ob e=>(pin b hb ob e).1),λb hb=>?_,w9⟩;obtain⟨ob,e,_⟩:=F.obj _ _ oj b hb;exact(pin b hb ob e).2
   cases ok with
   |true=>
    rw[Zx rfl]at q7;rw[Zx rfl];have S3:=eY _ s7 _ _ _ I7 q7;rw[eP,Z,eA,O,eX]at S3;refine bo S3 λxv s8 ⟨v8,H8,I8,r8,hD8,m',lP,w8⟩=>?_;have S4:=wu (X:=Y) _ s8 _ H8 (.ref a.heap.objs.size) [v8] (.ref a.heap.objs.size) [xv] (λ_ M=>M=upd H8 a.heap.objs.size (.lst (S++[v8]))) I8 rfl (.cons r8 .nil) ⟨_,S,v8,rfl,rfl,hD8,hlx,rfl⟩;rw[eP,Z,eA,eX]at S4;refine bo S4 λ_ s9 ⟨v9,M,I9,_,e9⟩=>?_;subst e9;exact L I9 lP w8
   |false=>
    rw[Zl Zy]at q7;rw[Zl Zy];obtain⟨m',lP,w8⟩:=q7;exact L I7 lP w8
 exact codeAny_compStart_list (N _ rfl) (F.self _ 0 _ _ _ (F.keep 0 _ _ cm (λb hb o e=>keep b o (by rw[<- hg2];exact Zb _ e))) (N _ rfl))
theorem Fe{nn:List ar}{j:av}{i:List av}{f:aC}{b iter:av}{scope:aA}{B:TI}{g:TG}{A:TT}{te:TE}(T:Env->Sem Bool)(hc:X.calm=true)(hi:PI X j iter B)
  (P:∀t e a,compTurn (.ListComp b [⟨j,iter,i,0⟩] scope f) 0 t e a=(standAt iter.pos >>= λ_=>pyNext t >>= λr=>match r with
   |none=>pure (.done .next)
   |some v=>letOwnedTupleGo j t v >>= λ_=>assign j a v >>= λ_=>T a >>= λok=>(if ok=true then(eval b a >>= λx=>call (.builtin "list.append") [e,x] >>= λ_=>pure ())else pure ()) >>= λ_=>
     again (.compLoop (.ListComp b [⟨j,iter,i,0⟩] scope f) 0 t e a)))
  (L:∀d C l k m,PG (dF X scope d C nn l k m) j g)
  (U:∀y (w c:St) H R,w.length=nn.length->g y (w++c) H R->g y (w++c) H λn S=>(∃E:St,E.length=nn.length/\n=E++c)/\R n S)
  (O:∀d C l k m (u:List (af×az)) (s:ae) (c:St) (H:Hp) (Q:Bool->Hp->Prop),Inv (dF X scope d C nn l k m) u c H s->A c H Q->ag (ai X.prog X.w) X.A (T (compEnvC scope d C X.env)) (TP (dF X scope d C nn l k m) u c Q) (λ_ _=>False) s)
  (F:∀d C l k m,PE (dF X scope d C nn l k m) b te)
  (N:scope.kind=.function) (V:∀y∈scope.names,y.2≠.cell) (Y:∀y∈scope.names,y.2=.local->scope.names.lookup y.1=some .local)
  (W:∀y∈X.N,scope.names.lookup y≠some .local) (hfr:∀p∈scope.names,p.2=.free->tZ X.env.scope p.1/\X.env.scope.names.lookup p.1≠some .local)
  (hs:∀x,foldedSetIterable iter X.env x=pure x):PE X (.ListComp b [⟨j,iter,i,0⟩] scope f) (rm nn.length B g A te):=by
 intro u s c H Q I h;rw[eval_ListComp];exact RE (use:=none) T hc hi P L U O F N V Y W hfr hs I h λD C K s4 M _ Z J q=>⟨M,Z,λG sb=>⟨.ref _,K,J G sb,rfl,q⟩⟩
theorem zw{scope b:aA}{N:List ar}(g:X.N=N)(j:X.env.scope=b)
  (d:scope.names.all (λy=>y.2 != .cell)=true) (f:scope.names.all (λy=>y.2 != .local||scope.names.lookup y.1==some .local)=true) (e:N.all (λy=>scope.names.lookup y != some .local)=true)
  (hfr:scope.names.all (λp=>p.2 != .free||(b.names.lookup p.1==some .cell||b.names.lookup p.1==some .free))=true):
  (∀y∈scope.names,y.2≠.cell)/\(∀y∈scope.names,y.2=.local->scope.names.lookup y.1=some .local)/\(∀y∈X.N,scope.names.lookup y≠some .local)/\(∀p∈scope.names,p.2=.free->tZ X.env.scope p.1/\X.env.scope.names.lookup p.1≠some .local):=by
 refine⟨λy a=>?_,λy a h=>?_,λy a=>?_,λp i c=>?_⟩
 ·have:=Y6.mp d y a;simpa using this
 ·have:=Y6.mp f y a;simpa[h]using this
 ·have:=Y6.mp e y (by rw[<- g];exact a);simpa using this
 ·have:=Y6.mp hfr p i;rw[c]at this;have z:b.names.lookup p.1=some .cell\/b.names.lookup p.1=some .free:=by simpa using this
  rw[j];refine⟨.inr z,λq=>?_⟩;rcases z with z|z<;>(rw[z]at q;cases q)
theorem xG{y:V}{b σ:St}{H:Hp}{R:St->Hp->Prop}(e:b.length=1)(h:di 0 y (b++σ) H R):di 0 y (b++σ) H λa d=>(∃c:St,c.length=1/\a=c++σ)/\R a d:=by
 match b,e with
 |[o],_=>exact⟨⟨[some y],rfl,rfl⟩,h⟩
theorem Lc{K:PySem.W.Frag}{y:V}{c σ:St}{H:Hp}{R:St->Hp->Prop}(k:c.length=2)(h:hZ K 2 (gT (di 0) (gT (di 1) iG)) y (c++σ) H R):
  hZ K 2 (gT (di 0) (gT (di 1) iG)) y (c++σ) H λb n=>(∃e:St,e.length=2/\b=e++σ)/\R b n:=by
 obtain⟨t,u,rfl⟩:=L2.Gw k
 ·
  obtain⟨a,i,j,l,f,v,r,g,d,s,m,p,q⟩:=h;exact⟨a,i,j,l,f,v,r,g,d,s,m,p,⟨[some v,some d],rfl,rfl⟩,q⟩
theorem Tg{x:ar}{px j:aC}{g iter c:av}{scope:aA}{r:TI}{q:TT}{te:TE}(N:List ar)(m:aA)(J:X.N=N)(L:X.env.scope=m)(hc:X.calm=true)(E:X.N.Nodup)(S:PI X (.Name x px) iter r)
  (A:∀e C d b f,PT (dF X scope e C [x] d b f) c q) (v:∀e C d b f,PE (dF X scope e C [x] d b f) g te)
  (B:scope.kind=.function:=by rfl) (M:scope.names.all (λy=>y.2 != .cell)=true:=by decide +kernel) (P:scope.names.all (λy=>y.2 != .local||scope.names.lookup y.1==some .local)=true:=by decide +kernel)
  (t:scope.names.lookup x=some .local:=by rfl) (O:N.all (λy=>scope.names.lookup y != some .local)=true:=by decide +kernel)
  (hfr:scope.names.all (λp=>p.2 != .free||(m.names.lookup p.1==some .cell||m.names.lookup p.1==some .free))=true:=by decide +kernel)
  (hs:∀x,foldedSetIterable iter X.env x=pure x:=by intro _;rfl):PE X (.ListComp g [⟨.Name x px,iter,[c],0⟩] scope j) (rm 1 r (di 0) q te):=by
 obtain⟨T,K,n,w⟩:=zw J L M P O hfr;refine Fe (nn:=[x]) (λa=>isTrue c a (eval c a)) hc S (λG k a=>Ku g _ iter c scope j G k a) (λe C d b f=>?_) (λy U u H R D h=>xG D h) (λe C d b f F s u H Q I h=>A e C d b f F s u H Q I h) v B T K n w hs;have l:(dF X scope e C [x] d b f).env.scope.names.lookup x=some .local:=YM t;exact sg (i:=0) (Y1.mpr ⟨λz=>n x z t,E⟩) rfl (.inl l) (.inr l)
theorem xS4{x y:ar}{h j g:aC}{k:Nat}{scope:aA}{a:List (ar×af)}{C:af}{fp:List af}{aH:ae}{aJ:Hp}(hc:X.calm=true)(m:X.N.Nodup)(l:x≠y)(b:∀z∈X.N,scope.names.lookup z≠some .local)(c:scope.names.lookup x=some .local)(d:scope.names.lookup y=some .local):
  PG (dF X scope a C [x,y] fp aH aJ) (.Tuple [.Name x h,.Name y j] k g) (hZ X.K 2 (gT (di 0) (gT (di 1) iG))):=by
 have f:(dF X scope a C [x,y] fp aH aJ).env.scope.names.lookup x=some .local:=YM c;have e:(dF X scope a C [x,y] fp aH aJ).env.scope.names.lookup y=some .local:=YM d;have nd:(dF X scope a C [x,y] fp aH aJ).N.Nodup:=Y1.mpr ⟨λz=>by
  rcases Zu.mp z with z|z
  ·exact l z
  ·exact b x z c,Y1.mpr ⟨λz=>b y z d,m⟩⟩
 exact l_ (X:=dF X scope a C [x,y] fp aH aJ) hc (dz (sg (i:=0) nd rfl (.inl f) (.inr f)) (dz (sg (i:=1) nd rfl (.inl e) (.inr e)) lM))
def zE:TT:=λ_ H Q=>Q true H
theorem SG{x y:ar}{n m r b:aC}{k:Nat}{a iter:av}{scope:aA}{q:TI}{te:TE}(N:List ar)(j:aA)(E:X.N=N)(G:X.env.scope=j)(hc:X.calm=true)(A:X.N.Nodup)(M:PI X (.Tuple [.Name x n,.Name y m] k r) iter q)
  (t:∀e C d c g,PE (dF X scope e C [x,y] d c g) a te) (P:x≠y:=by decide)
  (v:scope.kind=.function:=by rfl) (J:scope.names.all (λy=>y.2 != .cell)=true:=by decide +kernel) (L:scope.names.all (λy=>y.2 != .local||scope.names.lookup y.1==some .local)=true:=by decide +kernel)
  (S:scope.names.lookup x=some .local:=by rfl) (B:scope.names.lookup y=some .local:=by rfl) (K:N.all (λy=>scope.names.lookup y != some .local)=true:=by decide +kernel)
  (hfr:scope.names.all (λp=>p.2 != .free||(j.names.lookup p.1==some .cell||j.names.lookup p.1==some .free))=true:=by decide +kernel)
  (hs:∀x,foldedSetIterable iter X.env x=pure x:=by intro _;rfl):PE X (.ListComp a [⟨.Tuple [.Name x n,.Name y m] k r,iter,[],0⟩] scope b) (rm 2 q (hZ X.K 2 (gT (di 0) (gT (di 1) iG))) zE te):=by
 obtain⟨O,F,l,u⟩:=zw E G J L K hfr;exact Fe (nn:=[x,y]) (λ_=>pure true) hc M (λD f i=>Kf a _ iter scope b D f i) (λe C d c g=>xS4 hc A P l S B) (λy V T H R w h=>Lc w h) (λe C d c g U s T H Q I h=>Zc ⟨H,I,h⟩) t v O F l u hs
end
end L2
namespace L2
open PySem PySem.Spec PyProof.Rows PySem.W PySem.Builtin PySem.Builtin.ObjectAttr PySem.Builtin.Getset_descriptor
section
variable{K:Frag}{x C:af}
def ExcAt(x C:af)(h:ao):Prop:=∃a b,h.get? x=some a/\a.cls=.ref C/\a.data=.fields b/\b[2]?=some .none
theorem ExcAt.type{M:Model}{h:ao}(I:ExcAt x C h):Looks M h (typeOf (.ref x)) (.ref C):=by
 obtain⟨b,_,h1,c,_⟩:=I;have z:=(Looks.ld (M:=M) (part:=none) h1).andThen (f:=λo=>pure o.cls) (Looks.now (a:=b.cls));rw[c]at z;exact z
theorem xt1{a:aa}{R:Result->ae->Prop}(X:K.In s.heap)(I:ExcAt x C s.heap)(b:mroIn K C (.type "object")=some true)(h:R (.ok (.ret (.ref C))) s):
  codeAny (ai prog w) A (.call (.builtin "getset_descriptor.__get__") ⟨[.builtin "object.__class__",.ref x,a],[]⟩) R s:=by
 obtain⟨h1,i,f,g,d⟩:=s;have c:=I.type (M:=ai prog w);have e:=looks_mroIn (M:=ai prog w) X b;refine XR KF.slot_gs.plain KF.entry_gs ?_;refine KF.slot_gs.check _ _ _ _ _ _ _ _ KF.type_class (KF.args_gs _ _ _) ?_;unfold Builtin.«getset_descriptor.__get__» descrGet;rw[dga_obj];refine Za (Zc ?_);unfold descrGetter descrCheckInstance descrNameAndClass isInstance;simp only[KF.owner_class]
 repeat lk
 refine⟨VX _ (by decide +kernel),Yb KF.entry_class ?_⟩;unfold Builtin.«object.__class__» shownTypeOf
 repeat lk
 exact h
theorem q37{tk:Tok}{Q:Fin->ae->Prop}(X:K.In s.heap)(I:ExcAt x C s.heap)
  (k:findIn K (.ref C) "__class__"=some (some (.builtin "object.__class__"))) (n:specialIn K (.builtin "object.__class__") "__get__"=some (some (.builtin "getset_descriptor.__get__"))) (j:takesIn K (.builtin "object.__class__")=some true)
  (l:mroIn K C (.type "object")=some true) (hc:(clsIn K C).isSome=true) (h:Q (.done (.ret (.ref C))) s):ag (ai prog w) A (Builtin.«object.__getattribute__» ⟨[.ref x,.str "__class__" tk],[]⟩) Q E s:=by
 obtain⟨a,g,d,t,p⟩:=s;have c:=I.type (M:=ai prog w);have b:Looks (ai prog w) a (Builtin.ObjectAttr.find (.ref x) (.ref C) "__class__") (Builtin.ObjectAttr.Found.bind (.builtin "getset_descriptor.__get__") (.builtin "object.__class__")):=by
  have m:=looks_findIn (M:=ai prog w) X k;have i:Looks (ai prog w) a (Builtin.ObjectAttr.getOf (some (.builtin "object.__class__"))) (some (.builtin "getset_descriptor.__get__")):=looks_specialIn X n;have e:=looks_takesIn (M:=ai prog w) X j;have f:Looks (ai prog w) a (Builtin.ObjectAttr.dataDescriptor? (some (.builtin "object.__class__")) (some (.builtin "getset_descriptor.__get__"))) (some (.builtin "getset_descriptor.__get__",.builtin "object.__class__")):=e.andThen .now;exact m.andThen (i.andThen (f.andThen (Looks.tag .now)))
 unfold Builtin.«object.__getattribute__»
 repeat (first|with_reducible refine c.at ?_|with_reducible refine b.at ?_|wp_step)
 refine xt1 X I l ?_
 repeat (any_goals (first|assumption|wp_step))
theorem q38{M:Model}{b:aa}{P:Unit->ae->Prop}(X:K.In s.heap)(I:ExcAt x C s.heap)(hb:mroIn K C (.type "BaseException")=some true)(h:P () s):
  ag M A (checkBuiltinCall "BaseException.__getattribute__" ⟨[.ref x,b],[]⟩) P E s:=by
 have c:builtinKind "BaseException.__getattribute__"=some .slot:=by decide +kernel
 have f:splitId "BaseException.__getattribute__"=some ("BaseException","__getattribute__"):=by decide +kernel
 have a:=F.args_bexc_ga (.ref x) b;obtain⟨j,g,d,t,k⟩:=s;have e:=I.type (M:=M);have i:=looks_mroIn (M:=M) X hb;simp only[checkBuiltinCall,c,f];refine Za ?_;unfold isInstance;refine Za (e.at (i.at ?_))
 repeat (first|assumption|wp_step)
theorem xf2{tk:Tok}{R:Result->ae->Prop}(X:K.In s.heap)(I:ExcAt x C s.heap)
  (a:findIn K (.ref C) "__class__"=some (some (.builtin "object.__class__"))) (c:specialIn K (.builtin "object.__class__") "__get__"=some (some (.builtin "getset_descriptor.__get__"))) (d:takesIn K (.builtin "object.__class__")=some true)
  (b:mroIn K C (.type "object")=some true) (hb:mroIn K C (.type "BaseException")=some true) (hc:(clsIn K C).isSome=true) (h:R (.ok (.ret (.ref C))) s):
  codeAny (ai prog w) A (.call (.builtin "BaseException.__getattribute__") ⟨[.ref x,.str "__class__" tk],[]⟩) R s:=
 XR F.excAttr_ValueError.ga.plain F.entry_bexc_ga (q38 X I hb (q37 X I a c d b hc h))
theorem q39{Q:Option aa->ae->Prop}(X:K.In s.heap)(I:ExcAt x C s.heap)(m:findIn K (.ref C) "__getattribute__"=some (some (.builtin "BaseException.__getattribute__")))(p:findIn K (.ref C) "__getattr__"=some none)
  (j:findIn K (.ref C) "__class__"=some (some (.builtin "object.__class__"))) (n:specialIn K (.builtin "object.__class__") "__get__"=some (some (.builtin "getset_descriptor.__get__"))) (i:takesIn K (.builtin "object.__class__")=some true)
  (l:mroIn K C (.type "object")=some true) (hb:mroIn K C (.type "BaseException")=some true) (hc:(clsIn K C).isSome=true) (h:Q (some (.ref C)) {s with toks:=s.toks+1}):
  ag (ai prog w) A (getAttr? (.ref x) "__class__") Q E s:=by
 have go:=λ(e:aq) (R:Result->ae->Prop) (tk:Tok)=>xf2 (prog:=prog) (w:=w) (A:=e) (R:=R) (s:={s with toks:=s.toks+1}) (tk:=tk) X I j n i l hb hc;obtain⟨q,g,d,t,u⟩:=s;have a:=I.type (M:=ai prog w);have f:=looks_findIn (M:=ai prog w) X m;have b:=looks_findIn (M:=ai prog w) X p;have r:=F.excAttr_ValueError.ga.bind (.ref x);have c:(Value.builtin "BaseException.__getattribute__"== Value.builtin "object.__getattribute__")=false:=by decide +kernel
 have k:(onTheHeap (Value.ref C)&&Value.builtin "BaseException.__getattribute__"== Value.builtin "object.__getattribute__")=false:=by rw[c];rfl
 unfold getAttr? getAttrBy? getAttrBy;refine Za (wpAny_mkText (Za (Xj (ZP (Za (a.at (Za (f.at ?_))))))));dsimp only;rw[Zl (by rw[k];exact Zy)];unfold getAttrByItsOwn
 repeat (any_goals (first|assumption|with_reducible refine a.at ?_|with_reducible refine b.at ?_|wp_step))
 refine go _ _ _ ?_
 repeat (any_goals (first|assumption|wp_step))
structure q_(K:Frag)(C:af):Prop where
 My:findIn K (.ref C) "__getattribute__"=some (some (.builtin "BaseException.__getattribute__"))
 tO:findIn K (.ref C) "__getattr__"=some none
 ha:findIn K (.ref C) "__class__"=some (some (.builtin "object.__class__"))
 hn:specialIn K (.builtin "object.__class__") "__get__"=some (some (.builtin "getset_descriptor.__get__"))
 rD:takesIn K (.builtin "object.__class__")=some true
 hm:mroIn K C (.type "object")=some true
 hb:mroIn K C (.type "BaseException")=some true
 hc:(clsIn K C).isSome=true
theorem xf3(T:q_ K C):KitX K (.ref x) (.ref C) (ExcAt x C) where
 ty:=λ_ _ _ I=>I.type
 it:=λ_ _ X _=>by
  have a:=T.hc;unfold clsIn at a;split at a
  ·rename_i m i c j b;intro B t p y g f;unfold isType loadHead;refine Za (wpAny_loadPart (g _ _ (X _ _ b)) ?_);exact Zc f
  ·cases a
 ne:=λh l v r n u X d=>by
  have a:=T.hc;refine Ye.mpr λq=>?_;have e:C=l:=Value.ref.inj (Wg.mp q);subst e;unfold clsIn at a;split at a
  ·rename_i m i c j b;have z:=(X _ _ b).symm.trans d;cases z
  ·cases a
 ca:=λX I k=>q39 X I T.My T.tO T.ha T.hn T.rD T.hm T.hb T.hc k
end
end L2
namespace L2
open PySem PySem.Spec PyProof.Rows PySem.W
section
variable{K:Frag}{h:ao}{C:af}{bmB:List aa}{newId:String}
theorem xL4(X:K.In h)(q:excIn K C bmB newId=true):∃m N L B bs v t c Y b d O A x k3 P f,
  h.get? C=some (excClassObj L B C N bs m v t c Y b d O A x k3 P newId)/\h.Ns N f/\f "__init__"=none/\OwnTail h bmB m:=by
 unfold excIn at q;split at q
 ·rename_i d V M G;split at q
  ·rename_i C1 R p r k j u e i E;simp only[Vo,Wg,Wo]at q;obtain⟨⟨⟨⟨⟨Z,w⟩,n⟩,J⟩,a⟩,g⟩:=q;subst Z w;obtain⟨Q,S,a3,D,W,F,U,a8,T,y,I⟩:=V;dsimp only at i n a g;subst i n;obtain⟨l⟩:=M;have s:l=[p,r,k,j,some (.builtin u),e]:=E;subst s;have H:=isNs_of_in X a;exact⟨R,D,Q,W,S,F,U,a8,T,y,d,p,r,k,j,e,_,X _ _ G,.of_isNs H,nsMap_none_of_in X a g,tail_of_in X J⟩
  ·cases q
 ·cases q
end
abbrev Ny:List aa:=[.type "ValueError",.type "Exception",.type "BaseException",.type "object"]
section
variable{X:Cx}{x:ar}{C:af}{E:XK}{tV:av}{rest:List av}{t:TA}{np eO pos:aC}
def xL5(cls:aa)(E:XK)(t:TA):TS:=λ_ b H=>t b H λc a=>c.length<=sizeLine/\E cls none a
theorem xf4(G:Gl X x)(L:X.mg x=some (.ref C))(K:excIn X.K C Ny "ValueError.__new__"=true)(hc:X.calm=true)(j:OX X E)(m:PA X (tV::rest) t)(i:(x==("__debug__":ar))=false:=by decide)
  (b:starEach (tV::rest) X.env=(false,eval tV X.env)::starEach rest X.env:=by rfl) (n:(backTo eO (starEach rest X.env)).any (·.1)=false:=by rfl):
  PS X (.Raise (some (.Call (.Name x np) (tV::rest) [] eO)) none pos) (xL5 (.ref C) E t):=by
 intro d s c H D I h;obtain⟨bm,N,nm,k,bs,v,sn,sub,ab,col,dd,k0,k1,k2,k3,k5,mN,J,p,M,T⟩:=xL4 I.ok.mod.oz K;refine wpAny_Raise_call_subU (C:=C) (nm:=nm) (q:=k) (N:=N) (bs:=bs) (bm:=bm) (hdct:=v) (sn:=sn) (sub:=sub) (ab:=ab) (col:=col) (dd:=dd) (k0:=k0) (k1:=k1) (k2:=k2) (k3:=k3) (k5:=k5) (mN:=mN)
  F.excBase_ValueError (by decide) F.excBase_ValueError (T.hasType F.excBase_ValueError.hasBase) (I.ok.hd hc) (by rw[b];show(false||(backTo eO (starEach rest X.env)).any (·.1))=false;rw[n];rfl) M (zi I G L ⟨rfl,?_⟩ i)
 have f:=m eO d s c H _ I h;rw[b]at f ⊢;refine Calls.evalArgs_plain (Yv f (λO w ⟨P,u,a,r,B,A⟩=>?_) λ_ _ y=>y);exact⟨rfl,by rw[<- r.length];exact B,a.bk _ _ J,p.keeps a.bk,T.keeps a.bk,λg e l=>j d c u w g e _ _ a l A⟩
end
section
variable{X:Cx}{j8:List (af×az)}{σ:St}{H:Hp}{s:ae}
def Hr(X:Cx)(x:af):Cx:={X with A:=X.A.mark (some (.ref x)),calm:=false,xe:=λ_ _=>False}
theorem Inv.EV(I:Inv X j8 σ H s)(x:af):Inv (Hr X x) j8 σ H s:=
 ⟨⟨I.ok.mod,I.ok.kind,I.ok.glob,I.ok.blt,I.ok.above,I.ok.inj,I.ok.has,I.ok.tX,λz=>Bool.noConfusion z,I.ok.frames,I.ok.rO,I.ok.Ah,I.ok.bs,I.ok.oH,I.ok.iX,I.ok.ky,I.ok.dP,I.ok.qM⟩,I.os,I.bare,I.base,I.loc,I.cell,I.free,I.cV,I.pin,I.aT,I.len⟩
theorem Inv.Gx{x:af}(hA:X.calm=true->X.A.handled=none)(I:Inv (Hr X x) j8 σ H s):Inv X j8 σ H s:=
 ⟨⟨I.ok.mod,I.ok.kind,I.ok.glob,I.ok.blt,I.ok.above,I.ok.inj,I.ok.has,I.ok.tX,hA,I.ok.frames,I.ok.rO,I.ok.Ah,I.ok.bs,I.ok.oH,I.ok.iX,I.ok.ky,I.ok.dP,I.ok.qM⟩,I.os,I.bare,I.base,I.loc,I.cell,I.free,I.cV,I.pin,I.aT,I.len⟩
theorem Inv.uj{B f:ao}{tk:Nat}(I:Inv X j8 σ H s)(R:X.ex=[])(F1:B.StaysIn s.heap)(G:B.StaysIn f)(w:s.heap.UpToSlots f)
  (N:∀b o,X.aH.heap.get? b=some o->b∉dA X.stack->∃ob,B.get? b=some ob) (F:∀b o,H b=some o->∃ob,B.get? b=some ob) (V:∀p∈X.pn++j8,∃ob,B.get? p.1=some ob):Inv X j8 σ H {s with heap:=f,toks:=tk}:=by
 have same:∀b ob o,B.get? b=some ob->s.heap.get? b=some o->f.get? b=some o:=λb ob o J S=>by
  have E:=F1 b ob J;have g:=G b ob J;rw[S]at E;cases E;exact g
 have M:∀c v,s.heap.IsCell c v->f.IsCell c v:=λc v ⟨o,e,d⟩=>by
  obtain⟨j,q⟩:=w c o e (λvs z=>by rw[d]at z;cases z);exact⟨_,q,d⟩
 have a:∀b∈dA X.stack,∀o,s.heap.get? b=some o->∃j,f.get? b=some {o with slots:=j}:=λb hb o e=>by
  obtain⟨_,D,L,d⟩:=I.stack.mem hb;rw[e]at L;cases L;exact w b o e d
 have x:∀b,b∈X.fs->b∈dA X.stack:=λb hb=>by
  rcases I.ok.rO with z|⟨z,_⟩
  ·rw[z];exact hb
  ·rw[z];show b∈(X.env::X.outer).filterMap (·.frame);rw[Ys];split
   ·exact hb
   ·exact Zk _ hb
 have U:∀b o,X.aH.heap.get? b=some o->b≠X.env.locals:=λb o e=>Zp (ZR (Zi e) I.ok.above);have t:∀b o,X.aH.heap.get? b=some o->b∉X.fs->b∉dA X.stack:=λb o e f A=>by
  rcases Zu.mp (I.fb b A)with z|z
  ·exact U b o e z
  ·exact f z
 have km:∀b:af,b∉X.ex:=λb=>by rw[R];simp
 refine⟨I.ok,I.os,I.bare,⟨λb o e n hb h=>?_,λb o e n hb h=>?_,I.base.free,λb o e h=>?_,I.base.b_,I.base.fV,I.base.gn⟩,?_,λy c e=>?_,I.free,I.cV,λp K=>?_,λb o e=>?_,I.len⟩
 ·obtain⟨ob,z⟩:=N b o e (t b o e hb);exact same b ob o z (I.base.keep b o e n hb h)
 ·obtain⟨j,q⟩:=I.base.slot b o e n hb h;obtain⟨Jc,g⟩:=a b (x b hb) _ q;exact⟨Jc,g⟩
 ·obtain⟨D,q⟩:=I.base.there b o e h;by_cases hb:b∈dA X.stack
  ·obtain⟨j,g⟩:=a b hb D q;exact⟨_,g⟩
  ·obtain⟨ob,z⟩:=N b o e hb;exact⟨ob,G b ob z⟩
 ·obtain⟨m,Z,T⟩:=I.loc;refine⟨m,w.ns Z,λi y v h1 f A=>?_⟩;obtain⟨u,r,l⟩:=T i y v h1 f A;refine⟨u,r,?_⟩;rcases l with l|⟨k,c,e,z⟩
  ·exact .inl l
  ·exact .inr ⟨k,c,e,M c _ z⟩
 ·obtain⟨v,z⟩:=I.cell y c e;exact⟨v,M c v z⟩
 ·obtain⟨z1,Q,Y,W,P⟩:=I.pin p K;obtain⟨ob,z⟩:=V p K;exact⟨same p.1 ob p.2 z z1,Q,Y,W,P⟩
 ·refine(I.aT b o e).cX (λc u O q=>?_) (λ_ q=>q) λ_ _ q=>q;rcases O with z|z
  ·obtain⟨ob,C⟩:=F b o e;rw[z]at q ⊢;exact same b ob u C q
  ·obtain⟨ob,C⟩:=F c _ z;exact same c ob u C q
theorem Inv.yi{x C:af}{B:ao}(I:Inv X j8 σ H s)(K:X.stack=X.env::X.outer)(hfr:X.env.frame=some X.env.locals)(a:H x=none)(E:Over B X.stack x (.ref C) .none s.heap)
  (V:∀b o,X.aH.heap.get? b=some o->b∉dA X.stack->∃ob,B.get? b=some ob) (N:∀p∈X.pn++j8,∃ob,B.get? p.1=some ob):Inv X j8 σ (upd H x (.ext (ExcAt x C))) s:=by
 obtain⟨Y,j,L,D,w,T,oT,Z,f,Q,g,_,h,_⟩:=E;have A:x∉dA X.stack:=λW=>by
  obtain⟨_,o,e,d⟩:=L.mem W;rw[f]at e;cases e;exact d w g
 have M:X.env.locals≠x:=λz=>A (by
  rw[K];show x∈(X.env::X.outer).filterMap (·.frame);rw[Ys,hfr,z];exact ZE)
 have O:∀b o,X.aH.heap.get? b=some o->b≠x:=λb o e z=>by
  subst z;obtain⟨ob,q⟩:=V b o e A;rw[j]at q;cases q
 refine⟨I.ok,I.os,I.bare,⟨I.base.keep,I.base.slot,λb o e n S=>?_,I.base.there,λb l e=>?_,λb o u e=>?_,λb G e=>?_⟩,I.loc,I.cell,?_,λy c e=>?_,λp t=>?_,λb o e=>?_,I.len⟩
 ·rw[cN (O b o e)];exact I.base.free b o e n S
 ·have z:=I.base.b_ b l e;rw[cN (dI z a)];exact z
 ·have z:=I.base.fV b o u e;rw[cN (dI z a)];exact z
 ·obtain⟨m,z⟩:=I.base.gn b G e;exact⟨m,by rw[cN (dI z a)];exact z⟩
 ·rw[cN M];exact I.free
 ·rw[cN (λz=>?_)]
  ·exact I.cV y c e
  ·obtain⟨v,o,q,d⟩:=I.cell y c e;rw[z,f]at q;cases q;rw[g]at d;cases d
 ·obtain⟨U,J,R⟩:=I.pin p t;obtain⟨ob,q⟩:=N p t;refine⟨U,?_,R⟩;rw[cN (λz=>by rw[z,j]at q;cases q)];exact J
 ·by_cases hb:b=x
  ·subst hb;rw[bu]at e;cases e;refine⟨⟨D,w,f,Q,g,h⟩,⟨D,f⟩,λh1 h2 ⟨r,i,F,P⟩ k=>⟨r,i,k r F,P⟩⟩
  ·rw[cN hb]at e;exact(I.aT b o e).cX (λc u _ q=>q) (λc q=>by rw[cN (dI q a)];exact q) λc l q=>by rw[cN (dI q a)];exact q
end
theorem qB5:entryFor table "proto.unchain"=some Builtin.«proto.unchain»:=entryFor_of_tree (by kernel_rfl)
section
variable{x C e:af}
theorem q40{α:Type}{Q:α->ae->Prop}{b:az}{a:Array aa}(c:A.handled=some (.ref x))(g:ExcAt x C s.heap)(ne:x≠e)(d:s.heap.get? e=some b)(i:b.data=.fields a)(hs:2<a.size)
  (f:E (.ref e) {s with heap:=s.heap.update e (Obj.mapFields (·.setIfInBounds 2 (.ref x)))}):ag (ai prog w) A (raiseNew (.ref e):Sem α) Q E s:=by
 obtain⟨m,n,j,l,h,k⟩:=g;unfold raiseNew;refine Za (Ul ?_);rw[c];dsimp only;rw[Zx (by simp[ne])];refine Za (ZP (W5 (Yb qB5 ?_)));unfold Builtin.«proto.unchain»;refine Za (Yj j h k ?_);rw[Zx (by rfl)]
 first
  |refine Za (Zc (Zc ?_))
  |refine Zc ?_
 dsimp only;show ag _ _ (setField (.ref e) 2 (.ref x) >>= λ_=>throw (.ref e)) _ _ _;exact Za (YD d i hs (wpAny_throw f))
theorem SF{α:Type}{Q:α->ae->Prop}(j:A.handled=some (.ref x))(r:ExcAt x C s.heap)
  (p:∀c e,(∀b o,s.heap.get? b=some o->c.get? b=some o)->(∃o,c.get? e=some o/\o.cls=.type "StopIteration")->E (.ref e) {s with heap:=c}):ag (ai prog w) A (newExc (.type "StopIteration") [] >>= λe=>(raiseNew e:Sem α)) Q E s:=by
 refine Za ?_;simp only[newExc,newTuple];refine Za (ZJ ?_ (by size_fits));refine Za (m:=firstArgMember _ _) (Wc (a:=Value.none) (by first|rfl|(simp only[firstArgMember];rfl)) ?_);refine ZJ ?_ (by size_fits);obtain⟨n,v,i,k,t,u⟩:=id r;have f:∀(d g:az) b o,s.heap.get? b=some o->((s.heap.push d).push g).get? b=some o:=λd g b o q=>Zb _ (Zb _ q);have l:x≠(s.heap.push {cls:=.type "tuple",dict:=none,data:=.seq ([]:List aa).toArray}).objs.size:=by
  rw[ZS];exact Zp (ZZ (Zi i))
 refine q40 (C:=C) j ⟨n,v,f _ _ _ _ i,k,t,u⟩ l (Zg _ rfl) rfl (by simp[Array.size_append];lia) (p _ _ (λb o q=>?_) ⟨_,ZO _ (Zg _ rfl) (YG (Z2 rfl _)),XS _ _⟩);refine(Zq _ _ (λz=>?_)).trans (f _ _ b o q);have h:=Zi q;rw[<- z,ZS]at h;exact Yc _ (WA (Yd _) h)
theorem qy6{it:af}{y left step:Int}{Q:Option aa->ae->Prop}(f:A.handled=some (.ref x))(j:ExcAt x C s.heap)(l:it≠x)(a:IsRangeIter s.heap it y left step)(h:left<=0)
  (i:∀c,(∀b o,b≠it->s.heap.get? b=some o->c.get? b=some o)->Q none {s with heap:=c}):ag (ai prog w) A (pyNext (.ref it)) Q E s:=by
 have d:s.TypeIs (.ref it) "range_iterator":=⟨_,a,rfl⟩;unfold pyNext;refine Za (Xj (Z0 (name:=Str.ofString "__next__") d F.slot_range_iterator_next ?_));refine Z3 F.slot_range_iterator_next d F.entry_range_iterator_next ?_ (F.args_range_iterator_next_1 _);show ag _ _ (field (.ref it) 0 >>= _) _ _ s;refine Za (Yj a rfl (x:=rawInt y) rfl ?_);show ag _ _ (field (.ref it) 1 >>= _) _ _ s;refine Za (Yj a rfl (x:=rawInt left) rfl ?_);show ag _ _ (field (.ref it) 2 >>= _) _ _ s;refine Za (Yj a rfl (x:=rawInt step) rfl ?_);show ag _ _ (if left<=0 then _ else _) _ _ s;rw[Zx h];refine Za (Y4 ?_);refine Za ?_;show ag _ _ (newExc (.type "StopIteration") [] >>= λe=>raiseNew e) _ _ _;refine SF (A:=A.in1) (x:=x) (C:=C) f j λc e g k=>?_;refine Za (Xg (T:= "StopIteration") (b:=true) k W6 ?_);exact Zc (i _ λb ob _ q=>g b ob q)
end
end L2
namespace L2
open PySem PySem.Spec PyProof.Rows
def Cs(CX:nv)(P:ah)(w:aj)(K:PySem.W.Frag)(mg:ar->Option aa)(base:ao)(N:List ar)(a:ar)(scope:aA)(f:af)(b:aa)(A:aq)(outer:List Env)(s:ae)(H:Hp)(E:XK):Cx:=
 {jb CX P w K mg base N a scope f b A outer s H E with calm:=false,xe:=λ_ _=>False}
theorem qV4{CX:nv}{P:ah}{w:aj}{K:PySem.W.Frag}{mg:ar->Option aa}{base:ao}{N ps:List ar}{d:ar}{scope:aA}{f:af}{C:aa}{A:aq}{outer:List Env}{s L:ae}{H:Hp}{E:XK}{us:List aa}{m:List V}
  (S:aF N ps scope) (j:og P w K mg base A outer s H) (I:m.length=ps.length) (r:Vals m us)
  (x:InCallC s s.heap.objs.size (bindL (envOfC d scope s.heap.objs.size f C).kindOf (ps.zip us) λ_=>none) (cellsFrom (s.heap.objs.size+1) scope.names []) (bindC (envOfC d scope s.heap.objs.size f C).kindOf (ps.zip us) λ_=>none) L):
  Inv (Cs CX P w K mg base N d scope f C A outer s H E) [] (start N m) H L:=by
 have O:ps.length<=N.length:=by have:=Z9 List.length S.pre;rw[XC]at this;exact Rb this
 obtain⟨h1,T,rfl,F⟩:=x.done;have D:∀b:af,b∉(Cs CX P w K mg base N d scope f C A outer s H E).ex:=λb z=>absurd (show b∈([]:List af)from z) (by simp);refine⟨⟨j.mod,S.kind,rfl,rfl,Ze _,λy z c h1 g=>?_,λy l=>?_,λy c _ h=>?_,λz=>Bool.noConfusion z,Around.frames_deeper j.frames,.inr ⟨rfl,rfl⟩,λb z=>absurd z (D b),j.bs,j.oH,λb _ _=>D b,λb z=>absurd z (D b),j.dP,j.qM⟩,
  rfl,j.bare,Un.kept F,⟨_,x.toInCall.ns,λi y v h1 g R=>?_⟩,λy c h=>⟨_,x.cell y c h⟩,j.aT.fresh (Ze _),λy c h=>?_,λp t=>absurd (show p∈([]:List (af×az))from t) (by simp),j.aT.kept F,?_⟩
 ·exact name_of_addr x.apart (Yw h1) (Yw g)
 ·have l:scope.names.lookup y=some .cell\/scope.names.lookup y=some .free:=l;rcases l with l|l
  ·exact Fh l
  ·exact absurd rfl (S.pV _ (Yw l))
 ·exact Xz (x.above y c (Yw h))
 ·have B:i<m.length:=by
   unfold start at g;by_cases B:i<m.length
   ·exact B
   ·rw[ZF (by simpa using B)]at g;rw[WV]at g;split at g<;>cases g
  have M:m[i]?=some v:=by
   unfold start at g;rw[Zw (by simpa using B),Zf]at g;cases e:m[i]? with
   |none=>rw[e]at g;cases g
   |some a=>rw[e]at g;cases g;rfl
  obtain⟨u,J,Q⟩:=r.get M;have t:ps[i]?=some y:=by
   rw[<- S.pre,WG (nN B I)];exact h1
  have G:ps.Nodup:=by rw[<- S.pre];exact S.nd.sublist (List.take_sublist _ _)
  refine⟨u,Q,?_⟩;rcases S.par y (Zv t)with k|k
  ·exact .inl ⟨k,JC G t J k⟩
  ·obtain⟨c,e⟩:=Fh (n:=s.heap.objs.size+1) k;refine .inr ⟨.inl k,c,e,?_⟩;have q:=x.cell y c e;rw[JB G t J (by show scope.names.lookup y≠_;rw[k];decide)]at q;exact q
 ·exact j.aT.fresh (Xz (x.above y c (Yw h)))
 ·unfold start;show _=N.length;rw[Zn,Zh,Vh];exact QE I O
structure f_(k:Nat)(x:af)(A:aq):Prop where
 hd:A.handled=some (.ref x)
 dp:A.depth+3*k+5<recursionLimit
 un:A.units+16*k+200<cLine
theorem bf.EV{k:Nat}{A:aq}(r:bf k A)(x:af):f_ k x (A.mark (some (.ref x))):=⟨rfl,r.dp,r.un⟩
theorem f_.deeper{k:Nat}{x:af}{A:aq}(r:f_ (k+1) x A)(env:Env):f_ k x (A.deeper env):=
 ⟨r.hd,by have:=r.dp;show A.depth+1+3*k+5<_;exact Oi this,by have:=r.un;show A.units+3+16*k+200<_;exact Qc this⟩
theorem f_.depth{k:Nat}{x:af}{A:aq}(r:f_ k x A):A.depth<recursionLimit:=by have:=r.dp;exact Om this
abbrev Eo:=List V->Hp->VK->Prop
structure nr(P:ah)(w:aj)(K:PySem.W.Frag)(mg:ar->Option aa)(base:ao)(k:Nat)(x:af)(f:af)(fd:ak)(ps:List ar)(sp:Eo):Prop where
 len:∀vs H Q,sp vs H Q->vs.length=ps.length
 run:∀(A:aq)(outer:List Env)(s:ae)(H:Hp)(args:Args)(us:List aa)(vs:List V)(Q:VK),f_ k x A->og P w K mg base A outer s H->BindsTo s fd args (ps.zip us)->Vals vs us->sp vs H Q ->
  codeAny (ai P w) A (.call (.ref f) args) (CR aS outer P w H s Q E0) s
theorem a_.okH{P:ah}{w:aj}{K:PySem.W.Frag}{mg:ar->Option aa}{base:ao}{x c:ar}{st:aB}{f xe:af}{L:ak}{N ps:List ar}{k:Nat}{sp:Eo}(F:a_ K x c st f L)(S:aF N ps (bJ st))(len:∀g H Q,sp g H Q->g.length=ps.length)
  (k6:∀(i:aa)(A:aq)(a:List Env)(s:ae)(H:Hp)(g:List V)(Q:VK),f_ k xe (A.deeper (envOfC c (bJ st) s.heap.objs.size f i))->sp g H Q ->
   ∃t,ir (Cs aS P w K mg base N c (bJ st) f i A a s H E0) (ou st) t/\t {nx:=λ_ h=>Q .cu h,rt:=Q} (start N g) H):nr P w K mg base (k+1) xe f L ps sp:=by
 obtain⟨oc,od,kV,T,pm,an,i,ct,nL,rfl,lk,Y⟩:=F.ex;refine⟨len,λA a s H C W g Q D m hb r G=>?_⟩;have hl:=len _ _ _ G;have E:K.In s.heap:=m.mod.oz.keeps λb o e=>(m.bs b o e).1;have lim:s.heap.NoLimit:=m.mod.nolimit.keeps λb o e=>(m.bs b o e).1;have Z:∀y∈ps.zip W,(bJ st).names.lookup y.1=some .local\/((bJ st).names.lookup y.1=some .cell/\((cellsFrom (s.heap.objs.size+1) (bJ st).names []).lookup y.1).isSome=true):=λ⟨n,v⟩ hy=>by
  rcases S.par n (VA hy).1 with q|q
  ·exact .inl q
  ·exact .inr ⟨q,W2 _ _ _ (.inl q)⟩
 refine codeAny_call_function D.depth (E _ _ lk) rfl S.co S.gen rfl (PySem.W.codeRec_of E Y) (hb _ _ _ _ ?_);refine wpAny_newFunctionEnv_cells S.kind Z λenv O M x=>?_;subst O;refine⟨lim.keeps x.toInCall.keep,codeAny_func ?_⟩;obtain⟨t,R,U⟩:=k6 i A a s H g Q (D.deeper _) G;have I:Inv (Cs aS P w K mg base N c (bJ st) f i A a s H E0) [] (start N g) H M:=qV4 S m hl r x;refine Yv (R [] M (start N g) H _ I U) (λX B j=>?_) λe B j=>j.elim;have l:∀{d:St}{h:Hp}{v:V}{u:aa},Inv (Cs aS P w K mg base N c (bJ st) f i A a s H E0) [] d h B->RelV v u->Q v h->CE a P w H s Q u B:=
  λ{d h v u} J p q=>⟨v,h,J.os,J.bare,J.base,J.aT,p,q⟩
 cases X with
 |ret u=>
  obtain⟨v,d,h,J,p,q⟩:=j;exact l J p q
 |next=>
  obtain⟨d,h,J,q⟩:=j;exact l (v:=V.cu) (u:=Value.none) J rfl q
 |brk=>
  obtain⟨_,_,_,q⟩:=j;exact False.elim q
 |cont=>
  obtain⟨_,_,_,q⟩:=j;exact False.elim q
section
variable{X:Cx}{k:Nat}{f xe:af}{fd:ak}{ps:List ar}{sp:Eo}{x:ar}{p pos:aC}{e:av}{es:List av}{t:TA}
def xL6(sp:Eo)(t:TA):TE:=λc H Q=>t c H λb a=>sp b a Q
theorem xf5(F:nr X.prog X.w X.K X.mg X.base k xe f fd ps sp)(l:f_ k xe X.A)(C:Gl X x)(E:X.mg x=some (.ref f))(g:PySem.W.keepIn X.K (.ref f)=true)(hb:Binds X.K fd ps [])
  (n:PA X (e::es) t) (D:(x==("__debug__":ar))=false:=by decide) (i:starEach (e::es) X.env=(false,eval e X.env)::starEach es X.env:=by rfl) (w:(backTo pos (starEach es X.env)).any (·.1)=false:=by rfl):
  PE X (.Call (.Name x p) (e::es) [] pos) (xL6 sp t):=by
 intro A s G H Q I h;refine XD (zi I C E ?_ D);refine VU (h₀:=X.base) I.ok.mod.oz g (bo (n pos A s G H _ I h) λb d ⟨B,y,c,r,q⟩=>⟨c.hJ,?_⟩) i w;have v:b.length=ps.length:=by rw[<- r.length];exact F.len _ _ _ q
 have bt:=hb d b c.hJ (by rw[Yo];exact v);rw[Yo]at bt;refine VT (XO (F.run X.A X.stack d y ⟨b,[]⟩ b B Q l c.yd bt r q) λj J a=>?_);cases j with
 |error e=>exact False.elim a
 |ok m=>
  cases m with
  |ret u=>exact c.after a
  |next=>exact False.elim a
  |brk=>exact False.elim a
  |cont=>exact False.elim a
end
end L2
namespace L2
open PySem PySem.Spec PyProof.Rows PySem.W
section
variable{X:Cx}
def Ek:V->Option aa
 |.ty n=>some (.type n)
 |.ref a=>some (.ref a)
 |_=>none
theorem xt2{c:V}{u b:aa}(r:RelV c u)(e:Ek c=some b):u=b:=by
 cases c with
 |ty n=>cases e;exact r
 |ref a=>cases e;exact r
 |_=>cases e
def Of(K:Frag)(H:Hp)(x:V)(t:aa):Prop:=∃a C,x=.ref a/\H a=some (.ext (ExcAt a C))/\q_ K C/\t=.ref C
inductive mK(K_:PySem.W.Frag)(xs:List V)(H:Hp)(Q:VK):Prop
 |mk(x:_)(c:_)(t:_)(cv:_)(b:_)(aX:xs=[x,c])(dQ:Ek c=some cv)(cA:(gv K_ H x t\/Of K_ H x t))(aU:kitOne K_ t cv=some b)(Hw:Q (.bl b) H)
theorem sv:fm X (.builtin "isinstance") (mK X.K):=by
 intro v s y H l n Q I r h;obtain⟨x,c,t,w,b,rfl,g,i,d,q⟩:=h;obtain⟨u,m,rfl,f,j⟩:=Ib r;cases xt2 j g;rcases i with ty|⟨a,C,rfl,e,T,rfl⟩
 ·exact qZ3 I f ty d λk=>⟨.bl b,H,I.tok _,rfl,q⟩
 ·cases(show u=Value.ref a from f);have p:ExcAt a C s.heap:=(I.aT a _ e).1;exact kia_one (xf3 T) I.hJ p d (λz=>nomatch z) λk=>⟨.bl b,H,I.tok _,rfl,q⟩
theorem zu{d:List (af×az)}{σ:St}{H:Hp}{s s':ae}{l:az}{c:List af}(I:Inv X d σ H s)(i:Moved c (λa b=>b=a) {s with heap:=s.heap.push l} s')(p:∀b o,s.heap.get? b=some o->b∈c->False):Inv X d σ H s':=by
 obtain⟨h',f,h,t',n⟩:=s';obtain⟨m,j,g,k,q⟩:=i;cases(show f=s.gens from j);cases(show h=s.drawn from g);cases(show n=s.os from k);exact I.kept (h':=h') (t':=t') λb o e=>m b o (λz=>p b o e z) (Zb _ e)
inductive lI(xs:List V)(H:Hp)(Q:VK):Prop
 |mk(p:af)(bs:List Bool)(aX:xs=[.ref p])(dQ:H p=some (.lst (bs.map V.bl)))(cA:Q (.bl (bs.all id)) H)
theorem Jy(hc:X.calm=true):fm X (.builtin "all") lI:=by
 intro P s O H L M Q I r h;obtain⟨p,bs,rfl,D,q⟩:=h;obtain⟨u,rfl,C⟩:=gI r;cases C;obtain⟨z,c,n,t,l⟩:=I.aT p _ D;have w:s.heap.IsList p c.toArray:=⟨_,l,rfl,_,rfl⟩;have m:c.length=bs.length:=by have:=t.length;simpa using this.symm
 have F:p≠s.heap.objs.size:=Zp (Zi l);refine call_all_walk (Xs w ?_);refine⟨s.heap.objs.size,_,_,_,_,_,λi=>bs.getD i true,rfl,VY (A:=X.A.in1) (I.ok.hd hc) s.heap.objs.size p F c.toArray,⟨⟨_,Zg _ rfl,rfl,rfl⟩,w.at λo e=>Zb _ e⟩,?_,?_⟩
 ·intro i v S R K J d;have f:c[i]?=some v:=by simpa using J
  have a:i<bs.length:=by rw[<- m];exact(cz f).1
  obtain⟨N,j,B⟩:=t.get (x:=V.bl (bs[i])) (i:=i) (by simp[a]);rw[f]at j;cases j;cases(show v=Value.bool bs[i]from B);have E:bs.getD i true=bs[i]:=by simp[List.getD,a]
  dsimp only at d;rw[E]at d;exact Yt d
 ·intro h' G k;refine⟨.bl (bs.all id),H,I.kept (h':=h') (t':=G) (λb o e=>k b o (λz=>?_) (Zb _ e)),?_,q⟩
  ·have:b=s.heap.objs.size:=by simpa using z
   exact Yc _ (by rw[this]at e;exact Zi e)
  ·have y:c.toArray.size=bs.length:=by simpa using m
   rw[y];show Value.bool _=Value.bool _;congr 1;rw[Xw,Y6,Y6];constructor
   ·intro z b hb;obtain⟨i,a,e⟩:=ZH.mp hb;have:=z i (YJ.mpr a);simpa[List.getD,a,e]using this
   ·intro z i a;have g:=YJ.mp a;have:=z bs[i] (Yz g);simpa[List.getD,g]using this
inductive lG(xs:List V)(H:Hp)(Q:VK):Prop
 |mk(z:_)(n:_)(aX:xs=[.str z])(dQ:PySem.intText? z=some n)(cA:z.length<=640)(aU:Q (.int n) H)
theorem Tf:fm X (.type "int") lG:=by
 intro d s e H f c Q I r h;obtain⟨z,n,rfl,b,a,q⟩:=h;obtain⟨u,rfl,t,rfl⟩:=gI r;exact KIN.call_text b a ⟨.int n,H,I.tok _,⟨_,rfl⟩,q⟩
inductive lH(xs:List V)(H:Hp)(Q:VK):Prop
 |mk(p:af)(bs:List Bool)(aX:xs=[.ref p])(dQ:H p=some (.lst (bs.map V.bl)))(cA:Q (.bl (bs.any id)) H)
theorem Te(hc:X.calm=true):fm X (.builtin "any") lH:=by
 intro P s O H L M Q I r h;obtain⟨p,bs,rfl,D,q⟩:=h;obtain⟨u,rfl,C⟩:=gI r;cases C;obtain⟨z,c,n,w,m⟩:=I.aT p _ D;have y:s.heap.IsList p c.toArray:=⟨_,m,rfl,_,rfl⟩;have t:c.length=bs.length:=by have:=w.length;simpa using this.symm
 have F:p≠s.heap.objs.size:=Zp (Zi m);refine call_any_walk (Xs y ?_);refine⟨s.heap.objs.size,_,_,_,_,_,λi=>bs.getD i true,rfl,VY (A:=X.A.in1) (I.ok.hd hc) s.heap.objs.size p F c.toArray,⟨⟨_,Zg _ rfl,rfl,rfl⟩,y.at λo e=>Zb _ e⟩,?_,?_⟩
 ·intro i v S R K J d;have g:c[i]?=some v:=by simpa using J
  have a:i<bs.length:=by rw[<- t];exact(cz g).1
  obtain⟨N,l,f⟩:=w.get (x:=V.bl (bs[i])) (i:=i) (by simp[a]);rw[g]at l;cases l;cases(show v=Value.bool bs[i]from f);have E:bs.getD i true=bs[i]:=by simp[List.getD,a]
  dsimp only at d;rw[E]at d;exact Yt d
 ·intro h' G k;refine⟨.bl (bs.any id),H,I.kept (h':=h') (t':=G) (λb o e=>k b o (λz=>?_) (Zb _ e)),?_,q⟩
  ·have:b=s.heap.objs.size:=by simpa using z
   exact Yc _ (by rw[this]at e;exact Zi e)
  ·have B:c.toArray.size=bs.length:=by simpa using t
   rw[B];show Value.bool _=Value.bool _;congr 1;rw[Xw,WC,WC];constructor
   ·rintro⟨i,a,e⟩;have j:=YJ.mp a;refine⟨bs[i],Yz j,?_⟩;simpa[List.getD,j]using e
   ·rintro⟨b,hb,e⟩;obtain⟨i,a,f⟩:=ZH.mp hb;refine⟨i,YJ.mpr a,?_⟩;have:bs.getD i true=bs[i]:=by simp[List.getD,a]
    rw[this,f];exact e
def best(a:List Int):Nat->Int
 |0=>a.getD 0 0
 |k+1=>if a.getD (k+1) 0>best a k then a.getD (k+1) 0 else best a k
theorem Fd(a:List Int):∀k,a.getD (argBest (λi j=>decide (a.getD i 0>a.getD j 0)) k) 0=best a k/\argBest (λi j=>decide (a.getD i 0>a.getD j 0)) k<=k
 |0=>⟨rfl,Ze _⟩
 |k+1=>by
  obtain⟨h1,c⟩:=Fd a k;unfold argBest best;rw[<- h1];by_cases b:a.getD (k+1) 0>a.getD (argBest (λi j=>decide (a.getD i 0>a.getD j 0)) k) 0
  ·rw[Zx (Zt b),Zx b];exact⟨rfl,Ze _⟩
  ·rw[Zl (by simpa using b),Zl b];exact⟨rfl,Uc c⟩
inductive lC(xs:List V)(H:Hp)(Q:VK):Prop
 |mk(p:af)(ns:List Int)(aX:xs=[.ref p])(dQ:H p=some (.lst (ns.map V.int)))(cA:ns≠[])(aU:Q (.int (best ns (ns.length-1))) H)
theorem q42(hc:X.calm=true):fm X (.builtin "max") lC:=by
 intro j8 s Z H U W Q I r h;obtain⟨p,c,rfl,N,E,q⟩:=h;obtain⟨u,rfl,M⟩:=gI r;cases M;obtain⟨z,d,n,C,l⟩:=I.aT p _ N;have D:s.heap.IsList p d.toArray:=⟨_,l,rfl,_,rfl⟩;have B:d.length=c.length:=by have:=C.length;simpa using this.symm
 have O:p≠s.heap.objs.size:=Zp (Zi l);have w:d.toArray.size=c.length:=by simpa using B
 have k:0<c.length:=X6.mpr E;have a:∀(i:Nat)(v:aa),d.toArray[i]?=some v->∃t,v=.int (c.getD i 0) t:=λi v g=>by
  have m:d[i]?=some v:=by simpa using g
  have f:i<c.length:=by rw[<- B];exact(cz m).1
  obtain⟨Y,y,t,J⟩:=C.get (x:=V.int (c[i])) (i:=i) (by simp[f]);rw[m]at y;cases y;exact⟨t,by rw[J];simp[List.getD,f]⟩
 refine call_max_walkS (Xs D ?_);refine⟨s.heap.objs.size,_,_,_,_,_,_,λi j=>decide (c.getD i 0>c.getD j 0),rfl,(VY (A:=X.A.in1) (I.ok.hd hc) s.heap.objs.size p O d.toArray).toS,⟨⟨_,Zg _ rfl,rfl,rfl⟩,D.at λo e=>Zb _ e⟩,?_,by rw[w];exact k,?_,?_⟩
 ·intro b hb;rw[ZS];rcases Zu.mp hb with rfl|hb
  ·exact Yd _
  ·have:b=p:=by simpa using hb
   subst this;exact ZZ (Zi l)
 ·intro i j P F R Q' T f K G;obtain⟨t,rfl⟩:=a i P f;obtain⟨S,rfl⟩:=a j F K;exact gt_int G
 ·intro v R g L;rw[w]at g;obtain⟨t,rfl⟩:=a _ v g;rw[(Fd c (c.length-1)).1];refine⟨.int _,H,zu I L (λb o e hb=>?_),⟨t,rfl⟩,q⟩;have:b=s.heap.objs.size:=by simpa using hb
  exact Yc _ (by rw[this]at e;exact Zi e)
theorem xS5{P:ah}{w:aj}{k:Key}{v:aa}(h:(kg P w).is k v=true):RelV (kV k) v:=by
 rcases rA (show xb k v=true from h)with⟨i,t,rfl,rfl⟩|⟨x,t,rfl,rfl⟩
 ·exact⟨t,rfl⟩
 ·exact⟨t,rfl⟩
theorem Gn:∀{b:List V}{a:List aa},b.length=a.length->(∀(i:Nat) x v,b[i]?=some x->a[i]?=some v->RelV x v)->Vals b a
 |[],[],_,_=>.nil
 |[],_::_,h,_=>by simp at h
 |_::_,[],h,_=>by simp at h
 |x::b,u::a,h,f=>.cons (f 0 x u rfl rfl) (Gn (by simpa using h) λi y v c d=>f (i+1) y v (by simpa using c) (by simpa using d))
inductive jf(xs:List V)(H:Hp)(Q:VK):Prop
 |mk(d:af)(kvs:List (Key×V))(aX:xs=[.ref d])(dQ:H d=some (.dK kvs))(cA:∀l,H l=none->Q (.ref l) (upd H l (.lst (kvs.map λkv=>kV kv.1))))
theorem qV5(hc:X.calm=true):fm X (.type "list") jf:=by
 intro R s P H N O Q I r h;obtain⟨d,kvs,rfl,t,q⟩:=h;obtain⟨u,rfl,G⟩:=gI r;cases G;obtain⟨z,A,f,rel,J⟩:=PY I.aT t;obtain⟨ep,w⟩:=J.dictAt;have j:=rel.length;refine kdl_call (kdl_dict (knd:=kg X.prog X.w) (kvs:=f) (ep:=ep) A) (I.ok.hd hc) w (by rw[<- j];exact z) λM K b c F C l=>?_;refine⟨.ref s.heap.objs.size,_,I.laid (a:=s.heap.objs.size) (o:=.lst (kvs.map λkv=>kV kv.1)) (t':=K) F (Ze _) ⟨by simpa using z,b.toList,c,?_,by simpa using C⟩,rfl,q _ I.fresh⟩;refine Gn (by simp[j,l.1]) λi x v m L=>?_;rw[Zf]at m;obtain⟨kv,D,rfl⟩:=Zj.mp m;obtain⟨k,y,p,e⟩:=l.2 i v (by simpa using L);have B:f[i]?=some (k,y):=p;have E:kv.1=k:=by
  have n:(kvs.map (·.1))[i]?=some kv.1:=by rw[Zf,D];rfl
  have g:(f.map (·.1))[i]?=some k:=by rw[Zf,B];rfl
  rw[rel.keys]at n;rw[n]at g;exact ZT g
 rw[E];exact xS5 e
inductive ik(xs:List V)(H:Hp)(Q:VK):Prop
 |mk(n:Int)(aX:xs=[.int n])(dQ:∀r,H r=none->Q (.ref r) (upd H r (.uh 0 n)))
theorem qG4:fm X (.type "range") ik:=by
 intro d s f H g c Q I r h;obtain⟨n,rfl,q⟩:=h;obtain⟨u,rfl,t,rfl⟩:=gI r;exact call_range_1 ⟨.ref s.heap.objs.size,_,I.laid (a:=s.heap.objs.size) (o:=.uh 0 n) (λb o e=>Zb _ e) (Ze _) ⟨_,_,_,Zg _ rfl⟩,rfl,q _ I.fresh⟩
inductive je(xs:List V)(H:Hp)(Q:VK):Prop
 |mk(r:af)(n:Nat)(aX:xs=[.ref r])(dQ:H r=some (.uh 0 (n:Int)))(cA:n<=1000000)(aU:∀l,H l=none->Q (.ref l) (upd H l (.lst ((List.range n).map λ(i:Nat)=>V.int (i:Int)))))
theorem qV6(hc:X.calm=true):fm X (.type "list") je:=by
 intro J s G H E F Q I y h;obtain⟨r,n,rfl,k,K,q⟩:=h;obtain⟨u,rfl,A⟩:=gI y;cases A;obtain⟨t,u,v,m⟩:=I.aT r _ k;refine call_list_range (a:=0) (b:=n) (c:=1) (n:=n) (I.ok.hd hc) m (small_one (by lia) (by lia) (by lia) (by lia)) (by rw[rangeSize_one];split<;>lia) (by lia) λD B d c p l f=>?_;refine⟨.ref s.heap.objs.size,_,I.laid (a:=s.heap.objs.size) (o:=.lst ((List.range n).map λ(i:Nat)=>V.int (i:Int))) (t':=B) p (Ze _) ⟨?_,d.toList,c,?_,by simpa using l⟩,rfl,q _ I.fresh⟩
 ·rw[Zh,YW,Wr];lia
 ·refine Gn (by simp[f.1]) λi x v g C=>?_;rw[Zf]at g;obtain⟨j,w,rfl⟩:=Zj.mp g;have e:j=i:=by
   obtain⟨_,e⟩:=cz w;simpa using e.symm
  subst e;obtain⟨t',rfl⟩:=f.2 j v (by simpa using C);exact⟨t',by simp⟩
end
namespace ic
theorem noFill:fillsNumberSlot (.type "tuple") "mul"=pure false:=
 PySem.fillsNumberSlot_seq (id:= "tuple.__mul__") (r:=some (.builtin "tuple.__rmul__")) F.slot_tuple_mul.lookup (by decide +kernel) F.slot_tuple_rmul.lookup (by decide +kernel)
theorem rep:seqRepeat? (.type "tuple")=pure (some (.builtin "tuple.__mul__")):=by
 unfold seqRepeat?
 rw[PySem.seqSlot_of (T:= "tuple") (name:= "__mul__") (id:= "tuple.__mul__") F.slot_tuple_mul.lookup (by decide +kernel),PySem.seqSlot_of (T:= "tuple") (name:= "__rmul__") (id:= "tuple.__rmul__") F.slot_tuple_rmul.lookup (by decide +kernel)]
 rfl
theorem declines(a:Int)(t:Tok)(l:af)(items:Array aa)(n:Nat)(c:Option af)(e:Array (Option aa)):
  Meets (Builtin.«int.__rmul__» ⟨[.int a t,.ref l],[]⟩) (λ_ R s=>s.heap.get? l=some {cls:=.type "tuple",dict:=c,data:=.seq items n,slots:=e}/\R (.ok (.ret Value.notImplemented)) s):=
 .of_wp λb w A R s h=>by
  obtain⟨f,g,d,j,k⟩:=s;obtain⟨i,h⟩:=h
  wp_walk
  exact⟨_,rfl,h⟩
theorem mul(k:Int)(t:Tok)(l:af)(items:Array aa)(n:Nat)(i:Option af)(u:Array (Option aa))(h1:1<k)(D:k<=1000)(hs:items.size=1):
  Meets (Builtin.«tuple.__mul__» ⟨[.ref l,.int k t],[]⟩) (λ_ R s=>s.heap.get? l=some {cls:=.type "tuple",dict:=i,data:=.seq items n,slots:=u} /\
   R (.ok (.ret (.ref s.heap.objs.size))) {s with heap:=s.heap.push {cls:=.type "tuple",data:=.seq ((List.replicate k.toNat items).foldl (·++·) #[])}}):=
 .of_wp λb w A R s h=>by
  obtain⟨C,g,d,F,E⟩:=s;obtain⟨B,h⟩:=h;have q:(decide (k < -2^63)||decide (k>=2^63))=false:=by simp;lia
  have c:items.isEmpty=false:=by
   cases he:items.isEmpty with
   |false=>rfl
   |true=>rw[Array.isEmpty_iff.mp he]at hs;cases hs
  have p:(items.isEmpty||k==1)=false:=by rw[c];simp;lia
  have v:(decide (k<=0)||items.isEmpty)=false:=by rw[c];simp;lia
  have j:¬((items.size:Int)*k>(2^63-1)/8):=by rw[hs];lia
  have r:Builtin.Tuple.tupleTooMany ((items.size:Int)*k)=false:=by
   rw[hs];show decide (((1:Nat):Int)*k>(sizeLine:Int))=false;rw[Wr];exact Zo (by lia)
  wp_walk
  refine ZU (λz=>by rw[q]at z;cases z) λ_=>?_
  wp_walk
  refine ZU (λz=>by rw[p]at z;cases z) λ_=>?_;refine ZU (λz=>by rw[v]at z;cases z) λ_=>?_;refine ZU (λz=>absurd z j) λ_=>?_;refine ZU (λz=>by rw[r]at z;cases z) λ_=>?_
  wp_walk
  refine ZU (λz=>absurd z ?_) λ_=>?_
  ·have f:∀(m:Nat)(a:Array aa),(List.foldl (λx e=>x++e) a (List.replicate m items)).size=a.size+m:=λm=>by
    induction m with
    |zero=>intro a;rfl
    |succ m y=>
     intro a;rw[VI,WM,y,Array.size_append,hs];exact sZ
   rw[f,Wr];simp;lia
  wp_walk
  exact⟨_,rfl,h⟩
end ic
section
variable{X:Cx}
theorem xt3:fk X (binaryOp .Mult) (λx y H Q=>∃(l:af)(k:Int)(v:V),x=.ref l/\y=.int k/\H l=some (.tup [v])/\1<k/\k<=1000/\∀p,H p=none->Q (.ref p) (upd H p (.tup (List.replicate k.toNat v)))):=by
 intro Z s σ H x y v u Q I O S h;obtain⟨l,k,Y,rfl,rfl,N,h1,R,q⟩:=h;cases O;obtain⟨t,rfl⟩:=S;obtain⟨_,J,r,o,g,j,⟨n,M⟩,A⟩:=I.aT l _ N;obtain⟨L,D,w,E⟩:=o
 replace j:L=.type "tuple":=j
 replace A:w=.seq J.toArray n:=A
 subst j A;cases r with
 |cons K G=>
  cases G;rename_i d;have P:List.foldl (λB i=>B++i) #[] (List.replicate k.toNat #[d])=(List.replicate k.toNat d).toArray:=by
   have f:∀(m:Nat)(c:List aa),List.foldl (λB i=>B++i) c.toArray (List.replicate m #[d])=(c++List.replicate m d).toArray:=λm=>by
    induction m with
    |zero=>intro c;simp
    |succ m C=>
     intro c;rw[VI,WM,show c.toArray++#[d]=(c++[d]).toArray by simp,C];simp[VI]
   have:=f k.toNat [];simpa using this
  refine wpAny_binaryOp_repeat_ref (T:= "tuple") (U:= "int") (by decide) ⟨_,g,rfl⟩ (λW=>typeIs_int W k t) ic.noFill F.fills_int_mul F.slot_int_rmul ic.rep F.slot_int_index.lookup
   (call_meets F.slot_int_rmul (typeIs_int s k t) F.entry_int_rmul (F.args_int_rmul_2 _ _) (ic.declines k t l _ n D E)
    ⟨g,rfl,⟨_,g,rfl⟩,call_meets F.slot_tuple_mul ⟨_,g,rfl⟩ F.entry_tuple_mul (F.args_tuple_mul_2 _ _) (ic.mul k t l _ n D E h1 R rfl) ⟨g,?_⟩⟩)
  rw[P];refine⟨.ref _,_,I.laid (a:=s.heap.objs.size) (o:=.tup (List.replicate k.toNat Y)) (t':=s.toks) (λb o e=>Zb _ e) (Ze _) ⟨?_,List.replicate k.toNat d,?_,_,Zg _ rfl,rfl,⟨_,rfl⟩,rfl⟩,rfl,q _ I.fresh⟩
  ·rw[Vh,Wr];lia
  ·generalize k.toNat=m
   induction m with
   |zero=>exact .nil
   |succ m C=>exact .cons K C
end
end L2
namespace Qf
abbrev Row:=List Nat
def mx:List Nat->Nat
 |[]=>0
 |a::l=>max a (mx l)
theorem Cr{x:Nat}:∀{l:List Nat},x∈l->x<=mx l
 |a::l,h=>by
  rcases Zu.mp h with rfl|h
  ·exact Nat.le_max_left _ _
  ·exact ZI (Cr h) (Nat.le_max_right _ _)
theorem PR{b:Nat}:∀{l:List Nat},(∀x∈l,x<=b)->mx l<=b
 |[],_=>Zz _
 |a::l,h=>Nat.max_le.mpr ⟨h a ZE,PR λx c=>h x (Zk _ c)⟩
theorem SE{f g:Nat->Nat}{l:List Nat}(h:∀x∈l,f x=g x):mx (l.map f)=mx (l.map g):=by
 rw[YF h]
def PQ(p:Nat)(r:Row):Prop:=r.length=4/\∀x∈r,x<p+2
def fw(rows:List Row):Prop:=∀p r,rows[p]?=some r->PQ p r
def xt4(a:List Nat)(r:Row):List Nat:=a++[1+mx (r.map (a.getD · 0))]
def gr(rows:List Row):List Nat:=rows.foldl xt4 [0,0]
def dp(rows:List Row)(x:Nat):Nat:=(gr rows).getD x 0
theorem Fp(rows:List Row)(r:Row):gr (rows++[r])=gr rows++[1+mx (r.map (dp rows))]:=by
 unfold gr dp gr;rw[List.foldl_append]
 rfl
theorem SD{P:List Row->Prop}(h0:P [])(h1:∀l a,P l->P (l++[a]))(l:List Row):P l:=by
 have:∀m:List Row,P m.reverse:=λm=>by
  induction m with
  |nil=>exact h0
  |cons a m b=>rw[List.reverse_cons];exact h1 _ _ b
 have h:=this l.reverse
 rwa [List.reverse_reverse]at h
theorem BI(rows:List Row):(gr rows).length=rows.length+2:=by
 induction rows using SD with
 |h0=>rfl
 |h1 l a b=>rw[Fp,Zn,b,Zn];simp
theorem qV7{rows:List Row}{r:Row}{x:Nat}(h:x<rows.length+2):dp (rows++[r]) x=dp rows x:=by
 unfold dp;rw[Fp,ZA,ZA,Zw (by rw[BI];exact h)]
theorem qV8{rows:List Row}{r:Row}:dp (rows++[r]) (rows.length+2)=1+mx (r.map (dp rows)):=by
 unfold dp;rw[Fp,ZA,ZF (by rw[BI];exact Ze _),BI];simp only[Ut,List.getElem?_cons_zero,Option.getD_some]
 rfl
theorem JR{rows more:List Row}{x:Nat}(h:x<rows.length+2):dp (rows++more) x=dp rows x:=by
 induction more using SD with
 |h0=>simp
 |h1 l a b=>
  rw[<- Yg,qV7 (by simp;lia),b]
theorem FV{rows:List Row}{x:Nat}(h:x<2):dp rows x=0:=by
 have:=JR (rows:=[]) (more:=rows) (x:=x) (by simpa using h);rw[Uy]at this;rw[this]
 match x,h with
 |0,_=>rfl
 |1,_=>rfl
theorem q44{rows:List Row}{p:Nat}{r:Row}(a:rows[p]?=some r):rows=rows.take p++[r]++rows.drop (p+1):=by
 have c:=(cz a).1;have b:=(cz a).2;rw[<- b,XY c,Xe]
theorem sE{rows:List Row}(ok:fw rows){p:Nat}{r:Row}(a:rows[p]?=some r):dp rows (p+2)=1+mx (r.map (dp rows)):=by
 have g:=(cz a).1;have b:(rows.take p).length=p:=by simp;exact Io g
 have e:=q44 a;have h1:dp rows (p+2)=dp (rows.take p++[r]) (p+2):=by
  have:=JR (rows:=rows.take p++[r]) (more:=rows.drop (p+1)) (x:=p+2) (by simp;lia);rw[<- e]at this;exact this
 have c:=qV8 (rows:=rows.take p) (r:=r);rw[b]at c;rw[h1,c];congr 1;refine SE λx f=>?_;have d:=(ok p r a).2 x f;have:=JR (rows:=rows.take p) (more:=[r]++rows.drop (p+1)) (x:=x) (by rw[b];exact d);rw[<- Yg,<- e]at this;exact this.symm
def dD(rows:List Row):Nat->List Nat->Nat->List Nat
 |0,e,_=>e
 |d+1,e,x=>if x<2\/x-2∈e then e else(rows.getD (x-2) []).foldl (dD rows d) e++[x-2]
theorem Jx{f:List Nat->Nat->List Nat}(h:∀e x,∃s,f e x=e++s):∀(l:List Nat)(e:List Nat),∃s,l.foldl f e=e++s
 |[],e=>⟨[],by simp⟩
 |a::l,e=>by
  obtain⟨s,b⟩:=h e a;obtain⟨c,d⟩:=Jx h l (f e a);exact⟨s++c,by rw[WM,d,b,Yg]⟩
theorem UG(rows:List Row):∀(d:Nat)(e:List Nat)(x:Nat),∃s,dD rows d e x=e++s
 |0,e,x=>⟨[],by simp[dD]⟩
 |d+1,e,x=>by
  unfold dD;split
  ·exact⟨[],by simp⟩
  ·obtain⟨s,a⟩:=Jx (UG rows d) (rows.getD (x-2) []) e;exact⟨s++[x-2],by rw[a,Yg]⟩
structure iq(rows:List Row)(e:List Nat):Prop where
 nd:e.Nodup
 lt:∀p∈e,p<rows.length
 ch:∀(i p:Nat),e[i]?=some p->∀q∈rows.getD p [],q<2\/∃j:Nat,j<i/\e[j]?=some (q-2)
theorem Fc(rows:List Row):iq rows []:=⟨VV,λp a=>(nomatch a),λi p h=>by simp at h⟩
theorem T_{e s:List Nat}{j a:Nat}(h:e[j]?=some a):(e++s)[j]?=some a:=by
 have:=(cz h).1;rw[Zw this];exact h
theorem wt{rows:List Row}(ok:fw rows):∀(d:Nat)(e:List Nat)(x:Nat),iq rows e->x<rows.length+2->dp rows x<=d->iq rows (dD rows d e x)/\(x<2\/x-2∈dD rows d e x)
 |0,e,x,A,r,E=>by
  refine⟨A,?_⟩;by_cases h:x<2
  ·exact .inl h
  ·exfalso;obtain⟨p,rfl⟩:∃p,x=p+2:=⟨x-2,xl h⟩;have C:rows[p]?=some (rows[p]'(nP r)):=by simp[show p<rows.length from nP r]
   rw[sE ok C]at E;lia
 |d+1,e,x,A,r,E=>by
  unfold dD;split
  ·rename_i h;exact⟨A,h⟩
  ·rename_i h;obtain⟨h1,T⟩:=not_or.mp h;obtain⟨p,rfl⟩:∃p,x=p+2:=⟨x-2,by lia⟩;rw[Nat.add_sub_cancel]at T ⊢;have V:p<rows.length:=by exact nP r
   have C:rows[p]?=some rows[p]:=by simp[V]
   have S:rows.getD p []=rows[p]:=by simp[List.getD,V]
   rw[S];have Ae:=sE ok C;have Y:=ok p _ C;have key:∀(l:List Nat)(f:List Nat),(∀q∈l,q<p+2/\dp rows q<=d)->iq rows f->iq rows (l.foldl (dD rows d) f)/\(∀q∈l,q<2\/q-2∈l.foldl (dD rows d) f)/\(∀a∈l.foldl (dD rows d) f,a∈f\/a<p):=λl=>by
    induction l with
    |nil=>exact λf _ N=>⟨N,λq g=>(nomatch g),λa c=>.inl c⟩
    |cons q l ih=>
     intro f P N;obtain⟨U,D⟩:=P q ZE;obtain⟨p1,m1⟩:=wt ok d f q N (nW U r) D;obtain⟨X,m2,n2⟩:=ih (dD rows d f q) (λv k=>P v (Zk _ k)) p1;obtain⟨s,hs⟩:=Jx (UG rows d) l (dD rows d f q);refine⟨X,λv k=>?_,λa c=>?_⟩
     ·rcases Zu.mp k with rfl|k
      ·rcases m1 with z|z
       ·exact .inl z
       ·rw[WM,hs];exact .inr (Xn _ z)
      ·exact m2 v k
     ·rcases n2 a c with z|z
      ·
       have m:∀(t:Nat)(B:List Nat)(y:Nat),y<rows.length+2->∀a∈dD rows t B y,a∈B\/a+2<=y:=λt=>by
        induction t with
        |zero=>exact λB y _ a c=>.inl c
        |succ t F=>
         intro B y hy a c;unfold dD at c;split at c
         ·exact .inl c
         ·rename_i W;obtain⟨hh1,hh2⟩:=not_or.mp W;rcases ZX.mp c with c|c
          ·have K:y-2<rows.length:=by lia
           have L:rows.getD (y-2) []=rows[y-2]:=by simp[List.getD,K]
           rw[L]at c;have G:=ok (y-2) rows[y-2] (by simp[K]);have kk:∀(u:List Nat)(w:List Nat),(∀q∈u,q<y-2+2)->∀a∈u.foldl (dD rows t) w,a∈w\/a+2<=y:=λu=>by
            induction u with
            |nil=>exact λw _ a c=>.inl c
            |cons R u M=>
             intro w O a c;rcases M _ (λv k=>O v (Zk _ k)) a c with z|z
             ·have D:=O R ZE;rcases F w R (qg K D) a z with z|z
              ·exact .inl z
              ·exact .inr (by lia)
             ·exact .inr z
           exact kk _ _ G.2 a c
          ·have:a=y-2:=by simpa using c
           exact .inr (by lia)
       rcases m d f q (nW U r) a z with z|z
       ·exact .inl z
       ·exact .inr (by lia)
      ·exact .inr z
   obtain⟨H,k2,k3⟩:=key rows[p] e (λq g=>⟨Y.2 q g,by
    have:dp rows q<=mx (rows[p].map (dp rows)):=Cr (Yu.mpr ⟨q,g,rfl⟩);exact Ie Ae this E⟩) A
   refine⟨⟨?_,?_,?_⟩,.inr (ZN _ (by simp))⟩
   ·rw[Wp];refine⟨H.nd,by simp,λa c b hb=>?_⟩;have:b=p:=by simpa using hb
    subst this;intro z;subst z;rcases k3 a c with z|z
    ·exact T z
    ·exact Yc _ z
   ·intro a c;rcases ZX.mp c with c|c
    ·exact H.lt a c
    ·have:a=p:=by simpa using c
     lia
   ·intro i a n q g;by_cases Q:i<(rows[p].foldl (dD rows d) e).length
    ·rw[Zw Q]at n;rcases H.ch i a n q g with z|⟨j,I,J⟩
     ·exact .inl z
     ·exact .inr ⟨j,I,T_ J⟩
    ·rw[ZF (iE Q)]at n;have Z:i-(rows[p].foldl (dD rows d) e).length=0:=by
      have:=(cz n).1;simp at this;exact this
     rw[Z]at n;have:a=p:=by simpa using n.symm
     subst this;rw[S]at g;rcases k2 q g with z|z
     ·exact .inl z
     ·obtain⟨j,I,J⟩:=ZH.mp z;exact .inr ⟨j,by lia,T_ (by simp[I,J])⟩
theorem dY{α:Type}{l:List α}:l.Nodup<->∀i j:Nat,i<j->j<l.length->l[i]?≠l[j]?:=by
 unfold List.Nodup;rw[XI];constructor
 ·intro h i j b a z;rw[Zd (nW b a),Zd a]at z;exact h i j (nW b a) a b (ZT z)
 ·intro h i j c a b z;refine h i j b a ?_;rw[Zd c,Zd a,z]
theorem BE{rows:List Row}{p:Nat}(h:p<rows.length):rows[p]?=some (rows.getD p []):=by
 simp[List.getD,h]
def uF(r:Row):Prop:=r=[0,0,0,0]\/r=[1,1,1,1]
instance(r:Row):Decidable (uF r):=by unfold uF;infer_instance
structure Canon(n top:Nat)(rows:List Row):Prop where
 size:n<=12
 iL:fw rows
 oA:top<rows.length+2
 deep:dp rows top<=n
 mQ:∀r∈rows,¬uF r
 unlike:rows.Nodup
 ends:dD rows n [] top=List.range rows.length
def ex(q:Nat):Nat:=if q<2 then 1-q else q
theorem PN(q:Nat):ex (ex q)=q:=by
 by_cases h:q<2
 ·have:ex q=1-q:=Zx h;rw[this];unfold ex;rw[Zx Iw];lia
 ·have:ex q=q:=Zl h;rw[this,this]
theorem PM{q b:Nat}(h:q<b+2):ex q<b+2:=by unfold ex;split<;>lia
def fY(rows:List Row):List Row:=rows.map (·.map ex)
theorem xt5(rows:List Row):fY (fY rows)=rows:=by
 unfold fY;rw[Yq]
 conv=>rhs;rw[<- List.map_id rows]
 refine YF λr _=>?_;show(r.map ex).map ex=r;rw[Yq]
 conv=>rhs;rw[<- List.map_id r]
 exact YF λq _=>PN q
theorem SA(rows:List Row)(p:Nat):(fY rows).getD p []=(rows.getD p []).map ex:=by
 unfold fY;rw[ZA,ZA,Zf];cases rows[p]?<;>rfl
theorem KJ{rows:List Row}(ok:fw rows):fw (fY rows):=by
 intro p r a;unfold fY at a;rw[Zf]at a;obtain⟨b,c,rfl⟩:=Zj.mp a;refine⟨by rw[Zh];exact(ok p b c).1,λx e=>?_⟩;obtain⟨q,d,rfl⟩:=Yu.mp e;exact PM ((ok p b c).2 q d)
theorem xM1{rows:List Row}(ok:fw rows):∀q,q<rows.length+2->dp (fY rows) (ex q)=dp rows q:=by
 intro q
 induction q using Nat.strongRecOn with
 |ind q h=>
  intro c;by_cases z:q<2
  ·rw[FV z,FV (by unfold ex;rw[Zx z];exact Iw)]
  ·have a:q-2<rows.length:=by exact sY c z
   have g:ex q=q-2+2:=by unfold ex;rw[Zl z];exact xl z
   have f:(fY rows)[q-2]?=some ((rows.getD (q-2) []).map ex):=by
    rw[<- SA];exact BE (by simpa[fY]using a)
   rw[g,sE (KJ ok) f,Yq];have b:=sE ok (BE a);rw[show q-2+2=q from xD z]at b;rw[b];congr 1;refine SE λx e=>?_;have d:=(ok _ _ (BE a)).2 x e;exact h x (by lia) (qg a d)
theorem T9(rows:List Row):∀(d:Nat)(e:List Nat)(x:Nat),dD (fY rows) d e (ex x)=dD rows d e x
 |0,_,_=>rfl
 |d+1,e,x=>by
  unfold dD;by_cases z:x<2
  ·have a:ex x<2:=by unfold ex;rw[Zx z];exact Iw
   rw[Zx (.inl a),Zx (.inl z)]
  ·have b:ex x=x:=by unfold ex;rw[Zl z]
   rw[b,SA,List.foldl_map];have:(λ(e:List Nat) (q:Nat)=>dD (fY rows) d e (ex q))=dD rows d:=by
    funext e q;exact T9 rows d e q
   rw[this]
theorem q49{n top:Nat}{rows:List Row}(c:Canon n top rows):Canon n (ex top) (fY rows):=by
 have d:(fY rows).length=rows.length:=by simp[fY]
 refine⟨c.size,KJ c.iL,by rw[d];exact PM c.oA,by rw[xM1 c.iL _ c.oA];exact c.deep,?_,?_,by rw[T9,d];exact c.ends⟩
 ·intro r l z;obtain⟨b,m,rfl⟩:=Yu.mp l;refine c.mQ b m ?_;have a:∀{s:Row},b.map ex=s->b=s.map ex:=λ{s} h=>by
   rw[<- h,Yq]
   conv=>lhs;rw[<- List.map_id b]
   exact YF λq _=>(PN q).symm
  rcases z with z|z
  ·exact .inr (a z)
  ·exact .inl (a z)
 ·have:=c.unlike;rw[dY]at this ⊢;intro i j g f h;rw[d]at f;refine this i j g f ?_;have p:(fY (fY rows))[i]?=(fY (fY rows))[j]?:=by
   have e:∀k:Nat,(fY (fY rows))[k]?=((fY rows)[k]?).map (List.map ex):=λk=>Zf ..;rw[e,e,h]
  rwa [xt5]at p
end Qf
namespace L2
open PySem PySem.Spec PyProof.Rows
section
variable{X:Cx}
theorem Sz{i0:Nat}{m:ar}{u P:aC}{nn:List ar}{i:av}{d:List av}{c:aC}{a iter:av}{scope:aA}{O:TI}{g:TG}{L:TT}{te:TE}(T:Env->Sem Bool)(hc:X.calm=true)(hi:PI X i iter O)
  (kr:∀B l f,compTurn (.ListComp a [⟨i,iter,d,0⟩] scope c) 0 B l f=(standAt iter.pos >>= λ_=>pyNext B >>= λr=>match r with
   |none=>pure (.done .next)
   |some v=>letOwnedTupleGo i B v >>= λ_=>assign i f v >>= λ_=>T f >>= λok=>(if ok=true then(eval a f >>= λx=>call (.builtin "list.append") [l,x] >>= λ_=>pure ())else pure ()) >>= λ_=>
     again (.compLoop (.ListComp a [⟨i,iter,d,0⟩] scope c) 0 B l f)))
  (tO:∀k C fp n q,PG (dF X scope k C nn fp n q) i g)
  (ku:∀y (G j:St) H R,G.length=nn.length->g y (G++j) H R->g y (G++j) H λw H'=>(∃V:St,V.length=nn.length/\w=V++j)/\R w H')
  (Dh:∀k C fp n q (A:List (af×az)) (s:ae) (j:St) (H:Hp) (Q:Bool->Hp->Prop),Inv (dF X scope k C nn fp n q) A j H s->L j H Q->ag (ai X.prog X.w) X.A (T (compEnvC scope k C X.env)) (TP (dF X scope k C nn fp n q) A j Q) (λ_ _=>False) s)
  (Y:∀k C fp n q,PE (dF X scope k C nn fp n q) a te)
  (jD:scope.kind=.function) (jB:∀y∈scope.names,y.2≠.cell) (jC:∀y∈scope.names,y.2=.local->scope.names.lookup y.1=some .local)
  (jI:∀y∈X.N,scope.names.lookup y≠some .local) (hfr:∀p∈scope.names,p.2=.free->tZ X.env.scope p.1/\X.env.scope.names.lookup p.1≠some .local)
  (hs:∀x,foldedSetIterable iter X.env x=pure x) (J:X.N.Nodup) (wV:X.N[i0]?=some m) (K:X.env.scope.names.lookup m=some .local) (Di:swapsWith (.ListComp a [⟨i,iter,d,0⟩] scope c) (some (.Name m u)) P.line X.env=pure true):
  PS X (.Assign [.Name m u] (.ListComp a [⟨i,iter,d,0⟩] scope c) P) (iR (rm nn.length O g L te) (di i0)):=by
 intro A s j H W I h;rw[exec_Assign_Name_used _ _ _ _ Di];refine Za (Uk (Za ?_));show ag _ X.A (do let _ <- comprehension (.ListComp a [⟨i,iter,d,0⟩] scope c) scope X.env _ (newList []) false (eval iter X.env) (some (assign (.Name m u) X.env))) _ _ s;refine Za (Yv (RE (use:=some (assign (.Name m u) X.env)) (QQ:=λ_ S=>SP X A W .next S) T hc hi kr tO ku Dh Y jD jB jC jI hfr hs I h λD C M F m4 t U iv qn=>?_) (λ_ S hq=>Zc (Zc hq)) λ_ _ e=>e);have IX:Inv X A j M F:=iv F.heap (XT _ _);obtain⟨oC,esC,epC,E,rC⟩:=id U;have IP:=IX.pinned (fp:=[C]) (λb hb=>by
  have:b=C:=by simpa using hb
  subst this;exact t) (λb hb=>by
  have:b=C:=by simpa using hb
  subst this;exact⟨oC,E,λv z=>by rw[rC.1]at z;cases z⟩)
 show ag _ X.A (assign (.Name m u) X.env (.ref D)) _ _ F;refine wpAny_assign_Name (Fj (v:=.ref D) IP J wV (.inl K) rfl (λZ N=>?_) (.inr K));have pC:=N.pin (C,oC) (ZN _ (ZN _ (zA (by simp) E)));refine⟨m4,U.at' (λo e=>by rw[E]at e;cases e;exact pC.1),λh' sb=>⟨_,M,?_,qn⟩⟩;exact N.cS.turned (t':=Z.toks) (λb o hb e=>(sb.2 b hb).trans e) t.1 t.2.1 t.2.2.2.1 t.2.2.2.2.1 t.2.2.2.2.2
theorem T8{i0:Nat}{f:ar}{q u:aC}{x:ar}{px b:aC}{a iter:av}{scope:aA}{t:TI}{te:TE}(N:List ar)(m:aA)(K:X.N=N)(M:X.env.scope=m)(hc:X.calm=true)(r:X.N.Nodup)(D:X.N[i0]?=some f)(w:X.env.scope.names.lookup f=some .local)(T:PI X (.Name x px) iter t)
  (A:∀e C d c g,PE (dF X scope e C [x] d c g) a te)
  (E:scope.kind=.function:=by rfl) (O:scope.names.all (λy=>y.2 != .cell)=true:=by decide +kernel) (S:scope.names.all (λy=>y.2 != .local||scope.names.lookup y.1==some .local)=true:=by decide +kernel)
  (v:scope.names.lookup x=some .local:=by rfl) (P:N.all (λy=>scope.names.lookup y != some .local)=true:=by decide +kernel)
  (hfr:scope.names.all (λp=>p.2 != .free||(m.names.lookup p.1==some .cell||m.names.lookup p.1==some .free))=true:=by decide +kernel)
  (hs:∀x,foldedSetIterable iter X.env x=pure x:=by intro _;rfl) (F:swapsWith (.ListComp a [⟨.Name x px,iter,[],0⟩] scope b) (some (.Name f q)) u.line X.env=pure true:=by rfl):
  PS X (.Assign [.Name f q] (.ListComp a [⟨.Name x px,iter,[],0⟩] scope b) u) (iR (rm 1 t (di 0) zE te) (di i0)):=by
 obtain⟨U,L,n,B⟩:=zw K M O S P hfr;refine Sz (nn:=[x]) (λ_=>pure true) hc T (λJ j k=>Kf a _ iter scope b J j k) (λe C d c g=>?_) (λy Y V H R G h=>xG G h) (λe C d c g W s V H Q I h=>Zc ⟨H,I,h⟩) A E U L n B hs r D w F;have l:(dF X scope e C [x] d c g).env.scope.names.lookup x=some .local:=YM v;exact sg (i:=0) (Y1.mpr ⟨λz=>n x z v,r⟩) rfl (.inl l) (.inr l)
end
end L2
namespace L2
open PySem PySem.Spec PyProof.Rows PySem.W
section
variable{X:Cx}
def Ex(z:ar):It:=⟨λi _=>i<z.cps.size,λi H x a=>a=H/\∃c,z.cps[i]?=some c/\x=.str ⟨#[c]⟩,λi _=>z.cps.size<=i⟩
theorem Sy{P:ah}{w:aj}{K:PySem.W.Frag}{x:ar}{px:aC}(it:af)(z:ar)(t:Tok)(kind:String)(S:kind="str_ascii_iterator" \/ kind="str_iterator")
  (W:∀A:aq,A.handled=none->Walks P w A it [it] [it] z.cps.size (SignAt z) (λi h=>h.IsStrIter it kind z t i)):Turn P w K (.Name x px) (Ex z) [it] it (λi h=>i<=z.cps.size/\h.IsStrIter it kind z t i) where
 mem:=by simp
 obj:=λi h a b hb=>by
  have e:b=it:=by simpa using hb
  subst e;obtain⟨_,o,e,c,d⟩:=a;exact⟨o,e,λv q=>by rw[d]at q;cases q⟩
 keep:=λi h l a k=>⟨a.1,by
  obtain⟨_,o,e,r⟩:=a;exact⟨o,k it (by simp) o e,r⟩⟩
 item:=by
  intro X j B F m i N s M H E I g a G;subst j B F;obtain⟨n,C,U,J,L,D⟩:=g it (by simp);have f:i<z.cps.size:=G;refine(W X.A (I.ok.hd m)).item i s _ _ f a.2 λv l O Y T p=>?_;obtain⟨c,u,R,rfl⟩:=Y;have Z:Inv X N M H {s with heap:=l,toks:=O}:=I.turned (λb o hb e=>p b o (by simpa using hb) e) n C J L D;exact⟨_,rfl,Zc ⟨.str ⟨#[c]⟩,H,Z,⟨_,rfl⟩,⟨rfl,c,R,rfl⟩,⟨f,T⟩,λb hb=>(g b hb).1⟩⟩
 done:=by
  intro X j B F m i N s M H E I g a G;subst j B F;obtain⟨n,C,U,J,L,D⟩:=g it (by simp);have V:i=z.cps.size:=Ux a.1 G;subst V;exact(W X.A (I.ok.hd m)).done s _ _ a.2 λl O p=>⟨rfl,I.turned (λb o hb e=>p b o (by simpa using hb) e) n C J L D⟩
 self:=λA i s Q E a h=>by
  rcases S with y|y
  ·subst y;exact wpAny_pyIter_striter_ascii a.2 h
  ·subst y;exact wpAny_pyIter_striter_wide a.2 h
def Lu(te:TE):TI:=λb H R=>te b H λx a=>∃z,x=.str z/\R (Ex z) a
theorem KI{e:av}{te:TE}{x:ar}{px:aC}(i:PE X e te):PI X (.Name x px) e (Lu te):=by
 intro g s l H R I h;refine bo (i g s l H _ I h) λv a ⟨y,d,c,j,z,k,q⟩=>?_;subst k;obtain⟨t,rfl⟩:=j;have f:∀b∈[a.heap.objs.size],eQ X g d b:=λb hb=>by
  have e:b=a.heap.objs.size:=by simpa using hb
  subst e;exact c.i9 (Ze _) (c.aT.fresh (Ze _))
 cases ha:z.cps.all (·<128)with
 |true=>
  refine wpAny_pyIter_ascii ha ?_;exact⟨a.heap.objs.size,[a.heap.objs.size],_,_,d,rfl,c.kept (t':=a.toks) (λb o e=>Zb _ e),Sy _ z t "str_ascii_iterator" (.inl rfl) (λA hA=>Walks.strAscii hA _ z t),⟨Zz _,_,Zg _ rfl,rfl,rfl⟩,f,q⟩
 |false=>
  refine wpAny_pyIter_wide ha ?_;exact⟨a.heap.objs.size,[a.heap.objs.size],_,_,d,rfl,c.kept (t':=a.toks) (λb o e=>Zb _ e),Sy _ z t "str_iterator" (.inr rfl) (λA hA=>Walks.strWide hA _ z t),⟨Zz _,_,Zg _ rfl,rfl,rfl⟩,f,q⟩
def t_(lo:Int)(n:Nat):It:=⟨λi _=>i<n,λi H x a=>a=H/\x=.int (lo-i),λi _=>n<=i⟩
theorem Jw{P:ah}{w:aj}{K:PySem.W.Frag}{x:ar}{px:aC}(it:af)(lo:Int)(n:Nat):Turn P w K (.Name x px) (t_ lo n) [it] it (λi h=>IsRangeIter h it (lo+(i:Nat)*(-1)) ((n:Int)-(i:Nat)) (-1)) where
 mem:=by simp
 obj:=λi h a b hb=>by
  have e:b=it:=by simpa using hb
  subst e;exact⟨_,a,λv z=>by
   have D:Data.fields _=Data.cell v:=z;cases D⟩
 keep:=λi h f a k=>k it (by simp) _ a
 item:=by
  intro X d m q g i A s B H E I c a r;subst d m q;obtain⟨j,l,L,u,y,p⟩:=c it (by simp);refine(Walks.range (prog:=X.prog) (w:=X.w) (I.ok.hd g) it lo (-1) n).item i s _ _ r a λv f M G J F=>?_;obtain⟨t,rfl⟩:=G;have N:Inv X A B H {s with heap:=f,toks:=M}:=I.turned (λb o hb e=>F b o (by simpa using hb) e) j l u y p;refine⟨_,rfl,Zc ⟨.int (lo-i),H,N,⟨t,?_⟩,⟨rfl,rfl⟩,J,λb hb=>(c b hb).1⟩⟩;rw[show lo+(i:Int)*(-1)=lo-i from Ra]
 done:=by
  intro X d m q g i A s B H E I c a r;subst d m q;obtain⟨j,l,L,u,y,p⟩:=c it (by simp);exact wpAny_pyNext_range_end (I.ok.hd g) a (by have:n<=i:=r;exact Iy this) λf C=>⟨rfl,I.turned (t':=s.toks) (λb o hb e=>C b o hb e) j l u y p⟩
 self:=λ_ _ _ _ _ a h=>W0 a h
def PL(ta:TA):TI:=λc H R=>ta c H λb a=>∃i j:Int,b=[.int i,.int j,.int (-1)]/\(-1000000<=i/\i<=1000000/\-1000000<=j/\j<=1000000)/\R (t_ i (i-j).toNat) a
theorem JS(a b:Int):Builtin.Range.rangeSize a b (-1)=(((a-b).toNat:Nat):Int):=by
 unfold Builtin.Range.rangeSize;rw[Zl (by decide)];by_cases h:a>b
 ·rw[Zx h,show(-(-1:Int))=1 by decide,Int.ediv_one];lia
 ·rw[Zl h];lia
theorem RD{a b:Int}(h1:-1000000<=a)(d:a<=1000000)(c:-1000000<=b)(e:b<=1000000):Builtin.Range.small a b (-1)=true:=by
 unfold Builtin.Range.small;rw[JS];simp only[Builtin.Range.rangeFitsLong,Vo,VD,W7,Wg,show ¬((-1:Int)>0) by decide,Z5];lia
theorem xt6{a b c:av}{ta:TA}{p g px:aC}{x:ar}(J:Gl X "range")(M:X.mg "range"=none)(F:PA X [a,b,c] ta)
  (hs:starEach [a,b,c] X.env=[(false,eval a X.env),(false,eval b X.env),(false,eval c X.env)]:=by rfl) (u:starEach [b,c] X.env=[(false,eval b X.env),(false,eval c X.env)]:=by rfl):
  PI X (.Name x px) (.Call (.Name "range" p) [a,b,c] [] g) (PL ta):=by
 intro n s v H R I h;refine Call_ (uq I J M boot_range (Y8 (bo (F g n s v H _ I h) λO d ⟨P,m,N,C,B⟩=>?_) (by rw[hs,u]) (by rw[u];rfl)));obtain⟨i,j,e,⟨y,K,w,A⟩,q⟩:=B;subst e;cases C with
 |cons r f=>
  cases f with
  |cons L f=>
   cases f with
   |cons G f=>
    cases f;obtain⟨t,rfl⟩:=r;obtain⟨t',rfl⟩:=L;obtain⟨k,rfl⟩:=G;refine call_range_3 (by decide) ?_ (Or.inl (W1 (by lia)));refine VR (IsRange.new ..) ?_ ?_
    ·exact RD y K w A
    ·have l:Inv X n v m {d with heap:=d.heap.push {cls:=.type "range",data:=.fields #[.int i t,.int j t',.int (-1) k]}}:=N.kept (t':=d.toks) λb o e=>Zb _ e;refine⟨(d.heap.push {cls:=.type "range",data:=.fields #[.int i t,.int j t',.int (-1) k]}).objs.size,[(d.heap.push {cls:=.type "range",data:=.fields #[.int i t,.int j t',.int (-1) k]}).objs.size],_,_,m,rfl,
      l.kept (t':=d.toks) λb o e=>Zb _ e,Jw _ i (i-j).toNat,?_,λb hb=>?_,q⟩
     ·have E:i+((0:Nat):Int)*(-1)=i:=by simp
      have D:(((i-j).toNat:Nat):Int)-((0:Nat):Int)=Builtin.Range.rangeSize i j (-1):=by rw[JS];simp
      rw[E,D];exact Zg _ rfl
     ·have e:b=(d.heap.push {cls:=.type "range",data:=.fields #[.int i t,.int j t',.int (-1) k]}).objs.size:=by simpa using hb
      subst e;exact l.i9 (Ze _) (l.aT.fresh (Ze _))
def xS6(te:TE)(e f:TG):TS:=λD a H=>te a H λx b=>e x a b λd c=>f x d c D.nx
theorem xt7{a b e:av}{te:TE}{i g:TG}{c:aC}(k:PE X e te)(h1:PG X a i)(u:PG X b g)(hw:swappedStores [a,b] e X.env=pure none:=by rfl)
  (p:(assignEach [a,b] X.env).map (·.2)=[assign a X.env,assign b X.env]:=by rfl):PS X (.Assign [a,b] e c) (xS6 te i g):=by
 intro d s j H D I h;refine wpAny_Assign_two (bo (k d s j H _ I h) λv A ⟨x,r,B,f,m⟩=>?_) p hw;refine bo (h1 d A j r x v _ B f m) λ_ w ⟨l,n,y,t⟩=>?_;exact bo (u d w l n x v _ y f t) λ_ C q=>q
def xM3:TE:=λ_ H Q=>∀p,H p=none->Q (.ref p) (upd H p (.dK []))
theorem xf6{b:aC}:PE X (.Dict [] [] b) xM3:=λc s d H Q I h=>by
 have hb:sysModules<s.heap.objs.size:=WA (by decide) (I.mod.glob.keeps I.bk).lt;exact wpAny_Dict_empty ⟨.ref s.heap.objs.size,_,I.laid (a:=s.heap.objs.size) (o:=.dK []) (t':=s.toks) (λ_ _ q=>Zb _ q) (Ze _) ⟨Zz _,VG.mpr (Xc (Zp hb)),[],.nil,Heap.DictOf.new _⟩,rfl,h _ (I.aT.fresh (Ze _))⟩
end
end L2
namespace L2
open PySem PySem.Spec PyProof.Rows
theorem xf7{a:TI}{te:TE}:EJ a te=rm 1 a (di 0) zE te:=by
 funext σ H Q;unfold EJ rm;congr 1;funext J H1;refine propext (Xk λD=>Xk λ_=>exists_congr λW=>VE λ_=>Xk λi=>Xk λm=>Xk λf=>Xk λd=>Xk λ_=>VE λ_=>VE λ_=>or_congr_right (VE λ_=>Xk λy=>Xk λe=>Xk λ_=>⟨λh c b=>?_,λh=>?_⟩))
 ·match c,b with
  |[o],_=>
   unfold di zE;dsimp only;rw[Zx rfl];exact h
 ·have z:=h [none] rfl;unfold di zE at z;dsimp only at z;rw[Zx rfl]at z;exact z
section
variable{X:Cx}
theorem rz{x:ar}{px b:aC}{a iter:av}{scope:aA}{n:TI}{te:TE}(N:List ar)(k:aA)(B:X.N=N)(E:X.env.scope=k)(hc:X.calm=true)(w:X.N.Nodup)(K:PI X (.Name x px) iter n)(r:∀e C d c f,PE (dF X scope e C [x] d c f) a te)
  (u:scope.kind=.function:=by rfl) (F:scope.names.all (λy=>y.2 != .cell)=true:=by decide +kernel) (J:scope.names.all (λy=>y.2 != .local||scope.names.lookup y.1==some .local)=true:=by decide +kernel)
  (q:scope.names.lookup x=some .local:=by rfl) (G:N.all (λy=>scope.names.lookup y != some .local)=true:=by decide +kernel)
  (hfr:scope.names.all (λp=>p.2 != .free||(k.names.lookup p.1==some .cell||k.names.lookup p.1==some .free))=true:=by decide +kernel)
  (hs:∀x,foldedSetIterable iter X.env x=pure x:=by intro _;rfl):PE X (.ListComp a [⟨.Name x px,iter,[],0⟩] scope b) (EJ n te):=by
 obtain⟨L,D,m,t⟩:=zw B E F J G hfr;rw[xf7];refine Fe (nn:=[x]) (λ_=>pure true) hc K (λA g j=>Kf a _ iter scope b A g j) (λe C d c f=>?_) (λy P M H R v h=>xG v h) (λe C d c f O s M H Q I h=>Zc ⟨H,I,h⟩) r u L D m t hs;have l:(dF X scope e C [x] d c f).env.scope.names.lookup x=some .local:=YM q;exact sg (i:=0) (Y1.mpr ⟨λz=>m x z q,w⟩) rfl (.inl l) (.inr l)
end
end L2
namespace L2
open PySem
theorem c9{H:Hp}{a b:af}{o u:HO}(e:H a=some o)(c:H b=none):upd H b u a=some o:=by rw[cN (dI e c)];exact e
theorem bQ{H:Hp}{a:af}{o:HO}(h:H a=none):aI H (upd H a o):=λb u e=>c9 e h
def gz(H a:Hp):Prop:=∀b u,H b=some (.tup u)->a b=some (.tup u)
theorem aI.b_{H a:Hp}(s:aI H a):gz H a:=λb u e=>s b _ e
structure Goes(J:It)(H:Hp)(n:Nat)(item:Nat->V->Hp->Prop):Prop where
 go:∀i H2,i<n->aI H H2->J.go i H2
 yl:∀i H2 y H3,i<n->aI H H2->J.iI i H2 y H3->aI H2 H3/\item i y H3
 st:∀H2,aI H H2->J.stop n H2
theorem zq{K:PySem.W.Frag}{H:Hp}{a:af}{xs:List V}(b:H a=some (.tup xs)):Goes (Aj K a) H xs.length (λi y _=>xs[i]?=some y) where
 go:=λi c d s=>⟨xs,xs[i],aZ.of (s _ _ b),by simp[d]⟩
 yl:=λi c y f d s h=>by
  obtain⟨e,h⟩:=h;subst e;exact⟨aI.refl _,h xs (aZ.of (s _ _ b))⟩
 st:=λc s=>⟨xs,aZ.of (s _ _ b),Ze _⟩
theorem wq{K:PySem.W.Frag}{H:Hp}{a:af}{xs:List V}(b:H a=some (.lst xs)):Goes (Ak K a) H xs.length (λi y _=>xs[i]?=some y) where
 go:=λi c d s=>⟨xs,xs[i],cH.of (s _ _ b),by simp[d]⟩
 yl:=λi c y f d s h=>by
  obtain⟨e,h⟩:=h;subst e;exact⟨aI.refl _,h xs (cH.of (s _ _ b))⟩
 st:=λc s=>⟨xs,cH.of (s _ _ b),Ze _⟩
theorem q52{K:PySem.W.Frag}{H:Hp}{a:af}{xs:List V}(b:H a=some (.tup xs)):Goes (Al K a) H xs.length (λi y e=>∃p x,y=.ref p/\xs[i]?=some x/\e p=some (.tup [.int i,x])) where
 go:=λi c d s=>⟨xs,xs[i],aZ.of (s _ _ b),by simp[d]⟩
 yl:=λi c y e d s h=>by
  obtain⟨p,x,g,f,rfl,rfl⟩:=h;exact⟨bQ g,p,x,rfl,f xs (aZ.of (s _ _ b)),bu⟩
 st:=λc s=>⟨xs,aZ.of (s _ _ b),Ze _⟩
theorem uC{J:It}{H:Hp}{n:Nat}{item:Nat->V->Hp->Prop}{te:TE}{σ:St}{Fin:Hp->Prop}{D:af}(t:H D=none)(d:Nat->V->Hp->Prop)(G:Goes J H n item)(hsz:n<sizeLine)
  (mono:∀i y A a,i<n->gz A a->d i y A->d i y a)
  (step:∀i x a,i<n->item i x a->aI H a->∀E:VK,(∀y f,aI a f->d i y f->E y f)->te (some x::σ) a E)
  (fin:∀c a,aI H a->a D=some (.lst c)->c.length=n->(∀i y,c[i]?=some y->d i y a)->Fin a):
  ∃W:Nat->Nat->List V->Hp->Prop,(∃m,W 0 m [] (upd H D (.lst []))) /\
   ∀i m k a,W i m k a->a D=some (.lst k)/\k.length<sizeLine/\((J.stop i a/\Fin a)\/(J.go i a/\∀y f,J.iI i a y f ->
    te (some y::σ) f λv g=>g D=some (.lst k)/\∃B,B<m/\W (i+1) B (k++[v]) (upd g D (.lst (k++[v]))))):=by
 refine⟨λi m c a=>i<=n/\m=n-i/\c.length=i/\a D=some (.lst c)/\aI H a/\∀j y,c[j]?=some y->d j y a,⟨n,Zz _,rfl,rfl,bu,bQ t,λj y h=>by simp at h⟩,?_⟩;rintro i m c a ⟨O,rfl,w,s,l,rel⟩;refine⟨s,by lia,?_⟩;by_cases I:i=n
 ·subst I;exact .inl ⟨G.st a l,fin c a l s w rel⟩
 ·refine .inr ⟨G.go i a (by lia) l,λy f L=>?_⟩;obtain⟨q,M⟩:=G.yl i a y f (by lia) l L;refine step i y f (by lia) M (l.trans q) _ λv g r K=>?_;have C:=r _ _ (q _ _ s);refine⟨C,n-(i+1),by lia,by lia,rfl,by rw[Zn,w];rfl,bu,?_,?_⟩
  ·intro b o e;rw[cN (dI e t)];exact r _ _ (q _ _ (l _ _ e))
  ·have F:gz g (upd g D (.lst (c++[v]))):=λb u e=>by
    have:b≠D:=λz=>by subst z;rw[C]at e;cases e
    rw[cN this];exact e
   intro j z p;by_cases N:j<i
   ·rw[Zw (by lia)]at p;exact mono j z g _ (by lia) F (mono j z a g (by lia) (q.trans r).b_ (rel j z p))
   ·rw[ZF (by lia)]at p;have:j-c.length=0:=by
     have:=(cz p).1;simp at this;lia
    rw[this]at p;have:z=v:=by simpa using p.symm
    subst this;have:j=i:=by lia
    subst this;exact mono _ _ g _ (by lia) F K
theorem JH{J:It}{H:Hp}{n k:Nat}{item:Nat->V->Hp->Prop}{g:TG}{B:TT}{te:TE}{σ:St}{Fin:Hp->Prop}{D:af}(C:H D=none)(d:Nat->Bool)(val:Nat->V)(G:Goes J H n item)(hsz:n<sizeLine)
  (step:∀i x a,i<n->item i x a->aI H a->∀j:St,j.length=k->∀(E:Hp->Prop)(F:VK),(d i=false->∀c,aI a c->E c)->(d i=true->∀c,aI a c->F (val i) c) ->
   g x (j++σ) a λq t=>B q t λb r=>if b=true then te q r F else E r)
  (fin:∀a,aI H a->a D=some (.lst (((List.range n).filter d).map val))->Fin a):
  ∃W:Nat->Nat->List V->Hp->Prop,(∃m,W 0 m [] (upd H D (.lst []))) /\
   ∀i m f a,W i m f a->a D=some (.lst f)/\f.length<sizeLine/\((J.stop i a/\Fin a)\/(J.go i a/\∀y c,J.iI i a y c->∀j:St,j.length=k ->
    g y (j++σ) c λq t=>B q t λb r=>if b=true then te q r λv I=>I D=some (.lst f)/\∃s,s<m/\W (i+1) s (f++[v]) (upd I D (.lst (f++[v])))else ∃s,s<m/\W (i+1) s f r)):=by
 refine⟨λi m A a=>i<=n/\m=n-i/\A=((List.range i).filter d).map val/\a D=some (.lst A)/\aI H a,⟨n,Zz _,rfl,rfl,bu,bQ C⟩,?_⟩;rintro i m A a ⟨S,rfl,w,u,h⟩;have R:A.length<=i:=by
  rw[w,Zh];exact ZI (Wm _ _) (by simp)
 refine⟨u,by lia,?_⟩;by_cases K:i=n
 ·subst K;exact .inl ⟨G.st a h,fin a h (w▸u)⟩
 ·refine .inr ⟨G.go i a (by lia) h,λy c O j N=>?_⟩;obtain⟨l,P⟩:=G.yl i a y c (by lia) h O;refine step i y c (by lia) P (h.trans l) j N _ _ (λM t p=>?_) (λL t p=>?_)
  ·refine⟨n-(i+1),by lia,by lia,rfl,?_,p _ _ (l _ _ u),(h.trans l).trans p⟩;rw[w,Xa,Xh];simp[M]
  ·have Q:=p _ _ (l _ _ u);refine⟨Q,n-(i+1),by lia,by lia,rfl,?_,bu,λb o e=>?_⟩
   ·rw[w,Xa,Xh];simp[L]
   ·rw[cN (dI e C)];exact p _ _ (l _ _ (h _ _ e))
theorem zQ{X:Cx}(K:PySem.W.Frag)(h:X.K=K):oK X (wb K):=h▸oq
theorem Li{X:Cx}(K:PySem.W.Frag)(h:X.K=K):oK X (pH K):=h▸cJ
theorem oO{X:Cx}(K:PySem.W.Frag)(h:X.K=K):fm X (.type "tuple") (dM K):=h▸qB0
theorem Gu{X:Cx}{c l:av}{a:TE}(K:PySem.W.Frag)(h:X.K=K)(b:PE X l a):PI X c l (Dc K a):=h▸y_ b
end L2
namespace Pr
open PySem L2
abbrev zJ:aB:=top 11
abbrev FQ:aB:=top 12
abbrev Cq:aB:=top 13
abbrev r9:aB:=top 14
abbrev Gm:aB:=top 15
abbrev Cp:aB:=top 18
abbrev Co:aB:=top 19
abbrev EI:aB:=top 20
abbrev FO:aB:=top 21
abbrev FK:aB:=top 22
abbrev Fo:aB:=top 23
abbrev zD:aB:=top 24
abbrev FJ:aB:=top 25
abbrev Fz:aB:=top 26
abbrev BD:aB:=top 28
abbrev pF:aB:=top 29
abbrev Cn:aB:=top 30
abbrev Fb:aB:=top 31
abbrev Cf:aB:=top 32
abbrev Ce:aB:=top 33
abbrev BC:aB:=top 36
abbrev E_:aB:=top 37
abbrev Fy:aB:=top 38
abbrev Gk:aB:=top 39
abbrev Fn:aB:=top 40
abbrev Fm:aB:=top 42
abbrev Cm:aB:=top 43
abbrev zh:aB:=top 44
abbrev tE:aB:=top 46
abbrev uo:aB:=top 47
abbrev Cd:aB:=top 48
abbrev tF:aB:=top 49
abbrev Cc:aB:=top 50
abbrev zI:aB:=top 51
abbrev nY:aB:=top 52
abbrev uv:aB:=top 53
abbrev Fx:aB:=top 54
abbrev xa:aB:=top 55
abbrev Gj:aB:=top 56
abbrev EH:aB:=top 57
abbrev BB:aB:=top 58
abbrev Fw:aB:=top 59
abbrev Cb:aB:=top 60
abbrev Ck:aB:=top 61
abbrev Fv:aB:=top 62
abbrev Fu:aB:=top 63
abbrev Ca:aB:=top 64
abbrev Ft:aB:=top 65
abbrev i6:aB:=top 66
end Pr
namespace L2
open PySem PySem.Spec PyProof.Rows
theorem cZ{N P:List ar}{h:aA}(a:h.kind=.function:=by rfl)(b:h.isCoroutine=false:=by rfl)(c:h.isGenerator=false:=by rfl)(d:N.Nodup:=by decide +kernel)(e:N.take P.length=P:=by rfl)(f:∀x∈P,h.names.lookup x=some .local\/h.names.lookup x=some .cell:=by decide +kernel)(g:∀y∈h.names,y.2≠.free:=by decide +kernel):aF N P h:=⟨a,b,c,d,e,f,g⟩
section
variable{X:Cx}
theorem cg(i:Nat){x:ar}{e:av}{te:TE}{b a:aC}(h:X.N.Nodup)(d:PE X e te)(g:X.N[i]?=some x:=by rfl)(f:Loc X.env.scope x:=by first|left;rfl|right;rfl)(hs:swapsWith e (some (.Name x a)) b.line X.env=pure false:=by rfl)(c:X.fn x=true\/X.env.scope.names.lookup x=some .local:=by first|left;rfl|right;rfl|assumption):PS X (.Assign [.Name x a] e b) (iR te (di i)):=xJ0 h g f d hs c
theorem c8(i:Nat){x:ar}{a:aC}(e:X.N.Nodup)(d:X.N[i]?=some x:=by rfl)(c:Loc X.env.scope x:=by first|left;rfl|right;rfl)(b:X.fn x=true\/X.env.scope.names.lookup x=some .local:=by first|left;rfl|right;rfl|assumption):PG X (.Name x a) (di i):=sg e d c b
theorem bZ{k:Nat}{f:af}{c:ak}{ps:List ar}{sp:Sp}{x:ar}{p a:aC}{e:av}{b:List av}{t:TA}(F:aE X.prog X.w X.K X.mg X.base aS k f c ps sp)(i:bf k X.A)(n:X.mg x=some (.ref f))(d:PySem.W.keepIn X.K (.ref f)=true)(hb:Binds X.K c ps [])(l:PA X (e::b) t)(g:Gl X x:=by rfl)(j:(x==("__debug__":ar))=false:=by decide)(h:starEach (e::b) X.env=(false,eval e X.env)::starEach b X.env:=by rfl)(m:(backTo a (starEach b X.env)).any (·.1)=false:=by rfl):
  PE X (.Call (.Name x p) (e::b) [] a) (BS sp [] E0 t):=R0 F i g n d hb .nil P0 l j h m
theorem cb{r:R2}{a b:av}{c:aC}{ta tb:TE}(d:oK X r)(e:PE X a ta)(hb:PE X b tb)(hs:UR b:=by intro _ _;rfl):PE X (.Subscript a b c) (js r ta tb):=xR4 d e hb hs
end
end L2
namespace Pr
open PySem L2 Qf
structure eF(mg:ar->Option aa):Prop where
 tG:mg "isinstance"=none
 int:mg "int"=none
 bool:mg "bool"=none
 tuple:mg "tuple"=none
 list:mg "list"=none
 set:mg "set"=none
 len:mg "len"=none
 all:mg "all"=none
 any:mg "any"=none
 enum:mg "enumerate"=none
 range:mg "range"=none
 max:mg "max"=none
 min:mg "min"=none
structure uY(mg:ar->Option aa):Prop where
 first:∃t,mg "FIRST"=some (.int 2 t)
 full:∃t,mg "FULL"=some (.int 1 t)
 great:∃t,mg "GREATEST_SIZE"=some (.int 12 t)
def vN(r:List Nat):List V:=r.map λn:Nat=>V.int (n:Int)
theorem nJ(r:List Nat):(vN r).length=r.length:=Zh ..
theorem wg{r:List Nat}{i:Nat}{x:V}(h:(vN r)[i]?=some x):∃n:Nat,r[i]?=some n/\x=.int (n:Int):=by
 unfold vN at h;rw[Zf]at h;obtain⟨n,h1,a⟩:=Zj.mp h;exact⟨n,h1,a.symm⟩
theorem PK{r:List Nat}{i n:Nat}(h:r[i]?=some n):(vN r)[i]?=some (.int (n:Int)):=by
 unfold vN;rw[Zf,h];rfl
theorem B_{r:List Nat}{i n:Nat}(h:r[i]?=some n):qW (vN r) (i:Int)=some (.int (n:Int)):=uw (PK h)
theorem um(r:List Nat):vN r=(r.map λn:Nat=>(n:Int)).map V.int:=by unfold vN;rw[Yq];rfl
def cM(H:Hp)(p:af)(rows:List Row):Prop:=∃bs:List af,H p=some (.tup (bs.map V.ref))/\bs.length=rows.length/\∀(i:Nat) b r,bs[i]?=some b->rows[i]?=some r->H b=some (.tup (vN r))
theorem cM.mono{H a:Hp}{p:af}{rows:List Row}(h:cM H p rows)(t:gz H a):cM a p rows:=by
 obtain⟨bs,h1,f,e⟩:=h;exact⟨bs,t _ _ h1,f,λi b r d c=>t _ _ (e i b r d c)⟩
theorem cM.same{H a:Hp}{p:af}{rows:List Row}(h:cM H p rows)(t:aI H a):cM a p rows:=h.mono t.b_
def ie(H:Hp)(p:af)(rows:List Row):Prop:=∃bs:List af,(H p=some (.tup (bs.map V.ref))\/H p=some (.lst (bs.map V.ref)))/\bs.length=rows.length/\∀(i:Nat) b r,bs[i]?=some b->rows[i]?=some r->H b=some (.tup (vN r))
theorem cM.zs{H:Hp}{p:af}{rows:List Row}(h:cM H p rows):ie H p rows:=let ⟨bs,a,b,c⟩:=h;⟨bs,.inl a,b,c⟩
theorem ie.same{H a:Hp}{p:af}{rows:List Row}(h:ie H p rows)(s:aI H a):ie a p rows:=by
 obtain⟨bs,h1,f,e⟩:=h;exact⟨bs,h1.imp (s _ _) (s _ _),f,λi b r d c=>s _ _ (e i b r d c)⟩
def pI(K:PySem.W.Frag):R2:=λx y H Q=>wb K x y H Q\/pH K x y H Q
theorem ixS{X:Cx}(K:PySem.W.Frag)(h:X.K=K):oK X (pI K):=(zQ K h).or (Li K h)
theorem xt8:aF ["thing"] ["thing"] (bJ zJ):=cZ
inductive oV(vs:List V)(H:Hp)(Q:VK):Prop
 |mk(i:Int)(e0:vs=[.int i])(e1:Q (.bl true) H)
def Gi:Sp:=λa H Q _=>oV a H Q
theorem Kt{f:af}{b:ak}(F:a_ K "is_whole" "is_whole" zJ f b)(B:eF mg):aE P w K mg base aS 1 f b ["thing"] Gi:=by
 refine F.ok xt8 (λc H Q E h=>?_) (λd A a s H c Q E e h=>?_)
 ·obtain⟨i,rfl,_⟩:=h
  rfl
 ·obtain⟨i,rfl,q⟩:=h;refine⟨_,cR (cF (nK (cB sv (by rfl) B.tG Z7 (aG (pv 0) (aG (si (v:=.ty "int") (by rfl) B.int YX rfl) aP)))
   (rn (xI7 (cB sv (by rfl) B.tG Z7 (aG (pv 0) (aG (si (v:=.ty "bool") (by rfl) B.bool PyProof.Rows.boot_bool rfl) aP))))))),?_⟩
  exact⟨_,rfl,_,_,_,_,true,rfl,rfl,.inl (.int i),rfl,_,rfl,dw ⟨_,rfl,_,_,_,_,false,rfl,rfl,.inl (.int i),rfl,_,rfl,q⟩⟩
theorem xM5:aF ["thing"] ["thing"] (bJ Cp):=cZ
inductive rP(vs:List V)(H:Hp)(Q:VK):Prop
 |mk(n:Nat)(e0:vs=[.int n])(e1:n<=12)(e2:Q (.bl true) H)
def KH:Sp:=λa H Q _=>rP a H Q
theorem xt9{f d:af}{i c:ak}(F:a_ K "is_size" "is_size" Cp f i)(B:eF mg)(T:uY mg)(k:mg "is_whole"=some (.ref d))(g:a_ K "is_whole" "is_whole" zJ d c)(l:Binds K c ["thing"] []):aE P w K mg base aS 2 f i ["thing"] KH:=by
 have p:aE P w K mg base aS 1 d c ["thing"] Gi:=Kt g B;obtain⟨t,a⟩:=T.great;refine F.ok xM5 (λm H Q E h=>?_) (λr A b s H m Q E j h=>?_)
 ·obtain⟨x,rfl,_⟩:=h
  rfl
 ·obtain⟨n,rfl,u,q⟩:=h;refine⟨_,cR (cF (nK (bZ p j k g.kp l (aG (pv 0) aP)) (rn (Fi om om aK (pv 0) (mf (v:=.int 12) (by rfl) a ⟨_,rfl⟩))))),?_⟩;refine⟨_,rfl,n,rfl,_,rfl,dw ⟨_,rfl,_,_,rfl,rfl,_,rfl,?_⟩⟩;have e:decide ((n:Int)<=12)=true:=Zt (by lia);refine cw (λ_=>⟨_,_,rfl,rfl,?_⟩) (λh1=>absurd (Zt (WQ n)) h1);rw[e];exact q
theorem xg0:aF ["thing","many"] ["thing","many"] (bJ BD):=cZ
inductive nz(vs:List V)(H:Hp)(Q:VK):Prop
 |mk(n m:Nat)(e0:vs=[.int n,.int m])(e1:n<m+2)(e2:Q (.bl true) H)
def Kr:Sp:=λa H Q _=>nz a H Q
theorem q60{f c:af}{g b:ak}(F:a_ K "is_number" "is_number" BD f g)(B:eF mg)(T:uY mg)(k:mg "is_whole"=some (.ref c))(d:a_ K "is_whole" "is_whole" zJ c b)(l:Binds K b ["thing"] []):aE P w K mg base aS 2 f g ["thing","many"] Kr:=by
 have r:aE P w K mg base aS 1 c b ["thing"] Gi:=Kt d B;obtain⟨u,j⟩:=T.first;refine F.ok xg0 (λp H Q E h=>?_) (λt A a s H p Q E i h=>?_)
 ·obtain⟨n,m,rfl,_⟩:=h
  rfl
 ·obtain⟨n,m,rfl,x,q⟩:=h;refine⟨_,cR (cF (nK (bZ r i k d.kp l (aG (pv 0) aP)) (rn (Fi om iD aK (pv 0) (aO c7 (pv 1) (mf (v:=.int 2) (by rfl) j ⟨_,rfl⟩)))))),?_⟩;refine⟨_,rfl,n,rfl,_,rfl,dw ⟨_,rfl,_,_,rfl,rfl,_,rfl,?_⟩⟩;have e:decide ((n:Int)<(m:Int)+2)=true:=Zt (by lia);refine cw (λ_=>⟨_,rfl,_,_,rfl,rfl,_,_,rfl,rfl,?_⟩) (λh1=>absurd (Zt (WQ n)) h1);rw[e];exact q
theorem xu0:aF ["row"] ["row"] (bJ FQ):=cZ
inductive oZ(vs:List V)(H:Hp)(Q:VK):Prop
 |mk(b:af)(r:Row)(e0:vs=[.ref b])(e1:H b=some (.tup (vN r)))(e2:r.length=4)(e3:∀H',aI H H'->Q (.bl (decide (uF r))) H')
def T7:Sp:=λa H Q _=>oZ a H Q
theorem T6{l m:List Nat}(h:(l.map λn:Nat=>(n:Int))=m.map λn:Nat=>(n:Int)):l=m:=by
 induction l generalizing m with
 |nil=>cases m with
  |nil=>rfl
  |cons b m=>simp at h
 |cons a l c=>cases m with
  |nil=>simp at h
  |cons b m=>
   rw[ZC,ZC]at h;injection h with h1 h2
   rw[c h2,Int.ofNat.inj h1]
theorem xg1{f:af}{n:ak}(F:a_ K "is_plain" "is_plain" FQ f n)(T:uY mg):aE P w K mg base aS 2 f n ["row"] T7:=by
 obtain⟨L,y⟩:=T.first;refine F.ok xu0 (λD H Q E h=>?_) (λJ A j s H D Q E x h=>?_)
 ·obtain⟨b,r,rfl,_⟩:=h
  rfl
 ·obtain⟨b,r,rfl,hb,B,q⟩:=h;refine⟨_,cR (cF (nK (jn iD (cb cJ (pv 0) aK) (mf (v:=.int 2) (by rfl) y ⟨_,rfl⟩) (cD _))
   (rn (jn (KO x) (pv 0) (aO xt3 (fo (aG (cb cJ (pv 0) aK) aP)) aK) (cD _))))),?_⟩
  match r,B with
  |[a,g,c,d],_=>
   refine⟨_,rfl,b,_,0,.int a,rfl,rfl,aZ.of hb,rfl,_,_,rfl,rfl,_,rfl,?_⟩;refine cw (λi=>?_) (λi=>?_)
   ·have G:a<2:=by have:=ZG i;lia
    refine⟨_,rfl,_,rfl,b,_,0,.int a,rfl,rfl,aZ.of hb,rfl,(by show 1<=sizeLine;decide),λp k=>⟨p,4,.int a,rfl,rfl,bu,by decide,by decide,λI t=>?_⟩⟩;have C:=c9 (u:=.tup (List.replicate 4 (V.int a))) (c9 (u:=.tup [V.int a]) hb k) t;refine⟨dT [(a:Int),(g:Int),(c:Int),(d:Int)],dT [(a:Int),(a:Int),(a:Int),(a:Int)],.tup C (aR.ints [(a:Int),(g:Int),(c:Int),(d:Int)]),.tup bu (aR.ints [(a:Int),(a:Int),(a:Int),(a:Int)]),KN _,KN _,(by show 1<=60;decide),?_⟩;rw[xL2];have e:decide (([(a:Int),(g:Int),(c:Int),(d:Int)]:List Int)=([(a:Int),(a:Int),(a:Int),(a:Int)]:List Int))=decide (uF [a,g,c,d]):=by
     congr 1;apply propext;unfold uF;constructor
     ·intro z;have:[a,g,c,d]=[a,a,a,a]:=T6 (l:=[a,g,c,d]) (m:=[a,a,a,a]) z;have:a=0\/a=1:=by lia
      rcases this with rfl|rfl
      ·exact .inl ‹_›
      ·exact .inr ‹_›
     ·rintro(z|z)<;>(cases z;rfl)
    rw[e];exact q _ ((bQ k).trans (bQ t))
   ·have G:¬a<2:=λz=>i (Zt (by lia));have e:decide (uF [a,g,c,d])=false:=Zo (by
     rintro(z|z)<;>(cases z;lia))
    have:=q H (aI.refl H);rw[e]at this;exact this
end Pr
namespace Qf
theorem xu1(l:List Nat)(a:Nat):mx (l++[a])=max (mx l) a:=by
 induction l with
 |nil=>exact Nat.max_comm a 0
 |cons b l c=>exact(Z9 (max b) c).trans (Nat.max_assoc b (mx l) a).symm
theorem T5(l:List Nat):∀k,k<l.length->L2.best (l.map λn:Nat=>(n:Int)) k=(mx (l.take (k+1)):Nat)
 |0,h=>by
  cases l with
  |nil=>simp at h
  |cons a l=>show((a:Nat):Int)=((max a 0:Nat):Int);simp
 |k+1,h=>by
  have b:=T5 l k (eI h);have e:(l.map λn:Nat=>(n:Int)).getD (k+1) 0=((l[k+1]:Nat):Int):=by simp[List.getD,h]
  have t:l.take (k+1+1)=l.take (k+1)++[l[k+1]]:=by rw[XY h]
  unfold L2.best;rw[e,b,t,xu1];split<;>lia
theorem xg2{l:List Nat}(h:l≠[]):L2.best (l.map λn:Nat=>(n:Int)) ((l.map λn:Nat=>(n:Int)).length-1)=(mx l:Nat):=by
 have a:0<l.length:=X6.mpr h;rw[Zh,T5 l (l.length-1) (xF a),show l.length-1+1=l.length from p9 a,WD]
theorem q64{rows:List Row}{i:Nat}{r:Row}(h:rows[i]?=some r):gr (rows.take (i+1))=gr (rows.take i)++[1+mx (r.map (dp (rows.take i)))]:=by
 have b:=(cz h).1;have a:=(cz h).2;rw[<- Fp,<- a,XY b]
theorem OV{rows:List Row}{x:Nat}(h:x<rows.length+2):(gr rows)[x]?=some (dp rows x):=by
 unfold dp;rw[ZA];have:x<(gr rows).length:=by rw[BI];exact h
 rw[Zd this];rfl
end Qf
namespace Pr
open PySem L2 Qf
theorem wo{xs a:List V}(b:xs.length=a.length)(h:∀(i:Nat) x,xs[i]?=some x->a[i]?=some x):xs=a:=by
 refine Xu λi=>?_;cases e:xs[i]? with
 |some x=>exact(h i x e).symm
 |none=>
  have:xs.length<=i:=List.getElem?_eq_none_iff.mp e;exact(Yr (uK b this)).symm
theorem iT:aF ["rows","depths","row"] ["rows"] (bJ Cq):=cZ
inductive rT(vs:List V)(H:Hp)(Q:VK):Prop
 |mk(p:af)(rows:List Row)(e0:vs=[.ref p])(e1:cM H p rows)(e2:fw rows)(e3:rows.length<=900)(e4:∀H' D,aI H H'->H' D=some (.lst (vN (gr rows)))->Q (.ref D) H')
def OU:Sp:=λa H Q _=>rT a H Q
theorem xu2{f:af}{Y:ak}(F:a_ K "depths_of" "depths_of" Cq f Y)(B:eF mg):aE P w K mg base aS 1 f Y ["rows"] OU:=by
 refine F.ok iT (λvs H Q E h=>?_) (λbO A L s H vs Q E hr h=>?_)
 ·obtain⟨p,rows,rfl,_⟩:=h
  rfl
 ·obtain⟨p,rows,rfl,hR,ok,hn,q⟩:=h;refine⟨_,gk (cg 1 iT.nd (jk (aG aK (aG aK aP))))
   (gk (pO Yx rfl (y_ (pv 0)) (c8 2 iT.nd)
    (cR (ke (zF YI YZ Y0 wu (pv 1) (aG (aO c7 aK (cB (q42 rfl) (by rfl) B.max ZM
     (aG (rz ["rows","depths","row"] (bJ Cq) rfl rfl rfl iT.nd (y_ (pv 2)) (λcl C fp aH aJ=>cb (zQ K rfl) (pv 2) (pv 0))) aP))) aP)))))
   (cR (cF (pv 1)))),?_⟩
  refine⟨(by show 2<=sizeLine;decide),λD M=>?_⟩;obtain⟨bs,X,j9,jE⟩:=id hR;have jY:=c9 (u:=.lst [.int 0,.int 0]) X M;have S:(bs.map V.ref).length=rows.length:=by rw[Zh];exact j9
  refine⟨_,rfl,p,rfl,⟨_,aZ.of jY⟩,Kh (K:=K) (a:=p) (xs:=bs.map V.ref) (λi I c=>aI H c/\c D=some (.lst (vN (gr (rows.take i))))/\∃J,I=[some (.ref p),some (.ref D),J])
   ⟨bQ M,bu,none,rfl⟩ (λi I c _ ⟨g,_⟩=>aZ.of (g _ _ X)) ?_ ?_⟩
  ·rintro i y I c O ⟨g,d,J,rfl⟩;have R:i<rows.length:=by rw[<- S];exact(cz O).1
   rw[Zf]at O;obtain⟨b,hb,rfl⟩:=Zj.mp O;have v:rows[i]?=some rows[i]:=by simp[R]
   have N:=g _ _ (jE i b rows[i] hb v);have t:=ok i _ v;have W:(rows.take i).length=i:=by rw[XC];exact Io R
   have kX:∀x,x<i+2->(gr (rows.take i))[x]?=some (dp (rows.take i) x):=λx k=>OV (by rw[W];exact k);generalize rows[i]=r at v N t;refine⟨_,rfl,.inl ⟨rfl,_,cH.of d⟩,_,rfl,b,rfl,⟨_,aZ.of N⟩,λD2 vR=>uC vR (λj z _=>∃x,r[j]?=some x/\z=.int (dp (rows.take i) x:Nat)) (zq (K:=K) N) (by rw[nJ,t.1];decide) (λ_ _ _ _ _ _ h=>h) ?_ ?_⟩
   ·intro j x H3 hj k l Q' hq;obtain⟨m,G,rfl⟩:=wg k;have jA:=t.2 m (Zv G);exact⟨_,rfl,_,rfl,D,_,(m:Int),.int (dp (rows.take i) m:Nat),rfl,rfl,cH.of (l _ _ d),B_ (kX m jA),hq _ _ (aI.refl _) ⟨m,G,rfl⟩⟩
   ·intro U H3 l Z kA vC;have ey:U=(r.map (dp (rows.take i))).map (λn:Nat=>V.int (n:Int)):=by
     refine wo (by rw[kA,nJ,Zh,Zh]) λj x k=>?_;obtain⟨m,G,rfl⟩:=vC j x k;rw[Zf,Zf,G];rfl
    have e2:U=((r.map (dp (rows.take i))).map (λn:Nat=>(n:Int))).map V.int:=ey.trans (um _);have T:r.map (dp (rows.take i))≠[]:=λz=>by
     have:=Z9 List.length z;rw[Zh,t.1]at this;cases this
    refine⟨D2,(r.map (dp (rows.take i))).map (λn:Nat=>(n:Int)),rfl,e2▸Z,λz=>T (List.map_eq_nil_iff.mp z),_,_,rfl,rfl,?_⟩;rw[xg2 T];have jZ:=l _ _ d;refine⟨D,_,_,rfl,rfl,jZ,?_,?_⟩
    ·rw[nJ,BI,W];exact ow (QI R hn)
    ·have nD:∀b o,H b=some o->b≠D:=λb o e=>dI e M;refine⟨λb o e=>by rw[cN (nD b o e)];exact l _ _ (g _ _ e),?_,_,rfl⟩;rw[bu,q64 v];unfold vN;rw[ZY]
     rfl
  ·rintro I c ⟨g,d,J,rfl⟩;refine⟨_,rfl,q c D g ?_⟩;rw[S,WD]at d;exact d
end Pr
namespace Qf
theorem xg3{rows:List Row}{e:List Nat}(h:iq rows e):e.length<=rows.length:=by
 have:=h.nd.length_le_of_subset (l₂:=List.range rows.length) λp a=>YJ.mpr (h.lt p a);simpa using this
theorem Jv{rows:List Row}(ok:fw rows){d p:Nat}{r:Row}(a:rows[p]?=some r)(g:dp rows (p+2)<=d+1):∀(l e:List Nat),(∀q∈l,q∈r)->iq rows e->iq rows (l.foldl (dD rows d) e)
 |[],_,_,c=>c
 |q::l,e,h,c=>by
  have f:=h q ZE;have k:=(ok p r a).2 q f;have j:=(cz a).1;have b:dp rows q<=d:=by
   have:=Cr (Yu.mpr ⟨q,f,rfl⟩:dp rows q∈r.map (dp rows));have e:=sE ok a;exact Ie e this g
  exact Jv ok a g l _ (λz i=>h z (Zk _ i)) (wt ok d e q c (qg j k) b).1
theorem zy{rows:List Row}(ok:fw rows){d p:Nat}{r:Row}(a:rows[p]?=some r)(c:dp rows (p+2)<=d+1){q:Nat}(b:q∈r):q<rows.length+2/\dp rows q<=d:=by
 have g:=(ok p r a).2 q b;have f:=(cz a).1;have:=Cr (Yu.mpr ⟨q,b,rfl⟩:dp rows q∈r.map (dp rows));have e:=sE ok a;exact⟨qg f g,Ie e this c⟩
theorem B1{rows:List Row}(ok:fw rows){x:Nat}(b:x<rows.length+2)(h:dp rows x<=0):x<2:=by
 by_cases z:x<2
 ·exact z
 ·exfalso;have a:x-2<rows.length:=by exact sY b z
  have:=sE ok (BE a);rw[show x-2+2=x from xD z]at this;lia
end Qf
namespace Pr
open PySem L2 Qf
theorem pN{n:Nat}(h:n<=1191000):n<sizeLine:=Xf h (by decide)
def cf(e:af)(H a:Hp):Prop:=∀b o,H b=some o->b≠e->a b=some o
theorem cf.refl(e:af)(H:Hp):cf e H H:=λ_ _ h _=>h
theorem cf.trans{e:af}{H d f:Hp}(a:cf e H d)(b:cf e d f):cf e H f:=λc o h n=>b c o (a c o h n) n
theorem cf.upd{e:af}{H:Hp}{o:HO}:cf e H (upd H e o):=λb u h n=>by rw[cN n];exact h
theorem cf.of{e:af}{H a:Hp}(h:aI H a):cf e H a:=λb o q _=>h b o q
theorem cf.b_{e:af}{H c:Hp}(h:cf e H c){o:HO}(a:H e=some o)(d:∀u,o≠.tup u):gz H c:=λb u q=>h b _ q λz=>by
 subst z;rw[q]at a;exact d u (ZT a).symm
def eK(a:List Nat):List (Key×V):=a.map λp:Nat=>(Sum.inl (p:Int),V.bl true)
theorem OT(a:List Nat)(p:Nat):(dS (eK a) (Sum.inl (p:Int))).isSome=decide (p∈a):=by
 rw[<- BJ];unfold eK;rw[List.any_map];by_cases h:p∈a
 ·rw[Zt h,WC];exact⟨p,h,by simp⟩
 ·rw[Zo h,V5];intro q b;simp only[Function.comp,W7];intro z;have:(q:Int)=p:=Sum.inl.inj z;exact h (by rw[<- Int.ofNat.inj this];exact b)
theorem xM6{a:List Nat}{p:Nat}(h:p∉a):putK (eK a) (Sum.inl (p:Int)) (.bl true)=eK (a++[p]):=by
 unfold putK;have:=OT a p;rw[<- BJ,Zo h]at this;rw[Zl (by rw[this];decide)];unfold eK;rw[ZY];rfl
theorem pA:aF ["rows","number","ended","quarter"] ["rows","number","ended"] (bJ r9):=cZ
inductive vo(d:Nat)(vs:List V)(H:Hp)(Q:VK):Prop
 |mk(p e:af)(x:Nat)(rows:List Row)(es:List Nat)(e0:vs=[.ref p,.int (x:Nat),.ref e])(e1:ie H p rows)(e2:fw rows)(e3:rows.length<=1190900)(e4:x<rows.length+2)(e5:dp rows x<=d)(e6:iq rows es)(e7:H e=some (.dK (eK es)))(e8:∀H',cf e H H'->H' e=some (.dK (eK (dD rows d es x)))->Q .cu H')
def PJ(d:Nat):Sp:=λa H Q _=>vo d a H Q
theorem xM8{f:af}{fd:ak}(F:a_ K "end_rows" "end_rows" r9 f fd)(T:uY mg)(hE:mg "end_rows"=some (.ref f))(bE:Binds K fd ["rows","number","ended"] []):∀d,aE P w K mg base aS (d+1) f fd ["rows","number","ended"] (PJ d):=by
 obtain⟨tf,L⟩:=T.first;intro d
 induction d with
 |zero=>
  refine F.ok pA (λY H Q E h=>?_) (λbO A C s H Y Q E N h=>?_)
  ·obtain⟨p,e,x,rows,c,rfl,_⟩:=h
   rfl
  ·obtain⟨p,e,x,rows,c,rfl,hR,ok,hn,t,S,W,l,q⟩:=h;have U:A.units+3+1<cLine:=by have:=N.un;exact Xf (Y5 _ _) (show A.units+3+1+199<cLine from by simpa using this)
   have I:=B1 ok t S;refine⟨_,gk (dE (iW (c_ iD (pv 1) (mf (v:=.int 2) (by rfl) L ⟨_,rfl⟩) (cD _)) (mZ (JU (OZ U (aO c6 (pv 1) (mf (v:=.int 2) (by rfl) L ⟨_,rfl⟩)) (pv 2))))).pt (cR Gq) dG) wx,?_⟩;refine⟨_,rfl,_,_,rfl,rfl,_,rfl,?_⟩;exact P6 (show(x:Int)<2 from Q9 I) (dw (q H (cf.refl e H) l))
 |succ d ih=>
  refine F.ok pA (λY H Q E h=>?_) (λbO A C s H Y Q E N h=>?_)
  ·obtain⟨p,e,x,rows,c,rfl,_⟩:=h
   rfl
  ·obtain⟨p,e,x,rows,c,rfl,hR,ok,hn,t,S,W,l,q⟩:=h;have U:A.units+3+1<cLine:=by have:=N.un;exact Xf (Y5 _ (16*(d+1)+199)) (show A.units+3+1+(16*(d+1)+199)<cLine from by
    have h2:A.units+3+16*(d+1)+200<cLine:=this;lia)
   refine⟨_,gk (dE (iW (c_ iD (pv 1) (mf (v:=.int 2) (by rfl) L ⟨_,rfl⟩) (cD _)) (mZ (JU (OZ U (aO c6 (pv 1) (mf (v:=.int 2) (by rfl) L ⟨_,rfl⟩)) (pv 2))))).pt (cR Gq) dG)
    (gk (pO Yx rfl (y_ (cb (ixS K rfl) (pv 0) (aO c6 (pv 1) (mf (v:=.int 2) (by rfl) L ⟨_,rfl⟩)))) (c8 3 pA.nd)
     (cR (ke (bZ ih N hE F.kp bE (aG (pv 0) (aG (pv 3) (aG (pv 2) aP)))))))
    (cR (UP U (pv 2) (aO c6 (pv 1) (mf (v:=.int 2) (by rfl) L ⟨_,rfl⟩)) j_ (by rfl)))),?_⟩
   refine⟨_,rfl,_,_,rfl,rfl,_,rfl,?_⟩;unfold dD at q;refine cw (λhc=>?_) (λhc=>?_)
   ·have I:x<2:=by have:=ZG hc;lia
    rw[Zx (.inl I)]at q;exact dw (q H (cf.refl e H) l)
   ·have I:¬x<2:=λz=>hc (Zt (by lia));have ex:(x:Int)-2=((x-2:Nat):Int):=by lia
    have dg:eR H e (.int ((x:Int)-2)) (dS (eK c) (Sum.inl ((x-2:Nat):Int))):=by rw[ex];exact eR.k (k:=Sum.inl ((x-2:Nat):Int)) l
    refine⟨_,rfl,_,_,rfl,rfl,_,rfl,e,_,rfl,dg,_,rfl,?_⟩;rw[OT];refine cw (λD=>?_) (λD=>?_)
    ·rw[Zx (.inr (ZG D))]at q;exact q H (cf.refl e H) l
    ·have M:x-2∉c:=λz=>D (Zt z);rw[Zl (by rintro(z|z);exact I z;exact M z)]at q;have jA:x-2<rows.length:=by lia
     have J:=BE jA;generalize rows.getD (x-2) []=r at q J;obtain⟨bs,G,B,X⟩:=id hR;have MF:dp rows (x-2+2)<=d+1:=by rw[show x-2+2=x by lia];exact S
     have DU:bs[x-2]?=some (bs[x-2]'(pY t B ex)):=by simp[show x-2<bs.length from pY t B ex]
     have kJ:=X (x-2) _ r DU J;have K5:∀b∈bs,b≠e:=λb hb z=>by
      obtain⟨j,hj,ej⟩:=ZH.mp hb;have:=X j b (rows[j]'(nN hj B)) (by rw[Zd hj,ej]) (Zd (nN hj B));rw[z,l]at this;cases this
     have UZ:p≠e:=λz=>by
      rw[z,l]at G;rcases G with G|G<;>cases G
     have D0:∀a,cf e H a->ie a p rows:=λa g=>⟨bs,G.imp (λh=>g _ _ h UZ) (λh=>g _ _ h UZ),B,λi b r e1 e2=>g _ _ (X i b r e1 e2) (K5 b (Zv e1))⟩;have ixx:∀Q':VK,Q' (.ref (bs[x-2]'(pY t B ex))) H->pI K (.ref p) (.int ((x:Int)-2)) H Q':=λQ' hQ=>by
      rcases G with h|h
      ·exact .inr ⟨p,_,((x-2:Nat):Int),.ref (bs[x-2]'(pY t B ex)),rfl,Z9 V.int ex,aZ.of h,uw (by rw[Zf,DU];rfl),hQ⟩
      ·exact .inl ⟨p,_,((x-2:Nat):Int),.ref (bs[x-2]'(pY t B ex)),rfl,Z9 V.int ex,cH.of h,uw (by rw[Zf,DU];rfl),hQ⟩
     refine⟨_,rfl,_,rfl,_,_,rfl,rfl,ixx _ ⟨_,rfl,⟨_,aZ.of kJ⟩,
      Kh (K:=K) (xs:=vN r) (λi O a=>cf e H a/\a e=some (.dK (eK ((r.take i).foldl (dD rows d) c)))/\∃v3,O=[some (.ref p),some (.int (x:Nat)),some (.ref e),v3])
      ⟨cf.refl e H,l,none,rfl⟩ (λi O a _ ⟨g,_⟩=>aZ.of (g.b_ l (λu z=>by cases z) _ _ kJ)) ?_ ?_⟩⟩
     ·rintro i y O a hy ⟨g,R,v3,rfl⟩;obtain⟨m,D,rfl⟩:=wg hy;have hq:=Zv D;obtain⟨b1,b2⟩:=zy ok J MF hq;refine⟨_,rfl,_,rfl,_,rfl,p,e,m,rows,(r.take i).foldl (dD rows d) c,rfl,D0 a g,ok,hn,b1,b2,Jv ok J MF _ c (λz Z=>List.mem_of_mem_take Z) W,R,λH3 s3 DQ=>⟨g.trans s3,?_,_,rfl⟩⟩;have wD:=(cz D).1;have Mm:=(cz D).2;rw[<- XY wD,List.foldl_append,Mm];exact DQ
     ·rintro O a ⟨g,R,v3,rfl⟩;rw[nJ,WD]at R;have pf:=Jv ok J MF r c (λz Z=>Z) W;have n:=(wt ok (d+1) c x W t S).1;unfold dD at n;rw[Zl (by rintro(z|z);exact I z;exact M z)]at n;have eg:rows.getD (x-2) []=r:=by
       rw[ZA,J];rfl
      rw[eg]at n;have yC:x-2∉r.foldl (dD rows d) c:=λz=>by
       have:=(Wp.mp n.nd).2.2 (x-2) z (x-2) (by simp);exact this rfl
      have dq:jg a e (.int ((x:Int)-2)) (.bl true) (upd a e (.dK (eK (r.foldl (dD rows d) c++[x-2])))):=by
       rw[ex,<- xM6 yC];refine jg.k (k:=Sum.inl ((x-2:Nat):Int)) R ?_;unfold eK;rw[Zh];exact pN (by have:=xg3 pf;lia)
      exact⟨_,rfl,_,rfl,_,_,rfl,rfl,e,_,rfl,dq,q _ (g.trans cf.upd) bu⟩
theorem jx:aF ["rows","top","ended"] ["rows","top"] (bJ Gm):=cZ
inductive ny(d:Nat)(vs:List V)(H:Hp)(Q:VK):Prop
 |mk(p:af)(x:Nat)(rows:List Row)(e0:vs=[.ref p,.int (x:Nat)])(e1:ie H p rows)(e2:fw rows)(e3:rows.length<=1190900)(e4:x<rows.length+2)(e5:dp rows x<=d)(e6:∀H' D,aI H H'->H' D=some (.lst (vN (dD rows d [] x)))->Q (.ref D) H')
def Kq(d:Nat):Sp:=λa H Q _=>ny d a H Q
theorem q65{f g:af}{n a:ak}(F:a_ K "places_as_ended" "places_as_ended" Gm f n)(B:eF mg)(T:uY mg)(m:mg "end_rows"=some (.ref g))(j:a_ K "end_rows" "end_rows" r9 g a)(k:Binds K a ["rows","number","ended"] [])(d:Nat):aE P w K mg base aS (d+2) f n ["rows","top"] (Kq d):=by
 have v:aE P w K mg base aS (d+1) g a ["rows","number","ended"] (PJ d):=xM8 j T m k d;refine F.ok jx (λG H Q E h=>?_) (λM A i s H G Q E t h=>?_)
 ·obtain⟨p,x,rows,rfl,_⟩:=h
  rfl
 ·obtain⟨p,x,rows,rfl,y,ok,J,L,r,q⟩:=h;refine⟨_,gk (cg 2 jx.nd xf6)
   (gk (ke (bZ v t m j.kp k (aG (pv 0) (aG (pv 1) (aG (pv 2) aP)))))
   (cR (cF (ki (qV5 rfl) (by rfl) B.list W8 (aG (pv 2) aP))))),?_⟩
  refine λe c=>⟨_,rfl,_,rfl,_,rfl,p,e,x,rows,[],rfl,y.same (bQ c),ok,J,L,r,Fc rows,bu,λN I D=>?_⟩;refine⟨_,rfl,e,_,rfl,D,λl C=>q _ l ?_ ?_⟩
  ·intro b o z;have u:b≠e:=dI z c;exact c9 (I b o (c9 z c) u) C
  ·rw[bu];unfold eK vN;rw[Yq]
   rfl
end Pr
namespace Qf
inductive Tr
 |z|o|nd (a b c d:Tr) deriving DecidableEq
namespace Tr
def kids:Tr->List Tr
 |nd a b c d=>[a,b,c,d]
 |_=>[]
def dep:Tr->Nat
 |nd a b c d=>1+mx [dep a,dep b,dep c,dep d]
 |_=>0
def Red:Tr->Prop
 |nd a b c d=>¬(a=z/\b=z/\c=z/\d=z)/\¬(a=o/\b=o/\c=o/\d=o)/\Red a/\Red b/\Red c/\Red d
 |_=>True
def post:Tr->List Tr->List Tr
 |nd a b c d,e=>if nd a b c d∈e then e else post d (post c (post b (post a e)))++[nd a b c d]
 |_,e=>e
def In(L:List Tr)(t:Tr):Prop:=t=z\/t=o\/t∈L
theorem In.app{L s:List Tr}{t:Tr}(h:In L t):In (L++s) t:=h.imp id λh=>h.imp id λh=>Xn _ h
structure Ord(L:List Tr):Prop where
 nd:L.Nodup
 ch:∀(i:Nat) t,L[i]?=some t->(∃a b c d,t=.nd a b c d)/\∀s∈kids t,s=z\/s=o\/∃j:Nat,j<i/\L[j]?=some s
theorem fy:Ord []:=⟨VV,λi t h=>by simp at h⟩
theorem cC:∀(t:Tr)(e:List Tr),∃s,post t e=e++s
 |z,e=>⟨[],by simp[post]⟩
 |o,e=>⟨[],by simp[post]⟩
 |nd a b c d,e=>by
  unfold post;split
  ·exact⟨[],by simp⟩
  ·obtain⟨h,h1⟩:=cC a e;obtain⟨k,l⟩:=cC b (post a e);obtain⟨f,i⟩:=cC c (post b (post a e));obtain⟨j,g⟩:=cC d (post c (post b (post a e)));exact⟨h++k++f++j++[nd a b c d],by rw[g,i,l,h1];simp⟩
theorem In.post{L:List Tr}{t:Tr}(s:Tr)(h:In L t):In (post s L) t:=by
 obtain⟨u,e⟩:=cC s L;rw[e];exact h.app
theorem uA:∀(t:Tr)(e:List Tr)(s:Tr),s∈post t e->s∈e\/sizeOf s<=sizeOf t
 |z,e,s,h=>.inl h
 |o,e,s,h=>.inl h
 |nd a b c d,e,s,h=>by
  unfold post at h;split at h
  ·exact .inl h
  ·have sz:sizeOf (nd a b c d)=1+sizeOf a+sizeOf b+sizeOf c+sizeOf d:=by simp
   rcases ZX.mp h with h|h
   ·rcases uA d _ s h with h|h
    ·rcases uA c _ s h with h|h
     ·rcases uA b _ s h with h|h
      ·rcases uA a _ s h with h|h
       ·exact .inl h
       ·exact .inr (by lia)
      ·exact .inr (by lia)
     ·exact .inr (by lia)
    ·exact .inr (by lia)
   ·have:s=nd a b c d:=by simpa using h
    rw[this];exact .inr (Ze _)
theorem iN{a b c d:Tr}{e:List Tr}(h:nd a b c d∉e):nd a b c d∉post d (post c (post b (post a e))):=λf=>by
 have sz:sizeOf (nd a b c d)=1+sizeOf a+sizeOf b+sizeOf c+sizeOf d:=by simp
 rcases uA d _ _ f with f|f
 ·rcases uA c _ _ f with f|f
  ·rcases uA b _ _ f with f|f
   ·rcases uA a _ _ f with f|f
    ·exact h f
    ·lia
   ·lia
  ·lia
 ·lia
theorem cq:∀(t:Tr)(e:List Tr),Ord e->Ord (post t e)/\In (post t e) t
 |z,e,h=>⟨h,.inl rfl⟩
 |o,e,h=>⟨h,.inr (.inl rfl)⟩
 |nd a b c d,e,h=>by
  unfold post;split
  ·rename_i g;exact⟨h,.inr (.inr g)⟩
  ·rename_i g;obtain⟨B,m⟩:=cq a e h;obtain⟨C,q⟩:=cq b _ B;obtain⟨D,l⟩:=cq c _ C;obtain⟨r,H⟩:=cq d _ D;have m:=((m.post b).post c).post d;have q:=(q.post c).post d;have l:=l.post d;have v:=iN g;generalize post d (post c (post b (post a e)))=L at r m q l H v;refine⟨⟨?_,?_⟩,.inr (.inr (by simp))⟩
   ·rw[Wp];exact⟨r.nd,by simp,λx I y F e=>v (by
     have:y=nd a b c d:=by simpa using F
     rw[<- this,<- e];exact I)⟩
   ·intro i t k;by_cases u:i<L.length
    ·rw[Zw u]at k;obtain⟨h1,G⟩:=r.ch i t k;refine⟨h1,λs p=>(G s p).imp id λh=>h.imp id λ⟨j,f,e⟩=>⟨j,f,?_⟩⟩;rw[Zw (nW f u)];exact e
    ·have n:=(cz k).1;rw[Zn]at n;have E:i=L.length:=by simp at n;exact xk n u
     subst E;have A:t=nd a b c d:=by simpa using k.symm
     subst A;refine⟨⟨a,b,c,d,rfl⟩,λs p=>?_⟩;have w:In L s:=by
      have:s=a\/s=b\/s=c\/s=d:=by simpa[kids]using p
      rcases this with rfl|rfl|rfl|rfl<;>assumption
     refine w.imp id λh=>h.imp id λg=>?_;obtain⟨j,f,e⟩:=ZH.mp g;exact⟨j,f,by rw[Zw f,Zd f,e]⟩
def name(L:List Tr):Tr->Nat
 |z=>0
 |o=>1
 |t=>L.idxOf t+2
def rowsOf(L:List Tr):List Row:=L.map λt=>(kids t).map (name L)
theorem BA(L:List Tr)(a b c d:Tr):name L (.nd a b c d)=L.idxOf (.nd a b c d)+2:=rfl
theorem fz{L:List Tr}(h:Ord L){i:Nat}{t:Tr}(e:L[i]?=some t):name L t=i+2:=by
 obtain⟨⟨a,b,c,d,rfl⟩,_⟩:=h.ch i t e;rw[BA];congr 1;have g:=(cz e).1;have f:=(cz e).2;rw[<- f];exact h.nd.idxOf_getElem i g
theorem uu{L:List Tr}(h:Ord L){t:Tr}(d:In L t):(t=z/\name L t=0)\/(t=o/\name L t=1)\/∃i:Nat,L[i]?=some t/\name L t=i+2:=by
 rcases d with rfl|rfl|c
 ·exact .inl ⟨rfl,rfl⟩
 ·exact .inr (.inl ⟨rfl,rfl⟩)
 ·obtain⟨j,b,e⟩:=ZH.mp c;have a:L[j]?=some t:=by rw[Zd b,e]
  exact .inr (.inr ⟨j,a,fz h a⟩)
theorem xg4{L:List Tr}(h:Ord L){s t:Tr}(hs:In L s)(c:In L t)(e:name L s=name L t):s=t:=by
 rcases uu h hs with⟨rfl,d⟩|⟨rfl,d⟩|⟨i,f,d⟩
 ·rcases uu h c with⟨rfl,a⟩|⟨rfl,a⟩|⟨j,b,a⟩
  ·rfl
  ·lia
  ·lia
 ·rcases uu h c with⟨rfl,a⟩|⟨rfl,a⟩|⟨j,b,a⟩
  ·lia
  ·rfl
  ·lia
 ·rcases uu h c with⟨rfl,a⟩|⟨rfl,a⟩|⟨j,b,a⟩
  ·lia
  ·lia
  ·have:i=j:=by lia
   subst this;rw[f]at b;exact ZT b
theorem fJ{L s:List Tr}{t:Tr}(h:In L t)(hz:Ord L):name (L++s) t=name L t:=by
 rcases uu hz h with⟨rfl,_⟩|⟨rfl,_⟩|⟨i,e,_⟩
 ·rfl
 ·rfl
 ·obtain⟨⟨a,b,c,d,rfl⟩,_⟩:=hz.ch i t e;rw[BA,BA,List.idxOf_append,Zx (Zv e)]
theorem eh{L:List Tr}(h:Ord L){i:Nat}{t s:Tr}(e:L[i]?=some t)(hs:s∈kids t):In L s/\name L s<i+2:=by
 rcases(h.ch i t e).2 s hs with rfl|rfl|⟨j,b,a⟩
 ·exact⟨.inl rfl,by show 0<_;lia⟩
 ·exact⟨.inr (.inl rfl),by show 1<_;lia⟩
 ·exact⟨.inr (.inr (Zv a)),by rw[fz h a];exact s_ b⟩
theorem br(L:List Tr):(rowsOf L).length=L.length:=by simp[rowsOf]
theorem cG{L:List Tr}{i:Nat}{t:Tr}(e:L[i]?=some t):(rowsOf L)[i]?=some ((kids t).map (name L)):=by
 unfold rowsOf;rw[Zf,e];rfl
theorem JG{L:List Tr}{i:Nat}{r:Row}(e:(rowsOf L)[i]?=some r):∃t,L[i]?=some t/\r=(kids t).map (name L):=by
 unfold rowsOf at e;rw[Zf]at e;obtain⟨t,h1,a⟩:=Zj.mp e;exact⟨t,h1,a.symm⟩
theorem Ju{L:List Tr}(h:Ord L):fw (rowsOf L):=λp r i=>by
 obtain⟨t,e,rfl⟩:=JG i;obtain⟨⟨a,b,c,d,rfl⟩,_⟩:=h.ch p t e;refine⟨rfl,λx g=>?_⟩;obtain⟨s,f,rfl⟩:=Yu.mp g;exact(eh h e f).2
theorem JQ{L:List Tr}(h:Ord L):∀{k l:List Tr},(∀s∈k,In L s)->(∀s∈l,In L s)->k.map (name L)=l.map (name L)->k=l
 |[],[],_,_,_=>rfl
 |[],_::_,_,_,e=>by simp at e
 |_::_,[],_,_,e=>by simp at e
 |a::k,b::l,h1,d,e=>by
  simp only[ZC,Xb]at e;rw[xg4 h (h1 a ZE) (d b ZE) e.1,JQ h (λs c=>h1 s (Zk _ c)) (λs c=>d s (Zk _ c)) e.2]
theorem Sx{s t:Tr}(hs:∃a b c d,s=.nd a b c d)(f:∃a b c d,t=.nd a b c d)(e:kids s=kids t):s=t:=by
 obtain⟨a,b,c,d,rfl⟩:=hs;obtain⟨i,j,h,g,rfl⟩:=f;simpa[kids]using e
theorem RL{L:List Tr}(h:Ord L):(rowsOf L).Nodup:=by
 rw[dY];intro i j f b e;rw[br]at b;have a:L[i]?=some L[i]:=Zd (nW f b);have c:L[j]?=some L[j]:=Zd b;rw[cG a,cG c]at e;have:=Sx (h.ch i _ a).1 (h.ch j _ c).1 (JQ h (λs d=>(eh h a d).1) (λs d=>(eh h c d).1) (ZT e));have g:=dY.mp h.nd i j f b;rw[a,c]at g;exact g (by rw[this])
end Tr
open Tr
def tr(rows:List Row):Nat->Nat->Tr
 |0,x=>if x=1 then .o else .z
 |d+1,x=>if x=0 then .z else if x=1 then .o else .nd (tr rows d ((rows.getD (x-2) []).getD 0 0)) (tr rows d ((rows.getD (x-2) []).getD 1 0)) (tr rows d ((rows.getD (x-2) []).getD 2 0)) (tr rows d ((rows.getD (x-2) []).getD 3 0))
theorem Bz(rows:List Row)(d:Nat):tr rows d 0=.z:=by cases d<;>rfl
theorem B0(rows:List Row)(d:Nat):tr rows d 1=.o:=by cases d<;>rfl
theorem zg{r:Row}(h:r.length=4):∃a b c d,r=[a,b,c,d]:=by
 match r,h with
 |[a,b,c,d],_=>exact⟨a,b,c,d,rfl⟩
theorem KG{rows:List Row}{d p a b c e:Nat}(f:rows[p]?=some [a,b,c,e]):tr rows (d+1) (p+2)=.nd (tr rows d a) (tr rows d b) (tr rows d c) (tr rows d e):=by
 have:rows.getD p []=[a,b,c,e]:=by rw[ZA,f];rfl
 show(if p+2=0 then _ else if p+2=1 then _ else _)=_;rw[Zl (by lia),Zl (by lia),show p+2-2=p from Oo,this]
 rfl
theorem pM{rows:List Row}(ok:fw rows){x:Nat}(g:x<rows.length+2)(h:¬x<2):∃p a b c d,x=p+2/\rows[p]?=some [a,b,c,d]:=by
 have i:x-2<rows.length:=by exact sY g h
 have f:rows[x-2]?=some rows[x-2]:=Zd i;obtain⟨a,b,c,d,e⟩:=zg (ok _ _ f).1;exact⟨x-2,a,b,c,d,xl h,by rw[f,e]⟩
theorem Fl{rows:List Row}(ok:fw rows):∀(d f x:Nat),dp rows x<=d->dp rows x<=f->x<rows.length+2->tr rows d x=tr rows f x:=by
 intro d
 induction d with
 |zero=>
  intro f x h1 g k;have h:=B1 ok k h1
  match x,h with
  |0,_=>rw[Bz,Bz]
  |1,_=>rw[B0,B0]
 |succ d j=>
  intro f x h1 g k;by_cases h:x<2
  ·match x,h with
   |0,_=>rw[Bz,Bz]
   |1,_=>rw[B0,B0]
  ·obtain⟨p,a,b,c,e,rfl,l⟩:=pM ok k h
   match f,g with
   |0,g=>exact absurd (B1 ok k g) h
   |f+1,g=>
    have q:=λy (m:y∈[a,b,c,e])=>zy ok l h1 m;have i:=λy (m:y∈[a,b,c,e])=>zy ok l g m;rw[KG l,KG l,j f a (q a (by simp)).2 (i a (by simp)).2 (q a (by simp)).1,j f b (q b (by simp)).2 (i b (by simp)).2 (q b (by simp)).1,j f c (q c (by simp)).2 (i c (by simp)).2 (q c (by simp)).1,j f e (q e (by simp)).2 (i e (by simp)).2 (q e (by simp)).1]
def T(rows:List Row)(x:Nat):Tr:=tr rows (dp rows x) x
theorem l7(rows:List Row):T rows 0=.z:=Bz _ _
theorem l5(rows:List Row):T rows 1=.o:=B0 _ _
theorem lK{rows:List Row}(ok:fw rows){p a b c e:Nat}(f:rows[p]?=some [a,b,c,e]):T rows (p+2)=.nd (T rows a) (T rows b) (T rows c) (T rows e):=by
 obtain⟨d,g⟩:∃d,dp rows (p+2)=d+1:=⟨_,by rw[sE ok f];exact Nat.add_comm _ _⟩;have q:=λy (h:y∈[a,b,c,e])=>zy ok f (VO g) h;unfold T;rw[g,KG f,Fl ok d _ a (q a (by simp)).2 (Ze _) (q a (by simp)).1,Fl ok d _ b (q b (by simp)).2 (Ze _) (q b (by simp)).1,Fl ok d _ c (q c (by simp)).2 (Ze _) (q c (by simp)).1,Fl ok d _ e (q e (by simp)).2 (Ze _) (q e (by simp)).1]
theorem xS7{rows:List Row}(ok:fw rows)(nd:rows.Nodup):∀(d x y:Nat),dp rows x<=d->x<rows.length+2->y<rows.length+2->T rows x=T rows y->x=y:=by
 intro d;have i:∀x y,x<2->y<rows.length+2->T rows x=T rows y->x=y:=λx y l g e=>by
  by_cases m:y<2
  ·match x,y,l,m with
   |0,0,_,_=>rfl
   |1,1,_,_=>rfl
   |0,1,_,_=>rw[l7,l5]at e;cases e
   |1,0,_,_=>rw[l7,l5]at e;cases e
  ·obtain⟨p,a,b,c,f,rfl,j⟩:=pM ok g m;rw[lK ok j]at e
   match x,l with
   |0,_=>rw[l7]at e;cases e
   |1,_=>rw[l5]at e;cases e
 induction d with
 |zero=>exact λx y h s g e=>i x y (B1 ok s h) g e
 |succ d t=>
  intro x y h s g e;by_cases l:x<2
  ·exact i x y l g e
  ·by_cases m:y<2
   ·exact(i y x m s e.symm).symm
   ·obtain⟨p,a,b,c,f,rfl,j⟩:=pM ok s l;obtain⟨n,v,w,A,u,rfl,k⟩:=pM ok g m;rw[lK ok j,lK ok k]at e;have q:=λy (g:y∈[a,b,c,f])=>zy ok j h g;have r:∀y∈[v,w,A,u],y<rows.length+2:=λy g=>by
     have:=(ok _ _ k).2 y g;have:=(cz k).1;lia
    injection e with e1 e2 e3 e4
    have h1:=t a v (q a (by simp)).2 (q a (by simp)).1 (r v (by simp)) e1;have D:=t b w (q b (by simp)).2 (q b (by simp)).1 (r w (by simp)) e2;have B:=t c A (q c (by simp)).2 (q c (by simp)).1 (r A (by simp)) e3;have C:=t f u (q f (by simp)).2 (q f (by simp)).1 (r u (by simp)) e4;subst h1 D B C;have:p=n:=by
     rcases Ud p n with z|z|z
     ·exact absurd (j.trans k.symm) (dY.mp nd p n z (cz k).1)
     ·exact z
     ·exact absurd (k.trans j.symm) (dY.mp nd n p z (cz j).1)
    rw[this]
def lJ(rows:List Row)(p:Nat):Tr:=T rows (p+2)
theorem xu3{rows:List Row}(ok:fw rows)(nd:rows.Nodup){e:List Nat}(b:iq rows e){p:Nat}(d:p<rows.length):lJ rows p∈e.map (lJ rows)<->p∈e:=by
 constructor
 ·intro h;obtain⟨q,a,c⟩:=Yu.mp h;have:=xS7 ok nd _ (q+2) (p+2) (Ze _) (by have:=b.lt q a;exact s_ this) (s_ d) c;have:q=p:=by lia
  rw[<- this];exact a
 ·exact λh=>Yu.mpr ⟨p,h,rfl⟩
theorem Sw{rows:List Row}(ok:fw rows)(nd:rows.Nodup):∀(d:Nat)(e:List Nat)(x:Nat),iq rows e->x<rows.length+2->dp rows x<=d->(dD rows d e x).map (lJ rows)=post (T rows x) (e.map (lJ rows)):=by
 intro d
 induction d with
 |zero=>
  intro e x i r l;have g:=B1 ok r l
  match x,g with
  |0,_=>rw[l7];rfl
  |1,_=>rw[l5];rfl
 |succ d k=>
  intro e x i r l;by_cases g:x<2
  ·have:dD rows (d+1) e x=e:=by
    show(if x<2\/x-2∈e then e else _)=e;rw[Zx (.inl g)]
   rw[this]
   match x,g with
   |0,_=>rw[l7];rfl
   |1,_=>rw[l5];rfl
  ·obtain⟨p,a,b,c,f,rfl,h⟩:=pM ok r g;have E:=(cz h).1;have D:=xu3 ok nd i E;have I:rows.getD p []=[a,b,c,f]:=by rw[ZA,h];rfl
   have m:lJ rows p=.nd (T rows a) (T rows b) (T rows c) (T rows f):=lK ok h;rw[lK ok h];show(if p+2<2\/p+2-2∈e then e else(rows.getD (p+2-2) []).foldl (dD rows d) e++[p+2-2]).map (lJ rows)=(if _∈e.map (lJ rows)then _ else _);rw[show p+2-2=p from Oo,<- m,I];by_cases j:p∈e
   ·rw[Zx (.inr j),Zx (D.mpr j)]
   ·rw[Zl (by rintro(z|z);lia;exact j z),Zl (λz=>j (D.mp z))];have q:=λy (F:y∈[a,b,c,f])=>zy ok h l F;obtain⟨s,v⟩:=q a (by simp);obtain⟨A,B⟩:=q b (by simp);obtain⟨C,t⟩:=q c (by simp);obtain⟨G,n⟩:=q f (by simp);have w:=(wt ok d e a i s v).1;have u:=(wt ok d _ b w A B).1;have H:=(wt ok d _ c u C t).1;show(dD rows d (dD rows d (dD rows d (dD rows d e a) b) c) f++[p]).map (lJ rows)=_;rw[ZY,k _ f H G n,k _ c u C t,k _ b w A B,k _ a i s v,m];show _++[lJ rows p]=_;rw[m]
theorem qW0{n top:Nat}{rows:List Row}(c:Canon n top rows):rows=rowsOf (post (T rows top) [])/\top=name (post (T rows top) []) (T rows top):=by
 have h:=Sw c.iL c.unlike n [] top (Fc rows) c.oA c.deep;rw[c.ends]at h;have x:Ord (post (T rows top) [])/\In (post (T rows top) []) (T rows top):=cq _ _ fy;have j:post (T rows top) []=(List.range rows.length).map (lJ rows):=h.symm;obtain⟨m,w⟩:=x;generalize post (T rows top) []=L at m w j;have l:∀p,p<rows.length->L[p]?=some (lJ rows p):=λp d=>by
  rw[j,Zf,Xy d];rfl
 have v:L.length=rows.length:=by rw[j];simp
 have g:∀q,q<rows.length+2->name L (T rows q)=q:=λq s=>by
  by_cases k:q<2
  ·match q,k with
   |0,_=>rw[l7];rfl
   |1,_=>rw[l5];rfl
  ·have:=fz m (l (q-2) (sY s k));unfold lJ at this;rw[show q-2+2=q from xD k]at this;exact this
 refine⟨?_,(g top c.oA).symm⟩;refine Xu λp=>?_;by_cases d:p<rows.length
 ·have i:rows[p]?=some rows[p]:=Zd d;obtain⟨a,b,e,f,t⟩:=zg (c.iL p _ i).1;rw[t]at i;rw[i,cG (l p d)];have r:lJ rows p=.nd (T rows a) (T rows b) (T rows e) (T rows f):=lK c.iL i;have lt:∀y∈[a,b,e,f],y<rows.length+2:=λy u=>by
   have:=(c.iL _ _ i).2 y u;exact qg d this
  rw[r];show some [a,b,e,f]=some [name L (T rows a),name L (T rows b),name L (T rows e),name L (T rows f)];rw[g a (lt a (by simp)),g b (lt b (by simp)),g e (lt e (by simp)),g f (lt f (by simp))]
 ·rw[Yr (iE d),Yr (by rw[br];exact CZ v d)]
theorem zf{L:List Tr}(h:Ord L):∀t:Tr,In L t->dp (rowsOf L) (name L t)=dep t
 |.z,_=>FV (by decide:(0:Nat)<2)
 |.o,_=>FV (by decide:(1:Nat)<2)
 |.nd a b c d,k=>by
  rcases uu h k with⟨e,_⟩|⟨e,_⟩|⟨i,e,j⟩
  ·cases e
  ·cases e
  ·have f:=λs (g:s∈kids (.nd a b c d))=>(eh h e g).1;rw[j,sE (Ju h) (cG e)];show 1+mx [_,_,_,_]=1+mx [dep a,dep b,dep c,dep d];rw[zf h a (f a (by simp[kids])),zf h b (f b (by simp[kids])),zf h c (f c (by simp[kids])),zf h d (f d (by simp[kids]))]
theorem we{L:List Tr}(h:Ord L):∀t:Tr,In L t->T (rowsOf L) (name L t)=t
 |.z,_=>l7 _
 |.o,_=>l5 _
 |.nd a b c d,k=>by
  rcases uu h k with⟨e,_⟩|⟨e,_⟩|⟨i,e,j⟩
  ·cases e
  ·cases e
  ·have f:=λs (g:s∈kids (.nd a b c d))=>(eh h e g).1;rw[j,lK (Ju h) (cG e),we h a (f a (by simp[kids])),we h b (f b (by simp[kids])),we h c (f c (by simp[kids])),we h d (f d (by simp[kids]))]
def KD(L:List Tr):Prop:=∀t∈L,Red t
theorem BH:∀(t:Tr)(e:List Tr),Red t->KD e->KD (post t e)
 |.z,_,_,h=>h
 |.o,_,_,h=>h
 |.nd a b c d,e,g,h=>by
  unfold post;split
  ·exact h
  ·have i:=BH d _ g.2.2.2.2.2 (BH c _ g.2.2.2.2.1 (BH b _ g.2.2.2.1 (BH a e g.2.2.1 h)));intro s f;rcases ZX.mp f with f|f
   ·exact i s f
   ·have:s=.nd a b c d:=by simpa using f
    rw[this];exact g
theorem uB{L:List Tr}{t:Tr}(h:name L t=0):t=.z:=by
 cases t with
 |z=>rfl
 |o=>cases h
 |nd a b c d=>rw[BA]at h;lia
theorem uz{L:List Tr}{t:Tr}(h:name L t=1):t=.o:=by
 cases t with
 |z=>cases h
 |o=>rfl
 |nd a b c d=>rw[BA]at h;lia
theorem qy7{L:List Tr}(h:Ord L)(l:KD L):∀r∈rowsOf L,¬uF r:=λr k=>by
 obtain⟨i,m,e⟩:=ZH.mp k;obtain⟨t,j,rfl⟩:=JG (i:=i) (r:=r) (by rw[Zd m,e]);obtain⟨⟨a,b,c,d,rfl⟩,_⟩:=h.ch i t j;have g:=l _ (Zv j);rintro(z|z)
 ·have f:[name L a,name L b,name L c,name L d]=[0,0,0,0]:=z;simp only[Xb,UC]at f;exact g.1 ⟨uB f.1,uB f.2.1,uB f.2.2.1,uB f.2.2.2⟩
 ·have f:[name L a,name L b,name L c,name L d]=[1,1,1,1]:=z;simp only[Xb,UC]at f;exact g.2.1 ⟨uz f.1,uz f.2.1,uz f.2.2.1,uz f.2.2.2⟩
theorem qW1{n:Nat}(B:n<=12){t:Tr}(w:Red t)(j:dep t<=n):Canon n (name (post t []) t) (rowsOf (post t [])):=by
 obtain⟨a,g⟩:=cq t [] fy;have r:=BH t [] w (λs y=>nomatch y);have q:=we a t g;have d:=zf a t g;generalize C:post t []=L at a g r q d;have ok:=Ju a;have u:=RL a;have k:name L t<(rowsOf L).length+2:=by
  rw[br];rcases uu a g with⟨_,e⟩|⟨_,e⟩|⟨i,e,f⟩
  ·lia
  ·lia
  ·have:=(cz e).1;lia
 refine⟨B,ok,k,by rw[d];exact j,qy7 a r,u,?_⟩;have p:=Sw ok u n [] (name L t) (Fc _) k (by rw[d];exact j);rw[q]at p;have f:(dD (rowsOf L) n [] (name L t)).map (lJ (rowsOf L))=L:=by rw[p];exact C
 have m:=(wt ok n [] (name L t) (Fc _) k (by rw[d];exact j)).1;generalize dD (rowsOf L) n [] (name L t)=E at f m;have l:E.length=L.length:=by rw[<- f];simp
 refine Xu λi=>?_;by_cases b:i<E.length
 ·have v:E[i]?=some E[i]:=Zd b;have c:=m.lt E[i] (Yz b);rw[br]at c;have h:L[i]?=some (lJ (rowsOf L) E[i]):=by
   conv=>lhs;rw[<- f]
   rw[Zf,v];rfl
  have x:lJ (rowsOf L) E[i]=L[E[i]]:=by
   have A:L[E[i]]?=some L[E[i]]:=Zd c;have:=we a L[E[i]] (.inr (.inr (Yz c)));rw[fz a A]at this;exact this
  rw[x]at h;have:E[i]=i:=by
   rcases Ud E[i] i with z|z|z
   ·exact absurd (by rw[h];exact Zd c) (dY.mp a.nd E[i] i z (nN b l))
   ·exact z
   ·exact absurd (by rw[h];exact(Zd c).symm) (dY.mp a.nd i E[i] z c)
  rw[v,this,Xy (by rw[br];exact nN b l)]
 ·rw[Yr (iE b),Yr (by rw[YW,br];exact Il l b)]
end Qf
namespace Pr
open PySem L2 Qf
def OS(H:Hp)(t:af)(n top:Nat)(rows:List Row):Prop:=∃p:af,H t=some (.tup [.int (n:Nat),.int (top:Nat),.ref p])/\cM H p rows
theorem xu4{a:List V}(h:∀(i:Nat) y,a[i]?=some y->y=.bl true):a=(List.replicate a.length true).map V.bl:=by
 refine wo (by simp) λi x b=>?_;have c:=(cz b).1;rw[h i x b];simp[c]
theorem T4(k:Nat):(List.replicate k true).all id=true:=by
 rw[Y6];intro x a;exact(List.mem_replicate.mp a).2
theorem ug:aF ["thing","before"] ["thing","before"] (bJ pF):=cZ
inductive vg(vs:List V)(H:Hp)(Q:VK):Prop
 |mk(b:af)(i:Nat)(r:Row)(e0:vs=[.ref b,.int (i:Nat)])(e1:H b=some (.tup (vN r)))(e2:PQ i r)(e3:∀H',aI H H'->Q (.bl true) H')
def PH:Sp:=λa H Q _=>vg a H Q
theorem xN0{f d:af}{n g:ak}(F:a_ K "is_row" "is_row" pF f n)(B:eF mg)(J:mg "is_number"=some (.ref d))(R:a_ K "is_number" "is_number" BD d g)(u:Binds K g ["thing","many"] [])(N:aE P w K mg base aS 2 d g ["thing","many"] Kr):aE P w K mg base aS 3 f n ["thing","before"] PH:=by
 refine F.ok ug (λM H Q E h=>?_) (λV A c s H M Q E t h=>?_)
 ·obtain⟨b,i,r,rfl,_⟩:=h
  rfl
 ·obtain⟨b,i,r,rfl,hb,a,q⟩:=h;refine⟨_,gk (dE (iW (md (jm (cB sv (by rfl) B.tG Z7 (aG (pv 0) (aG (si (v:=.ty "tuple") (by rfl) B.tuple Yh rfl) aP)))))
    (mZ (c_ BU (cB sC (by rfl) B.len YN (aG (pv 0) aP)) aK (cD _)))).pt (cR (cF j_)) dG)
   (cR (cF (cB (Jy rfl) (by rfl) B.all Vi (aG (rz ["thing","before"] (bJ pF) rfl rfl rfl ug.nd (Gu K rfl (pv 0)) (λX C U T Z=>bZ N t J R.kp u (aG (pv 0) (aG (pv 2) aP)))) aP)))),?_⟩
  refine⟨_,rfl,_,_,_,_,true,rfl,rfl,.inl (.tup hb),rfl,_,rfl,bY ⟨_,rfl,b,_,rfl,.inr (aZ.of hb),rfl,_,rfl,xR6 (by rw[nJ,a.1];rfl) ?_⟩⟩;refine⟨_,rfl,b,rfl,⟨_,aZ.of hb⟩,λD I=>uC I (λ_ z _=>z=.bl true) (zq (K:=K) hb) (by rw[nJ,a.1];decide) (λ_ _ _ _ _ _ h=>h) ?_ ?_⟩
  ·intro j x l Y O k Q' G;obtain⟨m,S,rfl⟩:=wg O;exact⟨_,rfl,_,rfl,m,i,rfl,a.2 m (Zv S),G _ _ (aI.refl _) rfl⟩
  ·intro L l k p W y;have e:=xu4 y;refine⟨D,List.replicate L.length true,rfl,by rw[<- e];exact p,?_⟩;rw[T4];exact q l k
theorem ph:aF ["thing"] ["thing"] (bJ Cn):=cZ
inductive rR(vs:List V)(H:Hp)(Q:VK):Prop
 |mk(p:af)(rows:List Row)(e0:vs=[.ref p])(e1:cM H p rows)(e2:fw rows)(e3:rows.length<=900)(e4:∀H',aI H H'->Q (.bl true) H')
def OR:Sp:=λa H Q _=>rR a H Q
theorem xu5{f k:af}{u c:ak}(F:a_ K "are_rows" "are_rows" Cn f u)(B:eF mg)(R:mg "is_row"=some (.ref k))(FR:a_ K "is_row" "is_row" pF k c)(bR:Binds K c ["thing","before"] [])(S:aE P w K mg base aS 3 k c ["thing","before"] PH):aE P w K mg base aS 4 f u ["thing"] OR:=by
 refine F.ok ph (λvs H Q E h=>?_) (λbO A d s H vs Q E J h=>?_)
 ·obtain⟨p,rows,rfl,_⟩:=h
  rfl
 ·obtain⟨p,rows,rfl,I,ok,hn,q⟩:=h;obtain⟨bs,g,U,N⟩:=id I;refine⟨_,cR (cF (nK (cB sv (by rfl) B.tG Z7 (aG (pv 0) (aG (si (v:=.ty "tuple") (by rfl) B.tuple Yh rfl) aP)))
   (rn (cB (Jy rfl) (by rfl) B.all Vi (aG (SG ["thing"] (bJ Cn) rfl rfl rfl ph.nd (Kv (by rfl) B.enum (aG (pv 0) aP)) (λcl C fp aH aJ=>bZ S J R FR.kp bR (aG (pv 1) (aG (pv 0) aP)))) aP))))),?_⟩
  refine⟨_,rfl,_,_,_,_,true,rfl,rfl,.inl (.tup g),rfl,_,rfl,dw ?_⟩;have m:(bs.map V.ref).length=rows.length:=by rw[Zh];exact U
  refine⟨_,rfl,p,rfl,⟨_,aZ.of g⟩,λD O=>JH O (λ_=>true) (λ_=>.bl true) (q52 (K:=K) g) (by rw[m];exact ow (xw hn)) ?_ ?_⟩
  ·rintro i x e a ⟨t,y,rfl,r,L⟩ j os T X Q2 q1 Y;obtain⟨o1,o2,rfl⟩:=L2.Gw T
   ·
    have W:i<rows.length:=by rw[<- m];exact a
    rw[Zf]at r;obtain⟨b,hb,rfl⟩:=Zj.mp r;have n:rows[i]?=some rows[i]:=by simp[W]
    refine⟨t,_,rfl,aZ.of L,rfl,_,_,rfl,_,_,rfl,rfl,?_⟩;refine dw (B:=X e) ?_;exact⟨_,rfl,_,rfl,b,i,rows[i],rfl,j _ _ (N i b _ hb n),ok i _ n,λM G=>Y rfl M G⟩
  ·intro e j Z;refine⟨D,List.replicate (bs.map V.ref).length true,rfl,?_,?_⟩
   ·rw[Z];congr 2;rw[List.map_replicate,VJ.mpr (λ_ _=>rfl)];refine wo (by simp) λi x l=>?_;have a:=(cz l).1;rw[Zf]at l;obtain⟨_,_,rfl⟩:=Zj.mp l;simp at a;rw[Zh,WV,Zx a]
   ·rw[T4];exact q e j
theorem eu:aF ["thing","n","top","rows"] ["thing"] (bJ Fb):=cZ
inductive lY(vs:List V)(H:Hp)(Q:VK):Prop
 |mk(t:af)(n tp:Nat)(rows:List Row)(e0:vs=[.ref t])(e1:OS H t n tp rows)(e2:n<=12)(e3:fw rows)(e4:rows.length<=900)(e5:tp<rows.length+2)(e6:dp rows tp<=n)(e7:∀H',aI H H'->Q (.bl true) H')
def Td:Sp:=λa H Q _=>lY a H Q
theorem qW2{f k m j r:af}{L x c u b:ak}(F:a_ K "is_telling" "is_telling" Fb f L)(B:eF mg)
  (S:mg "is_size"=some (.ref k)) (Y:a_ K "is_size" "is_size" Cp k x) (bS:Binds K x ["thing"] []) (GS:aE P w K mg base aS 2 k x ["thing"] KH)
  (U:mg "are_rows"=some (.ref m)) (FR:a_ K "are_rows" "are_rows" Cn m c) (bR:Binds K c ["thing"] []) (X:aE P w K mg base aS 4 m c ["thing"] OR)
  (hN:mg "is_number"=some (.ref j)) (FN:a_ K "is_number" "is_number" BD j u) (R:Binds K u ["thing","many"] []) (GN:aE P w K mg base aS 2 j u ["thing","many"] Kr)
  (T:mg "depths_of"=some (.ref r)) (G:a_ K "depths_of" "depths_of" Cq r b) (bD:Binds K b ["rows"] []):aE P w K mg base aS 5 f L ["thing"] Td:=by
 have Z:aE P w K mg base aS 1 r b ["rows"] OU:=xu2 G B;refine F.ok eu (λvs H Q E h=>?_) (λbO A i s H vs Q E d h=>?_)
 ·obtain⟨t,n,a,rows,rfl,_⟩:=h
  rfl
 ·obtain⟨t,n,a,rows,rfl,⟨p,g,e⟩,hn,ok,I,y,hd,q⟩:=h;have O:bf 1 _:=d.mono (by decide);have J:bf 2 _:=d.mono (by decide);refine⟨_,gk (dE (iW (md (jm (cB sv (by rfl) B.tG Z7 (aG (pv 0) (aG (si (v:=.ty "tuple") (by rfl) B.tuple Yh rfl) aP)))))
    (mZ (c_ BU (cB sC (by rfl) B.len YN (aG (pv 0) aP)) aK (cD _)))).pt (cR (cF j_)) dG)
   (gk (mY (pv 0) (l_ rfl (dz (c8 1 eu.nd) (dz (c8 2 eu.nd) (dz (c8 3 eu.nd) lM)))))
   (gk (dE (iW (md (jm (bZ GS J S Y.kp bS (aG (pv 1) aP))))
    (iW (md (jm (bZ X d U FR.kp bR (aG (pv 3) aP))))
    (mZ (md (jm (bZ GN J hN FN.kp R (aG (pv 2) (aG (cB sC (by rfl) B.len YN (aG (pv 3) aP)) aP)))))))).pt (cR (cF j_)) dG)
   (cR (cF (jn om (cb oq (bZ Z O T G.kp bD (aG (pv 3) aP)) (pv 2)) (pv 1) (cD _)))))),?_⟩
  refine⟨_,rfl,_,_,_,_,true,rfl,rfl,.inl (.tup g),rfl,_,rfl,bY ⟨_,rfl,t,_,rfl,.inr (aZ.of g),rfl,_,rfl,bY ?_⟩⟩;refine⟨_,rfl,t,_,rfl,aZ.of g,rfl,_,_,rfl,_,_,rfl,_,_,rfl,rfl,?_⟩;refine⟨_,rfl,n,rfl,hn,_,rfl,bY ⟨_,rfl,p,rows,rfl,e,ok,I,λH2 l=>⟨_,rfl,bY ?_⟩⟩⟩;obtain⟨bs,hp,W,jE⟩:=id e;refine⟨_,rfl,_,rfl,p,_,rfl,.inr (aZ.of (l _ _ hp)),a,rows.length,by rw[Zh,W];rfl,y,_,rfl,bY ?_⟩;refine⟨_,rfl,p,rows,rfl,e.same l,ok,I,λC D M N=>?_⟩;refine⟨_,rfl,D,_,(a:Int),.int (dp rows a:Nat),rfl,rfl,cH.of N,B_ (OV y),_,rfl,_,_,rfl,rfl,?_⟩;show Q (V.bl (decide ((dp rows a:Int)<=(n:Int)))) C;rw[Zt (by lia)];exact q C (l.trans M)
def g7(H:Hp)(t:af)(n top:Nat)(rows:List Row):Prop:=OS H t n top rows/\Canon n top rows/\rows.length<=900
def fe(r:List Nat):List Key:=r.map λn:Nat=>Sum.inl (n:Int)
theorem wc(r:List Nat):(fe r).map kV=vN r:=by unfold fe vN;rw[Yq];rfl
theorem Kp{l m:List Nat}(h:fe l=fe m):l=m:=by
 have:vN l=vN m:=by rw[<- wc,<- wc,h]
 rw[um,um]at this;exact T6 ((List.map_inj_right (λ_ _ z=>V.int.inj z)).mp this)
theorem qW3{rows:List Row}(h:rows.Nodup):(rows.map fe).Nodup:=by
 rw[dY]at h ⊢;intro i j b a z;rw[Zh]at a;refine h i j b a ?_;rw[Zf,Zf,Zd (nW b a),Zd a]at z;rw[Zd (by lia),Zd a];congr 1;exact Kp (ZT z)
theorem qW4(b:List Int):PyData.depthAll (b.map PyData.int)<=1:=by
 induction b with
 |nil=>simp[PyData.depthAll]
 |cons a b c=>
  rw[ZC];simp only[PyData.depthAll,PyData.depth];lia
theorem Sv(a:List Int):(dL a).depth<=2:=by
 have:=qW4 a;unfold dL;simp only[PyData.depth];lia
theorem gR:aF ["thing","top","rows"] ["thing"] (bJ Cf):=cZ
inductive oY(vs:List V)(H:Hp)(Q:VK):Prop
 |mk(t:af)(n tp:Nat)(rows:List Row)(e0:vs=[.ref t])(e1:g7 H t n tp rows)(e2:∀H',aI H H'->Q (.bl true) H')
def T1:Sp:=λa H Q _=>oY a H Q
theorem xg5{f M X fA:af}{fd N U Y:ak}(F:a_ K "is_shape" "is_shape" Cf f fd)(B:eF mg)(T:uY mg)
  (hT:mg "is_telling"=some (.ref M)) (FT:a_ K "is_telling" "is_telling" Fb M N) (bT:Binds K N ["thing"] []) (GT:aE P w K mg base aS 5 M N ["thing"] Td)
  (hP:mg "is_plain"=some (.ref X)) (FP:a_ K "is_plain" "is_plain" FQ X U) (bP:Binds K U ["row"] [])
  (hA:mg "places_as_ended"=some (.ref fA)) (FA:a_ K "places_as_ended" "places_as_ended" Gm fA Y) (bA:Binds K Y ["rows","top"] []) (GA:∀d,aE P w K mg base aS (d+2) fA Y ["rows","top"] (Kq d)):aE P w K mg base aS 15 f fd ["thing"] T1:=by
 have GP:aE P w K mg base aS 2 X U ["row"] T7:=xg1 FP T;refine F.ok gR (λvs H Q E h=>?_) (λbO A S s H vs Q E k h=>?_)
 ·obtain⟨t,n,I,rows,rfl,_⟩:=h
  rfl
 ·obtain⟨t,n,I,rows,rfl,⟨uQ,a,W⟩,q⟩:=h;obtain⟨p,ht,jO⟩:=id uQ;obtain⟨bs,G,j9,jE⟩:=id jO;have kN:bf 2 _:=k.mono (by decide);have J:bf 5 _:=k.mono (by decide);have O:bf (n+2) _:=k.mono (by have:=a.size;exact Rp this);refine⟨_,gk (dE (md (jm (bZ GT J hT FT.kp bT (aG (pv 0) aP)))) (cR (cF j_)) dG)
   (gk (mY (SM O7 (pv 0) (UT aK) RY) (l_ rfl (dz (c8 1 gR.nd) (dz (c8 2 gR.nd) lM))))
   (gk (dE (PW.pt (iW (jm (cB (Te rfl) (by rfl) B.any PyProof.Rows.boot_any (aG (rz ["thing","top","rows"] (bJ Cf) rfl rfl rfl gR.nd (Gu K rfl (pv 2)) (λcl C fp aH aJ=>bZ GP kN hP FP.kp bP (aG (pv 0) aP))) aP)))
    (mZ (c_ iD (cB qL2 (by rfl) B.len YN (aG (ki (q27 rfl k) (by rfl) B.set PyProof.Rows.boot_set (aG (pv 2) aP)) aP)) (cB sC (by rfl) B.len YN (aG (pv 2) aP)) (cD _))))) (cR (cF j_)) dG)
   (cR (cF (jn (KO k) (bZ (GA n) O hA FA.kp bA (aG (pv 2) (aG (pv 1) aP)))
    (ki (qV6 rfl) (by rfl) B.list W8 (aG (ki qG4 (by rfl) B.range PyProof.Rows.boot_range (aG (cB sC (by rfl) B.len YN (aG (pv 2) aP)) aP)) aP)) (cD _)))))),?_⟩
  refine⟨_,rfl,t,n,I,rows,rfl,uQ,a.size,a.iL,W,a.oA,a.deep,λH1 s1=>⟨_,rfl,bY ?_⟩⟩;have LM:=s1 _ _ ht;refine⟨_,rfl,_,rfl,t,_,rfl,aZ.of LM,(λz=>absurd (show HT.dB 3 0 (some 1)=0 from z.1) (by decide)),λu hu=>?_⟩;refine⟨u,_,rfl,aZ.of bu,rfl,_,_,rfl,_,_,rfl,rfl,?_⟩;have sA:aI H (upd H1 u (.tup [.int (I:Nat),.ref p])):=s1.trans (bQ hu);refine(λ(go:∀H2,aI H H2->_)=>go _ sA) ?_;intro H2 s2;have jK:=s2 _ _ G;have v:(bs.map V.ref).length=rows.length:=by rw[Zh];exact j9
  refine⟨_,rfl,p,rfl,⟨_,aZ.of jK⟩,λD hD=>uC hD (λ_ z _=>z=.bl false) (zq (K:=K) jK) (by rw[v];exact ow (xw W)) (λ_ _ _ _ _ _ h=>h) ?_ ?_⟩
  ·intro j x Z hj c L Q' hq;have vL:j<rows.length:=by rw[<- v];exact hj
   rw[Zf]at c;obtain⟨b,hb,rfl⟩:=Zj.mp c;have jH:rows[j]?=some rows[j]:=by simp[vL]
   refine⟨_,rfl,b,rows[j],rfl,L _ _ (s2 _ _ (jE j b _ hb jH)),(a.iL j _ jH).1,λH4 m=>hq _ _ m ?_⟩;rw[Zo (a.mQ _ (Yz vL))]
  ·intro y Z L wE kA vC;have e:y=(List.replicate y.length false).map V.bl:=by
    refine wo (by simp) λi x c=>?_;have hi:=(cz c).1;rw[vC i x c];simp[hi]
   have Jl:aI H Z:=s2.trans L;refine⟨D,List.replicate y.length false,rfl,by rw[<- e];exact wE,_,rfl,?_⟩;have na:(List.replicate y.length false).any id=false:=by
    rw[V5];intro x c;rw[(List.mem_replicate.mp c).2];decide
   rw[na];refine bY ?_;have jW:=Jl _ _ G;refine⟨_,rfl,p,bs,rows.map fe,rfl,jW,by rw[Zh];exact j9,λi b ks e1 e2=>?_,qW3 a.unlike,by rw[Zh];lia,λr GV=>?_⟩
   ·rw[Zf]at e2;obtain⟨r0,LX,rfl⟩:=Zj.mp e2;rw[wc];exact Jl _ _ (jE i b r0 e1 LX)
   ·have m:aI H (upd Z r (.ext (t9 r (rows.map fe).length))):=Jl.trans (bQ GV);have kP:=m _ _ G;refine⟨r,_,rfl,bu,by rw[Zh];lia,_,rfl,p,_,rfl,.inr (aZ.of kP),_,_,rfl,rfl,_,rfl,?_⟩;have nl:decide (((rows.map fe).length:Int)<((bs.map V.ref).length:Int))=false:=Zo (by rw[v,Zh];lia);rw[nl];refine bY ?_;refine(λ(go:∀H5,aI H H5->_)=>go _ m) ?_;intro H5 R;refine⟨_,rfl,_,rfl,p,I,rows,rfl,(jO.same R).zs,a.iL,(ZI W (by decide)),a.oA,a.deep,λH6 D6 s6 yI=>?_⟩;have wS:=s6 _ _ (R _ _ G);refine⟨_,rfl,p,_,rfl,.inr (aZ.of wS),_,rfl,λg hg=>⟨g,rows.length,rfl,by rw[bu,v],by lia,λl kx=>?_⟩⟩;have wX:=c9 (u:=.lst ((List.range rows.length).map λ(i:Nat)=>V.int (i:Int))) (c9 (u:=.uh 0 ((bs.map V.ref).length:Int)) yI hg) kx;rw[a.ends,um]at wX;have e9:((List.range rows.length).map λ(i:Nat)=>V.int (i:Int))=((List.range rows.length).map λn:Nat=>(n:Int)).map V.int:=um _;refine⟨dL ((List.range rows.length).map λn:Nat=>(n:Int)),dL ((List.range rows.length).map λn:Nat=>(n:Int)),.lst wX (aR.ints _),.lst bu (e9▸aR.ints _),FY _,FY _,?_,?_⟩
    ·exact ZI (Sv _) (by decide)
    ·rw[KL,Zt rfl];exact q _ (R.trans (s6.trans ((bQ hg).trans (bQ kx))))
theorem xu6:aF ["shape"] ["shape"] (bJ Ce):=cZ
inductive oW(vs:List V)(H:Hp)(Q:VK):Prop
 |mk(t:af)(n tp:Nat)(rows:List Row)(e0:vs=[.ref t])(e1:g7 H t n tp rows)(e2:∀H',aI H H'->Q .cu H')
def Ke:Sp:=λa H Q _=>oW a H Q
theorem xg6{f b:af}{d c:ak}(F:a_ K "want_shape" "want_shape" Ce f d)
  (i:mg "is_shape"=some (.ref b)) (k:a_ K "is_shape" "is_shape" Cf b c) (p:Binds K c ["thing"] []) (l:aE P w K mg base aS 15 b c ["thing"] T1):aE P w K mg base aS 16 f d ["shape"] Ke:=by
 refine F.ok xu6 (λr H Q E h=>?_) (λv A a s H r Q E g h=>?_)
 ·obtain⟨t,n,e,rows,rfl,_⟩:=h
  rfl
 ·obtain⟨t,n,e,rows,rfl,j,q⟩:=h;refine⟨_,cR (dE (md (jm (bZ l g i k.kp p (aG (pv 0) aP)))) wx dG),?_⟩;exact⟨_,rfl,t,n,e,rows,rfl,j,λm u=>⟨_,rfl,bY (q m u)⟩⟩
end Pr
namespace L2
open PySem PySem.Spec PyProof.Rows PySem.W
def gg(h:ao)(d:af)(tab:Array DictEntry)(ep:Nat):Prop:=∃o,h.get? d=some o/\o.ExactDict/\o.data=.dict tab ep
theorem gg.cX{h h':ao}{d:af}{tab:Array DictEntry}{ep:Nat}(x:gg h d tab ep)(k:∀o,h.get? d=some o->h'.get? d=some o):gg h' d tab ep:=let ⟨o,ho,r⟩:=x;⟨o,k o ho,r⟩
theorem gg.ty{s:ae}{d:af}{tab:Array DictEntry}{ep:Nat}(x:gg s.heap d tab ep):s.TypeIs (.ref d) "dict":=let ⟨o,ho,hc,_⟩:=x;⟨o,ho,hc.1⟩
theorem gg.lt{h:ao}{d:af}{tab:Array DictEntry}{ep:Nat}(x:gg h d tab ep):d<h.objs.size:=let ⟨_,ho,_⟩:=x;Zi ho
section
variable{d it:af}{tab:Array DictEntry}{ep i:Nat}
theorem q70{Q:aa->ae->Prop}(lo:(d==sysModules)=false)(x:gg s.heap d tab ep)
  (q:Q (.ref s.heap.objs.size) {s with heap:=s.heap.push {cls:=.type "dict_keyiterator",data:=.fields #[.ref d,.int 0 0,.int tab.size 0,.int ep 0]}}):ag (ai prog w) A (pyIter (.ref d)) Q E s:=by
 obtain⟨o,b,c,a⟩:=id x;refine Uf x.ty F.slot_dict_iter (Z3 F.slot_dict_iter x.ty F.entry_dict_iter ?_ (F.args_dict_iter_1 _));show ag _ _ (Builtin.Dict.dictSlotNone _ _ >>= _) _ _ _;unfold Builtin.Dict.dictSlotNone;refine Za (Za (wpAny_notOrdered_dict x.ty (Zc ?_)));show ag _ _ (Builtin.Dict.showsAll d >>= _) _ _ s;unfold Builtin.Dict.showsAll;rw[Zl (by rw[lo];decide)];refine Za (Zc (Za (W9 b a (Za (wpAny_dictEpoch b a ?_)))));refine Za (ZJ (Zc ⟨_,rfl,"dict_keyiterator",_,⟨_,Zg _ rfl,rfl⟩,Y2.lookup,?_⟩));simpa[rawInt]using q
theorem q71{Q:Option aa->ae->Prop}(st:s.heap.IsKeyIter it d i tab.size ep)(x:gg s.heap d tab ep)(j:i<tab.size)
  (q:∀c,c.IsKeyIter it d (i+1) tab.size ep->Heap.SameBut it s.heap c->Q (some tab[i].key) {s with heap:=c}):ag (ai prog w) A (pyNext (.ref it)) Q E s:=by
 obtain⟨o,b,h,a⟩:=id st;obtain⟨l,e,k,g⟩:=id x;unfold pyNext;refine Za (Xj (Z0 (name:=Str.ofString "__next__") st.typeIs Y2 (Z3 Y2 st.typeIs F.entry_dict_keyiterator_next ?_ (F.args_dict_keyiterator_next_1 _))));refine Za (Zc (Za (Za ?_)))
 first|(refine Za (Xq st.typeIs (Zc (Za (Wv b a ?_)))))|(refine Za (XZ st.typeIs (Zc (Za (Wv b a ?_)))))
 simp only[show Builtin.Dict_items.ownsTuple "dict_keyiterator"=false by decide,Zr,Z5];show ag _ _ (if(Value.ref d==Value.none)=true then _ else _) _ _ s;rw[Zl (show ¬((Value.ref d==Value.none)=true) by exact Zy)];refine Za (Zc (Za (W9 e g ?_)));rw[Zl (by simp)];refine Za (Zc (Za (wpAny_dictEpoch e g ?_)));rw[Zl (by simp)];refine Zc ?_;simp only[show ¬((i:Int)<0)from xA,Z5,ZD,Xd j];refine Za ?_
 first|(refine Za (Xq st.typeIs (Zc (Za (Vj st.typeIs ?_)))))|(refine Za (XZ st.typeIs (Zc (Za (Vj st.typeIs ?_)))))
 show ag _ _ (setField (.ref it) 1 (rawInt ((i:Int)+1)) >>= _) _ _ s;refine Za (YD b a (by simp) ?_);have f:(s.heap.update it (Obj.mapFields (·.setIfInBounds 1 (rawInt ((i:Int)+1))))).IsKeyIter it d (i+1) tab.size ep:=⟨_,ZO _ b (YG (Z2 a _)),(XS ..).trans h,by rw[Z2 a];simp[rawInt]⟩;refine Za (ZP (Za (Vj (s:={s with heap:=s.heap.update it (Obj.mapFields (·.setIfInBounds 1 (rawInt ((i:Int)+1))))}) f.typeIs ?_)));show ag _ _ (pure tab[i].key) _ _ _;exact Zc (Zc ⟨_,rfl,Zc (q _ f (Yk ..))⟩)
theorem xg7{Q:Option aa->ae->Prop}(j:A.handled=none)(st:s.heap.IsKeyIter it d tab.size tab.size ep)(x:gg s.heap d tab ep)
  (q:∀g,Heap.ExtBut it s.heap g->Q none {s with heap:=g}):ag (ai prog w) A (pyNext (.ref it)) Q E s:=by
 obtain⟨o,e,k,c⟩:=id st;obtain⟨n,f,l,h⟩:=id x;unfold pyNext;refine Za (Xj (Z0 (name:=Str.ofString "__next__") st.typeIs Y2 (Z3 Y2 st.typeIs F.entry_dict_keyiterator_next ?_ (F.args_dict_keyiterator_next_1 _))));refine Za (Zc (Za (Za ?_)))
 first|(refine Za (Xq st.typeIs (Zc (Za (Wv e c ?_)))))|(refine Za (XZ st.typeIs (Zc (Za (Wv e c ?_)))))
 simp only[show Builtin.Dict_items.ownsTuple "dict_keyiterator"=false by decide,Zr,Z5];show ag _ _ (if(Value.ref d==Value.none)=true then _ else _) _ _ s;rw[Zl (show ¬((Value.ref d==Value.none)=true) by exact Zy)];refine Za (Zc (Za (W9 f h ?_)));rw[Zl (by simp)];refine Za (Zc (Za (wpAny_dictEpoch f h ?_)));rw[Zl (by simp)];refine Zc ?_;simp only[show ¬((tab.size:Int)<0)from xA,Z5,ZD,Va (Ze tab.size)];refine Za ?_
 first|(refine Za (Xq st.typeIs (Zc ?_)))|(refine Za (XZ st.typeIs (Zc ?_)))
 show ag _ _ (setField (.ref it) 0 .none >>= _) _ _ s;refine Za (YD e c (by simp) ?_);show ag _ _ (newExc (.type "StopIteration") [] >>= _) _ _ _;refine Za ?_;simp only[newExc,newTuple];refine Za (ZJ ?_ (by size_fits));refine Za (m:=firstArgMember _ _) (Wc (a:=Value.none) (by first|rfl|(simp only[firstArgMember];rfl)) (ZJ ?_ (by size_fits)));simp only[raiseNew];refine Za (Ul ?_);rw[show A.in1.handled=none by exact j];refine Za (Zc (wpAny_throw ?_));refine Za (Xg (T:= "StopIteration") (b:=true) ⟨_,Zg _ rfl,rfl⟩ W6 ?_);exact Zc (q _ (((Yk ..).extBut.push _).push _))
theorem qW5(j:A.handled=none)(n:d≠it):Walks prog w A it [it,d] [it] tab.size (λi v=>∃e,tab[i]?=some e/\v=e.key) (λi h=>h.IsKeyIter it d i tab.size ep/\gg h d tab ep) where
 sub:=λb hb=>by simp at hb;simp[hb]
 frame:=λ_ _ _ a k=>⟨a.1.at λo e=>k it (by simp) o e,a.2.cX λo e=>k d (by simp) o e⟩
 item:=λi s Q E g a q=>q71 a.1 a.2 g λc m f=>q _ c s.toks ⟨tab[i],by simp[g],rfl⟩ ⟨m,a.2.cX λo e=>f.extBut d o n e⟩ λb o hb e=>f.extBut b o (λh=>hb (by simp[h])) e
 done:=λs Q E a q=>xg7 j a.1 a.2 λc l=>q c s.toks λb o hb e=>l b o (λh=>hb (by simp[h])) e
 self:=λ_ _ _ _ a q=>wpAny_pyIter_keyiter a.1 q
theorem xg8(lo:(d==sysModules)=false):KdlSrc prog w "dict" d d tab.size (λi v=>∃e,tab[i]?=some e/\v=e.key) (λh=>gg h d tab ep) where
 type:=λ_ x=>x.ty
 there:=λ_ x=>⟨x.lt,x.lt⟩
 keep:=λ_ _ x k=>x.cX λo e=>k d (.inl rfl) o e
 notList:=by decide
 notTuple:=by decide
 hint:=λ_ _ _ _ x q=>kdl_hint_dict x.ty q
 iter:=λ_ _ a x=>⟨_,_,(λ_ _ q=>q70 lo x q),qW5 a (Zp x.lt),⟨⟨_,Zg _ rfl,rfl,rfl⟩,x.cX λo e=>Zb _ e⟩⟩
theorem q72(lo:(d==sysModules)=false):MeetsIn prog w (Builtin.«dict.__len__» ⟨[.ref d],[]⟩) (λ_ R s=>∃tab ep,gg s.heap d tab ep/\R (.ok (.ret (.int tab.size s.toks))) {s with toks:=s.toks+1}):=
 .of_wp λA R s ⟨tab,ep,⟨o,b,c,a⟩,q⟩=>by
  show ag _ _ (dictSize d >>= _) _ _ s;unfold dictSize;refine Za (Za (W9 b a (Zc ?_)));show ag _ _ (Builtin.Dict.pendingCount d >>= _) _ _ s;exact Za (wpAny_pendingCount_other lo (wpAny_ret_mkInt (by rw[VP];exact q)))
theorem xg9{Q:aa->ae->Prop}(lo:(d==sysModules)=false)(x:gg s.heap d tab ep)(a:(tab.size:Int)<2^63)(q:Q (.int tab.size (s.toks+1)) {s with toks:=s.toks+1+1}):
  ag (ai prog w) A (call (.builtin "len") [.ref d]) Q E s:=by
 refine Calls.call_function_entry kind_len plain_len entry_len (args_len1 _) ?_;unfold Builtin.«len»;refine Za (m:=oneArg "len" _) (Zc ?_);refine Za (m:=callSpecial? (.ref d) (Str.ofString "__len__")) (Z0 (name:=Str.ofString "__len__") x.ty F.slot_dict_len (call_meetsIn F.slot_dict_len x.ty F.entry_dict_len (F.args_dict_len_1 _) (q72 lo) ⟨tab,ep,x,?_⟩));show ag _ _ _ _ _ {s with toks:=s.toks+1};refine Za (ZP (Zc (Za (Vw ?_))));show ag _ _ (if((tab.size:Nat):Int)<0 then _ else _) _ _ _;rw[Zl xA];show ag _ _ (if((tab.size:Nat):Int)>=2^63 then _ else _) _ _ _;rw[Zl (by lia)];exact Za (wpAny_mkInt (Zc ⟨_,rfl,q⟩))
end
section
variable{X:Cx}
inductive lF(xs:List V)(H:Hp)(Q:VK):Prop
 |mk(d:_)(kvs:_)(aX:xs=[V.ref d])(dQ:H d=some (.dT kvs))(cA:Q (.int kvs.length) H)
theorem q73:fm X (.builtin "len") lF:=by
 intro w s y H p t Q I r h;obtain⟨d,a,rfl,g,q⟩:=h;obtain⟨u,rfl,l⟩:=gI r;cases l;obtain⟨z,i,v,rel,o,b,x,j,n,k,c,m⟩:=(show bh X.prog X.w H s.heap d (.dT a)from I.aT d _ g);have f:b.size=a.length:=(size_of_entries c).trans (XA rel).symm;have e:(b.size:Int)<2^63:=by rw[f];rw[Wr]at z;lia
 refine xg9 i ⟨o,j,n,k⟩ e ⟨.int a.length,H,I.tok _,?_,q⟩;rw[f];exact⟨_,rfl⟩
end
section
variable{T:String}{r d:af}{n:Nat}{P:Nat->aa->Prop}{OK:ao->Prop}
theorem qL7{Q:List aa->ae->Prop}(K:KdlSrc prog w T r d n P OK)(j:A.handled=none)(h:OK s.heap)(q:n<=sizeLine)
  (u:∀(c:ao) g f,(∀b o,s.heap.get? b=some o->c.get? b=some o)->ItemsOf P f n->Q f.toList {s with heap:=c,toks:=g}):ag (ai prog w) A (collect (.ref r)) Q E s:=by
 have i:=K.there _ h;unfold collect;refine Za (W5 (Yb F.entry_proto_collect ?_));rw[Z6 F.plain_proto_collect _];refine Za (ZJ ?_);refine Zc ⟨YE F.plain_list_iadd _,Yb F.entry_list_iadd ?_⟩;rw[Z6 F.plain_list_iadd _];have m:(s.heap.push {cls:=.type "list",data:=.seq ([]:List aa).toArray}).get? s.heap.objs.size=some {cls:=.type "list",data:=.seq ([]:List aa).toArray}:=Zg _ rfl;refine kdl_extend (R:=wants (λv x=>ag (ai prog w) A (match v with|.ref a=>(do let ob <- load a;match ob.data with|.seq p _=>pure p.toList|_=>unsupported "internal:collect")|_=>unsupported "internal:collect") Q E x) E) (s:={s with heap:=s.heap.push {cls:=.type "list",data:=.seq ([]:List aa).toArray}}) K j (K.keep _ _ h λb _ o e=>Zb _ e) s.heap.objs.size (XN i.1) (XN i.2) _ _ m (λc g f y k l t=>?_) q;refine Za (wpAny_load l ?_);exact Zc (u c g f (λb o e=>k b o (Zp (Zi e)) (Zb _ e)) t)
theorem qy8{Q₁:aa->ae->Prop}(K:KdlSrc prog w T r d n P OK)(m:A.handled=none)(j:OK s.heap)(l:n<=sizeLine)
  (h:∀(c:ao) i a,(∀b o,s.heap.get? b=some o->c.get? b=some o)->ItemsOf P a n->Q₁ (.ref c.objs.size) {s with heap:=c.push {cls:=.type "tuple",data:=.seq a},toks:=i}):
  codeAny (ai prog w) A (.call (.builtin "tuple.__new__") ⟨[.type "tuple",.ref r],[]⟩) (wants Q₁ E) s:=by
 refine VC ?_;refine Za (Wc (F.newCall_tuple_1 _) (Zc ⟨YE F.plain_tuple_new _,Yb F.entry_tuple_new ?_⟩));rw[Z6 F.plain_tuple_new _];have u:=sub_tuple_self;have g:=init_tuple_lookup;have q:=madeHere_tuple;have f:=K.type s j;have t:=K.notTuple
 wp_walk using VM f,qL7 (A:=A.in1) K m j l
 intro c i a p k;show ag _ _ (Builtin.Tuple.tupleExact a.toList.toArray >>= λv=>ret v) _ _ _;unfold Builtin.Tuple.tupleExact;refine Za (ZJ ?_ (by show a.toList.toArray.size<=sizeLine;simp only[Array.toArray_toList];rw[k.1];exact l));refine Zc ?_;have e:a.toList.toArray=a:=by simp
 rw[e];exact h c i a p k
theorem q74{Q:aa->ae->Prop}(K:KdlSrc prog w T r d n P OK)(j:A.handled=none)(k:OK s.heap)(m:n<=sizeLine)
  (h:∀(e:ao) i a,(∀b o,s.heap.get? b=some o->e.get? b=some o)->ItemsOf P a n->Q (.ref e.objs.size) {s with heap:=e.push {cls:=.type "tuple",data:=.seq a},toks:=i}):
  ag (ai prog w) A (call (.type "tuple") [.ref r]) Q E s:=by
 refine callType_codes (Q₁:=λc f=>f.TypeIs c "tuple" /\ Q c f) F.called_tuple (F.typeCall_tuple_1 _) F.entry_object_init
  (qy8 K j k m λe i a l p=>⟨⟨_,Zg _ rfl,rfl⟩,h e i a l p⟩) λc f g=>?_
 exact⟨g.1,F.args_object_init_2 c _,object_init_meets F.called_tuple.init.lookup F.called_tuple.made (by decide) prog w A.in1 _ f ⟨g.1,rfl,g.2⟩⟩
end
section
variable{X:Cx}
theorem qH6(hc:X.calm=true):fm X (.type "tuple") (λE H Q=>∃(d:af)(c:List (List Key×V)),E=[.ref d]/\H d=some (.dT c) /\
  ∀(l:af)(bs:List af),H l=none->bs.length=c.length->(∀(i:Nat) b kv,bs[i]?=some b->c[i]?=some kv->H b=some (.tup (kv.1.map kV)))->Q (.ref l) (upd H l (.tup (bs.map V.ref)))):=by
 intro j8 s σ H E us Q I r h;obtain⟨d,c,rfl,N,q⟩:=h;obtain⟨u,rfl,Y⟩:=gI r;cases Y;obtain⟨z,O,f,rel,o,tab,ep,S,hx,W,j,Z⟩:=(show bh X.prog X.w H s.heap d (.dT c)from I.aT d _ N);have J:c.length=f.length:=XA rel;have D:tab.size=f.length:=size_of_entries j;refine q74 (xg8 (tab:=tab) (ep:=ep) O) (I.ok.hd hc) ⟨o,S,hx,W⟩ (CT J D z) λn L g T K=>?_;have w:∀(i:Nat) p y,c[i]?=some p->f[i]?=some y->H y.2.1=some (.tup (p.1.map kV)):=by
  have A:∀{l:List (List Key×V)}{m:List (List Key×af×aa)},Paired (λ(p:List Key×V) (q:List Key×af×aa)=>p.1=q.1/\H q.2.1=some (.tup (p.1.map kV))/\RelV p.2 q.2.2) l m->∀(i:Nat) p y,l[i]?=some p->m[i]?=some y->H y.2.1=some (.tup (p.1.map kV)):=by
   intro l m M
   induction M with
   |nil=>intro i p y h1;simp at h1
   |cons U a2 ih=>
    intro i p y h1 k;cases i with
    |zero=>simp at h1 k;subst h1;subst k;exact U.2.1
    |succ i=>exact ih i p y (by simpa using h1) (by simpa using k)
  exact A rel
 have B:(f.map (·.2.1)).length=c.length:=by rw[Zh,J]
 have F:=I.kept (t':=L) T;have P:H n.objs.size=none:=F.aT.fresh (Ze _);refine⟨.ref n.objs.size,_,F.laid (a:=n.objs.size) (o:=.tup ((f.map (·.2.1)).map V.ref)) (t':=L) (λb o e=>Zb _ e) (Ze _) (show bh X.prog X.w _ _ _ (.tup ((f.map (·.2.1)).map V.ref))from⟨by rw[Zh,B];exact z,g.toList,?_,by have:=cQ.new n g.toList.toArray;simpa using this⟩),rfl,q _ _ P B λi b kv G R=>?_⟩
 ·refine Gn (by simp[K.1,D]) λi x v h1 k=>?_;rw[Zf,Zf]at h1;obtain⟨b,hb,rfl⟩:=Zj.mp h1;obtain⟨y,t,rfl⟩:=Zj.mp hb;obtain⟨e,C,rfl⟩:=K.2 i v (by simpa using k);rw[entry_at j i,t]at C;have:=ZT C;subst this
  rfl
 ·rw[Zf]at G;obtain⟨y,t,rfl⟩:=Zj.mp G;exact w i kv y R t
open Classical in
noncomputable def w_(h:ao)(d:PyData)(w:aa):Bool:=decide (∃(e:PyData)(bs:List af),Reads h w e bs/\e.canLay0=true/\PyData.eqv e d=true)
open Classical in
theorem xh0{h:ao}{d d':PyData}{w:aa}{bs:List af}(f:Reads h w d' bs)(c:d'.canLay0=true):w_ h d w=PyData.eqv d' d:=by
 unfold w_;cases hb:PyData.eqv d' d with
 |true=>exact Zt ⟨d',bs,f,c,hb⟩
 |false=>
  refine Zo λ⟨e,a,g,_,b⟩=>?_;have:=SeqAt.Reads.unique d' e w bs a c f g;rw[<- this,hb]at b;cases b
theorem TZ{x:List (af×az)}{s:ae}{σ:St}{H:Hp}{v:aa}{d:PyData}{as:List af}(I:Inv X x σ H s)(un:X.A.units+64<cLine)(n:Reads s.heap v d as)(k:d.canLay0=true)(dd:d.depth<=50):
  ∀{j:List V}{f:List PyData}{b:List aa},aR H j f->Vals j b->PyData.canLayAll0 f=true->(∀w∈b,SeqAt.EqAt X.A.in1 s w v (w_ s.heap d w))/\b.any (w_ s.heap d)=f.any λe=>PyData.eqv e d
 |_,_,_,.nil,.nil,_=>⟨λw a=>(nomatch a),rfl⟩
 |_,l::h,B::y,.cons A g,.cons r u,t=>by
  have c:l.canLay0=true/\PyData.canLayAll0 h=true:=by simpa[PyData.canLayAll0]using t
  obtain⟨q,p⟩:=TZ I un n k dd g u c.2;obtain⟨bs,m⟩:=A.reads I.aT r;have i:=xh0 (d:=d) m c.1;refine⟨λw a=>?_,?_⟩
  ·rcases Zu.mp a with rfl|a
   ·rw[i];exact SeqAt.eqAt_reads l d X.A.in1 s w v bs as m n c.1 k (by
     have:X.A.in1.units=X.A.units+1:=rfl;lia)
   ·exact q w a
  ·rw[Wk,Wk,i,p]
inductive qZ(x:V)(y:V)(H:Hp)(Q:VK):Prop
 |mk(p:af)(xs:List V)(ds:List PyData)(d:PyData)(aX:y=.ref p)(dQ:H p=some (.tup xs))(cA:aR H xs ds)(aU:bz H x d)(Hw:d.canLay0=true)(Nr:PyData.canLayAll0 ds=true)(e6_:d.depth<=50)(e7_:Q (.bl (ds.any λe=>PyData.eqv e d)) H)
theorem xN1{k:Nat}(e:bf k X.A):fk X (compareOp .In) qZ:=by
 intro E s J H x y v u Q I r B h;obtain⟨p,D,F,d,rfl,t,f,c,l,j,A,q⟩:=h;cases B;obtain⟨as,C⟩:=c.reads I.aT r;obtain⟨a,m,b,G⟩:=I.tuple (aZ.of t);have un:=e.units;obtain⟨i,g⟩:=TZ (X:=X) I un C l A f m j;refine SeqAt.in_tupleAt (w_ s.heap d) b (λw n=>i w (by simpa using n)) ⟨.bl _,H,I,rfl,?_⟩;rw[show a.toArray.any (w_ s.heap d)=a.any (w_ s.heap d) by simp,g];exact q
end
end L2
namespace L2
open PySem
theorem xh1{α:Type}{d c:BEq α}(h1:@LawfulBEq α d)(e:@LawfulBEq α c):d=c:=by
 have:∀a b,@BEq.beq α d a b=@BEq.beq α c a b:=λa b=>by
  rw[Xw,@Wg α d h1,@Wg α c e]
 cases d;cases c;congr 1;funext a b;exact this a b
structure bw(X:Cx)(e:av)(t:TE):Prop where
 go:PE X e t
structure HB(X:Cx)(st:aB)(t:TS):Prop where
 go:PS X st t
inductive gG(X:Cx):List aB->TS->Prop
 |one {st:aB}{t:TS}(h:HB X st t):gG X [st] t
 |cons {st:aB}{rest:List aB}{t u:TS}(h:HB X st t) (r:gG X rest u):gG X (st::rest) (oQ t u)
theorem gG.go{X:Cx}:∀{l:List aB}{t:TS},gG X l t->ir X l t
 |_,_,.one h=>cR h.go
 |_,_,.cons h r=>gk h.go r.go
theorem aQ{X:Cx}{st:aB}{rest:List aB}{R:TS->Prop}(h:∃t,HB X st t/\∃u,ir X rest u/\R (oQ t u)):∃t,ir X (st::rest) t/\R t:=by
 obtain⟨t,h1,u,b,a⟩:=h;exact⟨_,gk h1.go b,a⟩
theorem gj{X:Cx}{st:aB}{R:TS->Prop}(h:∃t,HB X st t/\R t):∃t,ir X [st] t/\R t:=by
 obtain⟨t,h1,a⟩:=h;exact⟨_,cR h1.go,a⟩
inductive aW(X:Cx):List av->TA->Prop
 |nil:aW X [] oR
 |cons {e:av}{es:List av}{te:TE}{t:TA}(h:bw X e te) (r:aW X es t) (hs:starEach (e::es) X.env=(false,eval e X.env)::starEach es X.env):aW X (e::es) (uG te t)
theorem aW.go{X:Cx}:∀{a:List av}{t:TA},aW X a t->PA X a t
 |_,_,.nil=>aP
 |_,_,.cons h r b=>aG h.go r.go b
theorem pP{X:Cx}{i:Int}{j:Nat}{a:aC}:bw X (.Constant (.int i) j a) (tC (.int i)):=⟨aK⟩
end L2
namespace Pr
open PySem L2 Qf
def aV(H:Hp)(p:af):Prop:=∃a b:Int,H p=some (.lst [.int a,.int b])/\0<=a/\0<=b/\b<2^40
theorem aV.same{H c:Hp}{p:af}(h:aV H p)(s:aI H c):aV c p:=by
 obtain⟨a,b,e,r⟩:=h;exact⟨a,b,s _ _ e,r⟩
def bc(H:Hp)(p:af)(rows:List Row):Prop:=∃bs:List af,H p=some (.lst (bs.map V.ref))/\bs.length=rows.length/\∀(i:Nat) b r,bs[i]?=some b->rows[i]?=some r->H b=some (.tup (vN r))
theorem bc.same{H a:Hp}{p:af}{rows:List Row}(h:bc H p rows)(s:aI H a):bc a p rows:=by
 obtain⟨bs,h1,f,e⟩:=h;exact⟨bs,s _ _ h1,f,λi b r d c=>s _ _ (e i b r d c)⟩
def ft{α κ:Type}(key:α->κ)(l:List α)(k:Nat):List (κ×V):=(l.zipIdx k).map λp=>(key p.1,V.int (p.2:Nat))
section
variable{α κ:Type}[DecidableEq α][DecidableEq κ]{key:α->κ}
theorem E9(l:List α)(k:Nat):(ft key l k).length=l.length:=by simp[ft]
theorem q76(a:α)(l:List α)(k:Nat):ft key (a::l) k=(key a,V.int (k:Nat))::ft key l (k+1):=by simp[ft]
theorem q77(l:List α)(a:α)(k:Nat):ft key (l++[a]) k=ft key l k++[(key a,V.int (k+l.length:Nat))]:=by simp[ft,List.zipIdx_append]
theorem Ko(inj:∀a b,key a=key b->a=b)(a:α):∀(l:List α)(k:Nat),dS (ft key l k) (key a)=if a∈l then some (.int (k+l.idxOf a:Nat))else none
 |[],k=>by simp[ft,dS]
 |b::l,k=>by
  rw[q76];by_cases h:b=a
  ·subst h;rw[Fg rfl,Zx ZE,List.idxOf_cons_self]
   rfl
  ·rw[Ff (λz=>h (inj _ _ z)),Ko inj a l (k+1)];by_cases c:a∈l
   ·have e:(b::l).idxOf a=l.idxOf a+1:=by
     rw[List.idxOf_cons,beq_false_of_ne h]
     rfl
    rw[Zx c,Zx (Zk _ c),e];congr 3;exact sZ
   ·rw[Zl c,Zl (λz=>by rcases Zu.mp z with z|z;exact h z.symm;exact c z)]
theorem xh2(inj:∀a b,key a=key b->a=b){l:List α}{a:α}{k:Nat}(h:a∉l):putK (ft key l k) (key a) (.int (k+l.length:Nat))=ft key (l++[a]) k:=by
 unfold putK;rw[BJ,Ko inj,Zl h,Zl (by decide),q77]
end
theorem bc.but{H a:Hp}{p e:af}{rows:List Row}{o:HO}(h:bc H p rows)(b:cf e H a)(l:p≠e)(d:H e=some o)(f:∀u,o≠.tup u):bc a p rows:=by
 obtain⟨bs,h1,m,g⟩:=h;exact⟨bs,b _ _ h1 l,m,λi c r k j=>b.b_ d f _ _ (g i c r k j)⟩
theorem TC{H:Hp}:∀{bs:List af}{rows:List Row},bs.length=rows.length->(∀(i:Nat) b r,bs[i]?=some b->rows[i]?=some r->H b=some (.tup (vN r))) ->
  aR H (bs.map V.ref) (rows.map λr=>dT (r.map λx:Nat=>(x:Int)))
 |[],[],_,_=>.nil
 |b::bs,r::rows,f,h=>by
  refine .cons ?_ (TC (by simpa using f) λi c q e d=>h (i+1) c q (by simpa using e) (by simpa using d));have a:=h 0 b r rfl rfl;rw[um]at a;exact .tup a (aR.ints _)
theorem zp:∀rows:List Row,PyData.canLayAll0 (rows.map λr=>dT (r.map λx:Nat=>(x:Int)))=true
 |[]=>rfl
 |r::rows=>by
  rw[ZC,PyData.canLayAll0,KN,zp rows];rfl
theorem TB:∀a:List Int,PyData.depthAll (a.map PyData.int)=0
 |[]=>rfl
 |n::a=>by rw[ZC,PyData.depthAll,TB a];rfl
theorem Tz:∀rows:List Row,PyData.depthAll (rows.map λr=>dT (r.map λx:Nat=>(x:Int)))<=1
 |[]=>by decide
 |r::rows=>by
  have:=Tz rows;have e:(dT (r.map λx:Nat=>(x:Int))).depth=1:=by
   show PyData.depthAll _+1=1;rw[TB]
  rw[ZC,PyData.depthAll,e];lia
theorem xh3(a:List af)(t:af):a.map V.ref++[.ref t]=(a++[t]).map V.ref:=by rw[ZY];rfl
def wz(rows:List Row):List PyData:=rows.map λr=>dT (r.map λx:Nat=>(x:Int))
theorem Kd(m:List Row):PyData.eqv (.list (wz m)) (.list [])=m.isEmpty:=by
 cases m with
 |nil=>rfl
 |cons a l=>simp[wz,PyData.eqv,PyData.eqvAll]
theorem BP{H:Hp}{p:af}{rows:List Row}(h:bc H p rows):bz H (.ref p) (.list (wz rows)):=by
 obtain⟨bs,b,c,a⟩:=h;exact .lst b (TC c a)
theorem BQ(rows:List Row):(PyData.list (wz rows)).depth<=60:=by
 have:=Tz rows;show PyData.depthAll _+1<=60;unfold wz;lia
def tK(rows:List Row):List (List Key×V):=ft fe rows 2
theorem xh4{α:Type}{b c:BEq α}(h1:@LawfulBEq α b)(d:@LawfulBEq α c)(l:List α)(a:α):@List.idxOf α b a l=@List.idxOf α c a l:=by
 cases xh1 h1 d
 rfl
theorem OQ(rows:List Row)(r:Row):dS (tK rows) (fe r)=if r∈rows then some (.int (rows.idxOf r+2:Nat))else none:=by
 unfold tK;rw[Ko (λa b=>Kp)];split
 ·rw[Nat.add_comm];exact Z9 (λn:Nat=>some (V.int ((n+2:Nat):Int))) (xh4 (by infer_instance) (by infer_instance) _ _)
 ·rfl
theorem Kc{e f:Hp}{t n g:Nat}{rows:List Row}(h:g7 e t n g rows)(s:aI e f):g7 f t n g rows:=let ⟨⟨p,a,b⟩,c,d⟩:=h;⟨⟨p,s _ _ a,b.same s⟩,c,d⟩
end Pr
namespace Qf
open Tr
theorem By{L:List Tr}{t:Tr}(h:In L t):post t L=L:=by
 cases t with
 |z=>rfl
 |o=>rfl
 |nd a b c d=>
  have e:Tr.nd a b c d∈L:=by rcases h with h|h|h;cases h;cases h;exact h
  unfold post;rw[Zx e]
theorem Tx{L:List Tr}(h:Ord L){t:Tr}(b:∀s∈kids t,In L s):rowsOf (L++[t])=rowsOf L++[(kids t).map (name L)]:=by
 unfold rowsOf;rw[ZY];congr 1
 ·refine YF λu c=>?_;obtain⟨i,d,e⟩:=ZH.mp c;exact YF λs a=>fJ (eh h (i:=i) (t:=u) (by rw[Zd d,e]) a).1 h
 ·show[(kids t).map (name (L++[t]))]=_;congr 1;exact YF λs a=>fJ (b s a) h
theorem xu7{L:List Tr}(h:Ord L){a b c d:Tr}(k:∀s∈kids (.nd a b c d),In L s):(kids (.nd a b c d)).map (name L)∈rowsOf L<->Tr.nd a b c d∈L:=by
 constructor
 ·intro f;obtain⟨i,j,e⟩:=ZH.mp f;obtain⟨t,g,m⟩:=JG (i:=i) (r:=(kids (.nd a b c d)).map (name L)) (by rw[Zd j,e]);have:=Sx ⟨a,b,c,d,rfl⟩ (h.ch i t g).1 (JQ h k (λs l=>(eh h g l).1) m);rw[this];exact Zv g
 ·intro f;obtain⟨i,j,e⟩:=ZH.mp f;exact Zv (cG (i:=i) (t:=.nd a b c d) (by rw[Zd j,e]))
theorem xu8{L:List Tr}(h:Ord L){i:Nat}{t:Tr}(e:L[i]?=some t):(rowsOf L).idxOf ((kids t).map (name L))=i:=by
 have d:=(cz e).1;have b:=cG e;have c:i<(rowsOf L).length:=by rw[br];exact d
 have a:=(cz b).2;rw[<- a];exact(RL h).idxOf_getElem i c
end Qf
namespace Pr
open PySem L2 Qf
theorem OP{H:Hp}{e u:af}{L:List Tr}(j:Tr.Ord L){a b c d:Tr}(p:Tr.nd a b c d∈L)(n:H e=some (.dT (tK (Tr.rowsOf L))))(m:H u=some (.tup (vN [Tr.name L a,Tr.name L b,Tr.name L c,Tr.name L d]))):
  eR H e (.ref u) (some (.int (Tr.name L (.nd a b c d):Nat))):=by
 obtain⟨i,q,l⟩:=ZH.mp p;have g:L[i]?=some (.nd a b c d):=by rw[Zd q,l]
 have f:=xu8 j g;have h:(Tr.kids (.nd a b c d)).map (Tr.name L)∈Tr.rowsOf L:=Zv (Tr.cG g);have:=eR.t (k:=fe ((Tr.kids (.nd a b c d)).map (Tr.name L))) n (by rw[wc];exact m);rw[OQ,Zx h,f]at this;rw[Tr.fz j g];exact this
end Pr
namespace Qf
open Tr
theorem TY{rows:List Row}(ok:fw rows){q:Nat}(b:q<rows.length+2):(T rows q=z<->q=0)/\(T rows q=o<->q=1):=by
 by_cases a:q<2
 ·match q,a with
  |0,_=>rw[l7];exact⟨⟨λ_=>rfl,λ_=>rfl⟩,⟨λh=>(nomatch h),λh=>(nomatch h)⟩⟩
  |1,_=>rw[l5];exact⟨⟨λh=>(nomatch h),λh=>(nomatch h)⟩,⟨λ_=>rfl,λ_=>rfl⟩⟩
 ·obtain⟨d,g,i,f,e,rfl,c⟩:=pM ok b a;rw[lK ok c];exact⟨⟨λh=>(nomatch h),λh=>by lia⟩,⟨λh=>(nomatch h),λh=>by lia⟩⟩
theorem zt{n top:Nat}{rows:List Row}(c:Canon n top rows):dep (T rows top)<=n:=by
 obtain⟨a,e⟩:=qW0 c;obtain⟨b,d⟩:=cq (T rows top) [] fy;have h:=zf b _ d;rw[<- a,<- e]at h;rw[<- h];exact c.deep
def qr(i:Nat):Tr->Tr
 |.nd a b c d=>[a,b,c,d].getD i .z
 |t=>t
theorem yn{rows:List Row}(ok:fw rows){p i:Nat}{r:Row}{x:Nat}(f:rows[p]?=some r)(g:i<4)(e:r[i]?=some x):T rows x=qr i (T rows (p+2)):=by
 obtain⟨a,b,c,d,rfl⟩:=zg (ok p r f).1;rw[lK ok f]
 match i,g with
 |0,_=>cases e;rfl
 |1,_=>cases e;rfl
 |2,_=>cases e;rfl
 |3,_=>cases e;rfl
theorem OO{i k:Nat}(g:i<4):∀(t:Tr),dep t<=k+1->dep (qr i t)<=k
 |.z,_=>Zz _
 |.o,_=>Zz _
 |.nd a b c d,h=>by
  have e:mx [dep a,dep b,dep c,dep d]<=k:=by
   have:1+mx [dep a,dep b,dep c,dep d]<=k+1:=h;lia
  have m:∀x∈[dep a,dep b,dep c,dep d],x<=k:=λx f=>ZI (Cr f) e
  match i,g with
  |0,_=>exact m (dep a) (by simp)
  |1,_=>exact m (dep b) (by simp)
  |2,_=>exact m (dep c) (by simp)
  |3,_=>exact m (dep d) (by simp)
theorem n8:∀{t:Tr},dep t<=0->t=.z\/t=.o
 |.z,_=>.inl rfl
 |.o,_=>.inr rfl
 |.nd a b c d,h=>by
  have:1+mx [dep a,dep b,dep c,dep d]<=0:=h;lia
def cO:Tr->List Nat->Tr×List Nat
 |.nd a b c d,x::e=>((cO (qr x (.nd a b c d)) e).1,x::(cO (qr x (.nd a b c d)) e).2)
 |t,_=>(t,[])
theorem ze(t:Tr):cO t []=(t,[]):=by cases t<;>rfl
theorem Tb{t:Tr}(h:t=.z\/t=.o)(a:List Nat):cO t a=(t,[]):=by rcases h with rfl|rfl<;>cases a<;>rfl
def cT(f:Nat->Nat):Nat->List Nat->Nat
 |k+1,d::a=>2^k*f d+cT f k a
 |_,_=>0
theorem TX(f:Nat->Nat):∀(n:Nat)(l m:List Nat),l.length<=n->cT f n (l++m)=cT f n l+cT f (n-l.length) m
 |n,[],m,_=>by
  have:cT f n []=0:=by cases n<;>rfl
  rw[this];simp
 |n+1,d::l,m,h=>by
  have a:l.length<=n:=by simpa using h
  show 2^n*f d+cT f n (l++m)=2^n*f d+cT f n l+cT f (n+1-(l.length+1)) m;rw[TX f n l m a,Vk];lia
theorem Gh:∀(t:Tr)(l m:List Nat),((cO t l).2=l/\cO t (l++m)=((cO (cO t l).1 m).1,l++(cO (cO t l).1 m).2))\/(((cO t l).1=.z\/(cO t l).1=.o)/\cO t (l++m)=cO t l)
 |t,[],m=>by
  left;rw[ze];exact⟨rfl,by simp⟩
 |.z,x::l,m=>.inr ⟨.inl rfl,rfl⟩
 |.o,x::l,m=>.inr ⟨.inr rfl,rfl⟩
 |.nd a b c d,x::l,m=>by
  rcases Gh (qr x (.nd a b c d)) l m with⟨h1,e⟩|⟨h1,e⟩
  ·left;refine⟨?_,?_⟩
   ·show x::(cO (qr x (.nd a b c d)) l).2=x::l;rw[h1]
   ·show((cO (qr x (.nd a b c d)) (l++m)).1,x::(cO (qr x (.nd a b c d)) (l++m)).2)=_;rw[e]
    rfl
  ·right;refine⟨h1,?_⟩;show((cO (qr x (.nd a b c d)) (l++m)).1,x::(cO (qr x (.nd a b c d)) (l++m)).2)=_;rw[e]
   rfl
def eB(r c k:Nat):Nat->List Nat
 |0=>[]
 |j+1=>(2*(r/2^(k+j)%2)+c/2^(k+j)%2)::eB r c k j
theorem Kb(r c k:Nat):∀j,(eB r c k j).length=j
 |0=>rfl
 |j+1=>by show(eB r c k j).length+1=_;rw[Kb]
theorem KC(r c k:Nat):∀j,∀d∈eB r c k j,d<4
 |0,d,h=>by cases h
 |j+1,d,h=>by
  rcases Zu.mp h with rfl|h
  ·exact xE
  ·exact KC r c k j d h
end Qf
namespace L2
open PySem PySem.Spec PyProof.Rows
theorem TV{z:ar}{g:TG}{tb:TS}{D:Ends}{σ:St}{H:Hp}(Pv:Nat->St->Hp->Prop)(h0:Pv 0 σ H)
  (hs:∀i c σ H,z.cps[i]?=some c->Pv i σ H->g (.str ⟨#[c]⟩) σ H λf h=>tb {D with nx:=Pv (i+1),ct:=Pv (i+1),bk:=D.nx} f h) (k:∀σ H,Pv z.cps.size σ H->D.nx σ H):
  ∃W:Nat->Nat->St->Hp->Prop,(∃m,W 0 m σ H)/\∀i m σ H,W i m σ H ->
   ((Ex z).stop i H/\D.nx σ H)\/((Ex z).go i H/\∃N:St->Hp->Prop,(∀a b,N a b->∃j,j<m/\W (i+1) j a b)/\∀x b,(Ex z).iI i H x b->g x σ b λf h=>tb {D with nx:=N,ct:=N,bk:=D.nx} f h):=by
 refine⟨λi m σ H=>m=z.cps.size-i/\i<=z.cps.size/\Pv i σ H,⟨z.cps.size,by simp,Zz _,h0⟩,?_⟩;rintro i m σ H ⟨rfl,r,p⟩;by_cases d:i<z.cps.size
 ·refine .inr ⟨d,Pv (i+1),λa b l=>⟨z.cps.size-(i+1),nQ d,rfl,d,l⟩,λx b y=>?_⟩;obtain⟨e,c,n,q⟩:=y;subst e q;exact hs i c σ _ n p
 ·have e:i=z.cps.size:=by exact mn r d
  subst e;exact .inl ⟨Ze _,k σ H p⟩
end L2
namespace Pr
open PySem L2 Qf
def txt(a:List Nat):ar:=⟨(a.map (48+·)).toArray⟩
theorem Gg(a:List Nat):(txt a).length=a.length:=by simp[txt,Str.length]
theorem Kn(a:List Nat):(txt a).cps.size=a.length:=by simp[txt]
theorem KA{a:List Nat}{i c:Nat}(h:(txt a).cps[i]?=some c):∃d,a[i]?=some d/\c=48+d:=by
 have b:(a.map (48+·))[i]?=some c:=by simpa[txt]using h
 rw[Zf]at b;obtain⟨d,e,rfl⟩:=Zj.mp b;exact⟨d,e,rfl⟩
theorem TU{d:Nat}(h:d<4):PySem.intText? ⟨#[48+d]⟩=some (d:Int):=by
 match d,h with
 |0,_|1,_|2,_|3,_=>decide +kernel
def four(c:Nat):Bool:=!(Builtin.Str.occurrences "0123" ⟨#[c]⟩ 0 ("0123":ar).length 1).isEmpty
theorem xh5{d:Nat}(h:d<4):four (48+d)=true:=by
 match d,h with
 |0,_|1,_|2,_|3,_=>decide +kernel
theorem Su{d:Nat}(h:d<4):((toString (d:Int):String):ar)=⟨#[48+d]⟩:=by
 match d,h with
 |0,_|1,_|2,_|3,_=>decide +kernel
def qd(r c k:Nat):Nat:=2*(r/2^k%2)+c/2^k%2
theorem xS8(r c k:Nat):qd r c k<4:=by unfold qd;exact xE
theorem TR(r k:Nat):Builtin.bitAnd ((r:Int)/2^((k:Nat):Int).toNat) 1=((r/2^k%2:Nat):Int):=by
 rw[PyProof.Rows.bitAnd_m1,ZD];have e:((2:Int)^k)=((2^k:Nat):Int):=by simp
 rw[e];lia
theorem Ta(r c k:Nat):∀j,eB r c k j=(List.range j).map λi=>qd r c (k+j-1-i)
 |0=>rfl
 |j+1=>by
  rw[Vb,ZC,Yq];show qd r c (k+j)::eB r c k j=_;rw[Ta r c k j];congr 1;refine YF λi _=>?_;show qd r c (k+j-1-i)=qd r c (k+(j+1)-1-(i+1));congr 1;lia
theorem Bw{a:List Nat}{i d:Nat}(h:a[i]?=some d):a.take (i+1)=a.take i++[d]:=by rw[List.take_succ,h];rfl
theorem E8{f:Nat->Nat}{n i d:Nat}{a:List Nat}(h:a[i]?=some d)(g:a.length<=n):cT f n (a.take (i+1))=cT f n (a.take i)+2^(n-i-1)*f d:=by
 have e:=(cz h).1;have c:(a.take i).length=i:=by rw[XC];exact Io e
 rw[Bw h,TX f n _ _ (by lia),c];congr 1;obtain⟨k,b⟩:∃k,n-i=k+1:=⟨n-i-1,by lia⟩;rw[b];show 2^k*f d+cT f k []=_;have:cT f k []=0:=by cases k<;>rfl
 rw[this]
 rfl
theorem Ss{n i:Nat}(h:i<n):((2^(n-i):Nat):Int)/2=((2^(n-i-1):Nat):Int):=by
 have e:2^(n-i)=2^(n-i-1)*2:=by
  rw[<- YH];congr 1;lia
 rw[e];exact Ih
theorem zo{n:Nat}(h:n<=12):2^n<=4096:=XU (n:=2) (by decide) h
theorem xN2:aF ["n"] ["n"] (bJ zD):=cZ
inductive rQ(vs:List V)(H:Hp)(Q:VK):Prop
 |mk(n:Nat)(e0:vs=[.int (n:Nat)])(e1:n<=12)(e2:Q (.int ((2^n:Nat):Int)) H)
def Fs:Sp:=λa H Q _=>rQ a H Q
theorem Ka{f:af}{b:ak}(F:a_ K "side_of" "side_of" zD f b):aE P w K mg base aS 1 f b ["n"] Fs:=by
 refine F.ok xN2 (λc H Q E h=>?_) (λd A a s H c Q E g h=>?_)
 ·obtain⟨n,rfl,_⟩:=h
  rfl
 ·obtain⟨n,rfl,h1,q⟩:=h;refine⟨_,cR (cF (aO jl aK (pv 0))),?_⟩;refine⟨_,rfl,_,_,rfl,rfl,⟨by lia,by lia,by decide⟩,?_⟩;show Q (V.int (1*2^((n:Nat):Int).toNat)) H;rw[WX,ZD];have e:((2:Int)^n)=((2^n:Nat):Int):=by simp
  rw[e];exact q
theorem pE:aF ["n","thing"] ["n","thing"] (bJ Co):=cZ
inductive rW(vs:List V)(H:Hp)(Q:VK):Prop
 |mk(n:Nat)(ds:List Nat)(e0:vs=[.int (n:Nat),.str (txt ds)])(e1:n<=12)(e2:(∀d∈ds,d<4))(e3:ds.length<=n)(e4:∀H',aI H H'->Q (.bl true) H')
def ON:Sp:=λa H Q _=>rW a H Q
theorem xu9{f:af}{l:ak}(F:a_ K "is_address" "is_address" Co f l)(B:eF mg)(G:mg "str"=none):aE P w K mg base aS 2 f l ["n","thing"] ON:=by
 refine F.ok pE (λL H Q E h=>?_) (λR A g s H L Q E S h=>?_)
 ·obtain⟨n,x,rfl,_⟩:=h
  rfl
 ·obtain⟨n,a,rfl,Z,t,X,q⟩:=h;refine⟨_,cR (cF (nK (cB sv (by rfl) B.tG Z7 (aG (pv 1) (aG (si (v:=.ty "str") (by rfl) G PyProof.Rows.boot_str rfl) aP)))
   (nK (jn om (cB qE8 (by rfl) B.len YN (aG (pv 1) aP)) (pv 0) (cD _))
   (rn (cB (Jy rfl) (by rfl) B.all Vi (aG (rz ["n","thing"] (bJ Co) rfl rfl rfl pE.nd (KI (pv 1)) (λT C N M Y=>jn JE (pv 0) se (by first|exact cD _|rfl|decide))) aP)))))),?_⟩
  have U:(txt a).cps.size=a.length:=Kn a;refine⟨_,rfl,_,_,_,_,true,rfl,rfl,.inl (.str _),rfl,_,rfl,dw ?_⟩;refine⟨_,rfl,txt a,rfl,by rw[Gg];exact Xz (ow (by lia)),_,rfl,_,_,rfl,rfl,_,rfl,?_⟩;rw[Gg,Zt (by lia)];refine dw ?_;refine⟨_,rfl,txt a,rfl,λD u=>⟨λi m j k=>i<=a.length/\m=a.length-i/\j=(List.replicate i true).map V.bl/\k=upd H D (.lst j),⟨_,Zz _,rfl,rfl,rfl⟩,?_⟩⟩;rintro i m j k ⟨hi,rfl,rfl,rfl⟩;refine⟨bu,ow (by simp;lia),?_⟩;by_cases O:i=a.length
  ·refine .inl ⟨by show(txt a).cps.size<=i;lia,D,List.replicate i true,rfl,bu,?_⟩;have I:(List.replicate i true).all id=true:=by simp
   rw[I];exact q _ λb o e=>by rw[cN (dI e u)];exact e
  ·refine .inr ⟨show i<(txt a).cps.size by lia,?_⟩;rintro y W ⟨rfl,c,J,rfl⟩;obtain⟨d,p,rfl⟩:=KA J;refine⟨_,rfl,_,_,rfl,rfl,bu,a.length-(i+1),by lia,by lia,rfl,?_,xr0⟩;have r:(!(Builtin.Str.occurrences "0123" ⟨#[48+d]⟩ 0 ("0123":ar).length 1).isEmpty)=true:=xh5 (t d (Zv p));rw[r,List.replicate_succ',ZY]
   rfl
theorem xv0:aF ["n","address"] ["n","address"] (bJ FK):=cZ
inductive oX(vs:List V)(H:Hp)(Q:VK):Prop
 |mk(n:Nat)(ds:List Nat)(e0:vs=[.int (n:Nat),.str (txt ds)])(e1:n<=12)(e2:(∀d∈ds,d<4))(e3:ds.length<=n)(e4:∀H',aI H H'->Q .cu H')
def TQ:Sp:=λa H Q _=>oX a H Q
theorem xh6{f c:af}{d b:ak}(F:a_ K "want_address" "want_address" FK f d)(hA:mg "is_address"=some (.ref c))(FA:a_ K "is_address" "is_address" Co c b)(k:Binds K b ["n","thing"] [])(g:aE P w K mg base aS 2 c b ["n","thing"] ON):
  aE P w K mg base aS 3 f d ["n","address"] TQ:=by
 refine F.ok xv0 (λr H Q E h=>?_) (λu A a s H r Q E i h=>?_)
 ·obtain⟨n,x,rfl,_⟩:=h
  rfl
 ·obtain⟨n,p,rfl,t,j,l,q⟩:=h;refine⟨_,cR (dE (md (jm (bZ g i hA FA.kp k (aG (pv 0) (aG (pv 1) aP))))) wx dG),?_⟩;exact⟨_,rfl,_,rfl,n,p,rfl,t,j,l,λm e=>⟨_,rfl,bY (q m e)⟩⟩
theorem pB:aF ["n","row","column","side"] ["n","row","column"] (bJ EI):=cZ
inductive rV(vs:List V)(H:Hp)(Q:VK):Prop
 |mk(n:Nat)(r c:Int)(e0:vs=[.int (n:Nat),.int r,.int c])(e1:n<=12)(e2:Q (.bl (decide ((0<=r/\r<((2^n:Nat):Int))/\0<=c/\c<((2^n:Nat):Int)))) H)
def OM:Sp:=λa H Q _=>rV a H Q
theorem xv1{f p i:af}{D l t:ak}(F:a_ K "is_cell" "is_cell" EI f D)(B:eF mg)(u:mg "is_whole"=some (.ref p))(b:a_ K "is_whole" "is_whole" zJ p l)(C:Binds K l ["thing"] [])
  (I:mg "side_of"=some (.ref i)) (v:a_ K "side_of" "side_of" zD i t) (L:Binds K t ["n"] []):aE P w K mg base aS 2 f D ["n","row","column"] OM:=by
 have G:aE P w K mg base aS 1 p l ["thing"] Gi:=Kt b B;have J:aE P w K mg base aS 1 i t ["n"] Fs:=Ka v;refine F.ok pB (λM H Q E h=>?_) (λO A e s H M Q E d h=>?_)
 ·obtain⟨n,x,y,rfl,_⟩:=h
  rfl
 ·obtain⟨n,r,c,rfl,N,q⟩:=h;refine⟨_,gk (cg 3 pB.nd (bZ J d I v.kp L (aG (pv 0) aP)))
   (cR (cF (nK (bZ G d u b.kp C (aG (pv 1) aP))
    (nK (bZ G d u b.kp C (aG (pv 2) aP))
    (nK (Fi om iD aK (pv 1) (pv 3)) (rn (Fi om iD aK (pv 2) (pv 3)))))))),?_⟩
  refine⟨_,rfl,n,rfl,N,?_⟩;refine⟨_,rfl,r,rfl,_,rfl,dw ?_⟩;refine⟨_,rfl,c,rfl,_,rfl,dw ?_⟩;refine⟨_,rfl,_,_,rfl,rfl,_,rfl,?_⟩;generalize ((2^n:Nat):Int)=m at q ⊢;have a:Q (.bl ((decide (0<=r)&&decide (r<m))&&(decide (0<=c)&&decide (c<m)))) H:=by
   simpa only[Bool.decide_and]using q
  refine cw (λg=>⟨_,rfl,_,_,rfl,rfl,_,rfl,?_⟩) (λg=>⟨_,rfl,bY ?_⟩)
  ·rw[g,Bool.true_and]at a;refine cw (λk=>⟨_,rfl,_,_,rfl,rfl,_,rfl,?_⟩) (λk=>?_)
   ·rw[k,Bool.true_and]at a;refine cw (λj=>⟨_,rfl,_,_,rfl,rfl,?_⟩) (λj=>?_)
    ·rw[j,Bool.true_and]at a;exact a
    ·rw[Ye.mpr j,Wq]at a;exact a
   ·rw[Ye.mpr k,Wq]at a;exact a
  ·rw[Ye.mpr g,Wq,Wq]at a;exact a
theorem dm:aF ["n","address","row","column","side","figure"] ["n","address"] (bJ FJ):=cZ
abbrev gS(n:Nat)(a:List Nat):Nat:=cT (· / 2) n a
abbrev gX(n:Nat)(a:List Nat):Nat:=cT (·%2) n a
inductive o_(vs:List V)(H:Hp)(Q:VK):Prop
 |mk(n:Nat)(ds:List Nat)(e0:vs=[.int (n:Nat),.str (txt ds)])(e1:n<=12)(e2:(∀d∈ds,d<4))(e3:ds.length<=n)(e4:∀p,H p=none->Q (.ref p) (upd H p (.tup (vN [gS n ds,gX n ds,2^(n-ds.length)]))))
def Gf:Sp:=λa H Q _=>o_ a H Q
theorem xh7{f l:af}{I r:ak}(F:a_ K "box_at" "box_at" FJ f I)(B:eF mg)
  (R:mg "side_of"=some (.ref l)) (D:a_ K "side_of" "side_of" zD l r) (W:Binds K r ["n"] []):aE P w K mg base aS 2 f I ["n","address"] Gf:=by
 have U:aE P w K mg base aS 1 l r ["n"] Fs:=Ka D;refine F.ok dm (λY H Q E h=>?_) (λbO A j s H Y Q E M h=>?_)
 ·obtain⟨m,a,rfl,_⟩:=h
  rfl
 ·obtain⟨n,a,rfl,hn,N,y,q⟩:=h;refine⟨_,(gk (xt7 aK (c8 2 dm.nd) (c8 3 dm.nd))
   (gk (cg 4 dm.nd (bZ U M R D.kp W (aG (pv 0) aP)))
   (gk (pO Yx rfl (KI (pv 1)) (c8 5 dm.nd)
    (gk (cg 4 dm.nd (aO rq (pv 4) aK))
    (gk (O9 (i:=2) dm.nd rfl (Or.inl rfl) (aO gJ (pv 4) (aO rq (ki Tf (by rfl) B.int YX (aG (pv 5) aP)) aK)) R5)
    (cR (O9 (i:=3) dm.nd rfl (Or.inl rfl) (aO gJ (pv 4) (aO Cj (ki Tf (by rfl) B.int YX (aG (pv 5) aP)) aK)) R5)))))
   (cR (cF (fo (aG (pv 2) (aG (pv 3) (aG (pv 4) aP)))))))) ),?_⟩
  refine⟨_,rfl,n,rfl,hn,?_⟩;have J:∀g:Nat->Nat,cT g n []=0:=λg=>by cases n<;>rfl
  refine⟨_,rfl,txt a,rfl,TV (λi t k=>k=H/\∃v,t=[some (.int (n:Nat)),some (.str (txt a)),some (.int ((gS n (a.take i):Nat):Int)),some (.int ((gX n (a.take i):Nat):Int)),some (.int ((2^(n-i):Nat):Int)),v]) ⟨rfl,none,by
   rw[Ww];show _=[some (V.int (n:Nat)),some (.str (txt a)),some (.int ((cT (· / 2) n []:Nat):Int)),some (.int ((cT (·%2) n []:Nat):Int)),some (.int ((2^(n-0):Nat):Int)),none];rw[J,J]
   rfl⟩ ?_ ?_⟩
  ·rintro i c t k L ⟨rfl,v,rfl⟩;obtain⟨d,b,rfl⟩:=KA L;have hi:=(cz b).1;have G:d<4:=N d (Zv b);have h1:gS n (a.take (i+1))=gS n (a.take i)+2^(n-i-1)*(d/2):=E8 b y;have Z:gX n (a.take (i+1))=gX n (a.take i)+2^(n-i-1)*(d%2):=E8 b y;have C:=Ss (n:=n) (i:=i) (by lia);have X:2^(n-i-1)<=4096:=zo (by lia);have u:-(2^64)<((2^(n-i):Nat):Int)/2/\((2^(n-i):Nat):Int)/2<2^64:=by
    rw[C];generalize 2^(n-i-1)=x at X;lia
   refine⟨_,rfl,_,_,rfl,rfl,⟨by decide,by decide⟩,?_⟩;refine⟨_,rfl,_,rfl,_,rfl,_,d,rfl,TU G,(by show 1<=640;decide),_,_,rfl,rfl,⟨by decide,by decide⟩,_,_,rfl,rfl,.inl u,_,_,rfl,rfl,?_⟩;refine⟨_,rfl,_,rfl,_,rfl,_,d,rfl,TU G,(by show 1<=640;decide),_,_,rfl,rfl,_,_,rfl,rfl,.inl u,_,_,rfl,rfl,?_⟩;refine⟨rfl,some (.str ⟨#[48+d]⟩),?_⟩;rw[h1,Z];have T:((gS n (a.take i):Nat):Int)+((2^(n-i-1):Nat):Int)*((d:Int)/2)=((gS n (a.take i)+2^(n-i-1)*(d/2):Nat):Int):=by
    rw[YQ,Xx,Vp]
    rfl
   have S:((gX n (a.take i):Nat):Int)+((2^(n-i-1):Nat):Int)*Builtin.bitAnd (d:Int) 1=((gX n (a.take i)+2^(n-i-1)*(d%2):Nat):Int):=by
    rw[PyProof.Rows.bitAnd_m1,YQ,Xx,Vq]
    rfl
   rw[<- T,<- S,show n-(i+1)=n-i-1 from by lia,<- C]
   rfl
  ·rintro t k ⟨rfl,v,rfl⟩;refine⟨_,rfl,_,rfl,_,rfl,(by show 3<=sizeLine;decide),λp O=>?_⟩;have e:a.take (txt a).cps.size=a:=Yn (by simp[txt]);rw[e,Kn];exact q p O
end Pr
namespace Pr
open PySem L2 Qf
theorem TN(a b:List Nat):txt a++txt b=txt (a++b):=by
 show(⟨(txt a).cps++(txt b).cps⟩:ar)=_;simp[txt]
theorem xv2{a b:List Nat}(h:txt a=txt b):a=b:=by
 have c:(txt a).cps.toList=(txt b).cps.toList:=by rw[h]
 simp only[txt]at c;have:∀(l m:List Nat),l.map (48+·)=m.map (48+·)->l=m:=λl=>by
  induction l with
  |nil=>intro m e;cases m with
   |nil=>rfl
   |cons _ _=>simp at e
  |cons x l d=>intro m e;cases m with
   |nil=>simp at e
   |cons y m=>
    simp only[ZC,Xb]at e;rw[d m e.2,show x=y by lia]
 exact this a b c
theorem xh8{t:Tr}{f:List Nat}{i d:Nat}{a b c e:Tr}(j:f[i]?=some d)(h:(cO t (f.take i)).2=f.take i)(g:(cO t (f.take i)).1=.nd a b c e):(cO t (f.take (i+1))).1=qr d (.nd a b c e)/\(cO t (f.take (i+1))).2=f.take (i+1):=by
 rw[Bw j];rcases Gh t (f.take i) [d]with⟨_,k⟩|⟨z,_⟩
 ·rw[k,g];show(cO (qr d (.nd a b c e)) []).1=_/\_++d::(cO (qr d (.nd a b c e)) []).2=_;rw[ze];exact⟨rfl,rfl⟩
 ·rw[g]at z;rcases z with z|z<;>cases z
def vT(L:List (List Nat)):List V:=L.map λe=>V.str (txt e)
end Pr
namespace L2
open PySem PySem.Spec PyProof.Rows
section
variable{X:Cx}
theorem qM4(a:List Int):∀n,n<=a.length->preSum (λi=>a.getD i 0) n=(a.take n).sum:=by
 intro n
 induction n with
 |zero=>intro _;simp[preSum]
 |succ n c=>
  intro h;have b:n<a.length:=h;rw[preSum,c (Xz b),Vc b,List.sum_append];simp[List.getD,b]
inductive lj(xs:List V)(H:Hp)(Q:VK):Prop
 |mk(p:af)(ns:List Int)(aX:xs=[.ref p])(dQ:H p=some (.lst (ns.map V.int)))(cA:Q (.int ns.sum) H)
theorem Jt(hc:X.calm=true):fm X (.builtin "sum") lj:=by
 intro M s O H J K Q I r h;obtain⟨p,a,rfl,F,q⟩:=h;obtain⟨u,rfl,E⟩:=gI r;cases E;obtain⟨z,c,n,k,d⟩:=I.aT p _ F;have m:s.heap.IsList p c.toArray:=⟨_,d,rfl,_,rfl⟩;have j:c.length=a.length:=by have:=k.length;simpa using this.symm
 have G:p≠s.heap.objs.size:=Zp (Zi d);refine call_sum_walkAnyB (Xs m ?_);refine⟨s.heap.objs.size,_,_,_,_,_,_,λi=>a.getD i 0,rfl,(VY (A:=X.A.in1) (I.ok.hd hc) s.heap.objs.size p G c.toArray).toS,⟨⟨_,Zg _ rfl,rfl,rfl⟩,m.at λo e=>Zb _ e⟩,?_,?_,?_⟩
 ·intro b hb;rw[ZS];rcases Zu.mp hb with rfl|hb
  ·exact Yd _
  ·have:b=p:=by simpa using hb
   subst this;exact ZZ (Zi d)
 ·intro i v B;have f:c[i]?=some v:=by simpa using B
  have l:i<a.length:=by rw[<- j];exact(cz f).1
  obtain⟨L,g,t,C⟩:=k.get (x:=V.int (a[i])) (i:=i) (by simp[l]);rw[f]at g;cases g;exact .inl ⟨t,by rw[C];simp[List.getD,l]⟩
 ·intro N w D;have y:c.toArray.size=a.length:=by simpa using j
  refine⟨.int a.sum,H,zu I D λb o e hb=>?_,⟨w,?_⟩,q⟩
  ·have:b=s.heap.objs.size:=by simpa using hb
   exact Yc _ (by rw[this]at e;exact Zi e)
  ·rw[y,qM4 a _ (Ze _),WD]
end
end L2
namespace Qf
open Tr
def bK:Tr->Nat
 |.nd a b c d=>bK a+bK b+bK c+bK d
 |_=>1
def mI(rows:List Row)(i:Nat):List Nat:=1::1::(List.range i).map λp=>bK (T rows (p+2))
theorem xh9(rows:List Row)(i:Nat):(mI rows i).length=i+2:=by simp[mI]
theorem TM{rows:List Row}{i x:Nat}(h:x<i+2):(mI rows i)[x]?=some (bK (T rows x)):=by
 match x,h with
 |0,_=>rw[l7];rfl
 |1,_=>rw[l5];rfl
 |x+2,h=>
  show((List.range i).map λp=>bK (T rows (p+2)))[x]?=_;rw[Zf,Xy (nP h)]
  rfl
theorem q88{rows:List Row}(ok:fw rows){i:Nat}{r:Row}(h:rows[i]?=some r):mI rows (i+1)=mI rows i++[(r.map λx=>bK (T rows x)).sum]:=by
 obtain⟨a,b,c,d,rfl⟩:=zg (ok i r h).1;unfold mI;rw[Xa,ZY];show 1::1::(_++[bK (T rows (i+2))])=_;rw[lK ok h];show 1::1::(_++[bK (T rows a)+bK (T rows b)+bK (T rows c)+bK (T rows d)])=_;have:([a,b,c,d].map λx=>bK (T rows x)).sum=bK (T rows a)+bK (T rows b)+bK (T rows c)+bK (T rows d):=by simp;lia
 rw[this]
 rfl
theorem xv3(l:List Nat):(l.map λn:Nat=>(n:Int)).sum=((l.sum:Nat):Int):=by
 induction l with
 |nil=>rfl
 |cons a l b=>rw[ZC,X1,X1,b];lia
end Qf
namespace Pr
open PySem L2 Qf
abbrev V_:List ar:=["top","rows","counts","row"]
theorem rZ:aF V_ ["top","rows"] (bJ BC):=cZ
inductive A_(vs:List V)(H:Hp)(Q:VK):Prop
 |mk(p:af)(x:Nat)(rows:List Row)(e0:vs=[.int (x:Nat),.ref p])(e1:cM H p rows)(e2:fw rows)(e3:rows.length<=900)(e4:x<rows.length+2)(e5:∀H',aI H H'->Q (.int (bK (T rows x):Nat)) H')
def Ba:Sp:=λa H Q _=>A_ a H Q
theorem xS9{f:af}{U:ak}(F:a_ K "count_leaves" "count_leaves" BC f U)(wP:mg "sum"=none):aE P w K mg base aS 1 f U ["top","rows"] Ba:=by
 refine F.ok rZ (λvs H Q E h=>?_) (λbO A J s H vs Q E hr h=>?_)
 ·obtain⟨p,x,rows,rfl,_⟩:=h
  rfl
 ·obtain⟨p,x,rows,rfl,hR,ok,hn,k,q⟩:=h;refine⟨_,gk (cg 2 rZ.nd (jk (aG aK (aG aK aP))))
   (gk (pO Yx rfl (y_ (pv 1)) (c8 3 rZ.nd)
    (cR (ke (zF YI YZ Y0 wu (pv 2) (aG (cB (Jt rfl) (by rfl) wP Vl
     (aG (rz V_ (bJ BC) rfl rfl rfl rZ.nd (y_ (pv 3)) (λcl C fp aH aJ=>cb (zQ K rfl) (pv 3) (pv 0))) aP)) aP)))))
   (cR (cF (cb (zQ K rfl) (pv 2) (pv 0))))),?_⟩
  refine⟨(by show 2<=sizeLine;decide),λD L=>?_⟩;obtain⟨bs,S,j9,jE⟩:=id hR;have jY:=c9 (u:=.lst [.int 1,.int 1]) S L;have O:(bs.map V.ref).length=rows.length:=by rw[Zh];exact j9
  refine⟨_,rfl,p,rfl,⟨_,aZ.of jY⟩,Kh (K:=K) (a:=p) (xs:=bs.map V.ref) (λi B c=>aI H c/\c D=some (.lst (vN (mI rows i)))/\∃I,B=[some (.int (x:Nat)),some (.ref p),some (.ref D),I])
   ⟨bQ L,bu,none,rfl⟩ (λi B c _ ⟨g,_⟩=>aZ.of (g _ _ S)) ?_ ?_⟩
  ·rintro i y B c N ⟨g,d,I,rfl⟩;have W:i<rows.length:=by rw[<- O];exact(cz N).1
   rw[Zf]at N;obtain⟨b,hb,rfl⟩:=Zj.mp N;have t:rows[i]?=some rows[i]:=by simp[W]
   have M:=g _ _ (jE i b rows[i] hb t);have G:=ok i _ t;generalize rows[i]=r at t M G;refine⟨_,rfl,.inl ⟨rfl,_,cH.of d⟩,_,rfl,b,rfl,⟨_,aZ.of M⟩,λD2 vR=>uC vR (λj z _=>∃x,r[j]?=some x/\z=.int (bK (T rows x):Nat)) (zq (K:=K) M) (by rw[nJ,G.1];decide) (λ_ _ _ _ _ _ h=>h) ?_ ?_⟩
   ·intro j x Z hj k l Q' hq;obtain⟨m,v,rfl⟩:=wg k;have jA:=G.2 m (Zv v);exact⟨_,rfl,_,rfl,D,_,(m:Int),.int (bK (T rows m):Nat),rfl,rfl,cH.of (l _ _ d),B_ (TM jA),hq _ _ (aI.refl _) ⟨m,v,rfl⟩⟩
   ·intro R Z l X Y vC;have ey:R=(r.map λx=>bK (T rows x)).map (λn:Nat=>V.int (n:Int)):=by
     refine wo (by rw[Y,nJ,Zh,Zh]) λj x k=>?_;obtain⟨m,v,rfl⟩:=vC j x k;rw[Zf,Zf,v];rfl
    have e2:R=((r.map λx=>bK (T rows x)).map (λn:Nat=>(n:Int))).map V.int:=ey.trans (um _);refine⟨D2,(r.map λx=>bK (T rows x)).map (λn:Nat=>(n:Int)),rfl,e2▸X,?_⟩;rw[xv3];have jZ:=l _ _ d;refine⟨D,_,_,rfl,rfl,jZ,?_,?_⟩
    ·rw[nJ,xh9];exact ow (QI W hn)
    ·have nD:∀b o,H b=some o->b≠D:=λb o e=>dI e L;refine⟨λb o e=>by rw[cN (nD b o e)];exact l _ _ (g _ _ e),?_,_,rfl⟩;rw[bu,q88 ok t];unfold vN;rw[ZY]
     rfl
  ·rintro B c ⟨g,d,I,rfl⟩;rw[O]at d;exact⟨_,rfl,_,rfl,D,_,(x:Int),.int (bK (T rows x):Nat),rfl,rfl,cH.of d,B_ (TM k),q c g⟩
theorem Jf:aF ["shape","most"] ["shape","most"] (bJ Fy):=cZ
inductive Az(vs:List V)(H:Hp)(Q:VK):Prop
 |mk(t:af)(n tp m:Nat)(rows:List Row)(e0:vs=[.ref t,.int (m:Nat)])(e1:g7 H t n tp rows)(e2:bK (T rows tp)<=m)(e3:∀H',aI H H'->Q .cu H')
def AA:Sp:=λa H Q _=>Az a H Q
theorem xT0{f d:af}{g b:ak}(F:a_ K "want_leaves" "want_leaves" Fy f g)(C:mg "count_leaves"=some (.ref d))(x:a_ K "count_leaves" "count_leaves" BC d b)(j:Binds K b ["top","rows"] [])(r:aE P w K mg base aS 1 d b ["top","rows"] Ba):
  aE P w K mg base aS 2 f g ["shape","most"] AA:=by
 refine F.ok Jf (λB H Q E h=>?_) (λG A c s H B Q E k h=>?_)
 ·obtain⟨t,n,a,m,rows,rfl,_⟩:=h
  rfl
 ·obtain⟨t,n,a,m,rows,rfl,l,I,q⟩:=h;obtain⟨⟨p,e,u⟩,i,v⟩:=id l;refine gj ⟨_,⟨dE (c_ zG (bw.go ⟨bZ r k C x.kp j (aW.go (.cons ⟨cb cJ (pv 0) aK⟩ (.cons ⟨cb cJ (pv 0) aK⟩ .nil rfl) rfl))⟩) (pv 1) (cD _)) wx dG⟩,?_⟩;refine⟨_,rfl,t,_,1,.int (a:Nat),rfl,rfl,aZ.of e,rfl,_,rfl,t,_,2,.ref p,rfl,rfl,aZ.of e,rfl,p,a,rows,rfl,u,i.iL,v,i.oA,λy D=>?_⟩;refine⟨_,rfl,_,_,rfl,rfl,_,rfl,?_⟩;exact xQ6 (show ¬((m:Int)<(bK (T rows a):Nat)) by lia) (q y D)
theorem Ji:aF ["shape"] ["shape"] (bJ Gk):=cZ
inductive A8(vs:List V)(H:Hp)(Q:VK):Prop
 |mk(t:af)(n tp:Nat)(rows:List Row)(e0:vs=[.ref t])(e1:g7 H t n tp rows)(e2:bK (T rows tp)<=2000)(e3:∀H',aI H H'->Q .cu H')
def A9:Sp:=λa H Q _=>A8 a H Q
theorem xT1{f d:af}{e a:ak}(F:a_ K "want_coarse" "want_coarse" Gk f e)(b:∃t,mg "MOST_LEAVES"=some (.int 2000 t))(r:mg "want_leaves"=some (.ref d))(m:a_ K "want_leaves" "want_leaves" Fy d a)(i:Binds K a ["shape","most"] [])(l:aE P w K mg base aS 2 d a ["shape","most"] AA):
  aE P w K mg base aS 3 f e ["shape"] A9:=by
 obtain⟨y,b⟩:=b;refine F.ok Ji (λp H Q E h=>?_) (λx A c s H p Q E j h=>?_)
 ·obtain⟨t,n,g,rows,rfl,_⟩:=h
  rfl
 ·obtain⟨t,n,g,rows,rfl,k,u,q⟩:=h;refine⟨_,cR (ke (bZ l j r m.kp i (aG (pv 0) (aG (mf (v:=.int 2000) (by rfl) b ⟨_,rfl⟩) aP)))),?_⟩;exact⟨_,rfl,t,n,g,2000,rows,rfl,k,u,q⟩
end Pr
namespace Qf
open Tr
def ck:Tr->List (List Nat×Bool)
 |.z=>[([],false)]
 |.o=>[([],true)]
 |.nd a b c d=>(ck a).map (λe=>(0::e.1,e.2))++(ck b).map (λe=>(1::e.1,e.2))++(ck c).map (λe=>(2::e.1,e.2))++(ck d).map (λe=>(3::e.1,e.2))
def dW(ad:List Nat)(L:List (List Nat×Bool)):List (List Nat×Bool):=L.map λe=>(ad++e.1,e.2)
theorem ur:∀t:Tr,(ck t).length=bK t
 |.z=>rfl
 |.o=>rfl
 |.nd a b c d=>by
  show(_++_++_++_:List _).length=bK a+bK b+bK c+bK d;simp only[Zn,Zh];rw[ur a,ur b,ur c,ur d]
theorem xv4(ad:List Nat)(a b c d:Tr):dW ad (ck (.nd a b c d))=dW (ad++[0]) (ck a)++dW (ad++[1]) (ck b)++dW (ad++[2]) (ck c)++dW (ad++[3]) (ck d):=by
 show List.map _ (_++_++_++_)=_;unfold dW;simp only[ZY,Yq,Function.comp_def,Yg,List.singleton_append]
theorem xi0(ad:List Nat)(L:List (List Nat×Bool)):(dW ad L).length=L.length:=by unfold dW;rw[Zh]
theorem TL{f:Nat->Nat}(b:∀d,d<4->f d<=1):∀(a:List Nat)(n:Nat),(∀d∈a,d<4)->a.length<=n->∃q,cT f n a=2^(n-a.length)*q/\q<2^a.length
 |[],n,_,_=>⟨0,by cases n<;>rfl,by simp⟩
 |d::a,0,_,h=>by simp at h
 |d::a,n+1,g,h=>by
  have c:a.length<=n:=by simpa using h
  obtain⟨q,e,j⟩:=TL b a n (λx i=>g x (Zk _ i)) c;refine⟨2^a.length*f d+q,?_,?_⟩
  ·show 2^n*f d+cT f n a=2^(n+1-(a.length+1))*_;rw[e,Vk,Ws,<- Xi,<- Vx,Nat.sub_add_cancel c]
  ·have:=b d (g d (by simp));show _<2^(a.length+1);rw[YH];have k:2^a.length*f d<=2^a.length*1:=Nat.mul_le_mul_left _ this;lia
theorem zH{f:Nat->Nat}(c:∀d,d<4->f d<=1){a:List Nat}{n:Nat}(g:∀d∈a,d<4)(h:a.length<=n):cT f n a+2^(n-a.length)<=2^n:=by
 obtain⟨q,e,b⟩:=TL c a n g h;have i:2^n=2^(n-a.length)*2^a.length:=by rw[<- Vx,Nat.sub_add_cancel h]
 rw[e,i,<- Nat.mul_succ];exact Nat.mul_le_mul_left _ b
theorem J_:∀d,d<4->d/2<=1:=λd h=>by lia
theorem Kz:∀d,d<4->d%2<=1:=λd h=>by lia
end Qf
namespace Qf
open Tr L2
def sF(b:Bool):Tr:=if b then .o else .z
theorem mj{a b c d:Tr}{e:List Nat×Bool}:e∈ck (.nd a b c d)<->∃x l,x<4/\e.1=x::l/\(l,e.2)∈ck (qr x (.nd a b c d)):=by
 have key:∀(x:Nat)(t:Tr),e∈(ck t).map (λe=>(x::e.1,e.2))<->∃l,e.1=x::l/\(l,e.2)∈ck t:=λx t=>by
  rw[Yu];constructor
  ·rintro⟨f,g,rfl⟩;exact⟨f.1,rfl,g⟩
  ·rintro⟨l,h1,j⟩;exact⟨_,j,Prod.ext h1.symm rfl⟩
 show e∈_++_++_++_<->_;simp only[ZX,key];constructor
 ·rintro(((⟨l,h⟩|⟨l,h⟩)|⟨l,h⟩)|⟨l,h⟩)
  ·exact⟨0,l,by decide,h⟩
  ·exact⟨1,l,by decide,h⟩
  ·exact⟨2,l,by decide,h⟩
  ·exact⟨3,l,by decide,h⟩
 ·rintro⟨x,l,i,h⟩
  match x,i with
  |0,_=>exact .inl (.inl (.inl ⟨l,h⟩))
  |1,_=>exact .inl (.inl (.inr ⟨l,h⟩))
  |2,_=>exact .inl (.inr ⟨l,h⟩)
  |3,_=>exact .inr ⟨l,h⟩
theorem nI{x m:Nat}{a b c d:Tr}(e:x<4)(h:dep (.nd a b c d)<=m+1):dep (qr x (.nd a b c d))<=m:=OO e _ h
theorem pL:∀(m:Nat)(t:Tr)(e:List Nat×Bool),dep t<=m->e∈ck t->(∀d∈e.1,d<4)/\e.1.length<=m
 |m,.z,e,_,h=>by
  have:e=([],false):=by simpa[ck]using h
  subst this;exact⟨λd h=>(nomatch h),Zz _⟩
 |m,.o,e,_,h=>by
  have:e=([],true):=by simpa[ck]using h
  subst this;exact⟨λd h=>(nomatch h),Zz _⟩
 |0,.nd a b c d,e,f,h=>by rcases n8 f with z|z<;>cases z
 |m+1,.nd a b c d,e,f,h=>by
  obtain⟨x,l,g,h1,n⟩:=mj.mp h;obtain⟨k,j⟩:=pL m _ _ (nI g f) n;rw[h1];refine⟨λq i=>?_,by rw[Z4];exact Nat.succ_le_succ j⟩;rcases Zu.mp i with rfl|z
  ·exact g
  ·exact k q z
def lO(n:Nat)(ad:List Nat)(r c:Nat):Prop:=cT (· / 2) n ad<=r/\r<cT (· / 2) n ad+2^(n-ad.length)/\cT (·%2) n ad<=c/\c<cT (·%2) n ad+2^(n-ad.length)
theorem zd(f:Nat->Nat)(n:Nat):cT f n []=0:=by cases n<;>rfl
theorem S_(r m:Nat):r%2^(m+1)=2^m*(r/2^m%2)+r%2^m:=by
 rw[YH,Nat.mod_mul,Nat.add_comm]
theorem S9:∀(n:Nat)(t:Tr)(r c:Nat),dep t<=n->(∃a b,(a,b)∈ck t/\cO t (eB r c 0 n)=(sF b,a))/\∀a b,(a,b)∈ck t->(cO t (eB r c 0 n)=(sF b,a)<->lO n a (r%2^n) (c%2^n)):=by
 have plain:∀(d:Bool)(t:Tr),t=sF d->ck t=[([],d)]->∀n r c,(∃a b,(a,b)∈ck t/\cO t (eB r c 0 n)=(sF b,a))/\∀a b,(a,b)∈ck t->(cO t (eB r c 0 n)=(sF b,a)<->lO n a (r%2^n) (c%2^n)):=λd t E G n r c=>by
  have e:cO t (eB r c 0 n)=(sF d,[]):=by
   rw[Tb (by rw[E];cases d;exact .inl rfl;exact .inr rfl),E]
  refine⟨⟨[],d,by rw[G];simp,e⟩,λa b h=>?_⟩;rw[G]at h;have L:a=[]/\b=d:=by simpa using h
  obtain⟨rfl,rfl⟩:=L;refine⟨λ_=>?_,λ_=>e⟩;unfold lO;rw[zd,zd];have:=We r (XB (n:=n) (show 0<2 by decide));have:=We c (XB (n:=n) (show 0<2 by decide));simp;lia
 intro n
 induction n with
 |zero=>
  intro t r c g;rcases n8 g with rfl|rfl
  ·exact plain false _ rfl rfl _ _ _
  ·exact plain true _ rfl rfl _ _ _
 |succ m K=>
  intro t r c g;cases t with
  |z=>exact plain false _ rfl rfl _ _ _
  |o=>exact plain true _ rfl rfl _ _ _
  |nd p q s u=>
   have T:eB r c 0 (m+1)=(2*(r/2^m%2)+c/2^m%2)::eB r c 0 m:=by
    show(2*(r/2^(0+m)%2)+c/2^(0+m)%2)::eB r c 0 m=_;rw[WE]
   have O:cO (.nd p q s u) (eB r c 0 (m+1))=((cO (qr (2*(r/2^m%2)+c/2^m%2) (.nd p q s u)) (eB r c 0 m)).1,(2*(r/2^m%2)+c/2^m%2)::(cO (qr (2*(r/2^m%2)+c/2^m%2) (.nd p q s u)) (eB r c 0 m)).2):=by rw[T];rfl
   rw[O];have F:2*(r/2^m%2)+c/2^m%2<4:=by exact xE
   constructor
   ·obtain⟨⟨a,b,h1,i⟩,_⟩:=K _ r c (nI F g);refine⟨_::a,b,mj.mpr ⟨_,a,F,rfl,h1⟩,?_⟩;rw[i]
   ·intro a b h;obtain⟨x,l,J,rfl,i⟩:=mj.mp h;obtain⟨_,U⟩:=K (qr x (.nd p q s u)) r c (nI J g);have Q:=U l b i;obtain⟨H,I⟩:=pL m _ _ (nI J g) i;have Y:=zH J_ H I;have W:=zH Kz H I;have lr:=We r (XB (n:=m) (show 0<2 by decide));have X:=We c (XB (n:=m) (show 0<2 by decide));have y:lO (m+1) (x::l) (r%2^(m+1)) (c%2^(m+1))<->(r/2^m%2=x/2/\c/2^m%2=x%2)/\lO m l (r%2^m) (c%2^m):=by
     unfold lO;rw[S_ r m,S_ c m,show m+1-(x::l).length=m-l.length by simp];show(2^m*(x/2)+cT (· / 2) m l<=_/\_<2^m*(x/2)+cT (· / 2) m l+_/\2^m*(x%2)+cT (·%2) m l<=_/\_<2^m*(x%2)+cT (·%2) m l+_)<->_;generalize cT (· / 2) m l=A at *;generalize cT (·%2) m l=B at *;generalize 2^(m-l.length)=S at *;generalize r%2^m=R at *;generalize c%2^m=C at *;have P:r/2^m%2=0\/r/2^m%2=1:=by exact xu
     have k:c/2^m%2=0\/c/2^m%2=1:=by exact xu
     generalize r/2^m%2=ρ at *;generalize c/2^m%2=V at *;generalize 2^m=M at *;have N:x/2=0\/x/2=1:=by lia
     have j:x%2=0\/x%2=1:=by exact xu
     generalize x/2=Z at *;generalize x%2=X3 at *;rcases P with rfl|rfl<;>rcases k with rfl|rfl<;>rcases N with rfl|rfl<;>rcases j with rfl|rfl<;>simp only[Uv,V8,WE,true_and,UC,false_and,and_false,iff_false,reduceCtorEq,Nat.one_ne_zero,Nat.zero_ne_one,eq_self]<;>lia
    rw[y,<- Q];constructor
    ·intro e;have w:=Z9 Prod.fst e;have v:=Z9 Prod.snd e;obtain⟨f,D⟩:=List.cons.inj v;have f:2*(r/2^m%2)+c/2^m%2=x:=f;rw[f]at w D;exact⟨by lia,Prod.ext w D⟩
    ·rintro⟨w,v⟩;have f:2*(r/2^m%2)+c/2^m%2=x:=by lia
     rw[f,v]
def nX(t:Tr)(n r c:Nat):List Nat:=(cO t (eB r c 0 n)).2
theorem xv5{n:Nat}{t:Tr}{r c:Nat}(f:dep t<=n)(g:r<2^n)(hc:c<2^n):∃b,(nX t n r c,b)∈ck t/\(cO t (eB r c 0 n)).1=sF b/\lO n (nX t n r c) r c:=by
 obtain⟨⟨d,b,h1,a⟩,h⟩:=S9 n t r c f;have e:nX t n r c=d:=by unfold nX;rw[a]
 refine⟨b,by rw[e];exact h1,by rw[a],?_⟩;rw[e];have:=(h d b h1).mp a
 rwa [X9 g,X9 hc]at this
theorem J9{n:Nat}{t:Tr}{r c:Nat}{ad:List Nat}{b:Bool}(d:dep t<=n)(e:r<2^n)(hc:c<2^n)(h:(ad,b)∈ck t)(a:lO n ad r c):nX t n r c=ad/\(cO t (eB r c 0 n)).1=sF b:=by
 have:=((S9 n t r c d).2 ad b h).mpr (by rw[X9 e,X9 hc];exact a);unfold nX;rw[this];exact⟨rfl,rfl⟩
theorem Bv:∀t:Tr,((ck t).map (·.1)).Pairwise (·<·)
 |.z=>WY _ _
 |.o=>WY _ _
 |.nd a b c d=>by
  have one:∀(x:Nat)(t:Tr),((ck t).map (·.1)).Pairwise (·<·)->(((ck t).map (λe=>(x::e.1,e.2))).map (·.1)).Pairwise (·<·):=λx t h=>by
   rw[Yq,Ug]at *;exact h.imp λ{u v} z=>by
    show x::u.1<x::v.1;rw[Z1];exact .inr ⟨rfl,z⟩
  have i:∀{x y:Nat}{s t:Tr}{u v:List Nat},x<y->u∈((ck s).map (λe=>(x::e.1,e.2))).map (·.1)->v∈((ck t).map (λe=>(y::e.1,e.2))).map (·.1)->u<v:=λ{x y s t u v} h g j=>by
   rw[Yq]at g j;obtain⟨e,_,rfl⟩:=Yu.mp g;obtain⟨f,_,rfl⟩:=Yu.mp j;show x::e.1<y::f.1;rw[Z1];exact .inl h
  show((_++_++_++_:List _).map _).Pairwise _;rw[ZY,ZY,ZY];refine Y7.mpr ⟨Y7.mpr ⟨Y7.mpr ⟨one 0 a (Bv a),one 1 b (Bv b),λu g v j=>i (by decide) g j⟩,one 2 c (Bv c),λu g v j=>?_⟩,one 3 d (Bv d),λu g v j=>?_⟩
  ·rcases ZX.mp g with g|g
   ·exact i (by decide) g j
   ·exact i (by decide) g j
  ·rcases ZX.mp g with g|g
   ·rcases ZX.mp g with g|g
    ·exact i (by decide) g j
    ·exact i (by decide) g j
   ·exact i (by decide) g j
theorem OL:∀{l m:List (List Nat)},l.Pairwise (·<·)->m.Pairwise (·<·)->(∀x,x∈l<->x∈m)->l=m
 |[],[],_,_,_=>rfl
 |[],y::m,_,_,h=>absurd ((h y).mpr (by simp)) (by simp)
 |x::l,[],_,_,h=>absurd ((h x).mp (by simp)) (by simp)
 |x::l,y::m,i,j,h=>by
  obtain⟨c,f⟩:=XF.mp i;obtain⟨d,g⟩:=XF.mp j;have e:x=y:=by
   rcases Zu.mp ((h x).mp (by simp))with z|z
   ·exact z
   ·rcases Zu.mp ((h y).mpr (by simp))with b|b
    ·exact b.symm
    ·exact absurd (List.lt_trans (d x z) (c y b)) (Wb _)
  subst e;rw[OL f g λz=>?_];constructor
  ·intro a;rcases Zu.mp ((h z).mp (by simp[a]))with e|e
   ·subst e;exact absurd (c z a) (Wb _)
   ·exact e
  ·intro a;rcases Zu.mp ((h z).mpr (by simp[a]))with e|e
   ·subst e;exact absurd (d z a) (Wb _)
   ·exact e
def fZ(i:Int):Int:=if i<0 then -i else i
def dr(i j:Int):Int:=if j>i then j else i
def dst(r c a b:Nat):Int:=dr (fZ ((a:Int)-r)) (fZ ((b:Int)-c))
def i7(x y z:Int):List (List Int):=[[x],[y],[z]]
theorem Bu{x y z a b c:Int}:i7 x y z<i7 a b c<->x<a\/x=a/\(y<b\/y=b/\z<c):=by
 unfold i7;simp[Z1]
theorem Sr{x y z a b c:Int}(h:i7 x y z=i7 a b c):x=a/\y=b/\z=c:=by
 unfold i7 at h;simpa using h
def de(n r c:Nat)(ad:List Nat):Int:=best [0,(cT (· / 2) n ad:Nat)-(r:Int),(cT (·%2) n ad:Nat)-(c:Int),1-((2^(n-ad.length):Nat):Int)-((cT (· / 2) n ad:Nat)-(r:Int)),1-((2^(n-ad.length):Nat):Int)-((cT (·%2) n ad:Nat)-(c:Int))] 4
def zO(n r c:Nat)(ad:List Nat):Int:=dr (cT (· / 2) n ad:Nat) ((r:Int)-de n r c ad)
def zP(n r c:Nat)(ad:List Nat):Int:=dr (cT (·%2) n ad:Nat) ((c:Int)-de n r c ad)
def kF(n r c:Nat)(ad:List Nat):List (List Int):=i7 (de n r c ad) (zO n r c ad) (zP n r c ad)
def kC(r c a b:Nat):List (List Int):=i7 (dst r c a b) a b
theorem xT2(a b c d e:Int):(a<=best [a,b,c,d,e] 4/\b<=best [a,b,c,d,e] 4/\c<=best [a,b,c,d,e] 4/\d<=best [a,b,c,d,e] 4/\e<=best [a,b,c,d,e] 4)/\(best [a,b,c,d,e] 4=a\/best [a,b,c,d,e] 4=b\/best [a,b,c,d,e] 4=c\/best [a,b,c,d,e] 4=d\/best [a,b,c,d,e] 4=e):=by
 have n:best [a,b,c,d,e] 0=a:=rfl;have step:∀k x,[a,b,c,d,e].getD (k+1) 0=x->(best [a,b,c,d,e] k<=best [a,b,c,d,e] (k+1)/\x<=best [a,b,c,d,e] (k+1))/\(best [a,b,c,d,e] (k+1)=best [a,b,c,d,e] k\/best [a,b,c,d,e] (k+1)=x):=λk x h=>by
  have:best [a,b,c,d,e] (k+1)=if x>best [a,b,c,d,e] k then x else best [a,b,c,d,e] k:=by rw[<- h];rfl
  rw[this];by_cases z:x>best [a,b,c,d,e] k
  ·rw[Zx z];exact⟨⟨by lia,Rw⟩,.inr rfl⟩
  ·rw[Zl z];exact⟨⟨Rw,by lia⟩,.inl rfl⟩
 have i:=step 0 b rfl;have j:=step 1 c rfl;have g:=step 2 d rfl;have f:=step 3 e rfl;simp only[Nat.reduceAdd]at i j g f;rw[n]at i;have l:=Xl g.1.1 f.1.1;have m:=Xl j.1.1 l;refine⟨⟨Xl i.1.1 m,Xl i.1.2 m,Xl j.1.2 l,Xl g.1.2 f.1.1,f.1.2⟩,?_⟩;rcases f.2 with h|h
 ·rw[h];clear f;rcases g.2 with h|h
  ·rw[h];clear g;rcases j.2 with h|h
   ·rw[h];exact i.2.imp_right .inl
   ·exact .inr (.inr (.inl h))
  ·exact .inr (.inr (.inr (.inl h)))
 ·exact .inr (.inr (.inr (.inr h)))
theorem pK(i j:Int):i<=dr i j/\j<=dr i j/\(dr i j=i\/dr i j=j):=by
 unfold dr;split
 ·exact⟨by lia,Wx _,.inr rfl⟩
 ·exact⟨Wx _,by lia,.inl rfl⟩
theorem Ky{i f:Int}:fZ i<=f<->i<=f/\-i<=f:=by
 unfold fZ;split<;>lia
theorem dh{r c a b:Nat}{f:Int}:dst r c a b<=f<->(a:Int)-r<=f/\(r:Int)-a<=f/\(b:Int)-c<=f/\(c:Int)-b<=f:=by
 unfold dst;obtain⟨h1,g,d⟩:=pK (fZ ((a:Int)-r)) (fZ ((b:Int)-c));have e:dr (fZ ((a:Int)-r)) (fZ ((b:Int)-c))<=f<->fZ ((a:Int)-r)<=f/\fZ ((b:Int)-c)<=f:=⟨λh=>⟨Xl h1 h,Xl g h⟩,λh=>by rcases d with e|e<;>rw[e];exact h.1;exact h.2⟩;rw[e,Ky,Ky];clear h1 g d e;lia
theorem Kx{n r c:Nat}{ad:List Nat}(h:∀d∈ad,d<4)(M:ad.length<=n)(W:r<2^n)(hc:c<2^n):
  (∃a b:Nat,lO n ad a b/\a<2^n/\b<2^n/\kF n r c ad=kC r c a b)/\∀a b,lO n ad a b->¬kC r c a b<kF n r c ad:=by
 have K:=zH J_ h M;have t:=zH Kz h M;have Y:0<2^(n-ad.length):=XB (by decide);unfold kF kC zO zP lO;have hb:=xT2 0 ((cT (· / 2) n ad:Nat)-(r:Int)) ((cT (·%2) n ad:Nat)-(c:Int)) (1-((2^(n-ad.length):Nat):Int)-((cT (· / 2) n ad:Nat)-(r:Int))) (1-((2^(n-ad.length):Nat):Int)-((cT (·%2) n ad:Nat)-(c:Int)));change (_<=de n r c ad/\_<=de n r c ad/\_<=de n r c ad/\_<=de n r c ad/\_<=de n r c ad)/\(de n r c ad=_\/de n r c ad=_\/de n r c ad=_\/de n r c ad=_\/de n r c ad=_)at hb;generalize de n r c ad=f at *;generalize cT (· / 2) n ad=A at *;generalize cT (·%2) n ad=B at *;generalize 2^(n-ad.length)=S at *;generalize 2^n=N at *;obtain⟨⟨F,P,E,H,L⟩,hb⟩:=hb;obtain⟨p,v,i⟩:=pK A ((r:Int)-f);obtain⟨k,s,k3⟩:=pK B ((c:Int)-f);generalize dr A ((r:Int)-f)=R at *;generalize dr B ((c:Int)-f)=C at *;have g:∀a b:Nat,A<=a->a<A+S->B<=b->b<B+S->f<=dst r c a b:=λa b h1 D u h=>by
  obtain⟨q,l,m,j⟩:=dh.mp (Wx (dst r c a b));generalize dst r c a b=d at q l m j ⊢;clear p v i k s k3 F P E H L K t;rcases hb with e|e|e|e|e
  ·lia
  ·exact P8 e h1 q
  ·exact P8 e u m
  ·exact P7 D e l
  ·exact P7 h e j
 clear hb;constructor
 ·have U:R<(A:Int)+S:=by rcases i with e|e<;>lia
  obtain⟨x,rfl⟩:∃x:Nat,R=x:=⟨R.toNat,Qb p⟩;obtain⟨y,rfl⟩:∃y:Nat,C=y:=⟨C.toNat,Qb k⟩;have G:A<=x:=by exact Oj p
  have J:x<A+S:=by exact P_ U
  have O:B<=y:=by exact Oj k
  have w:y<B+S:=by lia
  have Q:=g x y G J O w;have X:dst r c x y<=f:=dh.mpr ⟨by rcases i with e|e<;>lia,QY v,by rcases k3 with e|e<;>lia,QY s⟩;refine⟨x,y,⟨G,J,O,w⟩,by lia,qh w t,?_⟩;rw[show dst r c x y=f by lia]
 ·rintro a b ⟨h1,D,u,h⟩ z;have Q:=g a b h1 D u h;clear g;rw[Bu]at z;obtain⟨q,l,m,j⟩:=dh.mp (Wx (dst r c a b));generalize dst r c a b=d at *;have I:d=f/\((a:Int)<R\/(a:Int)=R/\(b:Int)<C):=by
   rcases z with z|z
   ·lia
   ·exact z
  obtain⟨rfl,I⟩:=I;have T:R<=(a:Int):=by rcases i with e|e<;>lia
  have V:C<=(b:Int):=by rcases k3 with e|e<;>lia
  clear p v i k s k3 F P E H L K t q l m j;lia
end Qf
namespace L2
open PySem PySem.Spec PyProof.Rows
theorem S8{K:PySem.W.Frag}{a:af}{xs:List V}{g:TG}{tb:TS}{D:Ends}{σ:St}{H:Hp}(Pv:Nat->St->Hp->Prop)(r:∀i σ h,Pv i σ h->h a=some (.tup xs))(h0:Pv 0 σ H)
  (hs:∀i x σ H p,xs[i]?=some x->Pv i σ H->H p=none->g (.ref p) σ (upd H p (.tup [.int i,x])) λk h=>tb {D with nx:=Pv (i+1),ct:=Pv (i+1),bk:=D.nx} k h) (s:∀σ H,Pv xs.length σ H->D.nx σ H):
  ∃W:Nat->Nat->St->Hp->Prop,(∃m,W 0 m σ H)/\∀i m σ H,W i m σ H ->
   ((Al K a).stop i H/\D.nx σ H)\/((Al K a).go i H/\∃N:St->Hp->Prop,(∀d f,N d f->∃n,n<m/\W (i+1) n d f)/\∀x f,(Al K a).iI i H x f->g x σ f λk h=>tb {D with nx:=N,ct:=N,bk:=D.nx} k h):=by
 refine⟨λi m σ H=>m=xs.length-i/\i<=xs.length/\Pv i σ H,⟨xs.length,by simp,Zz _,h0⟩,?_⟩;rintro i m σ H ⟨rfl,A,p⟩;have l:aZ K H a xs:=aZ.of (r i σ H p);by_cases j:i<xs.length
 ·refine .inr ⟨⟨xs,xs[i],l,by simp[j]⟩,Pv (i+1),λd f t=>⟨xs.length-(i+1),nQ j,rfl,j,t⟩,λx f y=>?_⟩;obtain⟨b,c,w,u,v,q⟩:=y;subst v q;exact hs i c σ _ b (u xs l) p w
 ·have e:i=xs.length:=by exact mn A j
  subst e;exact .inl ⟨⟨xs,l,Ze _⟩,s σ H p⟩
end L2
namespace Pr
open PySem L2 Qf
theorem iM{f:St->Hp->Prop}{σ σ':St}{H:Hp}(e:σ=σ')(h:f σ' H):f σ H:=by rw[e];exact h
def oI(H:Hp)(a:af)(L:List (List Nat×Bool)):Prop:=∃bs:List af,H a=some (.lst (bs.map V.ref))/\bs.length=L.length/\∀(i:Nat) b e,bs[i]?=some b->L[i]?=some e->H b=some (.tup [.str (txt e.1),.bl e.2])
theorem oI.same{H a:Hp}{c:af}{L:List (List Nat×Bool)}(h:oI H c L)(s:aI H a):oI a c L:=by
 obtain⟨bs,g,h1,j⟩:=h;exact⟨bs,s _ _ g,h1,λi b e f d=>s _ _ (j i b e f d)⟩
theorem oI.push{H:Hp}{d k:af}{L:List (List Nat×Bool)}{e:List Nat×Bool}{bs:List af}(h0:H d=some (.lst (bs.map V.ref)))(h1:bs.length=L.length)(n:∀(i:Nat) b e,bs[i]?=some b->L[i]?=some e->H b=some (.tup [.str (txt e.1),.bl e.2]))(h:H k=none):
  oI (upd (upd H k (.tup [.str (txt e.1),.bl e.2])) d (.lst (bs.map V.ref++[.ref k]))) d (L++[e]):=by
 have l:d≠k:=dI h0 h;refine⟨bs++[k],by rw[bu,ZY];rfl,by rw[Zn,Zn,h1];rfl,λi b x c a=>?_⟩;by_cases f:i<bs.length
 ·rw[Zw f]at c;rw[Zw (nN f h1)]at a;have z:=n i b x c a;rw[cN (λw=>by rw[w,h0]at z;cases z),cN (dI z h)];exact z
 ·have g:=(cz c).1;rw[Zn]at g;have p:i=bs.length:=by simp at g;exact xk g f
  subst p;rw[h1]at a;have m:b=k:=by simpa using c.symm
  have j:x=e:=by simpa using a.symm
  subst m;subst j;rw[cN l.symm,bu]
abbrev nGL:List ar:=["rows","number","address","leaves","at","quarter"]
abbrev pW:List ar:=["rows","number","address","leaves"]
theorem rY:aF nGL pW (bJ E_):=cZ
inductive AZ(d:Nat)(vs:List V)(H:Hp)(Q:VK):Prop
 |mk(rp lp:af)(x:Nat)(ad:List Nat)(L:List (List Nat×Bool))(rows:List Row)(e0:vs=[.ref rp,.int (x:Nat),.str (txt ad),.ref lp])(e1:cM H rp rows)(e2:fw rows)(e3:x<rows.length+2)(e4:Tr.dep (T rows x)<=d)(e5:oI H lp L)(e6:ad.length+d<=100)(e7:L.length+bK (T rows x)<=100000)(e8:∀(H':Hp),cf lp H H'->oI H' lp (L++dW ad (ck (T rows x)))->Q .cu H')
def vn(d:Nat):Sp:=λa H Q _=>AZ d a H Q
theorem xT3{f:af}{fd:ak}(F:a_ K "gather_leaves" "gather_leaves" E_ f fd)(Tc:uY mg)(jS:mg "str"=none)(MD:mg "enumerate"=none)(Z:∃t,mg "FULL"=some (.int 1 t))(hG:mg "gather_leaves"=some (.ref f))(bG:Binds K fd pW []):∀d,aE P w K mg base aS (d+1) f fd pW (vn d):=by
 obtain⟨tf,MB⟩:=Tc.first;obtain⟨tu,Z⟩:=Z;have l:∀{x c k:Nat}{a:List Nat}{L:List (List Nat×Bool)}{rows:List Row}{H:Hp}{Q:VK}{bs:List af},x<2->H k=none->H c=some (.lst (bs.map V.ref))->bs.length=L.length->(∀(i:Nat) b e,bs[i]?=some b->L[i]?=some e->H b=some (.tup [.str (txt e.1),.bl e.2])) ->
   (∀(H':Hp),cf c H H'->oI H' c (L++dW a (ck (T rows x)))->Q .cu H')->Q .cu (upd (upd H k (.tup [.str (txt a),.bl (decide (V.int (x:Nat)=V.int 1))])) c (.lst (bs.map V.ref++[.ref k]))):=λ{x c k a L rows H Q bs} J I j h1 S q=>by
  refine q _ (λb o e ne=>by rw[cN ne,cN (dI e I)];exact e) ?_;have e:dW a (ck (T rows x))=[(a,decide (V.int (x:Nat)=V.int 1))]:=by
   have:x=0\/x=1:=by exact Rj J
   rcases this with rfl|rfl
   ·rw[l7];show[(a++[],false)]=_;rw[Yo];rfl
   ·rw[l5];show[(a++[],true)]=_;rw[Yo];rfl
  rw[e];exact oI.push (e:=(a,decide (V.int (x:Nat)=V.int 1))) j h1 S I
 intro d
 induction d with
 |zero=>
  refine F.ok rY (λvs H Q E h=>?_) (λbO A M s H vs Q E hr h=>?_)
  ·obtain⟨N,c,x,a,L,rows,rfl,_⟩:=h
   rfl
  ·obtain⟨N,c,x,a,L,rows,rfl,hR,ok,G,hd,vG,v0,hL,q⟩:=h;have J:x<2:=by
    rcases n8 hd with z|z
    ·have:=(TY ok G).1.mp z;lia
    ·have:=(TY ok G).2.mp z;lia
   obtain⟨bs,j,h1,S⟩:=vG;refine aQ ⟨_,⟨dE (c_ iD (pv 1) (mf (v:=.int 2) (by rfl) MB ⟨_,rfl⟩) (cD _)) (gG.go (.cons ⟨ke (zF YI YZ Y0 wu (pv 3) (aG (bw.go ⟨fo (aG (pv 2) (aG (jn nG (pv 1) (mf (v:=.int 1) (by rfl) Z ⟨_,rfl⟩) (cD _)) aP))⟩) aP))⟩ (.one ⟨Gq⟩))) dG⟩,?_⟩;refine⟨_,wx,?_⟩;refine⟨_,rfl,_,_,rfl,rfl,_,rfl,?_⟩;refine P6 (show(x:Int)<2 from Q9 J) ?_;refine⟨_,rfl,.inl ⟨rfl,_,cH.of j⟩,_,rfl,_,rfl,rfl,(by show 2<=sizeLine;decide),λk I=>⟨c,_,_,rfl,rfl,c9 j I,?_,l J I j h1 S q⟩⟩;rw[Zh,h1];exact pN (QJ hL)
 |succ d ih=>
  refine F.ok rY (λvs H Q E h=>?_) (λbO A M s H vs Q E hr h=>?_)
  ·obtain⟨N,c,x,a,L,rows,rfl,_⟩:=h
   rfl
  ·obtain⟨N,c,x,a,L,rows,rfl,hR,ok,G,hd,vG,v0,hL,q⟩:=h;obtain⟨bs,j,h1,S⟩:=id vG;refine aQ ⟨_,⟨dE (c_ iD (pv 1) (mf (v:=.int 2) (by rfl) MB ⟨_,rfl⟩) (cD _)) (gG.go (.cons ⟨ke (zF YI YZ Y0 wu (pv 3) (aG (bw.go ⟨fo (aG (pv 2) (aG (jn nG (pv 1) (mf (v:=.int 1) (by rfl) Z ⟨_,rfl⟩) (cD _)) aP))⟩) aP))⟩ (.one ⟨Gq⟩))) dG⟩,?_⟩;refine gj ⟨_,⟨pO Yx rfl (Kv (by rfl) MD (aG (bw.go ⟨cb cJ (pv 0) (aO c6 (pv 1) (mf (v:=.int 2) (by rfl) MB ⟨_,rfl⟩))⟩) aP)) (l_ rfl (dz (c8 4 rY.nd) (dz (c8 5 rY.nd) lM)))
    (gG.go (.one ⟨ke (bZ ih hr hG F.kp bG (aW.go (.cons ⟨pv 0⟩ (.cons ⟨pv 5⟩ (.cons ⟨aO JK (pv 2) (bw.go ⟨ki qE4 (by rfl) jS PyProof.Rows.boot_str (aG (pv 4) aP)⟩)⟩ (.cons ⟨pv 3⟩ .nil rfl) rfl) rfl) rfl)))⟩))⟩,?_⟩
   refine⟨_,rfl,_,_,rfl,rfl,_,rfl,?_⟩;refine cw (λhc=>?_) (λhc=>?_)
   ·have J:x<2:=by have:=ZG hc;lia
    refine⟨_,rfl,.inl ⟨rfl,_,cH.of j⟩,_,rfl,_,rfl,rfl,(by show 2<=sizeLine;decide),λk I=>⟨c,_,_,rfl,rfl,c9 j I,?_,l J I j h1 S q⟩⟩;rw[Zh,h1];exact pN (QJ hL)
   ·have J:¬x<2:=λz=>hc (Zt (by lia));obtain⟨g,r,D,B,C,rfl,U⟩:=pM ok G J;have eT:T rows (g+2)=.nd (T rows r) (T rows D) (T rows B) (T rows C):=lK ok U;obtain⟨rs,Dm,jV,jE⟩:=id hR;have LZ:=(cz U).1;have vQ:rs[g]?=some (rs[g]'(i5 jV G)):=Zd (i5 jV G);have wG:=jE g _ _ vQ U;generalize rs[g]'(i5 jV G)=ra at vQ wG
    let pt:Nat->List (List Nat×Bool):=λk=>dW (a++[k]) (ck (T rows ([r,D,B,C].getD k 0)))
    have eP:dW a (ck (T rows (g+2)))=(List.range 4).flatMap pt:=by
     rw[eT,xv4];show _=pt 0++(pt 1++(pt 2++(pt 3++[])));rw[Yo,Yg,Yg]
     rfl
    have vU:∀i,i<=4->((List.range i).flatMap pt).length+(if i<4 then bK (T rows ([r,D,B,C].getD i 0))else 0)<=bK (T rows (g+2)):=λi hi=>by
     have Y:∀k,(pt k).length=bK (T rows ([r,D,B,C].getD k 0)):=λk=>by rw[xi0,ur]
     have en:bK (T rows (g+2))=bK (T rows r)+bK (T rows D)+bK (T rows B)+bK (T rows C):=by rw[eT];rfl
     have q0:=Y 0;have q1:=Y 1;have q2:=Y 2;have q3:=Y 3;simp only[List.getD_cons_zero,List.getD_cons_succ]at q0 q1 q2 q3
     match i,hi with
     |0,_=>show 0+bK (T rows r)<=_;lia
     |1,_=>show(pt 0++[]).length+bK (T rows D)<=_;rw[Zn];simp only[WK];lia
     |2,_=>show(pt 0++(pt 1++[])).length+bK (T rows B)<=_;simp only[Zn,WK];lia
     |3,_=>show(pt 0++(pt 1++(pt 2++[]))).length+bK (T rows C)<=_;simp only[Zn,WK];lia
     |4,_=>show(pt 0++(pt 1++(pt 2++(pt 3++[])))).length+0<=_;simp only[Zn,WK];lia
    rw[eP]at q;refine⟨_,rfl,_,rfl,_,_,rfl,rfl,N,_,((g:Nat):Int),.ref ra,rfl,Z9 V.int Iz,aZ.of Dm,uw (by rw[Zf,vQ];rfl),ra,rfl,⟨_,aZ.of wG⟩,S8 (K:=K) (xs:=vN [r,D,B,C]) (λi W n=>cf c H n/\oI n c (L++(List.range i).flatMap pt)/\Ex2 (λv4 v5=>[some (.ref N),some (.int ((g+2:Nat):Int)),some (.str (txt a)),some (.ref c),v4,v5]) W)
     (λi W n ⟨R,_⟩=>R.b_ j (λu z=>nomatch z) _ _ wG) ⟨cf.refl _ _,by simpa using vG,none,none,rfl⟩ ?_ ?_⟩
    ·rintro i y W n p hy ⟨R,jQ,v4,v5,rfl⟩ vE;obtain⟨m,X,rfl⟩:=wg hy;have O:i<4:=(cz X).1;have T2:gz H n:=R.b_ j (λu z=>nomatch z);have em:[r,D,B,C].getD i 0=m:=by rw[ZA,X];rfl
     have Ms:=vU i (xx O);rw[Zx O,em]at Ms;have s3:=bQ (o:=.tup [V.int (i:Nat),V.int (m:Nat)]) vE;have DI:=jQ.same s3;have B3:cf c H (upd n p (.tup [V.int (i:Nat),V.int (m:Nat)])):=R.trans (cf.of s3);have Df:upd n p (.tup [V.int (i:Nat),V.int (m:Nat)]) p=some (.tup [V.int (i:Nat),V.int (m:Nat)]):=bu;generalize upd n p (.tup [V.int (i:Nat),V.int (m:Nat)])=H3 at s3 DI B3 Df ⊢;have T3:gz H H3:=B3.b_ j (λu z=>nomatch z);have hkl:m<rows.length+2:=by
      have:=(ok g _ U).2 m (Zv X);exact nW this G
     have hTk:=yn ok U O X;refine⟨p,_,rfl,aZ.of Df,rfl,_,_,rfl,_,_,rfl,rfl,?_⟩;refine iM (σ':=[some (.ref N),some (.int ((g+2:Nat):Int)),some (.str (txt a)),some (.ref c),some (.int (i:Nat)),some (.int (m:Nat))]) rfl ?_;refine zK λkf DK=>?_;refine⟨_,rfl,_,rfl,_,rfl,_,rfl,(i:Int),rfl,?_,_,_,rfl,rfl,?_,_,rfl,?_⟩
     ·match i,O with
      |0,_|1,_|2,_|3,_=>decide +kernel
     ·rw[Su O,Gg];show a.length+1<=sizeLine;exact Xz (ow (by lia))
     ·rw[Su O];refine⟨N,c,m,a++[i],L++(List.range i).flatMap pt,rows,?_,hR.mono T3,ok,hkl,?_,DI,?_,?_,λH4 B4 zV=>?_⟩
      ·rw[<- TN];rfl
      ·rw[hTk];exact OO O _ hd
      ·rw[Zn];show a.length+1+d<=100;exact Ik v0
      ·rw[Zn];lia
      ·refine DK _ _ ⟨B3.trans B4,?_,_,_,rfl⟩;rw[Xa,List.flatMap_append,<- Yg];have e1:([i]:List Nat).flatMap pt=dW (a++[i]) (ck (T rows m)):=by
        show pt i++[]=_;rw[Yo];show dW (a++[i]) (ck (T rows ([r,D,B,C].getD i 0)))=_;rw[em]
       rw[e1];exact zV
    ·rintro W n ⟨R,jQ,v4,v5,rfl⟩;exact q n R jQ
end Pr
namespace L2
open PySem PySem.Spec PyProof.Rows PySem.W
section
variable{X:Cx}
theorem q93(a b c d e:aa):argsOk "max" ⟨[a,b,c,d,e],[]⟩:=by unfold argsOk;kernel_rfl
inductive lD(xs:List V)(H:Hp)(Q:VK):Prop
 |mk(a b c d e:Int)(aX:xs=[.int a,.int b,.int c,.int d,.int e])(dQ:Q (.int (best [a,b,c,d,e] 4)) H)
theorem q94(hc:X.calm=true):fm X (.builtin "max") lD:=by
 intro j8 s σ H xs S Q I r h;obtain⟨a,b,c,d,e,rfl,q⟩:=h;have F:=r;have Y:S.length=5:=F.length.symm;obtain⟨n,k,g,m,l,rfl⟩:=L2.os5 Y
 ·
  have Z:(toString "max"++toString ".loop":String)="max.loop":=by decide
  refine call_function_tree PySem.F.kind_max PySem.F.plain_max PySem.F.entry_max (q93 _ _ _ _ _) ?_;show ag _ X.A.in1 (Builtin.Builtins.bindParams "max" ["key","default"] 0 ⟨[],[]⟩ >>= _) _ _ s;refine Za (Wc (show Builtin.Builtins.bindParams "max" ["key","default"] 0 ⟨[],[]⟩=pure [none,none]from rfl) ?_);show ag _ X.A.in1 (newTuple [n,k,g,m,l] >>= _) _ _ s;refine Za (ZJ ?_);have E:(s.heap.push {cls:=.type "tuple",data:=.seq #[n,k,g,m,l]}).IsTuple s.heap.objs.size #[n,k,g,m,l]:=⟨_,Zg _ rfl,rfl,0,rfl⟩;have u:(s.heap.push {cls:=.type "tuple",data:=.seq #[n,k,g,m,l]}).objs.size=s.heap.objs.size+1:=ZS ..;have f:∀(i:Nat)(v:aa),(#[n,k,g,m,l]:Array aa)[i]?=some v->∃t,v=.int ([a,b,c,d,e].getD i 0) t:=λi v T=>by
   have C:[n,k,g,m,l][i]?=some v:=by simpa using T
   have B:i<5:=(cz C).1;obtain⟨w',D,t,U⟩:=F.get (x:=V.int ([a,b,c,d,e].getD i 0)) (i:=i) (by
    match i,B with
    |0,_|1,_|2,_|3,_|4,_=>rfl)
   rw[C]at D;cases D;exact⟨t,U⟩
  refine Za (Yv (YK E (Q:=λG J=>G=.ref (s.heap.objs.size+1)/\J=_) ⟨by rw[u],rfl⟩) (λG J N=>?_) λ_ _ e=>e);obtain⟨rfl,rfl⟩:=N;have W:=Ub (prog:=X.prog) (w:=X.w) (A:=X.A.in1) (I.ok.hd hc) (s.heap.objs.size+1) s.heap.objs.size (Zp (Yd _)) #[n,k,g,m,l];refine Za (ZJ ?_);rw[Z];refine Zc ⟨YE PySem.F.plain_max_loop _,codeAny_max_loop_first W (λi j=>decide ([a,b,c,d,e].getD i 0>[a,b,c,d,e].getD j 0)) ?_ _ ?_ (by show 0<5;decide) ?_ (Zg _ rfl) λv h' tk M L=>?_⟩
  ·intro i j vi P s' Q' E' B hj R;obtain⟨t,rfl⟩:=f i vi B;obtain⟨t',rfl⟩:=f j P hj;exact gt_int R
  ·intro K;simp only[ZS]at K;have:s.heap.objs.size+1+1=s.heap.objs.size+1\/s.heap.objs.size+1+1=s.heap.objs.size:=by simpa using K
   exact Ql this
  ·refine W.frame _ _ _ ?_ λb _ o e=>Zb _ e;refine⟨⟨{cls:=.type "tuple_iterator",data:=.fields #[.ref s.heap.objs.size,.int 0 0]},?_,rfl,rfl⟩,E.push _⟩;rw[<- u];exact Zg _ rfl
  ·obtain⟨t,rfl⟩:=f _ v M;have O:=(Fd [a,b,c,d,e] 4).1;refine⟨.int _,H,I.kept (h':=h') (t':=tk) (λy o p=>L y o (λz=>?_) (λz=>?_) (Zb _ (Zb _ (Zb _ p)))),⟨t,rfl⟩,?_⟩
   ·have h1:y=s.heap.objs.size+1:=by simpa using z
    rw[h1]at p;exact absurd (Zi p) (UE.mpr (Xp _))
   ·have h1:y=s.heap.objs.size+1+1:=by rw[z];simp only[ZS]
    rw[h1]at p;exact absurd (Zi p) (UE.mpr (ZI (Xp _) (Xp _)))
   ·show Q (.int ([a,b,c,d,e].getD (argBest (λi j=>decide ([a,b,c,d,e].getD i 0>[a,b,c,d,e].getD j 0)) 4) 0)) H;rw[O];exact q
theorem C3{K:PySem.W.Frag}{y:V}{c σ:St}{H:Hp}{R:St->Hp->Prop}(m:c.length=3)(h:hZ K 3 (gT (di 0) (gT (di 1) (gT (di 2) iG))) y (c++σ) H R):
  hZ K 3 (gT (di 0) (gT (di 1) (gT (di 2) iG))) y (c++σ) H λb t=>(∃f:St,f.length=3/\b=f++σ)/\R b t:=by
 obtain⟨x,A,B,rfl⟩:=L2.Gv m
 ·
  obtain⟨a,k,n,p,g,v,r,j,d,w,s,e,l,u,i,q⟩:=h;exact⟨a,k,n,p,g,v,r,j,d,w,s,e,l,u,i,⟨[some v,some d,some e],rfl,rfl⟩,q⟩
theorem OJ{x y u:ar}{r j t v:aC}{k:Nat}{scope:aA}{c:List (ar×af)}{C:af}{fp:List af}{aH:ae}{aJ:Hp}(hc:X.calm=true)(p:X.N.Nodup)(l:[x,y,u].Nodup)(h:∀z∈X.N,scope.names.lookup z≠some .local)
  (w:scope.names.lookup x=some .local) (s:scope.names.lookup y=some .local) (q:scope.names.lookup u=some .local):
  PG (dF X scope c C [x,y,u] fp aH aJ) (.Tuple [.Name x r,.Name y j,.Name u t] k v) (hZ X.K 3 (gT (di 0) (gT (di 1) (gT (di 2) iG)))):=by
 have f:(dF X scope c C [x,y,u] fp aH aJ).env.scope.names.lookup x=some .local:=YM w;have d:(dF X scope c C [x,y,u] fp aH aJ).env.scope.names.lookup y=some .local:=YM s;have g:(dF X scope c C [x,y,u] fp aH aJ).env.scope.names.lookup u=some .local:=YM q;have nd:(dF X scope c C [x,y,u] fp aH aJ).N.Nodup:=by
  show([x,y,u]++X.N).Nodup;rw[Wp];refine⟨l,p,λa m b hb e=>?_⟩;subst e;have n:scope.names.lookup a=some .local:=by
   have:a=x\/a=y\/a=u:=by simpa using m
   rcases this with rfl|rfl|rfl<;>assumption
  exact h a hb n
 exact l_ (X:=dF X scope c C [x,y,u] fp aH aJ) hc (dz (sg (i:=0) nd rfl (.inl f) (.inr f)) (dz (sg (i:=1) nd rfl (.inl d) (.inr d)) (dz (sg (i:=2) nd rfl (.inl g) (.inr g)) lM)))
theorem qW6{x y u:ar}{r n v w i:aC}{k:Nat}{b iter c:av}{scope:aA}{t:TI}{q:TT}{te:TE}(N:List ar)(l:aA)(S:X.N=N)(U:X.env.scope=l)(hc:X.calm=true)(K:X.N.Nodup)(Z:PI X (.Tuple [.Name x r,.Name y n,.Name u v] k w) iter t)
  (F:∀f C e d g,PT (dF X scope f C [x,y,u] e d g) c q) (B:∀f C e d g,PE (dF X scope f C [x,y,u] e d g) b te) (E:[x,y,u].Nodup:=by decide)
  (G:scope.kind=.function:=by rfl) (V:scope.names.all (λy=>y.2 != .cell)=true:=by decide +kernel) (Y:scope.names.all (λy=>y.2 != .local||scope.names.lookup y.1==some .local)=true:=by decide +kernel)
  (hx:scope.names.lookup x=some .local:=by rfl) (O:scope.names.lookup y=some .local:=by rfl) (L:scope.names.lookup u=some .local:=by rfl) (W:N.all (λy=>scope.names.lookup y != some .local)=true:=by decide +kernel)
  (hfr:scope.names.all (λp=>p.2 != .free||(l.names.lookup p.1==some .cell||l.names.lookup p.1==some .free))=true:=by decide +kernel)
  (hs:∀x,foldedSetIterable iter X.env x=pure x:=by intro _;rfl):PE X (.ListComp b [⟨.Tuple [.Name x r,.Name y n,.Name u v] k w,iter,[c],0⟩] scope i) (rm 3 t (hZ X.K 3 (gT (di 0) (gT (di 1) (gT (di 2) iG)))) q te):=by
 obtain⟨s1,T,m,D⟩:=zw S U V Y W hfr;exact Fe (nn:=[x,y,u]) (λa=>isTrue c a (eval c a)) hc Z (λP j a=>Ku b _ iter c scope i P j a) (λf C e d g=>OJ hc K E m hx O L) (λy os A H R J h=>C3 J h) (λf C e d g M s A H Q I h=>F f C e d g M s A H Q I h) B G s1 T m D hs
end
end L2
namespace PyProof.Rows
open PySem
def xv6:Bool->Keyed->Array Keyed->Nat->Nat->Nat->StateT au Sem (Option Nat):=sortPriv% PySem.Builtin.gallop
def oJ(prog:ah)(w:aj)(A:aq)(s:ae)(κ:KeyKind)(kd:SortKind):Prop:=
 ∀(E:aa->ae->Prop)(x y:aa)(a b:κ.α)(Q:Bool->ae->Prop),κ.keyOf x=some a->κ.keyOf y=some b->Q (κ.blt a b) s->ag (ai prog w) A (keyLt' kd x y) Q E s
section
variable{κ:KeyKind}
theorem Bt{kd:SortKind}(c:oJ prog w A s κ kd){st:au}{x y:Keyed}{a b:κ.α}{Q:Option Bool->au->Prop}(d:kindOf st=kd)(e:κ.keyOf x.1=some a)(hb:κ.keyOf y.1=some b)(h:Q (some (κ.blt a b)) st):
  wpS (ai prog w) A E s (lt' x y) Q st:=by
 rw[lt'_eq];refine Zs (Vs ?_);rw[d];refine Zs (Uq (Xj (c _ _ _ a b _ e hb ⟨rfl,?_⟩)));exact ZB h
theorem g8{st:au}{a:Array Keyed}{i:Nat}{x:Keyed}{Q:Keyed->au->Prop}(b:a[i]?=some x)(h:Q x st):wpS (ai prog w) A E s (elem' a i) Q st:=by
 rw[elem'_eq,b];exact ZB h
def asks(left:Bool)(k x:κ.α):Bool:=if left then κ.blt x k else !κ.blt k x
theorem zx{kd:SortKind}(P:oJ prog w A s κ kd){left:Bool}{key:Keyed}{k:κ.α}{B:Array Keyed}{base n hint c:Nat}{st:au}{Q:Option Nat->au->Prop}(O:kindOf st=kd)(T:κ.keyOf key.1=some k)
  (MQ:∀i,i<n->∃x a,B[base+i]?=some x/\κ.keyOf x.1=some a/\asks left k a=decide (i<c)) (N:hint<n) (hc:c<=n) (h:Q (some c) st):wpS (ai prog w) A E s (xv6 left key B base n hint) Q st:=by
 have K:∀(i:Nat)(u:Option Bool->au->Prop),i<n->u (some (decide (i<c))) st->wpS (ai prog w) A E s (elem' B (base+i) >>= λx=>if left=true then lt' x key else lt' key x >>= λr=>pure (Option.map (λx=>!x) r)) u st:=λi u e C=>by
  obtain⟨x,a,Y,S,H⟩:=MQ i e;refine Zs (g8 Y ?_);unfold asks at H;cases left with
  |true=>
   rw[Zx rfl]at H ⊢;refine Bt P O S T ?_;rw[H];exact C
  |false=>
   rw[Zl (by decide)]at H ⊢;refine Zs (Bt P O T S (ZB ?_));show u (some (!κ.blt k a)) st;rw[H];exact C
 refine Zs (K hint _ N ?_);have fin:∀d e,d<=c->c<=e->e<=n->∀(f:Nat->Option (Option Nat)×Nat×Nat->StateT au Sem (ForInStep (Option (Option Nat)×Nat×Nat)))(g:Option (Option Nat)×Nat×Nat->StateT au Sem (Option Nat)),
   (∀x d e,d<e->e<=n->∀u,(∀b,u (ForInStep.yield (none,if decide (d+(e-d)/2<c)=true then(d+(e-d)/2+1,e)else(d,d+(e-d)/2))) b\/b≠st)->wpS (ai prog w) A E s (f x (none,d,e)) u st) ->
   (∀x d e,d>=e->f x (none,d,e)=pure (ForInStep.done (none,d,e)))->(∀d e,g (none,d,e)=pure (some e))->wpS (ai prog w) A E s (forIn [:n] (none,d,e) f >>= g) Q st:=by
  intro d e h1 h2 Z f g W DP hg;refine Zs (WI (Xm (I:=λx m j=>j=st/\∃d e,m=(none,d,e)/\d<=c/\c<=e/\e<=n/\e-d<=n-x) (Q:=λm j=>j=st/\∃d,m=(none,d,c)) ?step ?fin ⟨rfl,d,e,rfl,h1,h2,Z,by lia⟩) ?post)
  case post=>
   rintro m j ⟨rfl,d,rfl⟩;rw[hg];exact ZB h
  case fin=>
   rintro m j ⟨rfl,d,e,rfl,D,t,v,L⟩;have:e=c:=by lia
   exact⟨rfl,d,by rw[this]⟩
  case step=>
   rintro x m j _ V ⟨rfl,d,e,rfl,D,t,v,L⟩;by_cases J:d>=e
   ·rw[DP x d e J];have:e=c:=by lia
    exact ZB ⟨rfl,d,by rw[this]⟩
   ·refine W x d e (by lia) v _ λb=>?_;by_cases U:b=j
    ·left;subst U;by_cases p:d+(e-d)/2<c
     ·rw[Zt p];exact⟨rfl,_,_,rfl,kn p,t,v,by lia⟩
     ·rw[Zo p];exact⟨rfl,_,_,rfl,D,iE p,by lia,by lia⟩
    ·exact .inr U
 have go:∀(x d e:Nat),d<e->e<=n->∀(u:ForInStep (Option (Option Nat)×Nat×Nat)->au->Prop),(∀b,u (ForInStep.yield (none,if decide (d+(e-d)/2<c)=true then(d+(e-d)/2+1,e)else(d,d+(e-d)/2))) b\/b≠st) ->
   ∀F:Option Bool->StateT au Sem (ForInStep (Option (Option Nat)×Nat×Nat)),(∀b:Bool,F (some b)=if b=true then pure (ForInStep.yield (none,d+(e-d)/2+1,e))else pure (ForInStep.yield (none,d,d+(e-d)/2))) ->
   wpS (ai prog w) A E s ((elem' B (base+(d+(e-d)/2)) >>= λx=>if left=true then lt' x key else lt' key x >>= λr=>pure (Option.map (λx=>!x) r)) >>= F) u st:=by
  intro x d e G hn u C F X;refine Zs (K _ _ (by lia) ?_);rw[X];have q:=(C st).resolve_right (λz=>z rfl);by_cases p:d+(e-d)/2<c
  ·rw[Zt p]at q ⊢;exact ZB q
  ·rw[Zo p]at q ⊢;exact ZB q
 by_cases R:hint<c
 ·rw[Zt R];dsimp only;rw[Zx rfl];refine Zs (WI (Xm (I:=λx m j=>j=st/\∃l o,m=(none,l,o)/\l<o/\hint+l<c/\x<o) (Q:=λm j=>j=st/\∃l o,m=(none,l,o)/\hint+l<c/\(n-hint<=o\/c<=hint+o)) ?step ?fin ⟨rfl,0,1,rfl,sW,by lia,sW⟩) ?post)
  case fin=>
   rintro m j ⟨rfl,l,o,rfl,D,t,v⟩;exact⟨rfl,l,o,rfl,t,.inl (by lia)⟩
  case step=>
   rintro x m j _ V ⟨rfl,l,o,rfl,D,t,v⟩;dsimp only;by_cases y:o>=n-hint
   ·rw[Zx y];exact ZB ⟨rfl,l,o,rfl,t,.inl y⟩
   ·rw[Zl y];refine Zs (K (hint+o) _ (by lia) ?_);by_cases p:hint+o<c
    ·rw[Zt p];exact ZB ⟨rfl,o,2*o+1,rfl,Ru,p,QN v⟩
    ·rw[Zo p];exact ZB ⟨rfl,l,o,rfl,t,.inr (iE p)⟩
  case post=>
   rintro m j ⟨rfl,l,o,rfl,t,v⟩;dsimp only;refine fin (hint+l+1) (hint+min o (n-hint)) (kn t) (by lia) (by lia) _ _ (λx d e G M u C=>?_) (λx d e J=>?_) (λd e=>rfl)
   ·dsimp only;rw[Zl (Rr G)];exact go x d e G M u C _ (λb=>rfl)
   ·dsimp only;rw[Zx J]
 ·rw[Zo R];dsimp only;rw[Zl (by decide)];refine Zs (WI (Xm (I:=λx m j=>j=st/\∃l o,m=(none,l,o)/\l<o/\c<=hint-l/\l<=hint/\x<o) (Q:=λm j=>j=st/\∃l o,m=(none,l,o)/\c<=hint-l/\l<=hint/\(hint+1<=o\/(o<=hint/\hint-o<c))) ?step ?fin ⟨rfl,0,1,rfl,sW,by lia,sX,sW⟩) ?post)
  case fin=>
   rintro m j ⟨rfl,l,o,rfl,D,t,v,L⟩;exact⟨rfl,l,o,rfl,t,v,.inl (by lia)⟩
  case step=>
   rintro x m j _ V ⟨rfl,l,o,rfl,D,t,v,L⟩;dsimp only;by_cases y:o>=hint+1
   ·rw[Zx y];exact ZB ⟨rfl,l,o,rfl,t,v,.inl y⟩
   ·rw[Zl y];refine Zs (K (hint-o) _ (Rk N) ?_);by_cases p:hint-o<c
    ·rw[Zt p];exact ZB ⟨rfl,l,o,rfl,t,v,.inr ⟨Rh y,p⟩⟩
    ·rw[Zo p];exact ZB ⟨rfl,o,2*o+1,rfl,Ru,iE p,Rh y,QN L⟩
  case post=>
   rintro m j ⟨rfl,l,o,rfl,t,v,g5⟩;dsimp only;refine fin (hint+1-min o (hint+1)) (hint-l) (by lia) t (by lia) _ _ (λx d e G M u C=>?_) (λx d e J=>?_) (λd e=>rfl)
   ·dsimp only;rw[Zl (Rr G)];exact go x d e G M u C _ (λb=>rfl)
   ·dsimp only;rw[Zx J]
end
def cK(κ:KeyKind)(xs:Array Keyed)(lo a:Nat):Prop:=∀i j,lo<=i->i<=j->j<a->κ.kle (KK κ xs i) (KK κ xs j)
structure Mv(st aM:au)(lo hi:Nat):Prop where
 perm:(arrOf aM).Perm (arrOf st)
 kind:kindOf aM=kindOf st
 fail:failedOf aM=failedOf st
 pend:pendingOf aM=pendingOf st
 out:∀k:Nat,k<lo\/hi<=k->(arrOf aM)[k]?=(arrOf st)[k]?
theorem Mv.refl(st:au)(lo a:Nat):Mv st st lo a:=⟨.refl _,rfl,rfl,rfl,λ_ _=>rfl⟩
theorem Mv.trans{a b c:au}{lo d:Nat}(h:Mv a b lo d)(k:Mv b c lo d):Mv a c lo d:=
 ⟨k.perm.trans h.perm,k.kind.trans h.kind,k.fail.trans h.fail,k.pend.trans h.pend,λi d=>(k.out i d).trans (h.out i d)⟩
theorem Mv.size{a b:au}{lo c:Nat}(h:Mv a b lo c):(arrOf b).size=(arrOf a).size:=h.perm.size_eq
theorem zr{κ:KeyKind}{xs a:Array Keyed}(h:KeysOf κ a)(p:xs.Perm a):KeysOf κ xs:=λq b=>h q ((Wy.mp p).mem_iff.mp b)
theorem OI{κ:KeyKind}{xs:Array Keyed}(h:KeysOf κ xs){i:Nat}(c:i<xs.size):∃x p a,xs[i]?=some (x,p)/\κ.keyOf x=some a/\KK κ xs i=a:=by
 obtain⟨a,b⟩:=h xs[i] (by simp);have e:xs[i]?=some xs[i]:=ZQ _ i c;refine⟨xs[i].1,xs[i].2,a,by rw[e],b,?_⟩;unfold KK;rw[e];simp[b]
section
variable{κ:KeyKind}
theorem zc{kd:SortKind}(g:oJ prog w A s κ kd){st:au}{i j:Nat}{Q:Option Bool->au->Prop}(d:kindOf st=kd)(h0:KeysOf κ (arrOf st))(r:i<(arrOf st).size)(e:j<(arrOf st).size)
  (h:Q (some (κ.blt (KK κ (arrOf st) i) (KK κ (arrOf st) j))) st):wpS (ai prog w) A E s (ltAt' i j) Q st:=by
 obtain⟨x,p,a,n,m,c⟩:=OI h0 r;obtain⟨y,q,b,k,l,f⟩:=OI h0 e;rw[c,f]at h;rw[ltAt'_eq];refine Zs (Vs ?_);exact Zs (g8 n (Zs (g8 k (Bt g d m l h))))
theorem xi1{kd:SortKind}(N:oJ prog w A s κ kd){st:au}{lo n ok:Nat}{Q:Bool->au->Prop}(M:kindOf st=kd)(h0:KeysOf κ (arrOf st))(R:lo+n<=(arrOf st).size)(V:ok<=n)(hs:cK κ (arrOf st) lo (lo+ok))
  (h:∀f,Mv st f lo (lo+n)->cK κ (arrOf f) lo (lo+n)->Q true f):wpS (ai prog w) A E s (binarySort' lo n ok) Q st:=by
 refine Zs (WI (Xm (I:=λk c f=>c=(none,())/\Mv st f lo (lo+n)/\cK κ (arrOf f) lo (lo+min k n)) (Q:=λc f=>c=(none,())/\Mv st f lo (lo+n)/\cK κ (arrOf f) lo (lo+n)) ?step ?fin ?init) ?post)
 case post=>
  rintro c f ⟨rfl,m,o⟩;exact ZB (h f m o)
 case init=>
  refine⟨rfl,Mv.refl _ _ _,λi j h1 g D=>?_⟩;by_cases z:ok=0
  ·have:i=j:=by lia
   rw[this];exact Y3 _
  ·exact hs i j h1 g (by lia)
 case fin=>
  rintro c f ⟨rfl,m,o⟩;exact⟨rfl,m,λi j h1 g D=>o i j h1 g (by lia)⟩
 case step=>
  rintro k c e U P ⟨rfl,y,O⟩;have p:lo+k<(arrOf e).size:=by rw[y.size];exact dZ P R
  have S:kindOf e=kd:=y.kind.trans M;have F:KeysOf κ (arrOf e):=zr h0 y.perm;have C:cK κ (arrOf e) lo (lo+k):=λi j h1 g D=>O i j h1 g (by lia);refine Zs (WI (Xm (I:=λx c d=>d=e/\∃l r,c=(none,l,r)/\l<=r/\r<=k/\r-l<=k-x/\(∀i,i<l->κ.kle (KK κ (arrOf e) (lo+i)) (KK κ (arrOf e) (lo+k)))/\(∀i,r<=i->i<k->κ.klt (KK κ (arrOf e) (lo+k)) (KK κ (arrOf e) (lo+i))))
   (Q:=λc d=>d=e/\∃l r,c=(none,l,r)/\l<=k/\(∀i,i<l->κ.kle (KK κ (arrOf e) (lo+i)) (KK κ (arrOf e) (lo+k)))/\(∀i,l<=i->i<k->κ.klt (KK κ (arrOf e) (lo+k)) (KK κ (arrOf e) (lo+i)))) ?C6 ?Ls ⟨rfl,0,k,rfl,sX,xo,xo,λi L=>by lia,λi h1 g=>by lia⟩) ?C7)
  case Ls=>
   rintro c d ⟨rfl,l,r,rfl,G,v,T,t,q⟩;have:r=l:=by lia
   exact⟨rfl,l,r,rfl,uK this v,t,by rw[this]at q;exact q⟩
  case C6=>
   rintro x c d _ X ⟨rfl,l,r,rfl,G,v,T,t,q⟩;dsimp only;by_cases H:l>=r
   ·rw[Zx H];have:r=l:=by lia
    exact ZB ⟨rfl,l,r,rfl,nU G v,t,by rw[this]at q;exact q⟩
   ·rw[Zl H];refine Zs (zc N S F p (show lo+(l+r)/2<_ by lia) ?_);cases hb:κ.blt (KK κ (arrOf d) (lo+k)) (KK κ (arrOf d) (lo+(l+r)/2))
    ·refine ZB ⟨rfl,(l+r)/2+1,r,rfl,by lia,v,by lia,λi L=>?_,q⟩;exact ZW (C (lo+i) (lo+(l+r)/2) jo (by lia) (by lia)) (show κ.kle _ _ from hb)
    ·refine ZB ⟨rfl,l,(l+r)/2,rfl,by lia,by lia,by lia,t,λi h1 g=>?_⟩;exact WJ hb (C (lo+(l+r)/2) (lo+i) jo (iY h1) (tq g))
  case C7=>
   rintro c d ⟨rfl,l,r,rfl,G,t,q⟩;dsimp only;have K:lo+k-(lo+l)=k-l:=by exact QU
   have J:lo+k-(k-l)=lo+l:=by lia
   refine Zs (m:=moveDown' (lo+k) (lo+l)) ?_;rw[moveDown'_eq];refine X4 (ZB ⟨rfl,y.trans ⟨bubble_perm _ _ _,rfl,rfl,rfl,λi L=>?_⟩,λi j h1 g D=>?_⟩)
   ·show(bubble (arrOf d) (lo+k) (lo+k-(lo+l)))[i]?=_;rw[K,getElem?_bubble p _ Iq,J,Zl (by lia),Zl (by lia)]
   ·show κ.kle (KK κ (bubble (arrOf d) (lo+k) (lo+k-(lo+l))) i) (KK κ (bubble (arrOf d) (lo+k) (lo+k-(lo+l))) j);have W:j<lo+(k+1):=by lia
    have B:∀i,lo<=i->i<lo+l->κ.kle (KK κ (arrOf d) i) (KK κ (arrOf d) (lo+k)):=λi a b=>by
     have:=t (i-lo) (QD b a)
     rwa [show lo+(i-lo)=i from sR a]at this
    have u:∀i,lo+l<=i->i<lo+k->κ.kle (KK κ (arrOf d) (lo+k)) (KK κ (arrOf d) i):=λi a b=>by
     have:=Yi (q (i-lo) (by lia) (by lia))
     rwa [show lo+(i-lo)=i by lia]at this
    rw[K,KK_bubble p Iq,KK_bubble p Iq,J]
    repeat' split
    all_goals first
     |(exfalso;lia)
     |exact Y3 _
     |exact B _ (by lia) (by lia)
     |exact u _ (by lia) (by lia)
     |exact C _ _ (by lia) (by lia) (by lia)
theorem Sq{kd:SortKind}(G:oJ prog w A s κ kd){st:au}{lo a d:Nat}{Q:Option (Option Nat)×Nat->au->Prop}(F:kindOf st=kd)(h0:KeysOf κ (arrOf st))(D:lo+d<=(arrOf st).size)(y:1<=a)(m:a<=d)(hs:cK κ (arrOf st) lo (lo+a))
  (h:∀n,a<=n->n<=d->cK κ (arrOf st) lo (lo+n)->(n=d\/κ.klt (KK κ (arrOf st) (lo+n)) (KK κ (arrOf st) (lo+n-1)))->Q (none,n) st)
  (f:Nat->Option (Option Nat)×Nat->StateT au Sem (ForInStep (Option (Option Nat)×Nat)))
  (v:∀x n (t:ForInStep (Option (Option Nat)×Nat)->au->Prop),lo+n<(arrOf st).size->1<=n->t (if κ.blt (KK κ (arrOf st) (lo+n)) (KK κ (arrOf st) (lo+n-1))=true then .done (none,n)else .yield (none,n+1)) st->wpS (ai prog w) A E s (f x (none,n)) t st):
  wpS (ai prog w) A E s (forIn [a:d] (none,a) f) Q st:=by
 refine WI (Xm (I:=λx c b=>b=st/\c=(none,x)/\a<=x/\x<=d/\cK κ (arrOf st) lo (lo+x)) (Q:=λc b=>b=st/\∃n,c=(none,n)/\a<=n/\n<=d/\cK κ (arrOf st) lo (lo+n)/\(n=d\/κ.klt (KK κ (arrOf st) (lo+n)) (KK κ (arrOf st) (lo+n-1)))) ?step ?fin ⟨rfl,rfl,Ze _,m,hs⟩) ?post
 case post=>
  rintro c b ⟨rfl,n,rfl,k,g,e,C⟩;exact h n k g e C
 case fin=>
  rintro c b ⟨rfl,rfl,k,g,e⟩;exact⟨rfl,_,rfl,k,g,e,.inl (by lia)⟩
 case step=>
  rintro x c b h1 r ⟨rfl,rfl,k,g,e⟩;refine v x x _ (dZ r D) (nU y h1) ?_;cases hb:κ.blt (KK κ (arrOf b) (lo+x)) (KK κ (arrOf b) (lo+x-1))
  ·refine⟨rfl,rfl,uJ h1,kn r,λi j p q B=>?_⟩;by_cases l:j=lo+x
   ·by_cases u:i=lo+x
    ·rw[u,l];exact Y3 _
    ·rw[l];exact ZW (e i (lo+x-1) p (Ig l q u) (by lia)) (show κ.kle _ _ from hb)
   ·exact e i j p q (pZ B l)
  ·exact⟨rfl,x,rfl,k,g,e,.inr hb⟩
end
def uE(κ:KeyKind)(xs:Array Keyed)(lo m:Nat):Prop:=∀i j,lo<=i->i<=j->j<lo+m->κ.kle (KK κ xs j) (KK κ xs i)
def HH(κ:KeyKind)(xs:Array Keyed)(lo m q:Nat):Prop:=∀i,lo+m-(q+1)<=i->i<lo+m->KK κ xs i=KK κ xs (lo+m-1)
section
variable{κ:KeyKind}
theorem E7{st:au}{i j:Nat}{Q:Unit->au->Prop}(h:Q () (setArr st (mirror (arrOf st) i j ((j-i)/2)))):wpS (ai prog w) A E s (reverseSlice' i j) Q st:=by
 rw[reverseSlice'_eq];exact X4 h
theorem Mv.rev{st a:au}{lo b i j:Nat}(h:Mv st a lo b)(d:lo<=i)(e:j<=b)(hs:j<=(arrOf a).size):Mv st (setArr a (mirror (arrOf a) i j ((j-i)/2))) lo b:=
 h.trans ⟨mirror_perm _ _ _ _,rfl,rfl,rfl,λk c=>by
  show(mirror (arrOf a) i j ((j-i)/2))[k]?=_;rw[getElem?_mirror_all hs,Zl (by lia)]⟩
theorem xi2{st:au}{lo m:Nat}(h:uE κ (arrOf st) lo m)(hs:lo+m<=(arrOf st).size):cK κ (arrOf (setArr st (mirror (arrOf st) lo (lo+m) ((lo+m-lo)/2)))) lo (lo+m):=λi j h1 b a=>by
 show κ.kle (KK κ (mirror (arrOf st) lo (lo+m) ((lo+m-lo)/2)) i) (KK κ (mirror (arrOf st) lo (lo+m) ((lo+m-lo)/2)) j);rw[KK_mirror hs,KK_mirror hs,Zx (by lia),Zx (by lia)];exact h _ _ (by lia) (by lia) (by lia)
theorem OH{st:au}{lo m q:Nat}(h:HH κ (arrOf st) lo m q)(hs:lo+m<=(arrOf st).size)(k:Nat):KK κ (arrOf (setArr st (mirror (arrOf st) (lo+m-(q+1)) (lo+m) ((lo+m-(lo+m-(q+1)))/2)))) k=KK κ (arrOf st) k:=
 KK_mirror_equal (xs:=arrOf st) hs (λi h1 a=>h i h1 a) k
theorem xv7{c:Prop}{P G:au->Prop}(a:(∀m,P m->G m)->c)(b:∀m,P m->G m):c:=a b
theorem xi3{kd:SortKind}(J:oJ prog w A s κ kd){st:au}{lo g:Nat}{Q:Option Nat->au->Prop}(O:kindOf st=kd)(h0:KeysOf κ (arrOf st))(p:lo+g<=(arrOf st).size)(h1:1<=g)
  (h:∀m aM,1<=m->m<=g->Mv st aM lo (lo+g)->cK κ (arrOf aM) lo (lo+m)->Q (some m) aM):wpS (ai prog w) A E s (countRun' lo g) Q st:=by
 refine Zs (Sq J O h0 p (Ze 1) h1 ?_ (λn g1 M g3 g4=>?_) _ (λx n Q' T C f=>?_))
 ·intro i j a b c;have:i=j:=by lia
  rw[this];exact Y3 _
 ·dsimp only;by_cases Z:n=g
  ·rw[Zx (by simp[Z])];exact ZB (h n st g1 M (Mv.refl _ _ _) g3)
  ·rw[Zl (by simp[Z])];have jA:κ.klt (KK κ (arrOf st) (lo+n)) (KK κ (arrOf st) (lo+n-1)):=g4.resolve_left Z;refine' xv7 (P:=λU=>Mv st U lo (lo+g)/\uE κ (arrOf U) lo (n+1)) (G:=_) (λkey=>?ka) (λU hP=>?kb)
   case ka=>
    by_cases yD:n>1
    case pos=>
     rw[Zx yD];refine Zs (zc J O h0 (by lia) (by lia) ?_);cases hb:κ.blt (KK κ (arrOf st) lo) (KK κ (arrOf st) (lo+n-1))
     case true=>exact ZB (h n st g1 M (Mv.refl _ _ _) g3)
     dsimp only;rw[Zl (by decide)];refine Zs (E7 ?_);have N:=(Mv.refl st lo (lo+g)).rev (i:=lo) (j:=lo+n) (Ze _) (iY M) (p5 M p);have Y:∀i,lo<=i->i<lo+n->KK κ (arrOf st) i=KK κ (arrOf st) (lo+n-1):=λi a b=>
      KeyOrd.kle_antisymm (g3 i (lo+n-1) a (iZ b) (by lia)) (ZW (show κ.kle _ _ from hb) (g3 lo i (Ze _) a b))
     have F:∀k,KK κ (arrOf (setArr st (mirror (arrOf st) lo (lo+n) ((lo+n-lo)/2)))) k=KK κ (arrOf st) k:=KK_mirror_equal (xs:=arrOf st) (p5 M p) Y;have L:uE κ (arrOf (setArr st (mirror (arrOf st) lo (lo+n) ((lo+n-lo)/2)))) lo (n+1):=λi j a b c=>by
      rw[F,F];by_cases l:j=lo+n
      ·by_cases v:i=lo+n
       ·rw[v,l];exact Y3 _
       ·rw[l,Y i a (by lia)];exact Yi jA
      ·rw[Y i a (by lia),Y j (nU a b) (pZ c l)];exact Y3 _
     generalize setArr st (mirror (arrOf st) lo (lo+n) ((lo+n-lo)/2))=U at N L ⊢;exact key U ⟨N,L⟩
    case neg=>
     rw[Zl yD];have L:uE κ (arrOf st) lo (n+1):=λi j a b c=>by
      by_cases e:i=j
      ·rw[e];exact Y3 _
      ·have T:i=lo+n-1:=by lia
       have C:j=lo+n:=by lia
       rw[T,C];exact Yi jA
     have N:=Mv.refl st lo (lo+g);exact key st ⟨N,L⟩
   case kb=>
    obtain⟨N,L⟩:=hP;refine Zs (Uq (Y4 ⟨rfl,?_⟩));refine Zs (WI (Xm (I:=λx c d=>∃q,c=(none,x,q)/\Mv st d lo (lo+g)/\n+1<=x/\x<=g/\uE κ (arrOf d) lo x/\HH κ (arrOf d) lo x q/\q+1<=x) (Q:=λc d=>∃m q,c=(none,m,q)/\Mv st d lo (lo+g)/\n+1<=m/\m<=g/\uE κ (arrOf d) lo m/\HH κ (arrOf d) lo m q/\q+1<=m) ?step ?fin ?init) ?post)
    case init=>
     refine⟨0,rfl,N,Ze _,nR M Z,L,λi a b=>?_,Ir⟩;rw[show i=lo+(n+1)-1 from QA b a]
    case fin=>
     rintro c d ⟨q,rfl,r1,r2,r3,r4,r5,r6⟩;exact⟨_,q,rfl,r1,r2,r3,r4,r5,r6⟩
    case step=>
     rintro x c d a b ⟨q,rfl,t,c1,B,H,C,V⟩;dsimp only;have DL:=t.kind.trans O;have X:=zr h0 t.perm;have D:=t.size;refine Zs (zc J DL X (Qk b D p) (Qe b D p) ?_);cases hb:κ.blt (KK κ (arrOf d) (lo+x)) (KK κ (arrOf d) (lo+x-1))
     ·dsimp only;rw[Zl (by decide)];refine Zs (zc J DL X (Qe b D p) (Qk b D p) ?_);cases kZ:κ.blt (KK κ (arrOf d) (lo+x-1)) (KK κ (arrOf d) (lo+x))
      ·dsimp only;rw[Zl (by decide)];have W:KK κ (arrOf d) (lo+x)=KK κ (arrOf d) (lo+x-1):=κ.total _ _ hb kZ;refine ZB ⟨q+1,rfl,t,uJ a,kn b,λi j y r S=>?_,λi y r=>?_,CW V⟩
       ·by_cases l:j=lo+x
        ·by_cases v:i=lo+x
         ·rw[v,l];exact Y3 _
         ·rw[l,W];exact H i (lo+x-1) y (Ig l r v) (QB a)
        ·exact H i j y r (pZ S l)
       ·rw[show lo+(x+1)-1=lo+x by lia];by_cases v:i=lo+x
        ·rw[v]
        ·rw[W];exact C i (by lia) (pZ r v)
      ·exact ZB ⟨x,q,rfl,t,c1,B,H,C,V⟩
     ·dsimp only;rw[Zx rfl];have nf:∀u:au,(∀k,KK κ (arrOf u) k=KK κ (arrOf d) k)->uE κ (arrOf u) lo (x+1):=λu F i j y r S=>by
       rw[F,F];by_cases l:j=lo+x
       ·by_cases v:i=lo+x
        ·rw[v,l];exact Y3 _
        ·rw[l];exact ZW (Yi hb) (H i (lo+x-1) y (Ig l r v) (QB a))
       ·exact H i j y r (pZ S l)
      have ne:∀u:au,HH κ (arrOf u) lo (x+1) 0:=λu i y r=>by rw[show i=lo+(x+1)-1 from QA r y]
      by_cases f:q>0
      ·rw[Zx f];exact Zs (E7 (ZB ⟨0,rfl,t.rev (Q8 V) (Q7 b) (Qj b D p),uJ a,kn b,nf _ (OH C (Qj b D p)),ne _,Ir⟩))
      ·rw[Zl f];exact ZB ⟨0,rfl,t,uJ a,kn b,nf _ (λ_=>rfl),ne _,Ir⟩
    case post=>
     rintro c d ⟨m,q,rfl,t,c1,B,H,C,V⟩;dsimp only;have D:=t.size;by_cases f:q>0
     case' neg=>
      rw[Zl f];have K:=t;have f3:=H;generalize d=u at K f3 ⊢
     case' pos=>
      rw[Zx f];refine Zs (E7 ?_);have K:=t.rev (i:=lo+m-(q+1)) (j:=lo+m) (Q8 V) (iY B) (Qi D B p);have F:=OH C (Qi D B p);have f3:uE κ (arrOf (setArr d (mirror (arrOf d) (lo+m-(q+1)) (lo+m) ((lo+m-(lo+m-(q+1)))/2)))) lo m:=λi j y r S=>by rw[F,F];exact H i j y r S
      generalize setArr d (mirror (arrOf d) (lo+m-(q+1)) (lo+m) ((lo+m-(lo+m-(q+1)))/2))=u at K f3 ⊢
     all_goals
      refine Zs (E7 ?_);have R:=K.rev (i:=lo) (j:=lo+m) (Ze _) (iY B) (by rw[K.size];exact p5 B p);have o4:=xi2 f3 (by rw[K.size];exact p5 B p);have Mu:=R.kind.trans O;have D_:=zr h0 R.perm;have z4:=R.size;generalize setArr u (mirror (arrOf u) lo (lo+m) ((lo+m-lo)/2))=mS at R o4 Mu D_ z4 ⊢;refine Zs (Sq J Mu D_ (by lia) (show 1<=m by lia) B o4 (λk k1 k2 k3 _=>?_) _ (λx k Q' T C f=>?_))
      ·exact ZB (h k mS (by lia) k2 R k3)
      ·refine Zs (zc J Mu D_ T (by lia) ?_);cases hb:κ.blt (KK κ (arrOf mS) (lo+k)) (KK κ (arrOf mS) (lo+k-1))
       ·rw[hb]at f;exact ZB f
       ·rw[hb]at f;exact ZB f
 ·refine Zs (zc J O h0 T (by lia) ?_);cases hb:κ.blt (KK κ (arrOf st) (lo+n)) (KK κ (arrOf st) (lo+n-1))
  ·rw[hb]at f;exact ZB f
  ·rw[hb]at f;exact ZB f
end
def kv(κ:KeyKind)(p:Keyed):κ.α:=(κ.keyOf p.1).getD κ.dflt
def eS(κ:KeyKind)(l:List Keyed):Prop:=l.Pairwise λx y=>κ.kle (kv κ x) (kv κ y)
structure Mg(κ:KeyKind)(all out a b:List Keyed):Prop where
 perm:(out++(a++b)).Perm all
 so:eS κ out
 sa:eS κ a
 sb:eS κ b
 la:∀x∈out,∀y∈a,κ.kle (kv κ x) (kv κ y)
 lb:∀x∈out,∀y∈b,κ.kle (kv κ x) (kv κ y)
theorem Mg.mR{κ:KeyKind}{all out a b:List Keyed}{x:Keyed}(m:Mg κ all out (x::a) b)(h:∀y∈b,κ.kle (kv κ x) (kv κ y)):Mg κ all (out++[x]) a b where
 perm:=by simpa using m.perm
 so:=Y7.mpr ⟨m.so,by simp,λp d q e=>by
  have:q=x:=by simpa using e
  rw[this];exact m.la p d x (by simp)⟩
 sa:=(XF.mp m.sa).2
 sb:=m.sb
 la:=λp d y c=>by
  rcases ZX.mp d with z|z
  ·exact m.la p z y (Zk _ c)
  ·have:p=x:=by simpa using z
   rw[this];exact(XF.mp m.sa).1 y c
 lb:=λp d y c=>by
  rcases ZX.mp d with z|z
  ·exact m.lb p z y c
  ·have:p=x:=by simpa using z
   rw[this];exact h y c
theorem Mg.swap{κ:KeyKind}{all out a b:List Keyed}(m:Mg κ all out a b):Mg κ all out b a where
 perm:=(Wn out List.perm_append_comm).trans m.perm
 so:=m.so
 sa:=m.sb
 sb:=m.sa
 la:=m.lb
 lb:=m.la
theorem Mg.ud{κ:KeyKind}{all out a b:List Keyed}{x:Keyed}(m:Mg κ all out a (x::b))(h:∀y∈a,κ.kle (kv κ x) (kv κ y)):Mg κ all (out++[x]) a b:=(m.swap.mR h).swap
theorem Mg.uU{κ:KeyKind}{all out a:List Keyed}(m:Mg κ all out a []):(out++a).Perm all/\eS κ (out++a):=
 ⟨by simpa using m.perm,Y7.mpr ⟨m.so,m.sa,m.la⟩⟩
theorem Mg.qS{κ:KeyKind}{all out a b:List Keyed}(m:Mg κ all out a b)(h:∀y∈b,∀x∈a,κ.kle (kv κ y) (kv κ x)):(out++(b++a)).Perm all/\eS κ (out++(b++a)):=
 ⟨m.swap.perm,Y7.mpr ⟨m.so,Y7.mpr ⟨m.sb,m.sa,h⟩,λx c y d=>(ZX.mp d).elim (m.lb x c y) (m.la x c y)⟩⟩
def xi4:Array Keyed->Array Keyed->StateT au Sem (Array Keyed):=sortPriv% PySem.Builtin.mergeLo
abbrev sd(st:au)(g:Nat):au:=SortSt.mk' (kindOf st) (arrOf st) (pendingOf st) g (failedOf st)
theorem Mg.iQ{κ:KeyKind}{all b:List Keyed}:∀{c l a:List Keyed},Mg κ all c (l++a) b->(∀x∈l,∀y∈b,κ.kle (kv κ x) (kv κ y))->Mg κ all (c++l) a b
 |c,[],a,m,_=>by rw[Yo];exact m
 |c,x::l,a,m,h=>by
  have:=(m.mR (λy e=>h x (by simp) y e)).iQ (λz d=>h z (by simp[d]))
  rwa [Yg]at this
theorem Mg.oP{κ:KeyKind}{all out l a b:List Keyed}(m:Mg κ all out a (l++b))(h:∀x∈l,∀y∈a,κ.kle (kv κ x) (kv κ y)):Mg κ all (out++l) a b:=(m.swap.iQ h).swap
theorem BZ{p:Nat->Bool}:∀n:Nat,(∀i j,i<=j->j<n->p j=true->p i=true)->∃c,c<=n/\∀i,i<n->p i=decide (i<c)
 |0,_=>⟨0,Ze _,λi d=>absurd d (XM _)⟩
 |n+1,h=>by
  obtain⟨c,g,k⟩:=BZ n (λi j a b e=>h i j a (qm b) e);cases e:p n with
  |true=>
   exact⟨n+1,Ze _,λi d=>by rw[h i n (sT d) (by lia) e,Zt d]⟩
  |false=>
   refine⟨c,uJ g,λi d=>?_⟩;by_cases f:i=n
   ·rw[f,e,Zo (fO g)]
   ·exact k i (xq d f)
theorem TK{a:Array Keyed}{i:Nat}(h:i<a.size):a.toList.drop i=a[i]::a.toList.drop (i+1):=by
 rw[XJ (by simpa using h)];simp
theorem mX{κ:KeyKind}{a:Array Keyed}(h:KeysOf κ a){i:Nat}(b:i<a.size):κ.keyOf a[i].1=some (kv κ a[i]):=by
 obtain⟨x,e⟩:=h a[i] (by simp);rw[e];unfold kv;rw[e];rfl
theorem nH{κ:KeyKind}{a:Array Keyed}(h:eS κ a.toList){i j:Nat}(c:i<=j)(b:j<a.size):κ.kle (kv κ a[i]) (kv κ a[j]):=by
 rcases Nat.lt_or_eq_of_le c with z|z
 ·have:=XI.mp h i j (by simp;exact nW z b) (by simpa using b) z;simpa using this
 ·subst z;exact Y3 _
theorem zm{a:Array Keyed}{i:Nat}{x:Keyed}(h:x∈a.toList.drop i):∃j,∃d:j<a.size,i<=j/\a[j]=x:=by
 obtain⟨k,b,e⟩:=X7 h;have c:i+k<a.size:=by simp at b;exact Q6 b
 exact⟨i+k,c,jo,by rw[<- e];simp⟩
theorem S5{κ:KeyKind}{a:Array Keyed}(ka:KeysOf κ a)(sa:eS κ a.toList)(k:κ.α){base n:Nat}(d:base+n<=a.size):
  ∃c,c<=n/\(∀i,i<n->∃x y,a[base+i]?=some x/\κ.keyOf x.1=some y/\asks false k y=decide (i<c))/\∀i,(h:base+i<a.size)->i<n->(i<c->κ.kle (kv κ a[base+i]) k)/\(c<=i->κ.klt k (kv κ a[base+i])):=by
 have key:∀i,(h:base+i<a.size)->KK κ a (base+i)=kv κ a[base+i]:=λi h=>by unfold KK kv;rw[ZQ a _ h]
 obtain⟨c,m,f⟩:=BZ (p:=λi=>!κ.blt k (KK κ a (base+i))) n (λi j l q e=>by
  simp only[Wo]at e ⊢;rw[key _ (by lia)]at e ⊢;exact ZW (nH sa (iY l) (dZ q d)) e)
 refine⟨c,m,λi b=>⟨_,_,ZQ a _ (dZ b d),mX ka (dZ b d),?_⟩,λi h b=>⟨λg=>?_,λg=>?_⟩⟩
 ·rw[<- f i b,key i (dZ b d)];rfl
 ·have e:=f i b;rw[key i h,Zt g]at e;exact(Wo _).mp e
 ·have e:=f i b;rw[key i h,Zo (fO g)]at e;exact(Bool.not_eq_false' _).mp e
theorem So{κ:KeyKind}{a:Array Keyed}(ka:KeysOf κ a)(sa:eS κ a.toList)(k:κ.α){base n:Nat}(d:base+n<=a.size):
  ∃c,c<=n/\(∀i,i<n->∃x y,a[base+i]?=some x/\κ.keyOf x.1=some y/\asks true k y=decide (i<c))/\∀i,(h:base+i<a.size)->i<n->(i<c->κ.klt (kv κ a[base+i]) k)/\(c<=i->κ.kle k (kv κ a[base+i])):=by
 have key:∀i,(h:base+i<a.size)->KK κ a (base+i)=kv κ a[base+i]:=λi h=>by unfold KK kv;rw[ZQ a _ h]
 obtain⟨c,m,f⟩:=BZ (p:=λi=>κ.blt (KK κ a (base+i)) k) n (λi j l q e=>by
  rw[key _ (by lia)]at e ⊢;exact KeyOrd.klt_of_kle_of_klt (nH sa (iY l) (dZ q d)) e)
 refine⟨c,m,λi b=>⟨_,_,ZQ a _ (dZ b d),mX ka (dZ b d),?_⟩,λi h b=>⟨λg=>?_,λg=>?_⟩⟩
 ·rw[<- f i b,key i (dZ b d)];rfl
 ·have e:=f i b;rw[key i h,Zt g]at e;exact e
 ·have e:=f i b;rw[key i h,Zo (fO g)]at e;exact e
def Mp(κ:KeyKind)(a b out:Array Keyed)(ia ib:Nat):Prop:=Mg κ (a.toList++b.toList) out.toList (a.toList.drop ia) (b.toList.drop ib)
abbrev Rd(κ:KeyKind)(a b out:Array Keyed):Prop:=out.toList.Perm (a.toList++b.toList)/\eS κ out.toList
section
variable{κ:KeyKind}{a b out:Array Keyed}{ia ib:Nat}
theorem Mp.ta(sb:eS κ b.toList)(m:Mp κ a b out ia ib)(d:ia<a.size)(f:ib<b.size)(h:κ.kle (kv κ a[ia]) (kv κ b[ib])):Mp κ a b (out.push a[ia]) (ia+1) ib:=by
 unfold Mp at m ⊢;rw[TK d]at m;rw[Xv];refine m.mR λy c=>?_;obtain⟨j,e,h1,rfl⟩:=zm c;exact ZW h (nH sb h1 e)
theorem Mp.tb(sa:eS κ a.toList)(m:Mp κ a b out ia ib)(f:ia<a.size)(c:ib<b.size)(h:κ.kle (kv κ b[ib]) (kv κ a[ia])):Mp κ a b (out.push b[ib]) ia (ib+1):=by
 unfold Mp at m ⊢;rw[TK c]at m;rw[Xv];refine m.ud λy d=>?_;obtain⟨j,e,h1,rfl⟩:=zm d;exact ZW h (nH sa h1 e)
theorem Sn{a:Array Keyed}{i k:Nat}(h:i+k<=a.size):a.toList.drop i=(a.extract i (i+k)).toList++a.toList.drop (i+k):=by
 rw[XV,List.extract_eq_drop_take,<- UD,show i+k-i=k from xB,Xe]
theorem TJ{a:Array Keyed}{i k:Nat}(h:i+k<=a.size){x:Keyed}(f:x∈(a.extract i (i+k)).toList):∃j,∃d:i+j<a.size,j<k/\a[i+j]=x:=by
 obtain⟨j,d,e⟩:=X7 f;have c:j<k:=by simp at d;lia
 exact⟨j,dZ c h,c,by rw[<- e];simp⟩
theorem Mp.as(sb:eS κ b.toList)(m:Mp κ a b out ia ib){k:Nat}(c:ia+k<=a.size)(n:ib<b.size)(h:∀i,(d:ia+i<a.size)->i<k->κ.kle (kv κ a[ia+i]) (kv κ b[ib])):Mp κ a b (out++a.extract ia (ia+k)) (ia+k) ib:=by
 unfold Mp at m ⊢;rw[Sn c]at m;rw[Ym];refine m.iQ λx f y g=>?_;obtain⟨i,d,e,rfl⟩:=TJ c f;obtain⟨j,l,h1,rfl⟩:=zm g;exact ZW (h i d e) (nH sb h1 l)
theorem Mp.bs(sa:eS κ a.toList)(m:Mp κ a b out ia ib){k:Nat}(c:ib+k<=b.size)(n:ia<a.size)(h:∀i,(d:ib+i<b.size)->i<k->κ.kle (kv κ b[ib+i]) (kv κ a[ia])):Mp κ a b (out++b.extract ib (ib+k)) ia (ib+k):=by
 unfold Mp at m ⊢;rw[Sn c]at m;rw[Ym];refine m.oP λx f y g=>?_;obtain⟨i,d,e,rfl⟩:=TJ c f;obtain⟨j,l,h1,rfl⟩:=zm g;exact ZW (h i d e) (nH sa h1 l)
theorem Ge{a:Array Keyed}{i:Nat}:(a.extract i a.size).toList=a.toList.drop i:=by
 rw[XV,List.extract_eq_drop_take,Yn (by simp)]
theorem Mp.done(m:Mp κ a b out ia ib)(h:ib=b.size):Rd κ a b (out++a.extract ia a.size++b.extract ib b.size):=by
 unfold Mp at m;have e:b.toList.drop ib=[]:=by rw[h];simp
 rw[e]at m;show(out++a.extract ia a.size++b.extract ib b.size).toList.Perm _/\eS κ (out++a.extract ia a.size++b.extract ib b.size).toList;rw[Ym,Ym,Ge,Ge,e,Yo];exact m.uU
def ap1{α:Type}{c:Type _}(f:α->c)(x:α):c:=f x
def ap2{α d:Type}{c:Type _}(f:α->d->c)(x:α)(y:d):c:=f x y
theorem gK{M:Model}{A:aq}{E:aa->ae->Prop}{s:ae}{σ α:Type}{c:Prop}[Decidable c]{x y:StateT σ Sem α}{Q:α->σ->Prop}{st:σ}(h:c)(k:wpS M A E s x Q st):wpS M A E s (if c then x else y) Q st:=by rw[Zx h];exact k
theorem gp{M:Model}{A:aq}{E:aa->ae->Prop}{s:ae}{σ α:Type}{c:Prop}[Decidable c]{x y:StateT σ Sem α}{Q:α->σ->Prop}{st:σ}(h:¬c)(k:wpS M A E s y Q st):wpS M A E s (if c then x else y) Q st:=by rw[Zl h];exact k
theorem zb{M:Model}{A:aq}{E:aa->ae->Prop}{s:ae}{σ α:Type}{c:Prop}[Decidable c]{x y:StateT σ Sem α}{Q:α->σ->Prop}{st:σ}(h:c->wpS M A E s x Q st)(k:¬c->wpS M A E s y Q st):wpS M A E s (if c then x else y) Q st:=
 if e:c then gK e (h e)else gp e (k e)
theorem zl{M:Model}{A:aq}{E:aa->ae->Prop}{s:ae}{σ d h:Type}{a b:Nat}{f:Nat->d->StateT σ Sem (ForInStep d)}{k:d->StateT σ Sem h}{j:h->σ->Prop}(I:Nat->d->σ->Prop){Q:d->σ->Prop}
  (step:∀(i:Nat)(c:d)(st:σ),a<=i->i<b->I i c st->wpS M A E s (ap2 f i c) (λr g=>match r with|ForInStep.done e=>Q e g|ForInStep.yield e=>I (i+1) e g) st)
  (fin:∀(c:d)(st:σ),I (max a b) c st->Q c st){c:d}{st:σ}(init:I a c st) (post:∀e g,Q e g->wpS M A E s (ap1 k e) j g):wpS M A E s (forIn [a:b] c f >>= k) j st:=Zs (WI (Xm I step fin init) post)
theorem OG{c:Prop}{P G:Nat->Prop}(a:(∀m,P m->G m)->c)(b:∀m,P m->G m):c:=a b
theorem xv8{c:Prop}{P G:Nat->Array Keyed->Prop}(a:(∀m o,P m o->G m o)->c)(b:∀m o,P m o->G m o):c:=a b
theorem Mp.last(m:Mp κ a b out ia ib)(na:0<a.size)(d:∀j,(c:j<b.size)->κ.klt (kv κ b[j]) (kv κ a[a.size-1]))(h:ia+1=a.size):Rd κ a b (out++b.extract ib b.size++a.extract ia a.size):=by
 show(out++b.extract ib b.size++a.extract ia a.size).toList.Perm _/\eS κ (out++b.extract ib b.size++a.extract ia a.size).toList;rw[Ym,Ym,Ge,Ge,Yg];refine Mg.qS m λy f x e=>?_;obtain⟨i,k,g,rfl⟩:=zm e;obtain⟨j,c,_,rfl⟩:=zm f;have:i=a.size-1:=by lia
 subst this;exact Yi (d j c)
end
def lS(κ:KeyKind)(a b:Array Keyed)(st:au)(x:Nat)(out:Array Keyed)(ia ib:Nat)(c:au):Prop:=(∃g,c=sd st g)/\Mp κ a b out ia ib/\ia+1<a.size/\ib<b.size/\x<=ia+ib
def Ai(κ:KeyKind)(a b:Array Keyed)(st:au)(o:Option (Array Keyed))(c:au):Prop:=∃r,o=some r/\(∃g,c=sd st g)/\Rd κ a b r
theorem lS.of{κ:KeyKind}{a b out:Array Keyed}{st:au}{x g ia ib:Nat}(m:Mp κ a b out ia ib)(h1:ia+1<a.size)(d:ib<b.size)(c:x<=ia+ib):lS κ a b st x out ia ib (sd st g):=⟨⟨g,rfl⟩,m,h1,d,c⟩
theorem lS.mono{κ:KeyKind}{a b out:Array Keyed}{st c:au}{x y ia ib:Nat}(j:lS κ a b st x out ia ib c)(h:y<=x):lS κ a b st y out ia ib c:=⟨j.1,j.2.1,j.2.2.1,j.2.2.2.1,ZI h j.2.2.2.2⟩
section
variable{κ:KeyKind}
theorem qM7{kd:SortKind}(X:oJ prog w A s κ kd){st:au}{a b:Array Keyed}{Q:Array Keyed->au->Prop}(kW:kindOf st=kd)(ka:KeysOf κ a)(kb:KeysOf κ b)(sa:eS κ a.toList)(sb:eS κ b.toList)
  (na:0<a.size) (nb:0<b.size) (h1:κ.klt (kv κ b[0]) (kv κ a[0])) (L:∀j,(hj:j<b.size)->κ.klt (kv κ b[j]) (kv κ a[a.size-1]))
  (h:∀out g,Rd κ a b out->Q out (sd st g)):wpS (ai prog w) A E s (xi4 a b) Q st:=by
 have V:∀g,kindOf (sd st g)=kd:=λg=>kW;refine Zs (Uq (Y4 ⟨rfl,?_⟩));refine Zs (g8 (ZQ b 0 nb) ?_);have K:Mp κ a b #[b[0]] 0 1:=by
  refine Mp.tb (out:=#[]) (ib:=0) sa ⟨by simp,by simp[eS],by simpa using sa,by simpa using sb,by simp,by simp⟩ na nb (Yi h1)
 by_cases e0:1=b.size
 ·exact gK (by simp[<- e0]) (ZB (h _ (gallopOf st) (K.done e0)))
 refine gp (by simpa using e0) ?_;by_cases q:0+1=a.size
 ·exact gK (by simp[<- q]) (ZB (h _ (gallopOf st) (K.last na L q)))
 refine gp (by simpa using q) ?_;refine Zs (Vs ?_);refine zl (I:=λx c l=>lS κ a b st x c.2.1 c.2.2.1 c.2.2.2.1 l) (Q:=λc l=>Ai κ a b st c.1 l) ?step ?fin (lS.of (g:=gallopOf st) (ia:=0) (ib:=1) K (EO na q) (by lia) jo) ?post
 case post=>
  rintro⟨u,N⟩ l ⟨r,e,⟨g,rfl⟩,F⟩;cases(show u=some r from e);exact ZB (h r g F)
 case fin=>
  rintro c l ⟨_,m,p,f,v⟩;lia
 case step=>
  rintro x c l _ hx ⟨⟨g,rfl⟩,K,p,f,v⟩;refine zl (I:=λy c l=>lS κ a b st (x+y) c.2.1 c.2.2.1 c.2.2.2.1 l) (Q:=λc l=>c.1=none/\lS κ a b st (x+1) c.2.1 c.2.2.1 c.2.2.2.1 l\/Ai κ a b st c.1 l) ?step ?fin (lS.of (g:=g) K p f (by lia)) ?post
  case fin=>
   rintro c l ⟨_,m,p,f,v⟩;lia
  case step=>
   rintro y c l _ hy ⟨⟨g,rfl⟩,m,p,f,v⟩;refine Zs (g8 (ZQ b c.2.2.2.1 f) ?_);refine Zs (g8 (ZQ a c.2.2.1 (eI p)) ?_);refine Zs (Bt X (V g) (mX kb f) (mX ka (eI p)) ?_);by_cases hb:κ.blt (kv κ b[c.2.2.2.1]) (kv κ (a[c.2.2.1]'(eI p)))=true
   ·refine gK hb ?_;refine Zs (g8 (ZQ b c.2.2.2.1 f) ?_);have C:=m.tb sa (eI p) f (Yi hb);by_cases q:c.2.2.2.1+1=b.size
    ·exact gK (by simp[q]) (ZB (.inr ⟨_,rfl,⟨_,rfl⟩,C.done q⟩))
    have j:=lS.of (st:=st) (g:=g) (x:=x+(y+1)) C p (EO f q) (by lia);exact gp (by simp[q]) (zb (λ_=>ZB (.inl ⟨rfl,j.mono sS⟩)) λ_=>ZB j)
   ·refine gp hb ?_;refine Zs (g8 (ZQ a c.2.2.1 (eI p)) ?_);have C:=m.ta sb (eI p) f (eq_false_of_ne_true hb);by_cases q:c.2.2.1+1+1=a.size
    ·exact gK (by simp[q]) (ZB (.inr ⟨_,rfl,⟨_,rfl⟩,C.last na L q⟩))
    have j:=lS.of (st:=st) (g:=g) (x:=x+(y+1)) C (EO p q) f (by lia);exact gp (by simp[q]) (zb (λ_=>ZB (.inl ⟨rfl,j.mono sS⟩)) λ_=>ZB j)
  case post=>
   rintro⟨u,N⟩ l (⟨e,⟨g,rfl⟩,m,p,f,v⟩|⟨r,e,hg,F⟩)
   ·cases(show u=none from e);refine Zs (Uq (Y4 ⟨rfl,?_⟩));refine zl (I:=λy c l=>lS κ a b st (x+1+y) c.2.1 c.2.2.1 c.2.2.2.1 l) (Q:=λc l=>c.1=none/\lS κ a b st (x+1) c.2.1 c.2.2.1 c.2.2.2.1 l\/Ai κ a b st c.1 l) ?step ?fin (lS.of (g:=g) m p f v) ?post
    case fin=>
     rintro c l ⟨_,m,p,f,v⟩;lia
    case post=>
     rintro⟨u,N⟩ l (⟨e,⟨g,rfl⟩,m,p,f,v⟩|⟨r,e,hg,F⟩)
     ·cases(show u=none from e);exact Zs (X4 (ZB ⟨⟨_,rfl⟩,m,p,f,v⟩))
     ·cases(show u=some r from e);exact ZB ⟨r,rfl,hg,F⟩
    case step=>
     rintro y c l _ hy ⟨⟨g,rfl⟩,C,p,f,v⟩;refine' OG (P:=λ_=>True) (G:=_) (λkey=>?ka) (λm _=>?kb)
     case ka=>
      by_cases D:c.2.2.2.2.1>1
      case neg=>
       refine gp D ?_;generalize c.2.2.2.2.1=mg;exact key mg trivial
      case pos=>exact gK D (key _ trivial)
     case kb=>
      refine Zs (X4 ?_);refine Zs (g8 (ZQ b c.2.2.2.1 f) ?_);obtain⟨k,u,N,T⟩:=S5 ka sa (kv κ b[c.2.2.2.1]) (base:=c.2.2.1) (n:=a.size-c.2.2.1) (by lia);refine Zs (zx X (V m) (mX kb f) N (by lia) u ?_);have O:k<a.size-c.2.2.1:=by
       rcases Nat.lt_or_ge k (a.size-c.2.2.1)with z|z
       ·exact z
       ·have:=(T (a.size-1-c.2.2.1) (QH p) (by lia)).1 (by lia);have e:a[c.2.2.1+(a.size-1-c.2.2.1)]'(QH p)=a[a.size-1]:=by congr 1;lia
        rw[e]at this;exact absurd (L c.2.2.2.1 f) (Vm this)
      refine' xv8 (P:=λt pT=>∃B:t+1<a.size,c.2.2.1<=t/\Mp κ a b pT t c.2.2.2.1/\κ.klt (kv κ (b[c.2.2.2.1]'f)) (kv κ (a[t]'(eI B)))) (G:=_) (λkey=>?kc) (λt pT hP=>?kd)
      case kc=>
       by_cases D:k>0
       case neg=>
        refine gp D ?_;have H:κ.klt (kv κ b[c.2.2.2.1]) (kv κ a[c.2.2.1]):=(T 0 (by lia) (sU O)).2 (Rq D);have kq:=key c.2.2.1 c.2.1 ⟨p,Ze _,C,H⟩;generalize c.2.2.1=ia at kq ⊢;generalize c.2.1=out at kq ⊢;exact kq
       case pos=>
        refine gK D ?_;have S:=C.as sb (k:=k) (Qz D u) f (λi hi J=>(T i hi (nW J O)).1 J);have H:κ.klt (kv κ b[c.2.2.2.1]) (kv κ a[c.2.2.1+k]):=(T k (Q6 O) O).2 (Ze _);by_cases e2:c.2.2.1+k+1=a.size
        ·exact gK (by simp[e2]) (ZB (.inr ⟨_,rfl,⟨_,rfl⟩,S.last na L e2⟩))
        exact gp (by simp[e2]) (gp (by simp;lia) (key _ _ ⟨by lia,jo,S,H⟩))
      case kd=>
       obtain⟨B,wW,S,H⟩:=hP;refine Zs (g8 (ZQ b c.2.2.2.1 f) ?_);have W:=S.tb sa (eI B) f (Yi H);by_cases U:c.2.2.2.1+1=b.size
       ·exact gK (by simp[U]) (ZB (.inr ⟨_,rfl,⟨_,rfl⟩,W.done U⟩))
       refine gp (by simp[U]) ?_;refine Zs (g8 (ZQ a t (eI B)) ?_);obtain⟨d,d1,d2,d3⟩:=So kb sb (kv κ a[t]) (base:=c.2.2.2.1+1) (n:=b.size-(c.2.2.2.1+1)) (by lia);refine Zs (zx X (V m) (mX ka (eI B)) d2 (by lia) d1 ?_);by_cases M:d>0
       case' neg=>
        refine gp M ?_;have Z:=W;have q4:κ.kle (kv κ a[t]) (kv κ b[c.2.2.2.1+1]):=(d3 0 (by lia) (by lia)).2 (Rq M)
       case' pos=>
        refine gK M ?_;have Z:=W.bs sa (k:=d) (Qz M d1) (eI B) (λi hi DO=>Yi ((d3 i hi (qh DO d1)).1 DO));by_cases Y:c.2.2.2.1+1+d=b.size
        ·exact gK (by simp[Y]) (ZB (.inr ⟨_,rfl,⟨_,rfl⟩,Z.done Y⟩))
        refine gp (by simp[Y]) ?_;have q4:κ.kle (kv κ a[t]) (kv κ b[c.2.2.2.1+1+d]):=(d3 d (by lia) (by lia)).2 (Ze _)
       all_goals
        refine Zs (g8 (ZQ a t (eI B)) ?_);have m5:=Z.ta sb (eI B) (by lia) q4;by_cases R:t+1+1=a.size
        ·exact gK (by simp[R]) (ZB (.inr ⟨_,rfl,⟨_,rfl⟩,m5.last na L R⟩))
        have j:=lS.of (st:=st) (g:=m) (x:=x+1+(y+1)) m5 (EO B R) (by lia) (by lia);exact gp (by simp[R]) (zb (λ_=>ZB (.inl ⟨rfl,j.mono jo⟩)) λ_=>ZB j)
   ·cases(show u=some r from e);exact ZB ⟨r,rfl,hg,F⟩
end
def xi5:Array Keyed->Array Keyed->StateT au Sem (Array Keyed):=sortPriv% PySem.Builtin.mergeHi
def H_(κ:KeyKind):KeyKind where
 α:=κ.α
 blt:=λa b=>κ.blt b a
 irrefl:=κ.irrefl
 trans:=λa b c h1 d=>κ.trans _ _ _ d h1
 negTrans:=λa b c h=>(κ.negTrans _ b _ h).symm
 total:=λa b h1 d=>κ.total _ _ d h1
 keyOf:=κ.keyOf
 dflt:=κ.dflt
theorem Sm{κ:KeyKind}{l:List Keyed}(h:eS (H_ κ) l):eS κ l.reverse:=List.pairwise_reverse.mpr h
theorem SY{κ:KeyKind}{l:List Keyed}(h:eS κ l):eS (H_ κ) l.reverse:=List.pairwise_reverse.mpr h
theorem TH{a:Array Keyed}{n:Nat}(h:n<a.size):(a.toList.take (n+1)).reverse=a[n]::(a.toList.take n).reverse:=by
 rw[Vc (by simpa using h),X8];simp
theorem zk{a:Array Keyed}{n:Nat}{x:Keyed}(h:x∈(a.toList.take n).reverse):∃j,∃d:j<a.size,j<n/\a[j]=x:=by
 obtain⟨k,c,e⟩:=X7 (List.mem_reverse.mp h);have b:k<n/\k<a.size:=by simp at c;lia
 exact⟨k,b.2,b.1,by rw[<- e];simp⟩
theorem Sl{a:Array Keyed}{i n:Nat}(h:i<=n)(b:n<=a.size):(a.toList.take n).reverse=(a.extract i n).reverse.toList++(a.toList.take i).reverse:=by
 rw[Wz,XV,List.extract_eq_drop_take,<- X8,<- List.take_add,show i+(n-i)=n from sR h]
theorem Sk{a:Array Keyed}{i n:Nat}(f:n<=a.size){x:Keyed}(d:x∈(a.extract i n).reverse.toList):∃j,∃b:j<a.size,i<=j/\j<n/\a[j]=x:=by
 rw[Wz]at d;obtain⟨j,b,e⟩:=X7 (List.mem_reverse.mp d);have c:i+j<n:=by simp at b;exact Qu b
 exact⟨i+j,qh c f,jo,c,by rw[<- e];simp⟩
theorem Gd{a:Array Keyed}{n:Nat}:(a.extract 0 n).toList=a.toList.take n:=by
 rw[XV,List.extract_eq_drop_take];simp
def Hp(κ:KeyKind)(a b out:Array Keyed)(na nb:Nat):Prop:=Mg (H_ κ) (a.toList++b.toList) out.toList (a.toList.take na).reverse (b.toList.take nb).reverse
section
variable{κ:KeyKind}{a b out:Array Keyed}{na nb:Nat}
theorem Hp.ta(m:Hp κ a b out (na+1) nb)(e:na<a.size)(h:∀j,(c:j<b.size)->j<nb->κ.kle (kv κ b[j]) (kv κ a[na])):Hp κ a b (out.push a[na]) na nb:=by
 unfold Hp at m ⊢;rw[TH e]at m;rw[Xv];refine m.mR λy d=>?_;obtain⟨j,c,h1,rfl⟩:=zk d;exact h j c h1
theorem Hp.tb(m:Hp κ a b out na (nb+1))(d:nb<b.size)(h:∀j,(c:j<a.size)->j<na->κ.kle (kv κ a[j]) (kv κ b[nb])):Hp κ a b (out.push b[nb]) na nb:=by
 unfold Hp at m ⊢;rw[TH d]at m;rw[Xv];refine m.ud λy e=>?_;obtain⟨j,c,h1,rfl⟩:=zk e;exact h j c h1
theorem Hp.as(m:Hp κ a b out na nb){k:Nat}(f:k<=na)(c:na<=a.size)(h:∀i j,(d:i<a.size)->(e:j<b.size)->k<=i->i<na->j<nb->κ.kle (kv κ b[j]) (kv κ a[i])):Hp κ a b (out++(a.extract k na).reverse) k nb:=by
 unfold Hp at m ⊢;rw[Sl f c]at m;rw[Ym];refine m.iQ λx l y n=>?_;obtain⟨i,d,g,p,rfl⟩:=Sk c l;obtain⟨j,e,h1,rfl⟩:=zk n;exact h i j d e g p h1
theorem Hp.bs(m:Hp κ a b out na nb){k:Nat}(f:k<=nb)(c:nb<=b.size)(h:∀i j,(d:i<b.size)->(e:j<a.size)->k<=i->i<nb->j<na->κ.kle (kv κ a[j]) (kv κ b[i])):Hp κ a b (out++(b.extract k nb).reverse) na k:=by
 unfold Hp at m ⊢;rw[Sl f c]at m;rw[Ym];refine m.oP λx l y n=>?_;obtain⟨i,d,g,p,rfl⟩:=Sk c l;obtain⟨j,e,h1,rfl⟩:=zk n;exact h i j d e g p h1
theorem Hp.done(m:Hp κ a b out na nb)(h:na=0):Rd κ a b (a.extract 0 na++b.extract 0 nb++out.reverse):=by
 unfold Hp at m;subst h;have e:=m.swap.uU;have z:(a.extract 0 0++b.extract 0 nb++out.reverse).toList=(out.toList++(b.toList.take nb).reverse).reverse:=by
  rw[Ym,Ym,Gd,Gd,Wz,X8];simp
 show(a.extract 0 0++b.extract 0 nb++out.reverse).toList.Perm _/\eS κ (a.extract 0 0++b.extract 0 nb++out.reverse).toList;rw[z];exact⟨(Vd _).trans e.1,Sm e.2⟩
theorem Hp.first(m:Hp κ a b out na nb)(sa:eS κ a.toList)(g:0<a.size)(hb:0<b.size)(h1:κ.klt (kv κ b[0]) (kv κ a[0]))(h:nb=1):Rd κ a b (b.extract 0 nb++a.extract 0 na++out.reverse):=by
 unfold Hp at m;subst h;have e:=m.swap.qS λy d x c=>by
  obtain⟨i,f,_,rfl⟩:=zk d;obtain⟨j,k,l,rfl⟩:=zk c;have:j=0:=by lia
  subst this;have q:κ.kle (kv κ b[0]) (kv κ a[i]):=ZW (Yi h1) (nH sa (Zz i) f);exact q
 have z:(b.extract 0 1++a.extract 0 na++out.reverse).toList=(out.toList++((a.toList.take na).reverse++(b.toList.take 1).reverse)).reverse:=by
  rw[Ym,Ym,Gd,Gd,Wz,X8,X8];simp
 show(b.extract 0 1++a.extract 0 na++out.reverse).toList.Perm _/\eS κ (b.extract 0 1++a.extract 0 na++out.reverse).toList;rw[z];exact⟨(Vd _).trans e.1,Sm e.2⟩
end
theorem Hp.IS{κ:KeyKind}{a b out:Array Keyed}{na nb:Nat}(sb:eS κ b.toList)(m:Hp κ a b out na nb)(h0:0<na)(c:na<=a.size)(h1:0<nb)(d:nb<=b.size)(h:κ.kle (kv κ (b[nb-1]'(fc h1 d))) (kv κ (a[na-1]'(fc h0 c)))):Hp κ a b (out.push (a[na-1]'(fc h0 c))) (na-1) nb:=by
 refine Hp.ta (na:=na-1) (by rw[show na-1+1=na from p9 h0];exact m) (fc h0 c) λj f e=>?_;exact ZW (nH sb (show j<=nb-1 from iZ e) (fc h1 d)) h
theorem Hp.Rx{κ:KeyKind}{a b out:Array Keyed}{na nb:Nat}(sa:eS κ a.toList)(m:Hp κ a b out na nb)(h0:0<na)(d:na<=a.size)(h1:0<nb)(c:nb<=b.size)(h:κ.kle (kv κ (a[na-1]'(fc h0 d))) (kv κ (b[nb-1]'(fc h1 c)))):Hp κ a b (out.push (b[nb-1]'(fc h1 c))) na (nb-1):=by
 refine Hp.tb (nb:=nb-1) (by rw[show nb-1+1=nb from p9 h1];exact m) (fc h1 c) λj f e=>?_;exact ZW (nH sa (show j<=na-1 from iZ e) (fc h0 d)) h
theorem xw0{d:Prop}{P:Nat->Array Keyed->Prop}{G:Nat->Array Keyed->Nat->Prop}(a:(∀m o c,P m o->G m o c)->d)(b:∀m o c,P m o->G m o c):d:=a b
def lT(κ:KeyKind)(a b:Array Keyed)(st:au)(x na nb:Nat)(out:Array Keyed)(c:au):Prop:=(∃g,c=sd st g)/\Hp κ a b out na nb/\0<na/\na<=a.size/\1<nb/\nb<=b.size/\x+na+nb<=a.size+b.size
theorem lT.of{κ:KeyKind}{a b out:Array Keyed}{st:au}{x g na nb:Nat}(m:Hp κ a b out na nb)(h1:0<na)(e:na<=a.size)(c:1<nb)(f:nb<=b.size)(d:x+na+nb<=a.size+b.size):lT κ a b st x na nb out (sd st g):=⟨⟨g,rfl⟩,m,h1,e,c,f,d⟩
theorem lT.mono{κ:KeyKind}{a b out:Array Keyed}{st c:au}{x y na nb:Nat}(j:lT κ a b st x na nb out c)(h:y<=x):lT κ a b st y na nb out c:=by
 obtain⟨k,i,g,d,e,f,l⟩:=j;exact⟨k,i,g,d,e,f,by lia⟩
section
variable{κ:KeyKind}
theorem qM8{kd:SortKind}(hO:oJ prog w A s κ kd){st:au}{a b:Array Keyed}{Q:Array Keyed->au->Prop}(kW:kindOf st=kd)(ka:KeysOf κ a)(kb:KeysOf κ b)(sa:eS κ a.toList)(sb:eS κ b.toList)
  (K:0<a.size) (M:0<b.size) (h1:κ.klt (kv κ b[0]) (kv κ a[0])) (h2:∀j,(hj:j<b.size)->κ.klt (kv κ b[j]) (kv κ a[a.size-1]))
  (h:∀out g,Rd κ a b out->Q out (sd st g)):wpS (ai prog w) A E s (xi5 a b) Q st:=by
 have hk:∀g,kindOf (sd st g)=kd:=λg=>kW;have J:∀{i j:Nat},i=j->(i==j)=true:=λe=>Wg.mpr e;have D:∀{i j:Nat},i≠j->¬(i==j)=true:=λe z=>e (Wg.mp z);refine Zs (Uq (Y4 ⟨rfl,?_⟩));refine Zs (g8 (ZQ a (a.size-1) (xF K)) ?_);have U:Hp κ a b #[a[a.size-1]] (a.size-1) b.size:=by
  refine Hp.IS (out:=#[]) sb ⟨by simp only[Array.toList_empty,Uy];rw[Yn (by simp),Yn (by simp)];exact(Vd _).append (Vd _),by simp[eS],?_,?_,by simp,by simp⟩ K (Ze _) M (Ze _) (Yi (h2 _ (xF M)))
  ·rw[Yn (by simp)];exact SY sa
  ·rw[Yn (by simp)];exact SY sb
 by_cases e0:a.size-1=0
 ·exact gK (J e0) (ZB (h _ (gallopOf st) (U.done e0)))
 refine gp (D e0) ?_;by_cases C:b.size=1
 ·exact gK (J C) (ZB (h _ (gallopOf st) (U.first sa K M h1 C)))
 refine gp (D C) ?_;refine Zs (Vs ?_);refine zl (I:=λx c q=>lT κ a b st x c.2.1 c.2.2.1 c.2.2.2.1 q) (Q:=λc q=>Ai κ a b st c.1 q) ?step ?fin (lT.of (g:=gallopOf st) (na:=a.size-1) (nb:=b.size) U (qe e0) Rv (by lia) xo (by lia)) ?post
 case post=>
  rintro⟨v,N⟩ q ⟨r,e,⟨g,rfl⟩,R⟩;cases(show v=some r from e);exact ZB (h r g R)
 case fin=>
  rintro c q ⟨_,m,t,f,p,l,F⟩;lia
 case step=>
  rintro x c q _ hx ⟨⟨g,rfl⟩,U,t,f,p,l,F⟩;refine zl (I:=λy c q=>lT κ a b st (x+y) c.2.1 c.2.2.1 c.2.2.2.1 q) (Q:=λc q=>c.1=none/\lT κ a b st (x+1) c.2.1 c.2.2.1 c.2.2.2.1 q\/Ai κ a b st c.1 q) ?step ?fin (lT.of (g:=g) U t f p l (by lia)) ?post
  case fin=>
   rintro c q ⟨_,m,t,f,p,l,F⟩;lia
  case step=>
   rintro y c q _ hy ⟨⟨g,rfl⟩,m,t,f,p,l,F⟩;refine Zs (g8 (ZQ b (c.2.2.1-1) (fc p l)) ?_);refine Zs (g8 (ZQ a (c.2.1-1) (fc t f)) ?_);refine Zs (Bt hO (hk g) (mX kb (fc p l)) (mX ka (fc t f)) ?_);by_cases hb:κ.blt (kv κ (b[c.2.2.1-1]'(fc p l))) (kv κ (a[c.2.1-1]'(fc t f)))=true
   ·refine gK hb ?_;refine Zs (g8 (ZQ a (c.2.1-1) (fc t f)) ?_);have L:=m.IS sb t f (sU p) l (Yi hb);by_cases C:c.2.1-1=0
    ·exact gK (J C) (ZB (.inr ⟨_,rfl,⟨_,rfl⟩,L.done C⟩))
    have j:=lT.of (st:=st) (g:=g) (x:=x+(y+1)) L (qe C) (p_ f) p l (by lia);exact gp (D C) (zb (λ_=>ZB (.inl ⟨rfl,j.mono sS⟩)) λ_=>ZB j)
   ·refine gp hb ?_;refine Zs (g8 (ZQ b (c.2.2.1-1) (fc p l)) ?_);have L:=m.Rx sa t f (sU p) l (eq_false_of_ne_true hb);by_cases C:c.2.2.1-1=1
    ·exact gK (J C) (ZB (.inr ⟨_,rfl,⟨_,rfl⟩,L.first sa K M h1 C⟩))
    have j:=lT.of (st:=st) (g:=g) (x:=x+(y+1)) L t f (by lia) (p_ l) (by lia);exact gp (D C) (zb (λ_=>ZB (.inl ⟨rfl,j.mono sS⟩)) λ_=>ZB j)
  case post=>
   rintro⟨v,N⟩ q (⟨e,⟨g,rfl⟩,m,t,f,p,l,F⟩|⟨r,e,hg,R⟩)
   ·cases(show v=none from e);refine Zs (Uq (Y4 ⟨rfl,?_⟩));refine zl (I:=λy c q=>lT κ a b st (x+1+y) c.2.1 c.2.2.1 c.2.2.2.1 q) (Q:=λc q=>c.1=none/\lT κ a b st (x+1) c.2.1 c.2.2.1 c.2.2.2.1 q\/Ai κ a b st c.1 q) ?step ?fin (lT.of (g:=g) m t f p l F) ?post
    case fin=>
     rintro c q ⟨_,m,t,f,p,l,F⟩;lia
    case post=>
     rintro⟨v,N⟩ q (⟨e,⟨g,rfl⟩,m,t,f,p,l,F⟩|⟨r,e,hg,R⟩)
     ·cases(show v=none from e);exact Zs (X4 (ZB ⟨⟨_,rfl⟩,m,t,f,p,l,F⟩))
     ·cases(show v=some r from e);exact ZB ⟨r,rfl,hg,R⟩
    case step=>
     rintro y c q _ hy ⟨⟨g,rfl⟩,L,t,f,p,l,F⟩;refine' OG (P:=λ_=>True) (G:=_) (λkey=>?ka) (λm _=>?kb)
     case ka=>
      by_cases O:c.2.2.2.2.1>1
      case neg=>
       refine gp O ?_;generalize c.2.2.2.2.1=mg;exact key mg trivial
      case pos=>exact gK O (key _ trivial)
     case kb=>
      refine Zs (X4 ?_);refine Zs (g8 (ZQ b (c.2.2.1-1) (fc p l)) ?_);obtain⟨k,v,N,c0⟩:=S5 ka sa (kv κ (b[c.2.2.1-1]'(fc p l))) (base:=0) (n:=c.2.1) (by lia);have V:∀i,(H:i<a.size)->i<c.2.1->(i<k->κ.kle (kv κ a[i]) (kv κ (b[c.2.2.1-1]'(fc p l))))/\(k<=i->κ.klt (kv κ (b[c.2.2.1-1]'(fc p l))) (kv κ a[i])):=λi H hn=>by
       have:=c0 i (Ro H) hn;simp only[WE]at this;exact this
      refine Zs (zx hO (hk m) (mX kb (fc p l)) N (xF t) v ?_);refine' xw0 (P:=λB pT=>∃u:0<B/\B<=c.2.1,Hp κ a b pT B c.2.2.1/\κ.kle (kv κ (a[B-1]'(g_ f u))) (kv κ (b[c.2.2.1-1]'(fc p l)))) (G:=_) (λkey=>?kc) (λB pT cn hP=>?kd)
      case kc=>
       by_cases O:c.2.1-k>0
       case neg=>
        refine gp O ?_;have T:κ.kle (kv κ (a[c.2.1-1]'(fc t f))) (kv κ (b[c.2.2.1-1]'(fc p l))):=(V (c.2.1-1) (fc t f) (xF t)).1 (by lia);have Z:=key c.2.1 c.2.2.2.1 (c.2.1-k) ⟨⟨t,Ze _⟩,L,T⟩;generalize c.2.1-k=cn at Z ⊢;generalize c.2.1=na at Z ⊢;generalize c.2.2.2.1=out at Z ⊢;exact Z
       case pos=>
        refine gK O ?_;have m2:=L.as (k:=k) v f (λi j H hj z1 z2 z3=>ZW (nH sb (show j<=c.2.2.1-1 from iZ z3) (fc p l)) (Yi ((V i H z2).2 z1)));by_cases S:k=0
        ·exact gK (J S) (ZB (.inr ⟨_,rfl,⟨_,rfl⟩,m2.done S⟩))
        have T:κ.kle (kv κ (a[k-1]'(Qq K f v))) (kv κ (b[c.2.2.1-1]'(fc p l))):=(V (k-1) (Qq K f v) (by lia)).1 (Rm S);exact gp (D S) (key k _ (c.2.1-k) ⟨⟨qe S,v⟩,m2,T⟩)
      case kd=>
       obtain⟨u,m2,T⟩:=hP;refine Zs (g8 (ZQ b (c.2.2.1-1) (fc p l)) ?_);have m3:=m2.Rx sa (Q5 u) (Qy f u) (sU p) l T;by_cases e3:c.2.2.1-1=1
       ·exact gK (J e3) (ZB (.inr ⟨_,rfl,⟨_,rfl⟩,m3.first sa K M h1 e3⟩))
       refine gp (D e3) ?_;refine Zs (g8 (ZQ a (B-1) (g_ f u)) ?_);obtain⟨d,W,d2,d0⟩:=So kb sb (kv κ (a[B-1]'(g_ f u))) (base:=0) (n:=c.2.2.1-1) (by lia);have X:∀i,(H:i<b.size)->i<c.2.2.1-1->(i<d->κ.klt (kv κ b[i]) (kv κ (a[B-1]'(g_ f u))))/\(d<=i->κ.kle (kv κ (a[B-1]'(g_ f u))) (kv κ b[i])):=λi H hn=>by
        have:=d0 i (Ro H) hn;simp only[WE]at this;exact this
       refine Zs (zx hO (hk m) (mX ka (g_ f u)) d2 (Q4 p) W ?_);have ld:0<d:=by
        rcases Nat.eq_zero_or_pos d with z|z
        ·have:=(X 0 M (by lia)).2 (nV z);exact absurd (WJ h1 (nH sa (Zz (B-1)) (g_ f u))) (Vm this)
        ·exact z
       by_cases hd:c.2.2.1-1-d>0
       case' neg=>
        refine gp hd ?_;have m4:=m3;have q4:κ.klt (kv κ (b[c.2.2.1-1-1]'(QK l p))) (kv κ (a[B-1]'(g_ f u))):=(X (c.2.2.1-1-1) (QK l p) (Q4 p)).1 (by lia)
       case' pos=>
        refine gK hd ?_;have m4:=m3.bs (k:=d) W (p_ l) (λi j H hj v N V=>ZW (nH sa (show j<=B-1 from iZ V) (g_ f u)) ((X i H N).2 v));by_cases e4:d=1
        ·exact gK (J e4) (ZB (.inr ⟨_,rfl,⟨_,rfl⟩,m4.first sa K M h1 e4⟩))
        refine gp (D e4) (gp (D (show d≠0 from Rt ld)) ?_);have q4:κ.klt (kv κ (b[d-1]'(Qn l W p))) (kv κ (a[B-1]'(g_ f u))):=(X (d-1) (Qn l W p) (fc ld W)).1 (xF ld)
       all_goals
        refine Zs (g8 (ZQ a (B-1) (g_ f u)) ?_);have m5:=m4.IS sb (Q5 u) (Qy f u) (by lia) (by lia) (Yi q4);by_cases Y:B-1=0
        ·exact gK (J Y) (ZB (.inr ⟨_,rfl,⟨_,rfl⟩,m5.done Y⟩))
        have j:=lT.of (st:=st) (g:=m) (x:=x+1+(y+1)) m5 (qe Y) (by lia) (by lia) (by lia) (by lia);exact gp (D Y) (zb (λ_=>ZB (.inl ⟨rfl,j.mono jo⟩)) λ_=>ZB j)
   ·cases(show v=some r from e);exact ZB ⟨r,rfl,hg,R⟩
end
theorem rj{κ:KeyKind}{a:Array Keyed}{i:Nat}(h:i<a.size):KK κ a i=kv κ a[i]:=by unfold KK kv;rw[ZQ a _ h]
theorem qW7{κ:KeyKind}{a:Array Keyed}(ka:KeysOf κ a){base n:Nat}(sa:cK κ a base (base+n))(k:κ.α)(g:base+n<=a.size):
  ∃c,c<=n/\(∀i,i<n->∃x y,a[base+i]?=some x/\κ.keyOf x.1=some y/\asks false k y=decide (i<c))/\∀i,i<n->(i<c->κ.kle (KK κ a (base+i)) k)/\(c<=i->κ.klt k (KK κ a (base+i))):=by
 obtain⟨c,l,d⟩:=BZ (p:=λi=>!κ.blt k (KK κ a (base+i))) n (λi j h m e=>by
  simp only[Wo]at e ⊢;exact ZW (sa (base+i) (base+j) jo (iY h) (tq m)) e)
 refine⟨c,l,λi b=>⟨_,_,ZQ a _ (dZ b g),mX ka (dZ b g),?_⟩,λi b=>⟨λf=>?_,λf=>?_⟩⟩
 ·rw[<- d i b,rj (dZ b g)];rfl
 ·have e:=d i b;rw[Zt f]at e;exact(Wo _).mp e
 ·have e:=d i b;rw[Zo (fO f)]at e;exact(Bool.not_eq_false' _).mp e
theorem q98{κ:KeyKind}{a:Array Keyed}(ka:KeysOf κ a){base n:Nat}(sa:cK κ a base (base+n))(k:κ.α)(g:base+n<=a.size):
  ∃c,c<=n/\(∀i,i<n->∃x y,a[base+i]?=some x/\κ.keyOf x.1=some y/\asks true k y=decide (i<c))/\∀i,i<n->(i<c->κ.klt (KK κ a (base+i)) k)/\(c<=i->κ.kle k (KK κ a (base+i))):=by
 obtain⟨c,l,d⟩:=BZ (p:=λi=>κ.blt (KK κ a (base+i)) k) n (λi j h m e=>KeyOrd.klt_of_kle_of_klt (sa (base+i) (base+j) jo (iY h) (tq m)) e);refine⟨c,l,λi b=>⟨_,_,ZQ a _ (dZ b g),mX ka (dZ b g),?_⟩,λi b=>⟨λf=>?_,λf=>?_⟩⟩
 ·rw[<- d i b,rj (dZ b g)];rfl
 ·have e:=d i b;rw[Zt f]at e;exact e
 ·have e:=d i b;rw[Zo (fO f)]at e;exact e
def m6(xs:Array Keyed)(lo:Nat)(l:List (Keyed×Nat)):Array Keyed:=l.foldl (λa x=>a.setIfInBounds (lo+x.2) x.1) xs
theorem JN(lo k:Nat):∀(l:List Keyed)(o:Nat)(a:Array Keyed),lo+o+l.length<=a.size->(m6 a lo (l.zipIdx o)).size=a.size/\(m6 a lo (l.zipIdx o))[k]?=if lo+o<=k/\k<lo+o+l.length then l[k-(lo+o)]? else a[k]?
 |[],o,a,_=>⟨rfl,by rw[Zl (by simp)];rfl⟩
 |p::l,o,a,h=>by
  have d:lo+(o+1)+l.length<=(a.setIfInBounds (lo+o) p).size:=by simp at h ⊢;lia
  obtain⟨g,c⟩:=JN lo k l (o+1) (a.setIfInBounds (lo+o) p) d;have e:m6 a lo ((p::l).zipIdx o)=m6 (a.setIfInBounds (lo+o) p) lo (l.zipIdx (o+1)):=rfl;rw[e];refine⟨by rw[g];simp,?_⟩;rw[c];simp only[Z4]at h ⊢;by_cases f:k=lo+o
  ·subst f;rw[Zl (by lia),Zx (by lia),Ut];rw[VF];simp;exact Q3 h
  ·by_cases b:lo+o<=k/\k<lo+o+(l.length+1)
   ·rw[Zx (by lia),Zx b];rw[show k-(lo+o)=(k-(lo+(o+1)))+1 by lia];simp
   ·rw[Zl (by lia),Zl b,VF,Zl (by lia)]
theorem qI6{xs m:Array Keyed}{lo:Nat}(h:lo+m.size<=xs.size):(m6 xs lo m.toList.zipIdx).toList=xs.toList.take lo++(m.toList++xs.toList.drop (lo+m.size)):=by
 apply Xu;intro k;have g:=(JN lo k m.toList 0 xs (by simpa using h)).2;rw[Yp,g];simp only[VP,ZL];by_cases a:k<lo
 ·rw[Zl (by lia),Zw (by simp;lia),WG a];simp
 ·have b:(xs.toList.take lo).length=lo:=by simp;lia
  rw[ZF (CZ b a),b];by_cases c:k<lo+m.size
  ·rw[Zx (by lia),Zw (by simp;lia)]
  ·rw[Zl (by lia),ZF (by simp;exact QP c),List.getElem?_drop];simp only[ZL];rw[show lo+m.size+(k-lo-m.size)=k by lia];simp
theorem Km{a:Array Keyed}{i j:Nat}:(a.extract i j).toList=(a.toList.drop i).take (j-i):=by
 rw[XV,List.extract_eq_drop_take]
theorem TF{κ:KeyKind}{a:Array Keyed}{lo b:Nat}(h:cK κ a lo b)(hs:b<=a.size):eS κ (a.extract lo b).toList:=by
 refine XI.mpr λi j d c e=>?_;simp at d c;have:=h (lo+i) (lo+j) jo (Q7 e) (Qu c);rw[rj (Ij d),rj (Ij c)]at this;simpa using this
theorem E6{κ:KeyKind}{a:Array Keyed}(h:KeysOf κ a)(lo c:Nat):KeysOf κ (a.extract lo c):=λp b=>by
 rw[Km]at b;exact h p (List.mem_of_mem_drop (List.mem_of_mem_take b))
section
variable{κ:KeyKind}
theorem xw1{Q:PUnit->au->Prop}{st a:au}(h:Q ⟨⟩ a):wpS (ai prog w) A E s (set a:StateT au Sem PUnit) Q st:=by
 unfold wpS;rw[StateT.run_set];exact Zc ⟨rfl,h⟩
structure Mrg(κ:KeyKind)(st aM:au)(i sa na pw nb:Nat):Prop where
 perm:(arrOf aM).Perm (arrOf st)
 kind:kindOf aM=kindOf st
 fail:failedOf aM=failedOf st
 out:∀k:Nat,k<sa\/sa+na+nb<=k->(arrOf aM)[k]?=(arrOf st)[k]?
 srt:cK κ (arrOf aM) sa (sa+na+nb)
 pend:pendingOf aM=((pendingOf st).setIfInBounds i (sa,na+nb,pw)).eraseIdxIfInBounds (i+1)
theorem xa0{a m:Array Keyed}{sa na nb k d:Nat}(G:cK κ a sa (sa+na))(B:cK κ a (sa+na) (sa+na+nb))(hsz:sa+na+nb<=a.size)(g:k<na)(C:d<=nb)(L:0<nb)
  (O:∀i,i<na->i<k->κ.kle (KK κ a (sa+i)) (KK κ a (sa+na))) (N:∀i,i<nb->d<=i->κ.kle (KK κ a (sa+na-1)) (KK κ a (sa+na+i)))
  (r:Rd κ (a.extract (sa+k) (sa+na)) (a.extract (sa+na) (sa+na+d)) m):
  (m6 a (sa+k) m.toList.zipIdx).Perm a/\(∀j:Nat,j<sa\/sa+na+nb<=j->(m6 a (sa+k) m.toList.zipIdx)[j]?=a[j]?)/\cK κ (m6 a (sa+k) m.toList.zipIdx) sa (sa+na+nb):=by
 have l:m.size=na-k+d:=by
  have:=r.1.length_eq;simp only[ZL,Zn,Array.size_extract]at this;rw[this,Uz (by lia),Uz (by lia),Nat.add_sub_add_left,WW]
 have t:(a.extract (sa+k) (sa+na)).toList++(a.extract (sa+na) (sa+na+d)).toList=(a.toList.drop (sa+k)).take (na-k+d):=by
  rw[Km,Km,show sa+na-(sa+k)=na-k from QU,show sa+na+d-(sa+na)=d from xB,List.take_add,UD,show sa+k+(na-k)=sa+na by lia]
 have get:=λj=>(JN (sa+k) j m.toList 0 a (by simp;exact P9 g l C hsz)).2;simp only[VP,ZL]at get;have p:(m6 a (sa+k) m.toList.zipIdx).Perm a:=by
  refine Wy.mpr ?_;rw[qI6 (P9 g l C hsz)];have e:a.toList=a.toList.take (sa+k)++((a.toList.drop (sa+k)).take (na-k+d)++a.toList.drop (sa+k+m.size)):=by
   rw[l,<- UD (i:=na-k+d) (j:=sa+k),Xe,Xe]
  conv=>rhs;rw[e]
  refine Wn _ (List.Perm.append_right _ ?_);rw[<- t];exact r.1
 refine⟨p,λj F=>?_,?_⟩
 ·rw[get j,Zl (by lia)]
 ·have b:∀j,j<sa+k\/sa+na+d<=j->KK κ (m6 a (sa+k) m.toList.zipIdx) j=KK κ a j:=λj F=>KK_congr (by rw[get j,Zl (by lia)]);have h:∀j,sa+k<=j->(F:j<sa+na+d)->KK κ (m6 a (sa+k) m.toList.zipIdx) j=kv κ (m[j-(sa+k)]'(EM g F l)):=λj h1 f=>by
   unfold KK kv;rw[get j,Zx (by lia),Yp,ZQ m _ (EM g f l)]
  have u:∀j,sa+k<=j->j<sa+na+d->∃i,sa+k<=i/\i<sa+na+d/\KK κ (m6 a (sa+k) m.toList.zipIdx) j=KK κ a i:=λj h1 f=>by
   rw[h j h1 f];have M:m[j-(sa+k)]'(EM g f l)∈(a.toList.drop (sa+k)).take (na-k+d):=by
    rw[<- t];exact r.1.mem_iff.mp (by simp)
   obtain⟨i,K,e⟩:=X7 M;simp at K;refine⟨sa+k+i,jo,by lia,?_⟩;rw[rj (Ij K),<- e];simp
  have last:∀i,sa<=i->i<sa+na->κ.kle (KK κ a i) (KK κ a (sa+na-1)):=λi h1 f=>G i (sa+na-1) h1 (iZ f) (QM g);intro i j h1 f x;by_cases v:i<sa+k
  ·rw[b i (.inl v)];have H:κ.kle (KK κ a i) (KK κ a (sa+na)):=by
    have:=O (i-sa) (by lia) (QD v h1)
    rwa [show sa+(i-sa)=i from sR h1]at this
   by_cases n:j<sa+k\/sa+na+d<=j
   ·rw[b j n];by_cases c:j<sa+na
    ·exact G i j h1 f c
    ·exact ZW H (B (sa+na) j (Ze _) (iE c) x)
   ·obtain⟨q,I,J,D⟩:=u j (by lia) (by lia);rw[D];by_cases c:q<sa+na
    ·exact G i q h1 (by lia) c
    ·exact ZW H (B (sa+na) q (Ze _) (iE c) (Qx J C))
  ·by_cases y:i<sa+na+d
   ·by_cases n:j<sa+na+d
    ·rw[h i (iE v) y,h j (QR f v) n];exact nH r.2 (by lia) (EM g n l)
    ·obtain⟨q,I,J,D⟩:=u i (iE v) y;rw[D,b j (.inr (iE n))];by_cases c:q<sa+na
     ·have:=N (j-(sa+na)) (Qw L x) (QP n);rw[show sa+na+(j-(sa+na))=j by lia]at this;exact ZW (last q (eJ I) c) this
     ·exact B q j (iE c) (by lia) x
   ·rw[b i (.inr (iE y)),b j (.inr (QR f y))];exact B i j (by lia) f x
theorem qM9{kd:SortKind}(u:oJ prog w A s κ kd){st:au}{i sa na pw nb H:Nat}{Q:Bool->au->Prop}(t:kindOf st=kd)(h0:KeysOf κ (arrOf st))(hf:failedOf st=none)
  (p1:(pendingOf st)[i]?=some (sa,na,pw)) (p2:(pendingOf st)[i+1]?=some (sa+na,nb,H)) (I:0<na) (b:0<nb) (hsz:sa+na+nb<=(arrOf st).size)
  (q:cK κ (arrOf st) sa (sa+na)) (p:cK κ (arrOf st) (sa+na) (sa+na+nb)) (h:∀W,Mrg κ st W i sa na pw nb->Q true W):wpS (ai prog w) A E s (mergeAt' i) Q st:=by
 refine Zs (Vs ?_);dsimp only;rw[p1,p2];refine Zs (xw1 ?_);refine Zs (g8 (ZQ (arrOf st) (sa+na) (p6 b hsz)) ?_);obtain⟨k,k1,T,k3⟩:=qW7 h0 q (KK κ (arrOf st) (sa+na)) (eJ hsz);refine Zs (zx (st:=SortSt.mk' (kindOf st) (arrOf st) (((pendingOf st).setIfInBounds i (sa,na+nb,pw)).eraseIdxIfInBounds (i+1)) (gallopOf st) (failedOf st)) u t (mX h0 (p6 b hsz)) (by rw[rj (p6 b hsz)]at T;exact T) I k1 ?_);dsimp only;by_cases l:na-k=0
 ·rw[Zx (by simp only[Wg];exact l)];refine ZB (h _ ⟨.refl _,rfl,rfl,λ_ _=>rfl,λx y c n f=>?_,rfl⟩);show κ.kle (KK κ (arrOf st) x) (KK κ (arrOf st) y);by_cases N:x<sa+na
  ·by_cases S:y<sa+na
   ·exact q x y c n S
   ·have:=(k3 (x-sa) (Qw I N)).1 (by lia);rw[show sa+(x-sa)=x from sR c]at this;exact ZW this (p (sa+na) y (Ze _) (iE S) f)
  ·exact p x y (iE N) n f
 ·rw[Zl (by simp only[Wg];exact l)];rw[show sa+k+(na-k)-1=sa+na-1 by lia];refine Zs (g8 (ZQ (arrOf st) (sa+na-1) (Ii b hsz)) ?_);obtain⟨d,c,n,f⟩:=q98 h0 p (KK κ (arrOf st) (sa+na-1)) hsz;refine Zs (zx (st:=SortSt.mk' (kindOf st) (arrOf st) (((pendingOf st).setIfInBounds i (sa,na+nb,pw)).eraseIdxIfInBounds (i+1)) (gallopOf st) (failedOf st)) u t (mX h0 (Ii b hsz)) (by rw[rj (Ii b hsz)]at n;exact n) (xF b) c ?_);dsimp only;have U:κ.klt (KK κ (arrOf st) (sa+na)) (KK κ (arrOf st) (sa+k)):=(k3 k (Rg l)).2 (Ze _);have F:d≠0:=λz=>by
   have:=(f 0 b).2 (nV z);exact absurd (WJ U (q (sa+k) (sa+na-1) jo (by lia) (QM I))) (Vm this)
  rw[Zl (by simp only[Wg];exact F)];have P:((arrOf st).extract (sa+k) (sa+na)).size=na-k:=by simp;lia
  have K:((arrOf st).extract (sa+na) (sa+na+d)).size=d:=by simp;lia
  have O:0<((arrOf st).extract (sa+k) (sa+na)).size:=by exact QZ P l
  have py:0<((arrOf st).extract (sa+na) (sa+na+d)).size:=by exact Rf K F
  have M:∀j,(m:j<((arrOf st).extract (sa+k) (sa+na)).size)->kv κ ((arrOf st).extract (sa+k) (sa+na))[j]=KK κ (arrOf st) (sa+k+j):=λj m=>by rw[rj (by lia)];simp
  have Y:∀j,(m:j<((arrOf st).extract (sa+na) (sa+na+d)).size)->kv κ ((arrOf st).extract (sa+na) (sa+na+d))[j]=KK κ (arrOf st) (sa+na+j):=λj m=>by rw[rj (by lia)];simp
  have R:κ.klt (kv κ (((arrOf st).extract (sa+na) (sa+na+d))[0]'(Rf K F))) (kv κ (((arrOf st).extract (sa+k) (sa+na))[0]'(QZ P l))):=by
   rw[M,Y];exact U
  have V:∀j,(m:j<((arrOf st).extract (sa+na) (sa+na+d)).size)->κ.klt (kv κ ((arrOf st).extract (sa+na) (sa+na+d))[j]) (kv κ (((arrOf st).extract (sa+k) (sa+na))[((arrOf st).extract (sa+k) (sa+na)).size-1]'(by lia))):=λj m=>by
   rw[M,Y,show sa+k+(((arrOf st).extract (sa+k) (sa+na)).size-1)=sa+na-1 by lia];exact(f j (by lia)).1 (nN m K)
  have B:∀a g,Rd κ ((arrOf st).extract (sa+k) (sa+na)) ((arrOf st).extract (sa+na) (sa+na+d)) a->Q true (SortSt.mk' (kindOf st) (m6 (arrOf st) (sa+k) a.toList.zipIdx) (((pendingOf st).setIfInBounds i (sa,na+nb,pw)).eraseIdxIfInBounds (i+1)) g (failedOf st)):=λa g r=>by
   obtain⟨r1,r2,r3⟩:=xa0 q p hsz (Rg l) c b (λj J G=>(k3 j J).1 G) (λj J G=>(f j J).2 G) r;exact h _ ⟨r1,rfl,rfl,r2,r3,rfl⟩
  have fn:∀a g,Rd κ ((arrOf st).extract (sa+k) (sa+na)) ((arrOf st).extract (sa+na) (sa+na+d)) a->Q (failedOf st).isNone (SortSt.mk' (kindOf st) (m6 (arrOf st) (sa+k) a.toList.zipIdx) (((pendingOf st).setIfInBounds i (sa,na+nb,pw)).eraseIdxIfInBounds (i+1)) g (failedOf st)):=λa g r=>by
   have e:(failedOf st).isNone=true:=by rw[hf];rfl
   rw[e];exact B a g r
  have Z:eS κ ((arrOf st).extract (sa+k) (sa+na)).toList:=TF (λx y C D v=>q x y (eJ C) D v) (eJ hsz);have X:eS κ ((arrOf st).extract (sa+na) (sa+na+d)).toList:=TF (λx y C D v=>p x y C D (Qx v c)) (p5 c hsz);by_cases L:na-k<=d
  ·rw[Zx L];refine Zs (qM7 (st:=SortSt.mk' (kindOf st) (arrOf st) (((pendingOf st).setIfInBounds i (sa,na+nb,pw)).eraseIdxIfInBounds (i+1)) (gallopOf st) (failedOf st)) u t (E6 h0 _ _) (E6 h0 _ _) Z X O py R V λa g r=>?_);exact Zs (X4 (Zs (Vs (ZB (fn a g r)))))
  ·rw[Zl L];refine Zs (qM8 (st:=SortSt.mk' (kindOf st) (arrOf st) (((pendingOf st).setIfInBounds i (sa,na+nb,pw)).eraseIdxIfInBounds (i+1)) (gallopOf st) (failedOf st)) u t (E6 h0 _ _) (E6 h0 _ _) Z X O py R V λa g r=>?_);exact Zs (X4 (Zs (Vs (ZB (fn a g r)))))
end
def Runs(κ:KeyKind)(a:Array Keyed):List (Nat×Nat×Nat)->Nat->Nat->Prop
 |[],b,c=>b=c
 |r::d,b,c=>r.1=b/\0<r.2.1/\cK κ a b (b+r.2.1)/\Runs κ a d (b+r.2.1) c
section
variable{κ:KeyKind}{a a':Array Keyed}
theorem Runs.app:∀{p q:List (Nat×Nat×Nat)}{b c:Nat},Runs κ a (p++q) b c<->∃m,Runs κ a p b m/\Runs κ a q m c
 |[],q,b,c=>⟨λh=>⟨b,rfl,h⟩,λ⟨m,e,h⟩=>by cases e;exact h⟩
 |r::p,q,b,c=>⟨λ⟨h1,i,f,j⟩=>by
   obtain⟨m,g,d⟩:=Runs.app.mp j;exact⟨m,⟨h1,i,f,g⟩,d⟩,λ⟨m,⟨h1,i,f,g⟩,d⟩=>⟨h1,i,f,Runs.app.mpr ⟨m,g,d⟩⟩⟩
theorem Runs.le:∀{p:List (Nat×Nat×Nat)}{c b:Nat},Runs κ a p c b->c+p.length<=b
 |[],c,b,h=>by cases h;simp
 |r::p,c,b,⟨h1,f,e,d⟩=>by
  have:=d.le;simp only[Z4];lia
theorem cK.congr{lo b:Nat}(h:cK κ a lo b)(e:∀k:Nat,lo<=k->k<b->a'[k]?=a[k]?):cK κ a' lo b:=λi j h1 c d=>by
 rw[KK_congr (e i h1 (by lia)),KK_congr (e j (nU h1 c) d)];exact h i j h1 c d
theorem Runs.congr:∀{p:List (Nat×Nat×Nat)}{c b:Nat},Runs κ a p c b->(∀k:Nat,c<=k->k<b->a'[k]?=a[k]?)->Runs κ a' p c b
 |[],c,b,h,_=>h
 |r::p,c,b,⟨h1,j,i,f⟩,e=>⟨h1,j,i.congr (λk d g=>e k d (by have:=f.le;lia)),f.congr (λk d g=>e k (eJ d) g)⟩
theorem Runs.mod{f:Nat×Nat×Nat->Nat×Nat×Nat}(b:∀x,(f x).1=x.1/\(f x).2.1=x.2.1):∀{p:List (Nat×Nat×Nat)}{i d c:Nat},Runs κ a p d c->Runs κ a (p.modify i f) d c
 |[],i,d,c,h=>by cases i<;>exact h
 |r::p,0,d,c,⟨h1,j,g,e⟩=>by
  refine⟨by rw[(b r).1];exact h1,by rw[(b r).2];exact j,by rw[(b r).2];exact g,by rw[(b r).2];exact e⟩
 |r::p,i+1,d,c,⟨h1,j,g,e⟩=>⟨h1,j,g,e.mod b⟩
theorem Runs.one{lo n w:Nat}(h:0<n)(hs:cK κ a lo (lo+n)):Runs κ a [(lo,n,w)] lo (lo+n):=⟨rfl,h,hs,rfl⟩
end
theorem xN3{α:Type}{l:List α}{i:Nat}(h:i+1<l.length):∃a x y post,l=a++x::y::post/\a.length=i:=by
 refine⟨l.take i,l[i],l[i+1],l.drop (i+2),?_,by simp;lia⟩;rw[<- XJ,<- XJ,Xe]
theorem PF{p:Array (Nat×Nat×Nat)}{a post:List (Nat×Nat×Nat)}{x y v:Nat×Nat×Nat}{i:Nat}(h:p.toList=a++x::y::post)(c:a.length=i):((p.setIfInBounds i v).eraseIdxIfInBounds (i+1)).toList=a++v::post:=by
 have d:p.size=i+(post.length+2):=by
  have:=Z9 List.length h;simp at this;lia
 rw[Array.eraseIdxIfInBounds,dif_pos (by simp;lia),Array.toList_eraseIdx,Wu,h];subst c;have b:(a++x::y::post).set a.length v=a++v::y::post:=by
  rw[List.set_append_right _ _ (Ze _)];simp
 rw[b,List.eraseIdx_append_of_length_le jo];simp
structure cP(κ:KeyKind)(kd:SortKind)(a₀:Array Keyed)(st:au)(lo:Nat):Prop where
 perm:(arrOf st).Perm a₀
 kind:kindOf st=kd
 fail:failedOf st=none
 runs:Runs κ (arrOf st) (pendingOf st).toList 0 lo
section
variable{κ:KeyKind}
theorem cP.merge{kd:SortKind}{a₀:Array Keyed}(C:oJ prog w A s κ kd)(h0:KeysOf κ a₀){st:au}{lo i:Nat}{Q:Bool->au->Prop}(d:cP κ kd a₀ st lo)(J:lo<=a₀.size)(N:i+1<(pendingOf st).size)
  (h:∀a,cP κ kd a₀ a lo->(pendingOf a).size+1=(pendingOf st).size->(∀k:Nat,lo<=k->(arrOf a)[k]?=(arrOf st)[k]?)->Q true a):wpS (ai prog w) A E s (mergeAt' i) Q st:=by
 obtain⟨L,⟨f,c,q⟩,⟨R,p,M⟩,post,e,b⟩:=xN3 (l:=(pendingOf st).toList) (by simpa using N);have r:=d.runs;rw[e]at r;obtain⟨m,F,B,j,t,y,x,u,n⟩:=Runs.app.mp r;simp only at B j t y x u n;subst B y;have P:=n.le;have sz:(arrOf st).size=a₀.size:=d.perm.size_eq;have K:(pendingOf st)[i]?=some (f,c,q):=by
  rw[<- Yp,e,ZF (nV b),b,Ut];rfl
 have D:(pendingOf st)[i+1]?=some (f+c,p,M):=by
  rw[<- Yp,e,ZF (by lia),b,WW];rfl
 refine qM9 C d.kind (zr h0 d.perm) d.fail K D j x (by lia) t u λa g=>h a ⟨g.perm.trans d.perm,g.kind.trans d.kind,g.fail.trans d.fail,?_⟩ ?_ λk O=>g.out k (.inr (by lia))
 ·rw[g.pend,PF e b];refine Runs.app.mpr ⟨f,F.congr λk _ G=>g.out k (.inl G),rfl,by show 0<c+p;exact qm j,?_,?_⟩
  ·have:=g.srt
   rwa [Vt]at this
  ·have:=n.congr (a':=arrOf a) λk H _=>g.out k (.inr H)
   rwa [Vt]at this
 ·have:=Z9 List.length (PF (v:=(f,c+p,q)) e b);rw[<- g.pend]at this;have I:=Z9 List.length e;simp at this I;lia
theorem qD4{kd:SortKind}{a₀:Array Keyed}(J:oJ prog w A s κ kd)(h0:KeysOf κ a₀){st:au}{Q:Unit->au->Prop}(d:cP κ kd a₀ st 0)
  (h:∀b,(arrOf b).Perm a₀->failedOf b=none->SortedToK κ (arrOf b) a₀.size->Q () b):wpS (ai prog w) A E s sortRuns' Q st:=by
 rw[sortRuns'_eq];refine Zs (Vs ?_);dsimp only;have sz:(arrOf st).size=a₀.size:=d.perm.size_eq;simp only[sz];generalize minRun' a₀.size a₀.size 0=K;refine Zs (WI (Xm (I:=λx c b=>∃a,c=(none,a)/\cP κ kd a₀ b a/\x<=a/\a<=a₀.size)
  (Q:=λc b=>c=(none,a₀.size)/\cP κ kd a₀ b a₀.size) ?step ?fin ⟨0,rfl,d,Ze _,Zz _⟩) ?post)
 case fin=>
  rintro c b ⟨a,rfl,d,h1,W⟩;have:a=a₀.size:=by lia
  subst this;exact⟨rfl,d⟩
 case post=>
  rintro c b ⟨rfl,d⟩;dsimp only;refine Zs (WI (Xm (I:=λx c b=>c=(none,())/\cP κ kd a₀ b a₀.size/\(pendingOf b).size+x<=a₀.size)
   (Q:=λc b=>c=(none,())/\cP κ kd a₀ b a₀.size/\(pendingOf b).size<=1) ?Ay ?fin2 ⟨rfl,d,?C8⟩) ?Cw)
  case C8=>
   have:=d.runs.le;simp at this;lia
  case fin2=>
   rintro c b ⟨rfl,d,h1⟩;exact⟨rfl,d,by lia⟩
  case Cw=>
   rintro c b ⟨rfl,d,h1⟩;refine ZB (h b d.perm d.fail λi j jN hj=>?_);have r:=d.runs;cases e:(pendingOf b).toList with
   |nil=>
    rw[e]at r;have r':0=a₀.size:=r;lia
   |cons p Z=>
    rw[e]at r;obtain⟨r1,r2,S,r4⟩:=r;have:Z=[]:=by
     have:=Z9 List.length e;simp at this;exact WZ.mp (by lia)
    subst this;have P:0+p.2.1=a₀.size:=r4;rw[P]at S;exact S i j (Zz _) jN hj
  case Ay=>
   rintro x c b _ hx ⟨rfl,d,h1⟩;refine Zs (Vs ?_);by_cases C:(pendingOf b).size<=1
   ·rw[Zx C];exact ZB ⟨rfl,d,C⟩
   ·rw[Zl C];refine Zs (d.merge J h0 (Ze _) ?_ λf B e2 _=>?_)
    ·have key:∀c:Bool,(if c=true then(pendingOf b).size-2-1 else(pendingOf b).size-2)+1<(pendingOf b).size:=λc=>by cases c<;>simp<;>lia
     exact key _
    ·simp only[YY,Zr,Z5];exact ZB ⟨rfl,B,by lia⟩
 case step=>
  rintro x c b _ hx ⟨a,rfl,d,h1,W⟩;dsimp only;by_cases C:a>=a₀.size
  ·rw[Zx C];have:a=a₀.size:=by lia
   subst this;exact ZB ⟨rfl,d⟩
  ·rw[Zl C];have sz':(arrOf b).size=a₀.size:=d.perm.size_eq;have t:∀(n:Nat)(f:au),1<=n->a+n<=a₀.size->Mv b f a a₀.size->cK κ (arrOf f) a (a+n)->cP κ kd a₀ f a:=λn f F H q _=>
    ⟨q.perm.trans d.perm,q.kind.trans d.kind,q.fail.trans d.fail,by rw[q.pend];exact d.runs.congr λk _ k2=>q.out k (.inl k2)⟩
   have push:∀(n:Nat)(f:au),1<=n->cP κ kd a₀ f a->cK κ (arrOf f) a (a+n)->cP κ kd a₀ (setPending f ((pendingOf f).push (a,n,0))) (a+n):=λn f F B G=>
    ⟨B.perm,B.kind,B.fail,by
     rw[Xv];exact Runs.app.mpr ⟨a,B.runs,Runs.one (by lia) G⟩⟩
   refine Zs (xi3 J d.kind (zr h0 d.perm) (by lia) (by lia) λm f M q L G=>?_);have V:Mv b f a a₀.size:=by rwa [show a+(a₀.size-a)=a₀.size by lia]at L
   dsimp only;by_cases T:m<K
   case' neg=>
    rw[Zl T];have v:=G;have O:=t _ f M (QC q M) V G;have F:1<=m:=M;have H:a+m<=a₀.size:=by exact QC q M
    clear G;obtain⟨n,N⟩:∃n,n=m:=⟨_,rfl⟩;simp only[<- N]at v F H ⊢
   case' pos=>
    rw[Zx T];refine Zs (Uq (Y4 ⟨rfl,?_⟩));have X:a+min (a₀.size-a) K<=(arrOf f).size:=by rw[L.size];lia
    refine Zs (xi1 J (L.kind.trans d.kind) (zr h0 (L.perm.trans d.perm)) X (by lia) G λR D v=>?_);simp only[YY,Zr,Z5];have K9:Mv b R a a₀.size:=V.trans ⟨D.perm,D.kind,D.fail,D.pend,λk hk=>D.out k (by lia)⟩;have O:=t _ R (show 1<=min (a₀.size-a) K by lia) (by lia) K9 v;obtain⟨n,N⟩:∃n,n=min (a₀.size-a) K:=⟨_,rfl⟩;have F:1<=n:=by lia
    have H:a+n<=a₀.size:=by lia
    simp only[<- N]at v ⊢;clear N X D
   all_goals
    refine Zs (Vs ?_);split
    ·refine Zs (WI (Xm (I:=λx c l=>c=(none,())/\cP κ kd a₀ l a/\cK κ (arrOf l) a (a+n)) (Q:=λc l=>c=(none,())/\cP κ kd a₀ l a/\cK κ (arrOf l) a (a+n)) ?_ ?_ ⟨rfl,O,v⟩) ?_)
     ·rintro y c l _ _ ⟨rfl,g,u⟩;refine Zs (Vs ?_);split
      ·rename_i U;split
       ·exact ZB ⟨rfl,g,u⟩
       ·have xQ:(pendingOf l).size>1:=by
         by_cases z:(pendingOf l).size>1
         ·exact z
         ·rw[Zl z]at U;cases U
        refine Zs (g.merge J h0 W (by lia) λoj d5 _ Y=>?_);simp only[YY,Zr,Z5];exact ZB ⟨rfl,d5,u.congr λk k1 _=>Y k k1⟩
      ·exact ZB ⟨rfl,g,u⟩
     ·rintro c l ⟨rfl,g,u⟩;exact⟨rfl,g,u⟩
     ·rintro c l ⟨rfl,g,u⟩;refine Zs (X4 (Zs (X4 (ZB ⟨_,rfl,push _ _ F ⟨g.perm,g.kind,g.fail,?_⟩ u,by lia,H⟩))));rw[Array.toList_modify];refine Runs.mod ?_ g.runs;exact λ_=>⟨rfl,rfl⟩
    ·exact Zs (X4 (ZB ⟨_,rfl,push _ _ F O v,by lia,H⟩))
end
inductive lU:Bool->aa->List Int->Prop
 |int (i:Int) (t:Tok):lU false (.int i t) [i]
 |str (x:ar) (t:Tok):lU true (.str x t) (x.cps.toList.map Int.ofNat)
theorem lU.uniq{k:Bool}{v:aa}{l m:List Int}(h:lU k v l)(g:lU k v m):l=m:=by
 cases h<;>cases g<;>rfl
theorem IJ:∀{l m:List Nat},l.map Int.ofNat<m.map Int.ofNat<->l<m
 |[],[]=>by simp
 |[],_::_=>by simp
 |_::_,[]=>by simp
 |x::l,y::m=>by
  rw[ZC,ZC,Z1,Z1,IJ];simp only[Int.ofNat_eq_natCast,Int.ofNat_lt,Int.ofNat_inj]
theorem Pp:∀{l m:List Nat},l.map Int.ofNat=m.map Int.ofNat->l=m
 |[],[],_=>rfl
 |[],_::_,h=>by simp at h
 |_::_,[],h=>by simp at h
 |x::l,y::m,h=>by
  rw[ZC,ZC]at h;obtain⟨h1,a⟩:=List.cons.inj h;rw[Int.ofNat.inj h1,Pp a]
section
variable{pat:Nat->Bool}
theorem xN5{k:Bool}{x y:aa}{a b:List Int}{Q:Bool->ae->Prop}(d:lU k x a)(c:lU k y b)(h:Q (decide (a=b)) s):ag (ai prog w) A (eqBool x y) Q E s:=by
 cases d with
 |int i t=>
  cases c with
  |int j u=>
   refine wpAny_eqBool_int ?_;have e:decide ([i]=[j])=(i==j):=by simp;rfl
   rw[e]at h;exact h
 |str x t=>
  cases c with
  |str y u=>
   refine PySem.wpAny_eqBool_str ?_;have e:decide (x.cps.toList.map Int.ofNat=y.cps.toList.map Int.ofNat)=decide (x=y):=by
    rw[YT];constructor
    ·intro z;have:=Pp z;cases x;cases y;simp at this ⊢;exact this
    ·rintro rfl;rfl
   rw[e]at h;exact h
theorem xi6{k c:Bool}{x y:aa}{a b:List Int}{Q:Bool->ae->Prop}(f:lU k x a)(d:lU k y b)(h:Q (decide (a<b)) s):ag (ai prog w) A (oneLt' c x y) Q E s:=by
 cases f with
 |int i t=>
  cases d with
  |int j u=>
   have e:decide ([i]<[j])=decide (i<j):=by rw[YT,Z1];simp
   rw[e]at h;cases c with
   |true=>exact oneLt_int h
   |false=>
    rw[oneLt'_eq];simp only[Zr,Z5,VQ];exact Za (wpAny_lt_int (Yt h))
 |str x t=>
  cases d with
  |str y u=>
   have e:decide (x.cps.toList.map Int.ofNat<y.cps.toList.map Int.ofNat)=decide (x.cps.toList<y.cps.toList):=by rw[YT];exact IJ
   rw[e]at h;cases c with
   |true=>exact oneLt_str h
   |false=>
    rw[oneLt'_eq];simp only[Zr,Z5,VQ];exact Za (PySem.P.lt_str (Yt h))
end
theorem II:∀{l m:List (List Int)}(a b:List (List Int)),l.length=m.length->(l++a<m++b<->l<m\/(l=m/\a<b))
 |[],[],a,b,_=>by simp
 |[],_::_,_,_,h=>by simp at h
 |_::_,[],_,_,h=>by simp at h
 |x::l,y::m,a,b,h=>by
  rw[List.cons_append,List.cons_append,Z1,Z1,II a b (by simpa using h)];constructor
  ·rintro(z|⟨z,u|⟨u,v⟩⟩)
   ·exact .inl (.inl z)
   ·exact .inl (.inr ⟨z,u⟩)
   ·exact .inr ⟨by rw[z,u],v⟩
  ·rintro((z|⟨z,u⟩)|⟨z,v⟩)
   ·exact .inl z
   ·exact .inr ⟨z,.inl u⟩
   ·obtain⟨c,d⟩:=List.cons.inj z;exact .inr ⟨c,.inr ⟨d,v⟩⟩
structure bj(prog:ah)(w:aj) where
 is:ao->aa->List (List Int)->Prop
 lvl:Nat
 keep:∀{h h':ao}{v:aa}{l:List (List Int)},(∀b o,h.get? b=some o->o.cls=.type "tuple"->h'.get? b=some o)->is h v l->is h' v l
 len:∀{h h':ao}{u v:aa}{l m:List (List Int)},is h u l->is h' v m->l.length=m.length
 uniq:∀{h:ao}{v:aa}{l m:List (List Int)},is h v l->is h v m->l=m
 eqB:∀{A:aq}{E:aa->ae->Prop}{s:ae}{u v:aa}{l m:List (List Int)}{Q:Bool->ae->Prop},A.units+lvl<cLine->is s.heap u l->is s.heap v m->Q (decide (l=m)) s->ag (ai prog w) A (eqBool u v) Q E s
 lt:∀{A:aq}{E:aa->ae->Prop}{s:ae}{u v:aa}{l m:List (List Int)}{Q:aa->ae->Prop},A.units+lvl<cLine->is s.heap u l->is s.heap v m->Q (.bool (decide (l<m))) s->ag (ai prog w) A (richCompare .Lt u v) Q E s
theorem Nt(a b:List Int):decide ([a]=[b])=decide (a=b):=by simp
theorem Ej(a b:List Int):decide ([a]<[b])=decide (a<b):=by rw[YT,Z1];simp
def rF(k:Bool):bj prog w where
 is _ v l:=∃x,l=[x]/\lU k v x
 lvl:=0
 keep:=λ_ h=>h
 len:=λ⟨_,e,_⟩ ⟨_,a,_⟩=>by rw[e,a];rfl
 uniq:=λ⟨_,e,h⟩ ⟨_,a,b⟩=>by rw[e,a,h.uniq b]
 eqB:=λ_ ⟨_,e,h⟩ ⟨_,a,b⟩ q=>by
  subst e a;rw[Nt]at q;exact xN5 h b q
 lt:=λ_ ⟨_,e,h⟩ ⟨_,a,b⟩ q=>by
  subst e a;rw[Ej]at q;cases h with
  |int i t=>
   cases b with
   |int j u=>
    have e:decide ([i]<[j])=decide (i<j):=by rw[YT,Z1];simp
    rw[e]at q;exact wpAny_lt_int q
  |str x t=>
   cases b with
   |str y u=>
    have e:decide (x.cps.toList.map Int.ofNat<y.cps.toList.map Int.ofNat)=decide (x.cps.toList<y.cps.toList):=by rw[YT];exact IJ
    rw[e]at q;exact PySem.P.lt_str q
inductive iP(h:ao):List (bj prog w)->List aa->List (List Int)->Prop
 |nil:iP h [] [] []
 |cons {k:bj prog w}{v:aa}{l:List (List Int)}{ks:List (bj prog w)}{vs:List aa}{ls:List (List Int)}(x:k.is h v l) (r:iP h ks vs ls):iP h (k::ks) (v::vs) (l++ls)
theorem iP.keep{h h':ao}(d:∀b o,h.get? b=some o->o.cls=.type "tuple"->h'.get? b=some o):∀{a:List (bj prog w)}{c:List aa}{l:List (List Int)},iP h a c l->iP h' a c l
 |_,_,_,.nil=>.nil
 |k::_,_,_,.cons x r=>.cons (k.keep d x) (r.keep d)
theorem iP.len{h h':ao}:∀{a:List (bj prog w)}{b d:List aa}{l m:List (List Int)},iP h a b l->iP h' a d m->l.length=m.length
 |_,_,_,_,_,.nil,.nil=>rfl
 |k::_,_,_,_,_,.cons x r,.cons c e=>by rw[Zn,Zn,k.len x c,r.len e]
theorem iP.uniq{h:ao}:∀{a:List (bj prog w)}{b:List aa}{l m:List (List Int)},iP h a b l->iP h a b m->l=m
 |_,_,_,_,.nil,.nil=>rfl
 |k::_,_,_,_,.cons x r,.cons c d=>by rw[k.uniq x c,r.uniq d]
theorem iP.size{h:ao}:∀{a:List (bj prog w)}{b:List aa}{l:List (List Int)},iP h a b l->b.length=a.length
 |_,_,_,.nil=>rfl
 |_::_,_,_,.cons _ r=>by rw[Z4,Z4,r.size]
def gc(c:List (bj prog w))(h:ao)(v:aa)(l:List (List Int)):Prop:=∃a o b n,v=.ref a/\h.get? a=some o/\o.cls=.type "tuple" /\ o.data=.seq b n/\iP h c b.toList l
theorem gc.keep{c:List (bj prog w)}{h h':ao}{v:aa}{l:List (List Int)}(e:∀b o,h.get? b=some o->o.cls=.type "tuple"->h'.get? b=some o)(x:gc c h v l):gc c h' v l:=by
 obtain⟨a,o,j,n,rfl,g,d,f,i⟩:=x;exact⟨a,o,j,n,rfl,e _ _ g d,d,f,i.keep e⟩
theorem gc.uniq{d:List (bj prog w)}{h:ao}{v:aa}{l m:List (List Int)}(x:gc d h v l)(y:gc d h v m):l=m:=by
 obtain⟨a,o,B,n,rfl,i,r,e,g⟩:=x;obtain⟨q,p,k,t,j,c,u,b,f⟩:=y;cases j;rw[i]at c;cases c;rw[e]at b;cases b;exact g.uniq f
theorem xi7{n:List (bj prog w)}{L:Nat}(hL:∀k∈n,k.lvl<=L)(hu:A.units+L<cLine){l m:List (List Int)}{a b:af}{P:Fin->ae->Prop}(hx:gc n s.heap (.ref a) l)(hy:gc n s.heap (.ref b) m)(h:P (.done (.ret (.bool (decide (l=m))))) s):
  ag (ai prog w) A (Builtin.«tuple.__eq__» ⟨[.ref a,.ref b],[]⟩) P E s:=by
 obtain⟨a',oa,g,na,ea,V,_,kY,M⟩:=hx;obtain⟨b',ob,C,nb,U,Q,MI,kI,O⟩:=hy;cases ea;cases U;have MW:s.TypeIs (.ref b) "tuple":=⟨ob,Q,MI⟩;have J:g.size=C.size:=by have:=M.size;have:=O.size;simp at *;lia
 show ag _ _ (isInstance (.ref b) (.type "tuple") >>= _) _ _ s;refine Za (Xg MW isSubtype_tuple_tuple ?_);simp only[YY,Zr,Z5];refine Za (WT V kY ?_);refine Za (WT Q kI ?_);refine Za ?_;refine WB _
  (λc r D=>r.1=none/\D=s/\∃(d:List (bj prog w))(p j:List aa)(i t:List (List Int)),c=List.zip p j/\(∀k∈d,k.lvl<=L)/\iP s.heap d p i/\iP s.heap d j t/\decide (i=t)=decide (l=m))
  _ ?_ ?_ _ _ ⟨rfl,rfl,n,g.toList,C.toList,l,m,rfl,hL,M,O,rfl⟩
 ·rintro⟨u,v⟩ c r D ⟨G,rfl,d,p,j,i,t,e,H,I,f,B⟩;cases I with
  |nil=>simp at e
  |@cons k u' x qp X W R N=>
   cases f with
   |@cons _ v' y _ T ms K S=>
    simp only[WU,Xb,Uj]at e;obtain⟨⟨rfl,rfl⟩,rfl⟩:=e;have j9:=k.len R K;refine Za (k.eqB (by have:=H k (by simp);exact IA this hu) R K ?_);by_cases F:x=y
    ·subst F;rw[Zt rfl];simp only[YY,Zr,Z5];refine Zc ⟨rfl,rfl,qp,X,T,W,ms,rfl,λq Y=>H q (by simp[Y]),N,S,?_⟩;rw[<- B,YT,List.append_cancel_left_eq]
    ·rw[Zo F];simp only[W3,XQ];have Z:decide (l=m)=false:=by rw[<- B];exact Zo λz=>F (List.append_inj_left z j9)
     rw[Z]at h;exact Za (Zc (Zc (Zc h)))
 ·rintro⟨N,S⟩ D ⟨G,rfl,d,p,j,i,t,e,H,I,f,B⟩;simp only at G;subst G;refine Zc ?_;have xW:(g.size==C.size)=decide (l=m):=by
   rw[<- B];cases I with
   |nil=>cases f;simp[J]
   |cons _ _=>cases f with|cons _ _=>simp at e
  show P (.done (.ret (.bool (g.size==C.size)))) D;rw[xW];exact h
theorem xi8{p:List (bj prog w)}{L:Nat}(hL:∀k∈p,k.lvl<=L)(Q:A.units+L<cLine){l m:List (List Int)}{a b:af}{P:Fin->ae->Prop}(hx:gc p s.heap (.ref a) l)(hy:gc p s.heap (.ref b) m)(h:P (.done (.ret (.bool (decide (l<m))))) s):
  ag (ai prog w) A (Builtin.«tuple.__lt__» ⟨[.ref a,.ref b],[]⟩) P E s:=by
 obtain⟨a',oa,i,na,ea,W,_,kY,N⟩:=hx;obtain⟨b',ob,D,nb,V,S,MI,kI,R⟩:=hy;cases ea;cases V;have MW:s.TypeIs (.ref b) "tuple":=⟨ob,S,MI⟩;have K:i.size=D.size:=by have:=N.size;have:=R.size;simp at *;lia
 show ag _ _ (isInstance (.ref b) (.type "tuple") >>= _) _ _ s;refine Za (Xg MW isSubtype_tuple_tuple ?_);simp only[YY,Zr,Z5];refine Za (WT W kY ?_);refine Za (WT S kI ?_);refine Za ?_;refine WB _
  (λc r F=>r.1=none/\F=s/\∃(d:List (bj prog w))(t n:List aa)(j B:List (List Int)),c=List.zip t n/\(∀k∈d,k.lvl<=L)/\iP s.heap d t j/\iP s.heap d n B/\decide (j<B)=decide (l<m))
  _ ?_ ?_ _ _ ⟨rfl,rfl,p,i.toList,D.toList,l,m,rfl,hL,N,R,rfl⟩
 ·rintro⟨u,v⟩ c r F ⟨I,rfl,d,t,n,j,B,e,f,J,g,C⟩;cases J with
  |nil=>simp at e
  |@cons k u' x qp Y X M O=>
   cases g with
   |@cons _ v' y _ U ms H T=>
    simp only[WU,Xb,Uj]at e;obtain⟨⟨rfl,rfl⟩,rfl⟩:=e;have j9:=k.len M H;refine Za (k.eqB (by have:=f k (by simp);exact IA this Q) M H ?_);by_cases G:x=y
    ·subst G;rw[Zt rfl];simp only[YY,Zr,Z5];refine Zc ⟨rfl,rfl,qp,Y,U,X,ms,rfl,λq Z=>f q (by simp[Z]),O,T,?_⟩;rw[<- C,YT,II _ _ rfl];simp[Wb]
    ·rw[Zo G];simp only[W3,XQ];have hf:decide (x<y)=decide (l<m):=by rw[<- C,YT,II _ _ j9];simp[G]
     rw[<- hf]at h;refine Za (Y4 (Za (k.lt (by have:=f k (by simp);exact IA this Q) M H ?_)));exact Za (Zc (Zc (Zc h)))
 ·rintro⟨O,T⟩ F ⟨I,rfl,d,t,n,j,B,e,f,J,g,C⟩;simp only at I;subst I;refine Zc ?_;have xW:decide (i.size<D.size)=decide (l<m):=by
   rw[<- C];cases J with
   |nil=>cases g;simp[K]
   |cons _ _=>cases g with|cons _ _=>simp at e
  show P (.done (.ret (.bool (decide (i.size<D.size))))) F;rw[xW];exact h
theorem gc.typeIs{c:List (bj prog w)}{l:List (List Int)}{a:af}(x:gc c s.heap (.ref a) l):s.TypeIs (.ref a) "tuple":=by
 obtain⟨f,o,_,_,e,d,b,_⟩:=x;cases e;exact⟨o,d,b⟩
def EU(j:List (bj prog w))(L:Nat)(i:∀k∈j,k.lvl<=L):bj prog w where
 is:=gc j
 lvl:=L+1
 keep:=λn x=>x.keep n
 len:=λ⟨_,_,_,_,_,_,_,_,e⟩ ⟨_,_,_,_,_,_,_,_,p⟩=>e.len p
 uniq:=gc.uniq
 eqB:=λ{A E s u v l m Q} f c d h=>by
  obtain⟨a,rfl⟩:∃a,u=.ref a:=let ⟨a,_,_,_,e,_⟩:=c;⟨a,e⟩;obtain⟨b,rfl⟩:∃a,v=.ref a:=let ⟨a,_,_,_,e,_⟩:=d;⟨a,e⟩;unfold eqBool
  try with_reducible refine ZP ?_
  by_cases g:(Value.ref a==Value.ref b)=true
  ·rw[Zx g];have e:a=b:=by have:=eq_of_beq g;injection this
   subst e;obtain rfl:=c.uniq d;exact Za (Y4 (Zc (by simpa using h)))
  ·rw[Zl g];exact Za (wpAny_richCompare_same_room (op:=.Eq) c.typeIs d.typeIs F.slot_tuple_eq
    (Z3 F.slot_tuple_eq c.typeIs F.entry_tuple_eq (xi7 i (by show A.units+1+L<cLine;exact Ol f) c d ⟨_,rfl,(λe=>nomatch e),Yt h⟩) (F.args_tuple_eq_2 _ _)) (eI f))
 lt:=λ{A E s u v l m Q} f c d h=>by
  obtain⟨a,rfl⟩:∃a,u=.ref a:=let ⟨a,_,_,_,e,_⟩:=c;⟨a,e⟩;obtain⟨b,rfl⟩:∃a,v=.ref a:=let ⟨a,_,_,_,e,_⟩:=d;⟨a,e⟩;exact wpAny_richCompare_same_room (op:=.Lt) c.typeIs d.typeIs F.slot_tuple_lt
   (Z3 F.slot_tuple_lt c.typeIs F.entry_tuple_lt (xi8 i (by show A.units+1+L<cLine;exact Ol f) c d ⟨_,rfl,(λe=>nomatch e),h⟩) (F.args_tuple_lt_2 _ _)) (eI f)
open Classical in
noncomputable def sD{prog:ah}{w:aj}(κ:bj prog w)(h:ao):KeyKind where
 α:=List (List Int)
 blt a b:=decide (a<b)
 irrefl a:=by simpa using Wb a
 trans a b c h1 h2:=by simp only[W7]at *;exact List.lt_trans h1 h2
 negTrans a b c h:=by
  simp only[W7]at *;by_cases d:a<b
  ·exact .inl d
  ·exact .inr (List.lt_of_le_of_lt (Vy.mp d) h)
 total a b h1 h2:=by simp only[decide_eq_false_iff_not]at *;exact List.le_antisymm (Vy.mp h2) (Vy.mp h1)
 keyOf v:=if e:∃l,κ.is h v l then some e.choose else none
 dflt:=[]
section
variable{κ:bj prog w}
open Classical in
theorem H0{h:ao}{v:aa}{l:List (List Int)}(x:κ.is h v l):(sD κ h).keyOf v=some l:=by
 have e:∃l,κ.is h v l:=⟨l,x⟩;show(if e:∃l,κ.is h v l then some e.choose else none)=some l;rw[dif_pos e,κ.uniq e.choose_spec x]
open Classical in
theorem PD{h:ao}{v:aa}{l:List (List Int)}(x:(sD κ h).keyOf v=some l):κ.is h v l:=by
 by_cases e:∃l,κ.is h v l
 ·have:=H0 e.choose_spec;rw[this]at x;cases x;exact e.choose_spec
 ·have:(sD κ h).keyOf v=none:=by
   show(if e:∃l,κ.is h v l then some e.choose else none)=none;rw[dif_neg e]
  rw[this]at x;cases x
structure NI(κ:bj prog w)(kd:SortKind):Prop where
 kind:∀{A:aq}{E:aa->ae->Prop}{s:ae}{vs:List aa}{Q:SortKind->ae->Prop},vs≠[]->(∀v∈vs,∃l,κ.is s.heap v l)->Q kd s->ag (ai prog w) A (keyKind' vs.toArray) Q E s
 klt:∀{A:aq}{s:ae},A.units+κ.lvl<cLine->oJ prog w A s (sD κ s.heap) kd
def u_(k:Bool):aa:=if k then .type "str"else .type "int"
theorem xw3{k:Bool}{u:aa}{l:List Int}(h:lU k u l):typeOf u=pure (u_ k):=by cases h<;>rfl
theorem SX{k:Bool}:∀{us:List aa},(∀u∈us,∃l,lU k u l)->us.mapM typeOf=pure (us.map λ_=>u_ k)
 |[],_=>by simp
 |u::us,h=>by
  rw[List.mapM_cons,SX (us:=us) λq a=>h q (by simp[a])];obtain⟨l,b⟩:=h u (by simp);rw[xw3 b];simp
theorem xi9{k:Bool}{us:List aa}(h0:us≠[])(h:∀u∈us,∃l,lU k u l):oneTypeOnly' us.toArray=pure (some (u_ k)):=by
 rw[oneTypeOnly'_eq,List.mapM_toArray,SX h];simp only[map_pure,VQ];cases us with
 |nil=>exact absurd rfl h0
 |cons u us=>
  have a:((u::us).map λ_=>u_ k).toArray[0]?=some (u_ k):=by simp
  have b:(((u::us).map λ_=>u_ k).toArray.all λx=>x==u_ k)=true:=by
   simp only[List.all_toArray,List.all_map,Y6];intro _ _;cases k<;>rfl
  rw[a];simp only[b,XQ]
theorem xj0{k:Bool}{u:aa}{l:List Int}(h:lU k u l):firstOfTuple' u=pure none:=by cases h<;>rfl
theorem SW{k:Bool}:∀{us:List aa},(∀u∈us,∃l,lU k u l)->us.mapM firstOfTuple'=pure (us.map λ_=>none)
 |[],_=>by simp
 |u::us,h=>by
  rw[List.mapM_cons,SW (us:=us) λq a=>h q (by simp[a])];obtain⟨l,b⟩:=h u (by simp);rw[xj0 b];simp
theorem xT4(k:Bool):NI (prog:=prog) (w:=w) (rF k) oneType' where
 kind:=λ{A E s d Q} g m h=>by
  have f:∀u∈d,∃l,lU k u l:=λu p=>let ⟨_,x,_,e⟩:=m u p;⟨x,e⟩;have e:keyKind' d.toArray=pure oneType':=by
   rw[keyKind'_eq,List.mapM_toArray,SW f];simp only[map_pure,VQ];cases d with
   |nil=>exact absurd rfl g
   |cons v d=>
    rw[Zl (by simp),Zl (by simp),xi9 g f];simp
  rw[e];exact Zc h
 klt:=λ{A s} _ E x y a b Q n hb j=>by
  obtain⟨t,rfl,r⟩:=PD n;obtain⟨B,rfl,q⟩:=PD hb;have i:Q (decide ([t]<[B])) s:=j;rw[Ej]at i;exact xi6 (c:=true) r q i
def rg(κ:bj prog w)(h:ao)(a:List aa):Prop:=a.Pairwise λu v=>∀l m,κ.is h u l->κ.is h v m->¬m<l
theorem xT5{c:List aa}{h:ao}{xs:Array Keyed}(x:∀v∈c,∃l,κ.is h v l)(k:xs.Perm (pairsOf c))(hs:SortedToK (sD κ h) xs (pairsOf c).size):
  (xs.map (·.2)).toList.Perm c/\rg κ h (xs.map (·.2)).toList:=by
 have d:xs.toList.Perm (c.zip c):=by rw[<- pairsOf_toList];exact Wy.mp k
 have f:∀p,p∈xs.toList->p.1=p.2/\p.1∈c:=λp q=>mem_zip_self (d.mem_iff.mp q);constructor
 ·rw[Array.toList_map];have z:=d.map Prod.snd
  rwa [List.map_snd_zip (Ze _)]at z
 ·refine XI.mpr λi j u r s l m d t=>?_;have e:i<xs.size:=by simpa using u
  have n:j<xs.size:=by simpa using r
  have z:=hs i j (Xz s) (by rw[<- k.size_eq];exact n);have g:∀(i:Nat)(e:i<xs.size) l,κ.is h xs[i].2 l->KK (sD κ h) xs i=l:=λi e l d=>by
   have a:=(f xs[i] (by simp)).1;have b:κ.is h xs[i].1 l:=by rw[a];exact d
   rw[rj e];unfold kv;rw[H0 b];rfl
  rw[g i e l (by simpa using d),g j n m (by simpa using t)]at z;exact YA z
theorem xw4{kd:SortKind}(H:NI κ kd)(R:A.units+κ.lvl<cLine){p:af}{d:List aa}{n:Nat}{P:Fin->ae->Prop}(j:s.heap.get? p=some (seqObj "list" d.toArray n))(U:∀v∈d,∃l,κ.is s.heap v l)(hz:d.length<=sizeLine)
  (h:∀g:Array aa,g.toList.Perm d->rg κ s.heap g.toList->P (.done (.ret .none)) {s with heap:=sortedHeap s.heap p d g}):
  ag (ai prog w) A (Builtin.«list.sort» ⟨[.ref p],[]⟩) P E s:=by
 have lt:=Zi j;obtain⟨M,J⟩:∃c,(s.heap.update p (Obj.mapSeq λ_=>#[])).get? p=some (seqObj "list" #[] c):=⟨_,get?_update_seq j (λ_=>#[])⟩;have N:∀b o,b≠p->s.heap.get? b=some o->(((s.heap.update p (Obj.mapSeq λ_=>#[])).push (seqObj "tuple" d.toArray 0)).push (seqObj "list" #[] 0)).get? b=some o:=λb o hb q=>by
  have F:=Zi q;rw[Ve _ _ _ (by rw[size_push',Vr];exact Zp (ZZ F)),Ve _ _ _ (by rw[Vr];exact Zp F),Heap.get?_update_ne _ _ _ _ hb];exact q
 have r:(((s.heap.update p (Obj.mapSeq λ_=>#[])).push (seqObj "tuple" d.toArray 0)).push (seqObj "list" #[] 0)).get? p=some (seqObj "list" #[] M):=by
  rw[Ve _ _ _ (by rw[size_push',Vr];exact Zp (ZZ lt)),Ve _ _ _ (by rw[Vr];exact Zp lt)];exact J
 have I:∀b o,s.heap.get? b=some o->o.cls=.type "tuple"->(((s.heap.update p (Obj.mapSeq λ_=>#[])).push (seqObj "tuple" d.toArray 0)).push (seqObj "list" #[] 0)).get? b=some o:=λb o q c=>N b o (by rintro rfl;rw[j]at q;cases q;simp at c) q;rw[list_sort_plain];refine Za (listItems_at j rfl (Za (listUpdate_at j rfl (Za (seqEpoch_at J rfl (Za (wpAny_newTuple (Za (wpAny_newList (ZP ?_) (Zz _))) (by simpa using hz))))) (by simpa using hz) (Zz _))));have B:∀u g,(∀b o,s.heap.get? b=some o->o.cls=.type "tuple"->u.get? b=some o)->g.toList.Perm d->rg κ u g.toList->P (.done (.ret .none)) {s with heap:=sortedHeap s.heap p d g}:=λu g G k C=>h g k (Uh (λz l m x y=>z l m (κ.keep G x) (κ.keep G y)) C);have t:∀v∈d,∃l,κ.is (((s.heap.update p (Obj.mapSeq λ_=>#[])).push (seqObj "tuple" d.toArray 0)).push (seqObj "list" #[] 0)) v l:=λv q=>by
  obtain⟨l,x⟩:=U v q;exact⟨l,κ.keep I x⟩
 dsimp only;by_cases f:d.toArray.size<2
 ·rw[Zx f,Zx f];refine Za (Zc ?_);rw[StateT.run_pure];refine Za (Zc ?_);dsimp only;have e:(d.toArray.zip d.toArray).map (·.2)=d.toArray:=by
   apply Array.toList_inj.mp;simp[List.map_snd_zip]
  refine Za (seqEpoch_at r rfl (Za (listUpdate_at r rfl ?_ (Zz _) (by show((d.toArray.zip d.toArray).map (·.2)).size<=_;rw[e];simp;exact uJ hz))));simp only[bne_self_eq_false,Zr,Z5];refine Zc ?_;rw[e];refine h _ (by simp) ?_;have:d.length<2:=by simpa using f
  match d,this with
  |[],_=>exact List.Pairwise.nil
  |[x],_=>exact WY _ _
  |_::_::_,z=>simp at z;lia
 ·rw[Zl f,Zl f];refine Za (H.kind (λz=>f (by rw[z];decide)) t ?_);generalize K:((s.heap.update p (Obj.mapSeq λ_=>#[])).push (seqObj "tuple" d.toArray 0)).push (seqObj "list" #[] 0)=h1 at *;have T:KeysOf (sD κ h1) (pairsOf d):=λq D=>by
   rw[pairsOf_toList]at D;obtain⟨l,x⟩:=t _ (mem_zip_self D).2;exact⟨l,H0 x⟩
  refine Za (Yv (qD4 (κ:=sD κ h1) (kd:=kd) (a₀:=pairsOf d) (st:=SortSt.mk' kd (d.toArray.zip d.toArray) #[] 7 none)
   (Q:=λ_ i=>(arrOf i).Perm (pairsOf d)/\failedOf i=none/\SortedToK (sD κ h1) (arrOf i) (pairsOf d).size)
   (H.klt (s:={s with heap:=h1}) R) T ⟨Array.Perm.refl _,rfl,rfl,rfl⟩ λi a b c=>⟨a,b,c⟩) ?_ λ_ _ e=>e)
  rintro⟨⟨⟩,i⟩ V ⟨rfl,S,L,O⟩;dsimp only;obtain⟨k,C⟩:=xT5 t S O;refine Za (seqEpoch_at r rfl (Za (listUpdate_at r rfl ?_ (Zz _) ?_)))
  ·rw[L];simp only[bne_self_eq_false,Zr,Z5];refine Zc ?_;subst K;exact B _ _ I k C
  ·refine ZI (VO ?_) (Uc hz);have:=k.length_eq;rw[ZL]at this;exact this
theorem xj1{kd:SortKind}(t:NI κ kd)(D:A.units+3+κ.lvl<cLine){x:aa}{Pv:List aa->Prop}{Q:aa->ae->Prop}(g:∀a,Pv a->(∀v∈a,∃l,κ.is s.heap v l)/\a.length<=sizeLine)
  (hc:∀r:List aa->ae->Prop,(∀(a:List aa)(n:ao)(f:Nat)(d:Drawn),Pv a->(∀b o,s.heap.get? b=some o->n.get? b=some o)->r a {s with heap:=n,drawn:=d,toks:=f})->ag (ai prog w) A.in1 (collect x) r E s)
  (h:∀(a:List aa)(out:Array aa)(h1 j:ao)(f:Nat)(d:Drawn)(c:Nat),Pv a->(∀b o,s.heap.get? b=some o->h1.get? b=some o)->(∀b o,h1.get? b=some o->j.get? b=some o)->j.get? h1.objs.size=some (seqObj "list" out c)->out.toList.Perm a->rg κ s.heap out.toList->Q (.ref h1.objs.size) {s with heap:=j,drawn:=d,toks:=f}):
  ag (ai prog w) A (call (.builtin "sorted") [x]) Q E s:=by
 refine Calls.call_function_entry kind_sorted plain_sorted entry_sorted (args_sorted1 _) ?_;unfold Builtin.«sorted»;refine Za (m:=checkCount "sorted" 1 1 _) (Zc (Za (hc _ λa h1 f d pv p=>Za (wpAny_newList ?_ (g a pv).2))));obtain⟨g,C⟩:=g a pv;have k:(h1.push (seqObj "list" a.toArray 0)).get? h1.objs.size=some (seqObj "list" a.toArray 0):=Zg _ rfl;have i:∀b o,s.heap.get? b=some o->(h1.push (seqObj "list" a.toArray 0)).get? b=some o:=λb o e=>Zb _ (p b o e);refine Za (ZP (Z3 (s:={s with heap:=h1.push (seqObj "list" a.toArray 0),drawn:=d,toks:=f}) slot_list_sort ⟨_,k,rfl⟩ entry_list_sort (xw4 t ?_ k (λv q=>(g v q).imp λ_ z=>κ.keep (λb o e _=>i b o e) z) C λout u B=>⟨_,rfl,Zc ⟨_,rfl,?_⟩⟩) (args_list_sort _)))
 ·show A.units+1+1+κ.lvl<cLine;lia
 ·obtain⟨c,hc⟩:=sortedHeap_at (out:=out) k;refine h a out h1 _ f d c pv p (λb o e=>?_) hc u (Uh (λz l m x y=>z l m (κ.keep (λb o e _=>i b o e) x) (κ.keep (λb o e _=>i b o e) y)) B);have lt:=Zi e;rw[sortedHeap_old (Zp lt) (by rw[size_push'];exact ZZ lt)];exact Zb _ e
end
theorem IH(key:Nat->List (List Int)):∀n j,j<=n->¬key j<key (argBest (λi j=>decide (key i<key j)) n)
 |0,j,h=>by
  have:j=0:=by exact Iu h
  subst this;exact Wb _
 |n+1,j,h=>by
  unfold argBest;by_cases hb:key (n+1)<key (argBest (λi j=>decide (key i<key j)) n)
  ·rw[Zx (Zt hb)];by_cases e:j=n+1
   ·subst e;exact Wb _
   ·intro z;exact IH key n j (ER h e) (List.lt_trans z hb)
  ·rw[Zl (by simpa using hb)];by_cases e:j=n+1
   ·subst e;exact hb
   ·exact IH key n j (ER h e)
end PyProof.Rows
namespace L2
open PySem PySem.Spec PyProof.Rows
theorem xa5:∀{c d:List aa},d.Perm c->∀{a:List V},Vals a c->∃b,Vals b d/\b.Perm a:=by
 intro c d p
 induction p with
 |nil=>intro a r;exact⟨a,r,.refl _⟩
 |cons u p w=>
  intro a r;cases r with
  |cons h r=>
   obtain⟨b,s,j⟩:=w r;exact⟨_::b,.cons h s,j.cons _⟩
 |swap u v l=>
  intro a r;cases r with
  |cons h r=>
   cases r with
   |cons m r=>exact⟨_::_::_,.cons m (.cons h r),List.Perm.swap _ _ _⟩
 |trans p q n i=>
  intro a r;obtain⟨x,g,k⟩:=i r;obtain⟨e,t,f⟩:=n g;exact⟨e,t,f.trans k⟩
theorem Sj:∀{b:List V}{a:List aa}{u:aa},Vals b a->u∈a->∃x,x∈b/\RelV x u
 |_,_,u,.nil,h=>by simp at h
 |_,_,u,.cons r d,h=>by
  rcases Zu.mp h with rfl|z
  ·exact⟨_,by simp,r⟩
  ·obtain⟨x,h1,c⟩:=Sj d z;exact⟨x,by simp[h1],c⟩
end L2
namespace L2
open PySem PySem.Spec PyProof.Rows PySem.W
theorem Inv.C4{X:Cx}{a:List (af×az)}{σ:St}{H:Hp}{s:ae}{h':ao}{t':Nat}{d':Drawn}(I:Inv X a σ H s)(k:∀b u,s.heap.get? b=some u->h'.get? b=some u):Inv X a σ H {s with heap:=h',drawn:=d',toks:=t'}:=
 I.call (ch:=[]) (g':=s.gens) (Un.kept k) (I.aT.kept k) I.bare (λb hb=>nomatch hb)
end L2
namespace L2
open PySem PyProof.Rows
theorem Fq{α e:Type}{R:α->e->Prop}:∀{c d:List α},d.Perm c->∀{a:List e},Paired R c a->∃b,Paired R d b/\b.Perm a:=by
 intro c d p
 induction p with
 |nil=>intro a r;exact⟨a,r,.refl _⟩
 |cons u p x=>
  intro a r;cases r with
  |cons h r=>
   obtain⟨b,t,k⟩:=x r;exact⟨_::b,.cons h t,k.cons _⟩
 |swap u v l=>
  intro a r;cases r with
  |cons h r=>
   cases r with
   |cons n r=>exact⟨_::_::_,.cons n (.cons h r),List.Perm.swap _ _ _⟩
 |trans p q s j=>
  intro a r;obtain⟨y,i,m⟩:=j r;obtain⟨f,w,g⟩:=s i;exact⟨f,w,g.trans m⟩
theorem Js{α c:Type}{R:α->c->Prop}:∀{a:List α}{b:List c},a.length=b.length->(∀(i:Nat) u x,a[i]?=some u->b[i]?=some x->R u x)->Paired R a b
 |[],[],_,_=>.nil
 |[],_::_,h,_=>by simp at h
 |_::_,[],h,_=>by simp at h
 |u::a,x::b,h,f=>.cons (f 0 u x rfl rfl) (Js (by simpa using h) λi y v d e=>f (i+1) y v (by simpa using d) (by simpa using e))
theorem BL{α a:Type}{R:α->a->Prop}:∀{b:List α}{c:List a},Paired R b c->∀(i:Nat) u,b[i]?=some u->∃x,c[i]?=some x/\R u x
 |_,_,.nil,i,u,h=>by simp at h
 |_,_,.cons h r,0,u,e=>by simp at e;subst e;exact⟨_,rfl,h⟩
 |_,_,.cons h r,i+1,u,e=>by
  obtain⟨x,h1,d⟩:=BL r i u (by simpa using e);exact⟨x,by simpa using h1,d⟩
end L2
namespace L2
open PySem PySem.Spec PyProof.Rows PySem.W
section
variable{H:Hp}
def lN(κ:bj P w)(H:Hp)(v:V)(l:List (List Int)):Prop:=∀(h:ao)(u:aa),dH P w H h->RelV v u->κ.is h u l
theorem J8(i:Int):lN (P:=P) (w:=w) (rF false) H (.int i) [[i]]:=λh u _ r=>by
 obtain⟨t,rfl⟩:=r;exact⟨_,rfl,.int i t⟩
theorem J7(x:ar):lN (P:=P) (w:=w) (rF true) H (.str x) [x.cps.toList.map Int.ofNat]:=λh u _ r=>by
 obtain⟨t,rfl⟩:=r;exact⟨_,rfl,.str x t⟩
inductive Am(H:Hp):List (bj P w)->List V->List (List Int)->Prop
 |nil:Am H [] [] []
 |cons {k:bj P w}{v:V}{l:List (List Int)}{ks:List (bj P w)}{vs:List V}{ls:List (List Int)}(x:lN k H v l) (r:Am H ks vs ls):Am H (k::ks) (v::vs) (l++ls)
theorem Am.rel{h:ao}(ok:dH P w H h):∀{b:List (bj P w)}{c:List V}{d:List (List Int)}{a:List aa},Am H b c d->Vals c a->iP h b a d
 |_,_,_,_,.nil,.nil=>.nil
 |_,_,_,_,.cons x r,.cons e f=>.cons (x _ _ ok e) (r.rel ok f)
theorem Po{b:List (bj P w)}{L:Nat}{c:∀k∈b,k.lvl<=L}{a:af}{xs:List V}{l:List (List Int)}(e:H a=some (.tup xs))(it:Am H b xs l):lN (EU b L c) H (.ref a) l:=λh u ok r=>by
 cases(show u=Value.ref a from r);obtain⟨_,j,i,o,f,d,n,g⟩:=ok a _ e;exact⟨a,o,_,n,rfl,f,d,g,by simpa using it.rel ok i⟩
def ub(κ:bj P w)(H:Hp)(a:List V):Prop:=a.Pairwise λu v=>∀l m,lN κ H u l->lN κ H v m->¬m<l
theorem Si:∀{b:List V}{a:List aa}{x:V},Vals b a->x∈b->∃u,u∈a/\RelV x u
 |_,_,u,.nil,h=>by simp at h
 |_,_,u,.cons r d,h=>by
  rcases Zu.mp h with rfl|z
  ·exact⟨_,by simp,r⟩
  ·obtain⟨x,h1,c⟩:=Si d z;exact⟨x,by simp[h1],c⟩
theorem Pn{κ:bj P w}{h:ao}(ok:dH P w H h):∀{c:List V}{b:List aa},Vals c b->rg κ h b->ub κ H c
 |_,_,.nil,_=>.nil
 |x::c,u::b,.cons r d,a=>by
  obtain⟨f,j⟩:=XF.mp a;refine XF.mpr ⟨λy g l m i e=>?_,Pn ok d j⟩;obtain⟨v,k,n⟩:=Si d g;exact f v k l m (i _ _ ok r) (e _ _ ok n)
end
end L2
namespace Pr
open PySem L2 Qf
theorem Jg:aF ["n"] ["n"] (bJ FO):=cZ
inductive AB(vs:List V)(H:Hp)(Q:VK):Prop
 |mk(n:Nat)(e0:vs=[.int (n:Nat)])(e1:n<=12)(e2:Q .cu H)
def AD:Sp:=λa H Q _=>AB a H Q
theorem xT6{f b:af}{d c:ak}(F:a_ K "want_floor" "want_floor" FO f d)(g:mg "is_size"=some (.ref b))(i:a_ K "is_size" "is_size" Cp b c)(k:Binds K c ["thing"] [])(j:aE P w K mg base aS 2 b c ["thing"] KH):
  aE P w K mg base aS 3 f d ["n"] AD:=by
 refine F.ok Jg (λl H Q E h=>?_) (λp A a s H l Q E e h=>?_)
 ·obtain⟨n,rfl,_⟩:=h
  rfl
 ·obtain⟨n,rfl,m,q⟩:=h;refine⟨_,cR (dE (md (jm (bZ j e g i.kp k (aG (pv 0) aP)))) wx dG),?_⟩;exact⟨_,rfl,n,rfl,m,⟨_,rfl,bY q⟩⟩
theorem Jh:aF ["n","row","column"] ["n","row","column"] (bJ Fo):=cZ
inductive AE(vs:List V)(H:Hp)(Q:VK):Prop
 |mk(n r c:Nat)(e0:vs=[.int (n:Nat),.int (r:Nat),.int (c:Nat)])(e1:n<=12)(e2:r<2^n)(e3:c<2^n)(e4:Q .cu H)
def AF:Sp:=λa H Q _=>AE a H Q
theorem xT7{f d:af}{e a:ak}(F:a_ K "want_cell" "want_cell" Fo f e)(p:mg "is_cell"=some (.ref d))(k:a_ K "is_cell" "is_cell" EI d a)(g:Binds K a ["n","row","column"] [])(j:aE P w K mg base aS 2 d a ["n","row","column"] OM):
  aE P w K mg base aS 3 f e ["n","row","column"] AF:=by
 refine F.ok Jh (λl H Q E h=>?_) (λt A b s H l Q E i h=>?_)
 ·obtain⟨n,r,c,rfl,_⟩:=h
  rfl
 ·obtain⟨n,r,c,rfl,m,h1,u,q⟩:=h;refine⟨_,cR (dE (md (jm (bZ j i p k.kp g (aG (pv 0) (aG (pv 1) (aG (pv 2) aP)))))) wx dG),?_⟩;refine⟨_,rfl,_,rfl,_,rfl,n,r,c,rfl,m,?_⟩;rw[Zt (show(0<=(r:Int)/\(r:Int)<((2^n:Nat):Int))/\0<=(c:Int)/\(c:Int)<((2^n:Nat):Int) by lia)];exact⟨_,rfl,bY q⟩
theorem Jj:aF ["n","address"] ["n","address"] (bJ Fz):=cZ
inductive Bc(vs:List V)(H:Hp)(Q:VK):Prop
 |mk(n:Nat)(ds:List Nat)(e0:vs=[.int (n:Nat),.str (txt ds)])(e1:n<=12)(e2:(∀d∈ds,d<4))(e3:ds.length<=n)(e4:∀H' p,aI H H'->H' p=some (.tup (vN [gS n ds,gX n ds,2^(n-ds.length)]))->Q (.ref p) H')
def Bd:Sp:=λa H Q _=>Bc a H Q
theorem xT8{f d l a:af}{t e k g:ak}(F:a_ K "box_of" "box_of" Fz f t)(D:mg "want_floor"=some (.ref d))(J:a_ K "want_floor" "want_floor" FO d e)(y:Binds K e ["n"] [])(u:aE P w K mg base aS 3 d e ["n"] AD)
  (hA:mg "want_address"=some (.ref l)) (FA:a_ K "want_address" "want_address" FK l k) (B:Binds K k ["n","address"] []) (x:aE P w K mg base aS 3 l k ["n","address"] TQ)
  (I:mg "box_at"=some (.ref a)) (v:a_ K "box_at" "box_at" FJ a g) (G:Binds K g ["n","address"] []) (L:aE P w K mg base aS 2 a g ["n","address"] Gf):aE P w K mg base aS 4 f t ["n","address"] Bd:=by
 refine F.ok Jj (λM H Q E h=>?_) (λR A c s H M Q E b h=>?_)
 ·obtain⟨n,i,rfl,_⟩:=h
  rfl
 ·obtain⟨n,i,rfl,j,r,m,q⟩:=h;have C:bf 2 _:=b.mono (by decide);refine aQ ⟨_,⟨ke (bZ u b D J.kp y (aG (pv 0) aP))⟩,?_⟩;refine aQ ⟨_,⟨ke (bZ x b hA FA.kp B (aG (pv 0) (aG (pv 1) aP)))⟩,?_⟩;refine gj ⟨_,⟨cF (bZ L C I v.kp G (aG (pv 0) (aG (pv 1) aP)))⟩,?_⟩;refine⟨_,rfl,n,rfl,j,?_⟩;refine⟨_,rfl,_,rfl,n,i,rfl,j,r,m,λS O=>?_⟩;exact⟨_,rfl,_,rfl,n,i,rfl,j,r,m,λp N=>q _ p (O.trans (bQ N)) bu⟩
abbrev nLO:List ar:=["shape","top","rows","leaves"]
theorem rX:aF nLO ["shape"] (bJ Fn):=cZ
inductive AS(vs:List V)(H:Hp)(Q:VK):Prop
 |mk(t:af)(n tp:Nat)(rows:List Row)(e0:vs=[.ref t])(e1:g7 H t n tp rows)(e2:bK (T rows tp)<=2000)(e3:∀H' lp,aI H H'->H lp=none->oI H' lp (ck (T rows tp))->Q (.ref lp) H')
def AU:Sp:=λa H Q _=>AS a H Q
theorem xN7:("":ar)=txt []:=by decide +kernel
theorem xw5{H:Hp}{l:af}(h:H l=some (.lst [])):oI H l []:=⟨[],h,rfl,λi b e h=>by simp at h⟩
theorem xj2(L:List (List Nat×Bool)):dW [] L=L:=by unfold dW;simp
theorem xT9{f B C y:af}{N x i v:ak}(F:a_ K "leaves_of" "leaves_of" Fn f N)(hW:mg "want_shape"=some (.ref B))(S:a_ K "want_shape" "want_shape" Ce B x)(bW:Binds K x ["shape"] [])(GW:aE P w K mg base aS 16 B x ["shape"] Ke)
  (hC:mg "want_coarse"=some (.ref C)) (FC:a_ K "want_coarse" "want_coarse" Gk C i) (T:Binds K i ["shape"] []) (X:aE P w K mg base aS 3 C i ["shape"] A9)
  (Y:mg "gather_leaves"=some (.ref y)) (R:a_ K "gather_leaves" "gather_leaves" E_ y v) (bG:Binds K v pW []) (GG:aE P w K mg base aS 13 y v pW (vn 12)):aE P w K mg base aS 17 f N ["shape"] AU:=by
 refine F.ok rX (λvs H Q E h=>?_) (λbO A p s H vs Q E k h=>?_)
 ·obtain⟨t,n,g,rows,rfl,_⟩:=h
  rfl
 ·obtain⟨t,n,g,rows,rfl,I,hm,q⟩:=h;have U:bf 3 _:=k.mono (by decide);have LW:bf 13 _:=k.mono (by decide);refine aQ ⟨_,⟨ke (bZ GW k hW S.kp bW (aG (pv 0) aP))⟩,?_⟩;refine aQ ⟨_,⟨ke (bZ X U hC FC.kp T (aG (pv 0) aP))⟩,?_⟩;refine aQ ⟨_,⟨mY (SM O7 (pv 0) (UT aK) RY) (l_ rfl (dz (c8 1 rX.nd) (dz (c8 2 rX.nd) lM)))⟩,?_⟩;refine aQ ⟨_,⟨cg 3 rX.nd (jk aP)⟩,?_⟩;refine aQ ⟨_,⟨ke (bZ GG LW Y R.kp bG (aG (pv 2) (aG (pv 1) (aG se (aG (pv 3) aP)))))⟩,?_⟩;refine gj ⟨_,⟨cF (pv 3)⟩,?_⟩;refine⟨_,rfl,t,n,g,rows,rfl,I,λH1 O=>?_⟩;have G:=Kc I O;refine⟨_,rfl,t,n,g,rows,rfl,G,hm,λZ M=>?_⟩;have Af:=Kc G M;obtain⟨⟨rp,V,hR⟩,d,wF⟩:=id Af;have D:=O.trans M;refine⟨_,rfl,_,rfl,t,_,rfl,aZ.of V,(λz=>absurd (show HT.dB 3 0 (some 1)=0 from z.1) (by decide)),λu hu=>?_⟩;refine⟨u,_,rfl,aZ.of bu,rfl,_,_,rfl,_,_,rfl,rfl,?_⟩;refine(λ(go:∀c,aI Z c->_)=>go _ (bQ hu)) ?_;intro c j;refine⟨(by show 0<=sizeLine;decide),λl r=>?_⟩;have m:=bQ (o:=.lst []) r;have J:upd c l (.lst []) l=some (.lst []):=bu;have a:H l=none:=by
   cases e:H l with
   |none=>rfl
   |some o=>rw[j _ _ (D _ _ e)]at r;cases r
  generalize upd c l (.lst [])=H4 at m J ⊢;refine⟨_,rfl,_,rfl,_,rfl,rp,l,g,[],[],rows,?_,hR.mono (j.trans m).b_,d.iL,d.oA,ZI (zt d) d.size,xw5 J,by decide,?_,λW b5 L=>?_⟩
  ·rw[<- xN7];rfl
  ·show 0+_<=_;lia
  ·rw[xj2]at L;refine⟨_,rfl,q W l (λb o e=>b5 b o (m _ _ (j _ _ (D _ _ e))) (dI e a)) a L⟩
inductive AV(vs:List V)(H:Hp)(Q:VK):Prop
 |mk(b:af)(r c A B S:Nat)(e0:vs=[.int (r:Nat),.int (c:Nat),.ref b])(e1:H b=some (.tup (vN [A,B,S])))(e2:∀H' p q,aI H H'->H' p=some (.tup [.int (best [0,(A:Int)-r,(B:Int)-c,1-(S:Int)-((A:Int)-r),1-(S:Int)-((B:Int)-c)] 4),.ref q])->H' q=some (.tup [.int (dr A ((r:Int)-best [0,(A:Int)-r,(B:Int)-c,1-(S:Int)-((A:Int)-r),1-(S:Int)-((B:Int)-c)] 4)),.int (dr B ((c:Int)-best [0,(A:Int)-r,(B:Int)-c,1-(S:Int)-((A:Int)-r),1-(S:Int)-((B:Int)-c)] 4))])->Q (.ref p) H')
def AW:Sp:=λa H Q _=>AV a H Q
abbrev nLF:List ar:=["row","column","box","first_row","first_column","side","above","left","far"]
theorem lZ:aF nLF ["row","column","box"] (bJ Fm):=cZ
theorem xU0{f:af}{e:ak}(F:a_ K "least_far" "least_far" Fm f e)(B:eF mg):aE P w K mg base aS 1 f e ["row","column","box"] AW:=by
 refine F.ok lZ (λi H Q E h=>?_) (λj A a s H i Q E l h=>?_)
 ·obtain⟨b,r,c,x,y,z,rfl,_⟩:=h
  rfl
 ·obtain⟨b,r,c,x,y,z,rfl,hb,q⟩:=h;refine aQ ⟨_,⟨mY (pv 2) (l_ rfl (dz (c8 3 lZ.nd) (dz (c8 4 lZ.nd) (dz (c8 5 lZ.nd) lM))))⟩,?_⟩;refine aQ ⟨_,⟨cg 6 lZ.nd (aO c6 (pv 3) (pv 0))⟩,?_⟩;refine aQ ⟨_,⟨cg 7 lZ.nd (aO c6 (pv 4) (pv 1))⟩,?_⟩;refine aQ ⟨_,⟨cg 8 lZ.nd (cB (q94 rfl) (by rfl) B.max ZM (aW.go (.cons pP (.cons ⟨pv 6⟩ (.cons ⟨pv 7⟩ (.cons ⟨aO c6 (aO c6 aK (pv 5)) (pv 6)⟩ (.cons ⟨aO c6 (aO c6 aK (pv 5)) (pv 7)⟩ .nil rfl) rfl) rfl) rfl) rfl)))⟩,?_⟩;refine gj ⟨_,⟨cF (fo (aW.go (.cons ⟨pv 8⟩ (.cons ⟨fo (aW.go (.cons ⟨cB (m7 rfl) (by rfl) B.max ZM (aG (pv 3) (aG (aO c6 (pv 0) (pv 8)) aP))⟩ (.cons ⟨cB (m7 rfl) (by rfl) B.max ZM (aG (pv 4) (aG (aO c6 (pv 1) (pv 8)) aP))⟩ .nil rfl) rfl))⟩ .nil rfl) rfl)))⟩,?_⟩;refine⟨_,rfl,b,_,rfl,aZ.of hb,rfl,_,_,rfl,_,_,rfl,_,_,rfl,rfl,?_⟩;refine⟨_,rfl,_,rfl,_,_,rfl,rfl,?_⟩;refine⟨_,rfl,_,rfl,_,_,rfl,rfl,?_⟩;refine iM (σ':=[some (.int (r:Nat)),some (.int (c:Nat)),some (.ref b),some (.int (x:Nat)),some (.int (y:Nat)),some (.int (z:Nat)),some (.int ((x:Int)-r)),some (.int ((y:Int)-c)),none]) rfl ?_;refine⟨_,rfl,_,rfl,_,rfl,_,_,rfl,rfl,_,rfl,_,_,rfl,rfl,_,rfl,_,_,rfl,rfl,_,rfl,_,_,rfl,rfl,_,_,_,_,_,rfl,?_⟩;generalize best [0,(x:Int)-r,(y:Int)-c,1-(z:Int)-((x:Int)-r),1-(z:Int)-((y:Int)-c)] 4=m at q ⊢;refine iM (σ':=[some (.int (r:Nat)),some (.int (c:Nat)),some (.ref b),some (.int (x:Nat)),some (.int (y:Nat)),some (.int (z:Nat)),some (.int ((x:Int)-r)),some (.int ((y:Int)-c)),some (.int m)]) rfl ?_;refine⟨_,rfl,_,rfl,_,rfl,_,rfl,_,_,rfl,rfl,_,_,rfl,_,rfl,_,rfl,_,rfl,_,_,rfl,rfl,_,_,rfl,(by show 2<=sizeLine;decide),λk g=>⟨(by show 2<=sizeLine;decide),λp d=>?_⟩⟩;refine q _ p k ((bQ g).trans (bQ d)) bu ?_;rw[cN (dI bu d),bu]
  rfl
end Pr
namespace L2
open PySem PySem.Spec PyProof.Rows
section
variable{X:Cx}
theorem qW8{i0:Nat}{j:ar}{w E:aC}{x y u:ar}{n l q r d:aC}{k:Nat}{b iter c:av}{scope:aA}{D:TI}{A:TT}{te:TE}(N:List ar)(t:aA)(Z:X.N=N)(kM:X.env.scope=t)(hc:X.calm=true)(B:X.N.Nodup)(M:X.N[i0]?=some j)(G:X.env.scope.names.lookup j=some .local)(hi:PI X (.Tuple [.Name x n,.Name y l,.Name u q] k r) iter D)
  (O:∀g C f e i,PT (dF X scope g C [x,y,u] f e i) c A) (J:∀g C f e i,PE (dF X scope g C [x,y,u] f e i) b te) (L:[x,y,u].Nodup:=by decide)
  (P:scope.kind=.function:=by rfl) (jB:scope.names.all (λy=>y.2 != .cell)=true:=by decide +kernel) (jC:scope.names.all (λy=>y.2 != .local||scope.names.lookup y.1==some .local)=true:=by decide +kernel)
  (hx:scope.names.lookup x=some .local:=by rfl) (W:scope.names.lookup y=some .local:=by rfl) (U:scope.names.lookup u=some .local:=by rfl) (jI:N.all (λy=>scope.names.lookup y != some .local)=true:=by decide +kernel)
  (hfr:scope.names.all (λp=>p.2 != .free||(t.names.lookup p.1==some .cell||t.names.lookup p.1==some .free))=true:=by decide +kernel)
  (hs:∀x,foldedSetIterable iter X.env x=pure x:=by intro _;rfl) (T:swapsWith (.ListComp b [⟨.Tuple [.Name x n,.Name y l,.Name u q] k r,iter,[c],0⟩] scope d) (some (.Name j w)) E.line X.env=pure true:=by rfl):
  PS X (.Assign [.Name j w] (.ListComp b [⟨.Tuple [.Name x n,.Name y l,.Name u q] k r,iter,[c],0⟩] scope d) E) (iR (rm 3 D (hZ X.K 3 (gT (di 0) (gT (di 1) (gT (di 2) iG)))) A te) (di i0)):=by
 obtain⟨s1,s2,v,K⟩:=zw Z kM jB jC jI hfr;exact Sz (nn:=[x,y,u]) (λa=>isTrue c a (eval c a)) hc hi (λY m a=>Ku b _ iter c scope d Y m a) (λg C f e i=>OJ hc B L v hx W U) (λy os F H R S h=>C3 S h) (λg C f e i V s F H Q I h=>O g C f e i V s F H Q I h) J P s1 s2 v K hs B M G T
end
end L2
namespace L2
open PySem
theorem JM{J:It}{H:Hp}{n k:Nat}{item:Nat->V->Hp->Prop}{g:TG}{O:TT}{te:TE}{σ:St}{Fin:Hp->Prop}{D:af}(P:H D=none)(c:Nat->Bool)(l:Nat->V->Hp->Prop)(G:Goes J H n item)(hsz:n<sizeLine)
  (mono:∀i y R a,gz R a->l i y R->l i y a)
  (step:∀i x a,i<n->item i x a->aI H a->∀C:St,C.length=k->∀(Q:Hp->Prop)(S:VK),(c i=false->∀f,aI a f->Q f)->(c i=true->∀v f,aI a f->l i v f->S v f) ->
   g x (C++σ) a λI p=>O I p λb K=>if b=true then te I K S else Q K)
  (fin:∀d a,aI H a->a D=some (.lst d)->d.length=((List.range n).filter c).length->(∀(m:Nat) y j,d[m]?=some y->((List.range n).filter c)[m]?=some j->l j y a)->Fin a):
  ∃W:Nat->Nat->List V->Hp->Prop,(∃m,W 0 m [] (upd H D (.lst []))) /\
   ∀i m A a,W i m A a->a D=some (.lst A)/\A.length<sizeLine/\((J.stop i a/\Fin a)\/(J.go i a/\∀y f,J.iI i a y f->∀C:St,C.length=k ->
    g y (C++σ) f λI p=>O I p λb K=>if b=true then te I K λv U=>U D=some (.lst A)/\∃L,L<m/\W (i+1) L (A++[v]) (upd U D (.lst (A++[v])))else ∃L,L<m/\W (i+1) L A K)):=by
 refine⟨λi m d a=>i<=n/\m=n-i/\d.length=((List.range i).filter c).length/\a D=some (.lst d)/\aI H a/\∀(m:Nat) y j,d[m]?=some y->((List.range i).filter c)[m]?=some j->l j y a,⟨n,Zz _,rfl,rfl,bu,bQ P,λm y j h=>by simp at h⟩,?_⟩;rintro i m d a ⟨s,rfl,E,M,B,rel⟩;have j9:d.length<=i:=by
  rw[E];exact ZI (Wm _ _) (by simp)
 refine⟨M,xj hsz s j9,?_⟩;by_cases q:i=n
 ·subst q;exact .inl ⟨G.st a B,fin d a B M E rel⟩
 ·refine .inr ⟨G.go i a (mq s q) B,λy f hy C ho=>?_⟩;obtain⟨t,it⟩:=G.yl i a y f (mq s q) B hy;refine step i y f (mq s q) it (B.trans t) C ho _ _ (λwH p w=>?_) (λZ v p w r4=>?_)
  ·have F:(List.range (i+1)).filter c=(List.range i).filter c:=by
    rw[Xa,Xh];simp[wH]
   refine⟨n-(i+1),qi s q,nR s q,rfl,by rw[F];exact E,w _ _ (t _ _ M),(B.trans t).trans w,λm y j h1 r=>?_⟩;rw[F]at r;exact mono j y a p (t.trans w).b_ (rel m y j h1 r)
  ·have X:=w _ _ (t _ _ M);have F:(List.range (i+1)).filter c=(List.range i).filter c++[i]:=by
    rw[Xa,Xh];simp[Z]
   have Y:gz p (upd p D (.lst (d++[v]))):=λb u e=>by
    have:b≠D:=λz=>by subst z;rw[X]at e;cases e
    rw[cN this];exact e
   refine⟨X,n-(i+1),qi s q,nR s q,rfl,by rw[F,Zn,Zn,E];rfl,bu,λb o e=>?_,λm z j h1 r=>?_⟩
   ·rw[cN (dI e P)];exact w _ _ (t _ _ (B _ _ e))
   ·rw[F]at r;by_cases N:m<d.length
    ·rw[Zw N]at h1;rw[Zw (nN N E)]at r;exact mono j z p _ Y (mono j z a p (t.trans w).b_ (rel m z j h1 r))
    ·have T:m=d.length:=by
      have:=(cz h1).1;simp at this;exact xk this N
     rw[ZF (by lia),T]at h1;rw[ZF (by lia),T,E]at r;have e1:z=v:=by simpa using h1.symm
     have e2:j=i:=by simpa using r.symm
     rw[e1,e2];exact mono i v p _ Y r4
end L2
namespace Pr
open PySem L2 Qf
def gB(H:Hp)(n r c:Nat)(y:V)(e:List Nat×Bool):Prop:=∃b p q,y=.ref b/\H b=some (.tup [.str (txt e.1),.bl e.2,.ref p])/\H p=some (.tup [.int (de n r c e.1),.ref q])/\H q=some (.tup [.int (zO n r c e.1),.int (zP n r c e.1)])
theorem gB.b_{H a:Hp}{n r c:Nat}{y:V}{e:List Nat×Bool}(h:gB H n r c y e)(t:gz H a):gB a n r c y e:=by
 obtain⟨b,p,q,h1,g,f,d⟩:=h;exact⟨b,p,q,h1,t _ _ g,t _ _ f,t _ _ d⟩
def SnL(H:Hp)(b:af)(n r c:Nat)(L:List (List Nat×Bool)):Prop:=∃a:List V,H b=some (.lst a)/\a.length=L.length/\∀(i:Nat) y e,a[i]?=some y->L[i]?=some e->gB H n r c y e
abbrev U8:List ar:=["shape","row","column","n"]
theorem vv:aF U8 ["shape","row","column"] (bJ Cm):=cZ
inductive AK(vs:List V)(H:Hp)(Q:VK):Prop
 |mk(t:af)(n tp r c:Nat)(rows:List Row)(e0:vs=[.ref t,.int (r:Nat),.int (c:Nat)])(e1:g7 H t n tp rows)(e2:bK (T rows tp)<=2000)(e3:r<2^n)(e4:c<2^n)(e5:∀H' lp,aI H H'->SnL H' lp n r c (ck (T rows tp))->Q (.ref lp) H')
def AL:Sp:=λa H Q _=>AK a H Q
theorem xU1{f W v I O Y:af}{fd L X U m S:ak}(F:a_ K "seen_leaves" "seen_leaves" Cm f fd)(hW:mg "want_shape"=some (.ref W))(FW:a_ K "want_shape" "want_shape" Ce W L)(bW:Binds K L ["shape"] [])(GW:aE P w K mg base aS 16 W L ["shape"] Ke)
  (hC:mg "want_cell"=some (.ref v)) (FC:a_ K "want_cell" "want_cell" Fo v X) (bC:Binds K X ["n","row","column"] []) (GC:aE P w K mg base aS 3 v X ["n","row","column"] AF)
  (hL:mg "leaves_of"=some (.ref I)) (FL:a_ K "leaves_of" "leaves_of" Fn I U) (bL:Binds K U ["shape"] []) (GL:aE P w K mg base aS 17 I U ["shape"] AU)
  (hF:mg "least_far"=some (.ref O)) (FF:a_ K "least_far" "least_far" Fm O m) (bF:Binds K m ["row","column","box"] []) (GF:aE P w K mg base aS 1 O m ["row","column","box"] AW)
  (hB:mg "box_of"=some (.ref Y)) (FB:a_ K "box_of" "box_of" Fz Y S) (bB:Binds K S ["n","address"] []) (GB:aE P w K mg base aS 4 Y S ["n","address"] Bd):aE P w K mg base aS 18 f fd ["shape","row","column"] AL:=by
 refine F.ok vv (λvs H Q E h=>?_) (λbO A G s H vs Q E d h=>?_)
 ·obtain⟨t,n,a,r,c,rows,rfl,_⟩:=h
  rfl
 ·obtain⟨t,n,a,r,c,rows,rfl,hS,hm,k9,kB,q⟩:=h;have LU:bf 16 _:=d.mono (by decide);have yP:bf 3 _:=d.mono (by decide);have N:bf 4 _:=d.mono (by decide);have jH:bf 1 _:=d.mono (by decide);refine aQ ⟨_,⟨ke (bZ GW LU hW FW.kp bW (aG (pv 0) aP))⟩,?_⟩;refine aQ ⟨_,⟨cg 3 vv.nd (cb cJ (pv 0) aK)⟩,?_⟩;refine aQ ⟨_,⟨ke (bZ GC yP hC FC.kp bC (aG (pv 3) (aG (pv 1) (aG (pv 2) aP))))⟩,?_⟩;refine gj ⟨_,⟨cF (SG U8 (bJ Cm) rfl rfl rfl vv.nd (ux (bZ GL d hL FL.kp bL (aG (pv 0) aP)))
   (λcl C fp aH aJ=>bw.go ⟨fo (aW.go (.cons ⟨pv 0⟩ (.cons ⟨pv 1⟩ (.cons ⟨bZ GF jH hF FF.kp bF (aW.go (.cons ⟨pv 3⟩ (.cons ⟨pv 4⟩ (.cons ⟨bZ GB N hB FB.kp bB (aG (pv 5) (aG (pv 0) aP))⟩ .nil rfl) rfl) rfl))⟩ .nil rfl) rfl) rfl))⟩))⟩,?_⟩
  refine⟨_,rfl,t,n,a,rows,rfl,hS,λH1 s1=>?_⟩;have Z:=Kc hS s1;obtain⟨⟨rp,ht,hR⟩,u,wF⟩:=id Z;refine⟨_,rfl,t,_,0,.int (n:Nat),rfl,rfl,aZ.of ht,rfl,?_⟩;refine⟨_,rfl,_,rfl,_,rfl,n,r,c,rfl,u.size,k9,kB,?_⟩;refine⟨_,rfl,t,n,a,rows,rfl,Z,hm,λH2 lp s2 _ Mq=>?_⟩;obtain⟨bs,vG,R,wK⟩:=Mq;have MT:=pL n (T rows a);refine⟨lp,rfl,⟨_,cH.of vG⟩,λD hD=>JM hD (λ_=>true) (λi y g=>∃e,(ck (T rows a))[i]?=some e/\gB g n r c y e) (wq (K:=K) vG) ?_ ?_ ?_ ?_⟩
  ·rw[Zh,R,ur];exact pN (Rc hm)
  ·rintro i y g H4 p ⟨e,h1,M⟩;exact⟨e,h1,M.b_ p⟩
  ·intro i x g hi hx j os ho Q1 Q2 _ q2;rw[Zf]at hx;obtain⟨b,hb,rfl⟩:=Zj.mp hx;have yE:i<(ck (T rows a)).length:=by rw[<- R];exact(cz hb).1
   have l:(ck (T rows a))[i]?=some (ck (T rows a))[i]:=Zd yE;have jP:=Yz yE;generalize (ck (T rows a))[i]=e at l jP;obtain⟨h4,vU⟩:=MT e (zt u) jP;have kJ:=j _ _ (wK i b e hb l);obtain⟨o1,o2,rfl⟩:=L2.Gw ho
   ·
    refine⟨b,_,rfl,aZ.of kJ,rfl,_,_,rfl,_,_,rfl,rfl,?_⟩;refine⟨_,rfl,_,rfl,_,rfl,_,rfl,_,rfl,_,rfl,n,e.1,rfl,u.size,h4,vU,λH5 pb s5 wR=>?_⟩;refine⟨pb,r,c,gS n e.1,gX n e.1,2^(n-e.1.length),rfl,wR,λH6 p1 q1 s6 jY w5=>?_⟩;refine⟨(by show 3<=sizeLine;decide),λk B=>q2 rfl _ _ ((s5.trans s6).trans (bQ B)) ⟨e,l,k,p1,q1,rfl,bu,c9 jY B,c9 w5 B⟩⟩
  ·intro ys g j Hq J qw;have ef:(List.range (bs.map V.ref).length).filter (λ_=>true)=List.range (bs.map V.ref).length:=VJ.mpr λ_ _=>rfl;rw[ef]at J qw;have vS:ys.length=(ck (T rows a)).length:=by rw[J,YW,Zh,R]
   refine q g D ((s1.trans s2).trans j) ⟨ys,Hq,vS,λi y e e1 e2=>?_⟩;have hi:i<(bs.map V.ref).length:=by
    have:=(cz e1).1;rw[J,YW]at this;exact this
   obtain⟨e',h1,M⟩:=qw i y i e1 (Xy hi);rw[e2]at h1;cases h1;exact M
end Pr
namespace L2
open PySem PyProof.Rows
def k3{P:ah}{w:aj}:bj P w:=EU [rF false,EU [rF false,rF false] 0 (by simp[rF])] 1 (by simp[rF,EU])
theorem xN8{P:ah}{w:aj}:(k3 (P:=P) (w:=w)).lvl<=20:=by show 2<=20;decide
theorem HZ{P:ah}{w:aj}{H:Hp}{p q:af}{x y z:Int}(h1:H p=some (.tup [.int x,.ref q]))(a:H q=some (.tup [.int y,.int z])):lN (P:=P) (w:=w) k3 H (.ref p) (Qf.i7 x y z):=
 Po h1 (.cons (J8 x) (.cons (Po a (.cons (J8 y) (.cons (J8 z) .nil))) .nil))
end L2
namespace Qf
theorem qI9{α d:Type}(L:List α)(f:α->d)(b:α->Bool)(y:Nat->Bool)(v:Nat->d)(h1:∀i e,L[i]?=some e->y i=b e)(g:∀i e,L[i]?=some e->v i=f e):((List.range L.length).filter y).map v=(L.filter b).map f:=by
 induction L generalizing y v with
 |nil=>rfl
 |cons a L j=>
  rw[Z4,Vb,Yy,Yy,h1 0 a rfl];have e:(((List.range L.length).map Nat.succ).filter y).map v=(L.filter b).map f:=by
   rw[List.filter_map,Yq];exact j _ _ (λi e h=>h1 (i+1) e h) (λi e h=>g (i+1) e h)
  by_cases c:b a=true
  ·rw[Zx c,Zx c,ZC,ZC,e,g 0 a rfl]
  ·rw[Zl c,Zl c,e]
end Qf
namespace Qf
open Tr L2
def gm(i j:Int):Int:=if j<i then j else i
theorem HY(i j:Int):gm i j<=i/\gm i j<=j/\(gm i j=i\/gm i j=j):=by
 unfold gm;split
 ·exact⟨by lia,Wx _,.inr rfl⟩
 ·exact⟨Wx _,by lia,.inl rfl⟩
def ov(a h x s:Int):Int:=dr 0 (gm (a+h) (x+s)-dr a x)
theorem HX(a h x s:Int):0<=ov a h x s:=(pK _ _).1
theorem OF{a h x s:Int}:ov a h x s=0\/∃i,a<=i/\i<a+h/\x<=i/\i<x+s:=by
 unfold ov;obtain⟨h1,b,g⟩:=HY (a+h) (x+s);obtain⟨c,d,f⟩:=pK a x;generalize gm (a+h) (x+s)=m at *;generalize dr a x=k at *;obtain⟨_,_,e⟩:=pK 0 (m-k);by_cases z:m-k<=0
 ·left;rcases e with e|e<;>lia
 ·right;exact⟨k,c,QG h1 z,d,QG b z⟩
theorem OE{a h x s i:Int}(h1:a<=i)(f:i<a+h)(d:x<=i)(c:i<x+s):0<ov a h x s:=by
 unfold ov;obtain⟨_,_,k3⟩:=HY (a+h) (x+s);obtain⟨_,_,b⟩:=pK a x;generalize gm (a+h) (x+s)=m at *;generalize dr a x=k at *;obtain⟨_,e,_⟩:=pK 0 (m-k);have:k<m:=by rcases k3 with z|z<;>rcases b with y|y<;>lia
 lia
theorem CL{i j:Int}(h:j<=i):dr i j=i:=Zl (Int.not_lt.mpr h)
theorem CK{i j:Int}(h:i<=j):dr i j=j:=by
 unfold dr;split;rfl;lia
theorem Lb{i j:Int}(h:j<=i):gm i j=j:=by
 unfold gm;split;rfl;lia
theorem HW{a h x s:Int}(hs:0<=s)(c:0<=h):ov a h x s=gm h (dr 0 (x+s-a))-gm h (dr 0 (x-a)):=by
 unfold ov;have k:gm (a+h) (x+s)=a+gm h (x+s-a):=by unfold gm;split<;>split<;>lia
 have l:dr a x=a+dr 0 (x-a):=by unfold dr;split<;>split<;>lia
 rw[k,l];have e:x+s-a=x-a+s:=by lia
 rw[e];generalize x-a=y;clear k l e;have b:a+gm h (y+s)-(a+dr 0 y)=gm h (y+s)-dr 0 y:=by lia
 rw[b];clear b;rcases Int.le_total y 0 with z|z
 ·rw[CL z,Lb c,Int.sub_zero,Int.sub_zero];unfold gm dr;(repeat split)<;>lia
 ·have t:0<=y+s:=by lia
  rw[CK z,CK t];unfold gm dr;(repeat split)<;>lia
theorem IG{a h x s:Int}(b:h<0):ov a h x s=0:=by
 have h1:gm (a+h) (x+s)<=a+h:=by unfold gm;split<;>lia
 have c:a<=dr a x:=by unfold dr;split<;>lia
 exact CL (by lia)
theorem OD{a h x s:Int}(hs:0<=s):ov a h x (s+s)=ov a h x s+ov a h (x+s) s:=by
 rcases Int.lt_or_le h 0 with z|z
 ·rw[IG z,IG z,IG z];rfl
 ·rw[HW hs z,HW hs z,HW (by lia) z,Vu x];lia
structure Bx where
 r:Int
 c:Int
 h:Int
 w:Int
def Bx.gF(p q:Bx):Int:=ov p.r p.h q.r q.h*ov p.c p.w q.c q.w
def Bx.has(p:Bx)(a b:Int):Prop:=(p.r<=a/\a<p.r+p.h)/\p.c<=b/\b<p.c+p.w
def shr:List Bx->Bx->Int
 |[],_=>0
 |p::l,q=>p.gF q+shr l q
theorem OC(p q:Bx):0<=p.gF q:=Int.mul_nonneg (HX ..) (HX ..)
theorem OB(q:Bx):∀l,0<=shr l q
 |[]=>Wx _
 |p::l=>by
  have:=OC p q;have:=OB q l;show 0<=p.gF q+shr l q;lia
theorem xx0{p q:Bx}:p.gF q=0\/∃a b,p.has a b/\q.has a b:=by
 unfold Bx.gF;rcases OF (a:=p.r) (h:=p.h) (x:=q.r) (s:=q.h)with z|⟨i,h1,g,f,e⟩
 ·left;rw[z,Int.zero_mul]
 ·rcases OF (a:=p.c) (h:=p.w) (x:=q.c) (s:=q.w)with z|⟨j,d,k,k3,c⟩
  ·left;rw[z,Int.mul_zero]
  ·right;exact⟨i,j,⟨⟨h1,g⟩,d,k⟩,⟨f,e⟩,k3,c⟩
theorem xx1{p q:Bx}{a b:Int}(h:p.has a b)(k:q.has a b):0<p.gF q:=Int.mul_pos (OE h.1.1 h.1.2 k.1.1 k.1.2) (OE h.2.1 h.2.2 k.2.1 k.2.2)
theorem J6{q:Bx}:∀{l:List Bx},shr l q=0\/∃p∈l,∃a b,p.has a b/\q.has a b
 |[]=>.inl rfl
 |p::l=>by
  rcases xx0 (p:=p) (q:=q)with z|⟨a,b,h⟩
  ·rcases J6 (q:=q) (l:=l)with y|⟨c,d,h⟩
   ·left;show p.gF q+shr l q=0;rw[z,y];rfl
   ·exact .inr ⟨c,by simp[d],h⟩
  ·exact .inr ⟨p,by simp,a,b,h⟩
theorem J5{q p:Bx}{a b:Int}(h:p.has a b)(k:q.has a b):∀{l:List Bx},p∈l->0<shr l q
 |c::l,d=>by
  have h1:=OC c q;have e:=OB q l;show 0<c.gF q+shr l q;rcases Zu.mp d with rfl|z
  ·have:=xx1 h k;lia
  ·have:=J5 h k z;lia
theorem xj3{p:Bx}{x y s:Int}(hs:0<=s):p.gF ⟨x,y,s+s,s+s⟩=p.gF ⟨x,y,s,s⟩+p.gF ⟨x,y+s,s,s⟩+p.gF ⟨x+s,y,s,s⟩+p.gF ⟨x+s,y+s,s,s⟩:=by
 unfold Bx.gF;show ov p.r p.h x (s+s)*ov p.c p.w y (s+s)=ov p.r p.h x s*ov p.c p.w y s+ov p.r p.h x s*ov p.c p.w (y+s) s+ov p.r p.h (x+s) s*ov p.c p.w y s+ov p.r p.h (x+s) s*ov p.c p.w (y+s) s;rw[OD hs,OD hs,Int.add_mul,Int.mul_add,Int.mul_add];lia
theorem Sh{x y s:Int}(hs:0<=s):∀l:List Bx,shr l ⟨x,y,s+s,s+s⟩=shr l ⟨x,y,s,s⟩+shr l ⟨x,y+s,s,s⟩+shr l ⟨x+s,y,s,s⟩+shr l ⟨x+s,y+s,s,s⟩
 |[]=>rfl
 |p::l=>by
  show p.gF _+shr l _=(p.gF _+shr l _)+(p.gF _+shr l _)+(p.gF _+shr l _)+(p.gF _+shr l _);rw[xj3 hs,Sh hs l];lia
def d_(n:Nat)(R C:Int)(ad:List Nat):Bx:=⟨R+(cT (· / 2) n ad:Nat),C+(cT (·%2) n ad:Nat),((2^(n-ad.length):Nat):Int),((2^(n-ad.length):Nat):Int)⟩
def cU(f:List Nat->Int):List (List Nat×Bool)->Int
 |[]=>0
 |e::l=>f e.1+cU f l
theorem uy(f:List Nat->Int):∀l m,cU f (l++m)=cU f l+cU f m
 |[],m=>(Wh _).symm
 |e::l,m=>by
  show f e.1+cU f (l++m)=f e.1+cU f l+cU f m;rw[uy f l m,Vu]
theorem su(f:List Nat->Int)(x:Nat):∀l,cU f (l.map λe=>(x::e.1,e.2))=cU (λa=>f (x::a)) l
 |[]=>rfl
 |e::l=>by
  show f (x::e.1)+cU f _=f (x::e.1)+_;rw[su f x l]
theorem Sg(m:Nat)(R C:Int)(x:Nat)(ad:List Nat):d_ (m+1) R C (x::ad)=d_ m (R+((2^m*(x/2):Nat):Int)) (C+((2^m*(x%2):Nat):Int)) ad:=by
 unfold d_;show Bx.mk (R+((2^m*(x/2)+cT (· / 2) m ad:Nat):Int)) (C+((2^m*(x%2)+cT (·%2) m ad:Nat):Int)) ((2^(m+1-(ad.length+1)):Nat):Int) ((2^(m+1-(ad.length+1)):Nat):Int)=_;rw[YQ,YQ,<- Vu,<- Vu,Vk]
theorem Tw(l:List Bx):∀(n:Nat)(t:Tr)(R C:Int),dep t<=n->cU (λd=>shr l (d_ n R C d)) (ck t)=shr l ⟨R,C,((2^n:Nat):Int),((2^n:Nat):Int)⟩:=by
 have plain:∀(b:Bool)(n:Nat)(R C:Int),cU (λd=>shr l (d_ n R C d)) [([],b)]=shr l ⟨R,C,((2^n:Nat):Int),((2^n:Nat):Int)⟩:=λb n R C=>by
  show shr l (d_ n R C [])+0=_;unfold d_;rw[zd,zd,XW];show shr l ⟨R+0,C+0,_,_⟩=_;rw[XW,XW]
  rfl
 intro n
 induction n with
 |zero=>
  intro t R C a;rcases n8 a with rfl|rfl
  ·exact plain ..
  ·exact plain ..
 |succ m c=>
  intro t R C a;cases t with
  |z=>exact plain ..
  |o=>exact plain ..
  |nd p q s u=>
   have f:=nI (x:=0) (by decide) a;have h1:=nI (x:=1) (by decide) a;have h:=nI (x:=2) (by decide) a;have g:=nI (x:=3) (by decide) a;show cU _ (_++_++_++_)=_;rw[uy,uy,uy,su,su,su,su];simp only[Sg];rw[c p _ _ f,c q _ _ h1,c s _ _ h,c u _ _ g];have e:((2^(m+1):Nat):Int)=((2^m:Nat):Int)+((2^m:Nat):Int):=by rw[YH];lia
   rw[e,Sh (WQ _)];simp only[Nat.reduceDiv,Nat.reduceMod,Uv,V8,Int.natCast_zero,XW]
theorem JL(f:List Nat->Int)(a:List Nat×Bool->Bool):∀l:List (List Nat×Bool),(∀e∈l,a e=false->f e.1=0)->cU f (l.filter a)=cU f l
 |[],_=>rfl
 |e::l,h=>by
  have b:=JL f a l λx c=>h x (by simp[c]);rw[Yy];show _=f e.1+cU f l;cases z:a e with
  |true=>rw[Zx rfl];show f e.1+cU f _=_;rw[b]
  |false=>rw[Zl (by decide),b,h e (by simp) z,Wh]
def ym(r c far R C a:Int):List Bx:=[⟨r-far,c-far,R-r+far,2*far+1⟩,⟨dr R (r-far+1),c-far+1,r+far-dr R (r-far+1),2*far-1⟩,⟨R,c-far,1,a⟩]
theorem Pm{r c R C a b:Nat}{far t:Int}(s:far=dst r c R C)(hw:t=if fZ ((R:Int)-r)<far then gm 1 ((C:Int)-c+far)else(C:Int)-c+far):
  (∃p∈ym r c far R C t,p.has a b)<->kC r c a b<kC r c R C:=by
 unfold kC;rw[Bu,<- s];obtain⟨L,N,P,O⟩:=dh.mp (Int.le_of_eq s.symm);have B:dst r c a b<far<->_:=Int.le_sub_one_iff.symm.trans dh;have v:=dh (r:=r) (c:=c) (a:=a) (b:=b) (f:=far);have key:∀Z:Prop,(dst r c a b<far\/dst r c a b=far/\Z)<->dst r c a b<far\/dst r c a b<=far/\Z:=λZ=>
  ⟨λh=>h.imp_right λx=>⟨Int.le_of_eq x.1,x.2⟩,λh=>h.elim .inl λx=>(Int.lt_or_eq_of_le x.1).imp_right λy=>⟨y,x.2⟩⟩
 rw[key,B,v];have m:fZ ((R:Int)-r)<far<->_:=Int.le_sub_one_iff.symm.trans Ky;have d:fZ ((R:Int)-r)<far->(C:Int)=c-far\/(C:Int)=c+far:=λh=>by
  have z:¬dst r c R C<=far-1:=by rw[<- s];exact λh=>Int.not_lt.mpr h (Int.sub_lt_self _ Int.one_pos)
  obtain⟨h1,A⟩:=m.mp h;rw[dh]at z;clear B v key s hw m h;lia
 have w:∀{h:¬fZ ((R:Int)-r)<far},t=C-c+far:=λ{h}=>by rw[hw,Zl h]
 have j:∀{h:fZ ((R:Int)-r)<far},(C:Int)=c-far->t=0:=λ{h} y=>by
  have e:(C:Int)-c+far=0:=by rw[y];lia
  rw[hw,Zx h,e];rfl
 have i:∀{h:fZ ((R:Int)-r)<far},(C:Int)=c+far->t=1:=λ{h} y=>by
  have e:1<=(C:Int)-c+far:=by
   rw[y];obtain⟨h1,A⟩:=m.mp h;clear B v key s hw m h;lia
  rw[hw,Zx h];exact Zl (Int.not_lt.mpr e)
 obtain⟨n,q,k⟩:=pK (R:Int) ((r:Int)-far+1);unfold ym;generalize dr (R:Int) ((r:Int)-far+1)=M at *;simp only[Zu,Wa,UB,exists_eq_or_imp,exists_eq_left];unfold Bx.has;simp only;clear B v key s hw;constructor
 ·rintro(⟨⟨h1,A⟩,D,u⟩|⟨⟨h1,A⟩,D,u⟩|⟨⟨h1,A⟩,D,u⟩)
  ·clear w j i d m n q k;exact .inr ⟨⟨by lia,by lia,by lia,by lia⟩,.inl (by lia)⟩
  ·clear w j i d m k n;exact .inl ⟨by lia,by lia,by lia,by lia⟩
  ·have e:(a:Int)=R:=by clear w j i d m k n;lia
   have l:(b:Int)<C:=by
    by_cases z:fZ ((R:Int)-r)<far
    ·rcases d z with y|y
     ·have:=j (h:=z) y;rw[this]at u;clear w j i d n q k;lia
     ·have:=i (h:=z) y;rw[this]at u;obtain⟨I,E⟩:=m.mp z;clear w j i d n q k;lia
    ·have:=w (h:=z);rw[this]at u;clear w j i d n q k;lia
   clear w j i d m n q k;exact .inr ⟨⟨by lia,by lia,by lia,by lia⟩,.inr ⟨by lia,by lia⟩⟩
 ·intro h;by_cases g:(a:Int)-r<=far-1/\(r:Int)-a<=far-1/\(b:Int)-c<=far-1/\(c:Int)-b<=far-1
  ·obtain⟨J,F,H,G⟩:=g;clear w j i d m h;by_cases z:(a:Int)<R
   ·exact .inl ⟨⟨by lia,by lia⟩,by lia,by lia⟩
   ·have:M<=a:=by rcases k with e|e<;>rw[e]<;>lia
    exact .inr (.inl ⟨⟨this,by lia⟩,by lia,by lia⟩)
  ·rcases h with h|⟨⟨J,F,H,G⟩,h|⟨h,K⟩⟩
   ·exact absurd h g
   ·clear w j i d m n q k;exact .inl ⟨⟨by lia,by lia⟩,by lia,by lia⟩
   ·have l:(b:Int)<c-far+t:=by
     by_cases z:fZ ((R:Int)-r)<far
     ·obtain⟨I,E⟩:=m.mp z;rcases d z with y|y
      ·clear w j i d n q k;lia
      ·have:=i (h:=z) y;rw[this];clear w j i d n q k;lia
     ·have:=w (h:=z);rw[this];clear w j i d n q k;lia
    clear w j i d m n q k;exact .inr (.inr ⟨⟨by lia,by lia⟩,by lia,l⟩)
theorem qW9{n r c:Nat}{ad:List Nat}{k:List (List Int)}(f:∀d∈ad,d<4)(j:ad.length<=n)(g:r<2^n)(hc:c<2^n):kF n r c ad<k<->∃a b,lO n ad a b/\kC r c a b<k:=by
 obtain⟨⟨a,b,h1,_,_,p⟩,m⟩:=Kx f j g hc;constructor
 ·intro h;exact⟨a,b,h1,by rw[<- p];exact h⟩
 ·rintro⟨i,q,e,l⟩;exact List.lt_of_le_of_lt (Vy.mp (m i q e)) l
theorem gU{n:Nat}{ad:List Nat}{a b:Int}:(d_ n 0 0 ad).has a b<->∃c d:Nat,a=c/\b=d/\lO n ad c d:=by
 unfold d_ Bx.has lO;simp only[Wh];generalize cT (· / 2) n ad=A;generalize cT (·%2) n ad=B;generalize 2^(n-ad.length)=S;constructor
 ·intro h;exact⟨a.toNat,b.toNat,by lia,by lia,by lia,by lia,by lia,by lia⟩
 ·rintro⟨c,d,rfl,rfl,h⟩;lia
theorem xb0{n r c R C:Nat}{far e:Int}{ad:List Nat}(i:far=dst r c R C)(hw:e=if fZ ((R:Int)-r)<far then gm 1 ((C:Int)-c+far)else(C:Int)-c+far)
  (k:∀d∈ad,d<4) (u:ad.length<=n) (s:r<2^n) (hc:c<2^n):(kF n r c ad<kC r c R C<->shr (ym r c far R C e) (d_ n 0 0 ad)≠0):=by
 rw[qW9 k u s hc];constructor
 ·rintro⟨a,b,h1,g⟩;obtain⟨p,f,j⟩:=(Pm i hw).mpr g;have:=J5 j (gU.mpr ⟨a,b,rfl,rfl,h1⟩) f;exact tj this
 ·intro h;rcases J6 (q:=d_ n 0 0 ad) (l:=ym r c far R C e)with z|⟨p,f,a,b,h1,g⟩
  ·exact absurd z h
  ·obtain⟨t,v,rfl,rfl,m⟩:=gU.mp g;exact⟨t,v,m,(Pm i hw).mp ⟨p,f,h1⟩⟩
end Qf
namespace L2
open PySem
theorem xb1{H:Hp}{n k:Nat}{g:TG}{x:TT}{te:TE}{σ:St}{Fin:Hp->Prop}{D:af}(j:Nat->List V->Hp->Prop)(hsz:n<sizeLine)(i0:j 0 [] (upd H D (.lst [])))(C:∀i a c,j i a c->c D=some (.lst a)/\a.length<=i)
  (step:∀i a c,i<n->j i a c->∀f:St,f.length=k->∀(A:Hp->Prop)(B:VK),(∀d,j (i+1) a d->A d)->(∀v d,d D=some (.lst a)->j (i+1) (a++[v]) (upd d D (.lst (a++[v])))->B v d) ->
   g (.int (0+(i:Int))) (f++σ) c λq w=>x q w λb p=>if b=true then te q p B else A p)
  (fin:∀a c,j n a c->Fin c):
  ∃W:Nat->Nat->List V->Hp->Prop,(∃m,W 0 m [] (upd H D (.lst []))) /\
   ∀i m a c,W i m a c->c D=some (.lst a)/\a.length<sizeLine/\(((mM 0 n).stop i c/\Fin c)\/((mM 0 n).go i c/\∀y d,(mM 0 n).iI i c y d->∀f:St,f.length=k ->
    g y (f++σ) d λq w=>x q w λb p=>if b=true then te q p λv u=>u D=some (.lst a)/\∃r,r<m/\W (i+1) r (a++[v]) (upd u D (.lst (a++[v])))else ∃r,r<m/\W (i+1) r a p)):=by
 refine⟨λi m a c=>i<=n/\m=n-i/\j i a c,⟨n,Zz _,rfl,i0⟩,?_⟩;rintro i m a c ⟨l,rfl,s⟩;obtain⟨h1,t⟩:=C i a c s;refine⟨h1,xj hsz l t,?_⟩;by_cases e:i=n
 ·subst e;exact .inl ⟨Ze i,fin a c s⟩
 ·refine .inr ⟨show i<n from mq l e,λy d I f G=>?_⟩;obtain⟨E,F⟩:=I;rw[E,F];exact step i a c (mq l e) s f G _ _ (λp h=>⟨n-(i+1),qi l e,nR l e,rfl,h⟩) λv u h1 t=>⟨h1,n-(i+1),qi l e,nR l e,rfl,t⟩
theorem Sf{H:Hp}{n:Nat}{te:TE}{σ:St}{Fin:Hp->Prop}{D:af}(d:Nat->List V->Hp->Prop)(hsz:n<sizeLine)(i0:d 0 [] (upd H D (.lst [])))(p:∀i a b,d i a b->b D=some (.lst a)/\a.length<=i)
  (step:∀i a b,i<n->d i a b->∀k:VK,(∀v c,c D=some (.lst a)->d (i+1) (a++[v]) (upd c D (.lst (a++[v])))->k v c)->te (some (.int (0+(i:Int)))::σ) b k)
  (fin:∀a b,d n a b->Fin b):
  ∃W:Nat->Nat->List V->Hp->Prop,(∃m,W 0 m [] (upd H D (.lst []))) /\
   ∀i m a b,W i m a b->b D=some (.lst a)/\a.length<sizeLine/\(((mM 0 n).stop i b/\Fin b)\/((mM 0 n).go i b/\∀y c,(mM 0 n).iI i b y c ->
    te (some y::σ) c λv l=>l D=some (.lst a)/\∃j,j<m/\W (i+1) j (a++[v]) (upd l D (.lst (a++[v]))))):=by
 refine⟨λi m a b=>i<=n/\m=n-i/\d i a b,⟨n,Zz _,rfl,i0⟩,?_⟩;rintro i m a b ⟨f,rfl,g⟩;obtain⟨h1,h⟩:=p i a b g;refine⟨h1,xj hsz f h,?_⟩;by_cases e:i=n
 ·subst e;exact .inl ⟨Ze i,fin a b g⟩
 ·refine .inr ⟨show i<n from mq f e,λy c s=>?_⟩;obtain⟨q,r⟩:=s;rw[q,r];exact step i a b (mq f e) g _ λv t h1 h=>⟨h1,n-(i+1),qi f e,nR f e,rfl,h⟩
end L2
namespace Pr
open PySem L2 Qf
structure rf(mg:ar->Option aa):Prop where
 abs:mg "abs"=none
 repr:mg "repr"=none
 str:mg "str"=none
theorem mU:aF ["_law_pot_here","_law_many","_law_digit_here"] ["_law_pot_here","_law_many"] (bJ uo):=cZ
inductive o7(vs:List V)(H:Hp)(Q:VK):Prop
 |mk(p:af)(n:Nat)(e0:vs=[.ref p,.int (n:Nat)])(e1:aV H p)(e2:0<n)(e3:n<1000000)(e4:∀(d:Nat)(H':Hp),d<n->cf p H H'->aV H' p->Q (.int (d:Nat)) H')
def wm:Sp:=λa H Q _=>o7 a H Q
theorem BG{f:af}{t:ak}(F:a_ K "_law_digit" "_law_digit" uo f t):aE P w K mg base aS 1 f t ["_law_pot_here","_law_many"] wm:=by
 refine F.ok mU (λI H Q E h=>?_) (λM A j s H I Q E N h=>?_)
 ·obtain⟨p,n,rfl,_⟩:=h
  rfl
 ·obtain⟨p,n,rfl,⟨a,b,c,l,hb,D⟩,r,v,q⟩:=h;refine⟨_,gk (dE (c_ zG (cb oq (pv 0) aK) aK (cD _))
    (gk (cg 2 mU.nd (aO wj (cb oq (pv 0) aK) (pv 1)))
    (gk (mY (aO rq (cb oq (pv 0) aK) (pv 1)) (O_ (pv 0) aK SK))
    (cR (cF (pv 2))))) dG)
   (gk (mY (aO wj (aO c7 (aO gJ (cb oq (pv 0) aK) aK) aK) aK) (O_ (pv 0) aK SK))
   (cR (cF (aO wj (aO rq (cb oq (pv 0) aK) aK) (pv 1))))),?_⟩
  have i:∀{m:Hp}{k:List V},m p=some (.lst k)->cH K m p k:=λh=>cH.of h;have e:∀(d x y:Int),0<=d->d<(n:Int)->0<=x->0<=y->y<2^40->Q (.int d) (upd H p (.lst [.int x,.int y])):=λd x y B O C G L=>by
   have:=q d.toNat (upd H p (.lst [.int x,.int y])) (by lia) cf.upd ⟨x,y,bu,C,G,L⟩
   rwa [show((d.toNat:Nat):Int)=d from Ot B]at this
  have g:(0:Int)<n:=by lia
  refine⟨_,rfl,p,_,0,_,rfl,rfl,i c,rfl,_,_,rfl,rfl,_,rfl,?_⟩;refine cw (λu=>?_) (λu=>?_)
  ·refine⟨_,rfl,p,_,0,_,rfl,rfl,i c,rfl,_,rfl,_,_,rfl,rfl,g,?_⟩;refine⟨_,rfl,p,_,0,_,rfl,rfl,i c,rfl,_,rfl,_,_,rfl,rfl,⟨g,by lia⟩,_,rfl,p,_,0,0,rfl,rfl,c,rfl,?_⟩;refine⟨_,rfl,?_⟩;exact e _ _ _ (UA _ (QT r)) (WS _ g) (Int.ediv_nonneg l mw) hb D
  ·refine⟨_,rfl,p,_,1,_,rfl,rfl,i c,rfl,_,_,rfl,rfl,.inl ⟨by lia,by lia⟩,_,_,rfl,rfl,_,_,rfl,rfl,(by show(0:Int)<2147483629;decide),_,rfl,p,_,1,1,rfl,rfl,c,rfl,?_⟩;have J:0<=(b*48271+8191)%2147483629/\(b*48271+8191)%2147483629<2147483629:=⟨UA _ (by decide),WS _ (by decide)⟩;refine⟨_,rfl,p,_,1,_,rfl,rfl,i bu,rfl,_,_,rfl,rfl,⟨by decide,by decide⟩,_,rfl,_,_,rfl,rfl,g,?_⟩;exact e _ _ _ (UA _ (QT r)) (WS _ g) l J.1 (by lia)
theorem pk:aF ["_law_script","_law_k","_law_cell"] ["_law_script","_law_k"] (bJ tE):=cZ
inductive vh(K:PySem.W.Frag)(vs:List V)(H:Hp)(Q:VK):Prop
 |mk(a:af)(k:Int)(ns:List Int)(e0:vs=[.ref a,.int k])(e1:cH K H a (ns.map V.int))(e2:ns.length<=63)(e3:0<=k)(e4:k<=1000)(e5:∀(H':Hp)(p:af),aI H H'->H p=none->aV H' p->Q (.ref p) H')
def PB(K:PySem.W.Frag):Sp:=λa H Q _=>vh K a H Q
theorem xO0{f:af}{l:ak}(F:a_ K "_law_pot" "_law_pot" tE f l)(B:eF mg)(C:rf mg):aE P w K mg base aS 1 f l ["_law_script","_law_k"] (PB K):=by
 refine F.ok pk (λn H Q E h=>?_) (λu A e s H n Q E x h=>?_)
 ·obtain⟨a,k,b,rfl,_⟩:=h
  rfl
 ·obtain⟨a,k,b,rfl,i,y,m,h1,q⟩:=h;refine aQ ⟨_,⟨cg 2 pk.nd aK⟩,?_⟩;refine aQ ⟨_,⟨dE (c_ iD (pv 1) (cB sC (by rfl) B.len YN (aG (pv 0) aP)) (cD _)) (cR (cg 2 pk.nd (cb oq (pv 0) (pv 1)))) dG⟩,?_⟩;refine gj ⟨_,⟨cF (jk (aW.go (.cons ⟨cB (m7 rfl) (by rfl) B.max ZM (aG aK (aG (aO c6 (cB BK (by rfl) C.abs XH (aG (pv 2) aP)) (aO xJ3 aK aK)) aP))⟩
    (.cons ⟨aO c7 (aO c7 (aO wj (cB BK (by rfl) C.abs XH (aG (pv 2) aP)) aK) (aO gJ aK (pv 1))) aK⟩ .nil rfl) rfl)))⟩,?_⟩
  have d:∀(z:Int)(p:af),H p=none->Q (.ref p) (upd H p (.lst [.int (if(if z<0 then -z else z)-10^18>0 then(if z<0 then -z else z)-10^18 else 0),.int ((if z<0 then -z else z)%2147483629+97*k+1)])):=λz p c=>by
   refine q _ p (bQ c) c ⟨_,_,bu,?_,?_,?_⟩
   ·split<;>lia
   ·lia
   ·lia
  refine⟨_,rfl,_,rfl,a,_,rfl,.inl i,_,_,rfl,rfl,_,rfl,?_⟩;refine cw (λg=>?_) (λg=>?_)
  ·have t:k<(b.length:Int):=by
    have:=ZG g;simpa using this
   have r:k.toNat<b.length:=by lia
   refine⟨_,rfl,_,rfl,a,_,k,.int (b[k.toNat]),rfl,rfl,i,?_,?_⟩
   ·have:=uw (xs:=b.map V.int) (j:=k.toNat) (v:=.int (b[k.toNat])) (by simp[r]);rw[show((k.toNat:Nat):Int)=k from Ot m]at this;exact this
   ·refine⟨_,rfl,_,rfl,_,_,rfl,rfl,⟨by decide,by decide,by decide⟩,_,_,rfl,rfl,_,_,rfl,?_⟩;exact⟨_,rfl,_,rfl,_,_,rfl,rfl,(by show(0:Int)<2147483629;decide),_,rfl,_,_,rfl,rfl,.inl ⟨by decide,by decide⟩,_,_,rfl,rfl,_,_,rfl,rfl,(by show 2<=sizeLine;decide),λp c=>d _ p c⟩
  ·refine⟨_,rfl,_,rfl,_,_,rfl,rfl,⟨by decide,by decide,by decide⟩,_,_,rfl,rfl,_,_,rfl,?_⟩;exact⟨_,rfl,_,rfl,_,_,rfl,rfl,(by show(0:Int)<2147483629;decide),_,rfl,_,_,rfl,rfl,.inl ⟨by decide,by decide⟩,_,_,rfl,rfl,_,_,rfl,rfl,(by show 2<=sizeLine;decide),λp c=>d _ p c⟩
end Pr
namespace L2
open PySem PySem.Spec PyProof.Rows
theorem xj4{lo:Int}{n:Nat}{g:TG}{tb:TS}{D:Ends}{σ:St}{H:Hp}(Pv:Nat->St->Hp->Prop)(h0:Pv 0 σ H)
  (hs:∀i σ H,i<n->Pv i σ H->g (.int (lo-i)) σ H λc d=>tb {D with nx:=Pv (i+1),ct:=Pv (i+1),bk:=D.nx} c d) (j:∀σ H,Pv n σ H->D.nx σ H):
  ∃W:Nat->Nat->St->Hp->Prop,(∃m,W 0 m σ H)/\∀i m σ H,W i m σ H ->
   ((t_ lo n).stop i H/\D.nx σ H)\/((t_ lo n).go i H/\∃N:St->Hp->Prop,(∀a b,N a b->∃h,h<m/\W (i+1) h a b)/\∀x b,(t_ lo n).iI i H x b->g x σ b λc d=>tb {D with nx:=N,ct:=N,bk:=D.nx} c d):=by
 refine⟨λi m σ H=>m=n-i/\i<=n/\Pv i σ H,⟨n,by simp,Zz _,h0⟩,?_⟩;rintro i m σ H ⟨rfl,l,p⟩;by_cases f:i<n
 ·refine .inr ⟨f,Pv (i+1),λa b k=>⟨n-(i+1),by lia,rfl,f,k⟩,λx b y=>?_⟩;obtain⟨e,y⟩:=y;subst e y;exact hs i σ _ f p
 ·have e:i=n:=by lia
  subst e;exact .inl ⟨Ze _,j σ H p⟩
end L2
namespace Pr
open PySem L2 Qf
theorem xO1{d:Nat}(h:d<4):qW ("0123":ar).cps.toList (d:Int)=some (48+d):=by
 match d,h with
 |0,_|1,_|2,_|3,_=>decide +kernel
theorem xj5:("0123":ar).length<=sizeLine:=by decide +kernel
theorem Pl:("":ar)=txt []:=by decide +kernel
theorem Ll{d:Nat}(h:d<4):(if(!(Builtin.Str.occurrences "23" ⟨#[48+d]⟩ 0 ("23":ar).length 1).isEmpty)=true then(1:Int)else 0)=((d/2:Nat):Int):=by
 match d,h with
 |0,_|1,_|2,_|3,_=>decide +kernel
theorem Lo{d:Nat}(h:d<4):(if(!(Builtin.Str.occurrences "13" ⟨#[48+d]⟩ 0 ("13":ar).length 1).isEmpty)=true then(1:Int)else 0)=((d%2:Nat):Int):=by
 match d,h with
 |0,_|1,_|2,_|3,_=>decide +kernel
theorem OA{r c n i:Nat}(h:i<n):(eB r c 0 n)[i]?=some (qd r c (n-1-i)):=by
 rw[Ta,Zf,Xy h];show some (qd r c (0+n-1-i))=_;rw[WE]
theorem Se{t:Tr}{l m:List Nat}(h:(cO t l).1=.z\/(cO t l).1=.o):cO t (l++m)=cO t l:=by
 rcases Gh t l m with⟨h1,a⟩|⟨_,a⟩
 ·rw[a,Tb h];exact Prod.ext rfl (by show l++[]=_;rw[Yo,h1])
 ·exact a
theorem xj6{t:Tr}{l:List Nat}{a b c d:Tr}(h:(cO t l).1=.nd a b c d):(cO t l).2=l:=by
 rcases Gh t l []with⟨h1,_⟩|⟨h1,_⟩
 ·exact h1
 ·rw[h]at h1;rcases h1 with z|z<;>cases z
inductive NL(t rp:af)(n tp r c:Nat)(rows:List Row)(D:List Nat)(H:Hp)(i:Nat)(σ:St)(H2:Hp):Prop
 |mk(y:Nat)(v7 v8:Option V)(eH:H2=H)(e:σ=[some (.ref t),some (.int (r:Nat)),some (.int (c:Nat)),some (.int (n:Nat)),some (.int (y:Nat)),some (.ref rp),some (.str (txt (cO (T rows tp) (D.take i)).2)),v7,v8])(hy:y<rows.length+2)(hT:T rows y=(cO (T rows tp) (D.take i)).1)
def tLf(K:PySem.W.Frag):TS:=As (P2 (js (l0 λi j=>V.bl (decide (j<i))) (eZ 4) (tC (V.int 1))))
 (oQ (iR (js (l0 λi j=>V.int (i+j)) (js (rI ua λi j=>V.int (i*j)) (tC (V.int 2)) (js (l0 λi j=>V.int (Builtin.bitAnd i j)) (js (rI (λ_ j=>0<=j) λi j=>V.int (i/2^j.toNat)) (eZ 1) (eZ 7)) (tC (V.int 1))))
  (js (l0 λi j=>V.int (Builtin.bitAnd i j)) (js (rI (λ_ j=>0<=j) λi j=>V.int (i/2^j.toNat)) (eZ 2) (eZ 7)) (tC (V.int 1)))) (di 8))
 (oQ (iR (js (pH K) (js (pH K) (eZ 5) (js (l0 λi j=>V.int (i-j)) (eZ 4) (tC (V.int 2)))) (eZ 8)) (di 4))
 (iR (js gb (eZ 6) (js L2.pI (tC (V.str (Str.ofString "0123"))) (eZ 8))) (di 6)))) P5
theorem Pk{K:PySem.W.Frag}{t l:af}{n g r c i y:Nat}{rows:List Row}{D:List Nat}{u:Hp}{G:Option V}(ok:fw rows)(X:cM u l rows)(Y:n<=12)(Z:D.length=n)(O:i<n)(h:D[i]?=some (qd r c (n-1-i)))(f:y<rows.length+2)(p:T rows y=(cO (T rows g) (D.take i)).1)
  {k:Ends}(I:∀L H,NL t l n g r c rows D u (i+1) L H->k.nx L H):
  tLf K k [some (.ref t),some (.int (r:Nat)),some (.int (c:Nat)),some (.int (n:Nat)),some (.int (y:Nat)),some (.ref l),some (.str (txt (cO (T rows g) (D.take i)).2)),some (.int ((n:Int)-1-(i:Int))),G] u:=by
 have U:(n:Int)-1-(i:Int)=((n-1-i:Nat):Int):=by lia
 refine⟨_,rfl,_,_,rfl,rfl,_,rfl,?_⟩;refine cw (λq=>?_) (λq=>?_)
 ·have Q:¬y<2:=by have:=ZG q;lia
  obtain⟨b,s,A,E,C,rfl,a⟩:=pM ok f Q;obtain⟨bs,W,x,R⟩:=id X;have LZ:=(cz a).1;have w:bs[b]?=some (bs[b]'(i5 x f)):=Zd (i5 x f);have M:=R b _ _ w a;generalize bs[b]'(i5 x f)=P at w M;have j:=xS8 r c (n-1-i);have v:T rows (b+2)=.nd (T rows s) (T rows A) (T rows E) (T rows C):=lK ok a;have B:=xj6 (by rw[<- p,v]);obtain⟨J,N⟩:=xh8 h B (by rw[<- p,v]);have jA:(cO (T rows g) (D.take i)).2.length<=12:=by rw[B,XC];lia
  have e:(2:Int)*Builtin.bitAnd ((r:Int)/2^((n:Int)-1-(i:Int)).toNat) 1+Builtin.bitAnd ((c:Int)/2^((n:Int)-1-(i:Int)).toNat) 1=((qd r c (n-1-i):Nat):Int):=by
   rw[U,TR,TR];unfold qd;lia
  generalize S:qd r c (n-1-i)=d at j e h J N;obtain⟨m,F⟩:∃m,[s,A,E,C][d]?=some m:=⟨_,Zd (show d<[s,A,E,C].length from j)⟩;refine⟨_,rfl,_,rfl,_,_,rfl,rfl,C0 O,_,_,rfl,rfl,_,_,rfl,rfl,.inl ⟨by decide,by decide⟩,_,rfl,_,rfl,_,_,rfl,rfl,C0 O,_,_,rfl,rfl,_,_,rfl,rfl,?_⟩;refine⟨_,rfl,_,rfl,_,_,rfl,rfl,l,_,((b:Nat):Int),.ref P,rfl,Z9 V.int Iz,aZ.of W,uw (by rw[Zf,w];rfl),_,rfl,P,_,(d:Int),.int (m:Nat),rfl,Z9 V.int e,aZ.of M,B_ F,?_⟩;refine⟨_,rfl,_,rfl,_,(d:Int),48+d,rfl,Z9 V.int e,xj5,xO1 j,_,_,rfl,rfl,?_,?_⟩
  ·rw[Gg];show _+1<=sizeLine;exact Xz (ow (by lia))
  ·refine I _ _ ⟨m,some (.int ((n:Int)-1-(i:Int))),some (.int ((2:Int)*Builtin.bitAnd ((r:Int)/2^((n:Int)-1-(i:Int)).toNat) 1+Builtin.bitAnd ((c:Int)/2^((n:Int)-1-(i:Int)).toNat) 1)),rfl,?_,?_,?_⟩
   ·rw[N,Bw h,<- TN,B];rfl
   ·have:=(ok b _ a).2 m (Zv F);exact nW this f
   ·rw[J,yn ok a j F,v]
 ·have Q:y<2:=by
   have:¬(1:Int)<(y:Int):=λz=>q (Zt z);lia
  have a:(cO (T rows g) (D.take i)).1=.z\/(cO (T rows g) (D.take i)).1=.o:=by
   rw[<- p];have:y=0\/y=1:=by lia
   rcases this with rfl|rfl
   ·exact .inl (l7 _)
   ·exact .inr (l5 _)
  refine I _ _ ⟨y,some (.int ((n:Int)-1-(i:Int))),G,rfl,?_,f,?_⟩
  ·rw[Bw h,Se a]
  ·rw[Bw h,Se a];exact p
abbrev nLf:List ar:=["_law_told","_law_row","_law_column","_law_n","_law_number_here","_law_rows","_law_address","_law_k","_law_quarter"]
abbrev fK:List ar:=["_law_told","_law_row","_law_column"]
theorem dN:aF nLf fK (bJ xa):=cZ
inductive AR(vs:List V)(H:Hp)(Q:VK):Prop
 |mk(t:af)(n tp r c:Nat)(rows:List Row)(e0:vs=[.ref t,.int (r:Nat),.int (c:Nat)])(e1:g7 H t n tp rows)(e2:n<=12)(e3:∀(H':Hp)(p:af)(y:Nat),aI H H'->y<rows.length+2->T rows y=(cO (T rows tp) (eB r c 0 n)).1->H' p=some (.tup [.str (txt (cO (T rows tp) (eB r c 0 n)).2),.int (y:Nat)])->Q (.ref p) H')
def rS:Sp:=λa H Q _=>AR a H Q
theorem xU2{f:af}{m:ak}(F:a_ K "_law_leaf" "_law_leaf" xa f m)(B:eF mg):aE P w K mg base aS 1 f m fK rS:=by
 refine F.ok dN (λO H Q E h=>?_) (λT A b s H O Q E U h=>?_)
 ·obtain⟨t,n,k,r,c,rows,rfl,_⟩:=h
  rfl
 ·obtain⟨t,n,k,r,c,rows,rfl,I,W,q⟩:=h;obtain⟨⟨M,G,L⟩,j,V⟩:=id I;have ok:=j.iL;refine aQ ⟨_,⟨mY (pv 0) (l_ rfl (dz (c8 3 dN.nd) (dz (c8 4 dN.nd) (dz (c8 5 dN.nd) lM))))⟩,?_⟩;refine aQ ⟨_,⟨cg 6 dN.nd se⟩,?_⟩;refine aQ ⟨_,⟨pO Yx rfl (xt6 (by rfl) B.range (aG (aO c6 (pv 3) aK) (aG (EK FZ aK) (aG (EK FZ aK) aP)))) (c8 7 dN.nd)
   (gG.go (.one ⟨dE (c_ zG (pv 4) aK (cD _)) (gG.go (.cons ⟨cg 8 dN.nd (aO c7 (aO gJ aK (aO Cj (aO F_ (pv 1) (pv 7)) aK)) (aO Cj (aO F_ (pv 2) (pv 7)) aK))⟩
    (.cons ⟨cg 4 dN.nd (cb cJ (bw.go ⟨cb cJ (pv 5) (aO c6 (pv 4) aK)⟩) (pv 8))⟩
    (.one ⟨cg 6 dN.nd (aO JK (pv 6) (bw.go ⟨cb O6 se (pv 8)⟩))⟩)))) dG⟩))⟩,?_⟩
  refine gj ⟨_,⟨cF (fo (aW.go (.cons ⟨pv 6⟩ (.cons ⟨pv 4⟩ .nil rfl) rfl)))⟩,?_⟩;refine⟨_,rfl,t,_,rfl,aZ.of G,rfl,_,_,rfl,_,_,rfl,_,_,rfl,rfl,?_⟩;refine⟨_,rfl,_,_,rfl,rfl,_,rfl,_,rfl,(n:Int)-1,-1,rfl,⟨by lia,by lia,by lia,by lia⟩,?_⟩;have S:((n:Int)-1-(-1)).toNat=n:=by lia
  rw[S];have l:(eB r c 0 n).length=n:=Kb r c 0 n;have v:=KC r c 0 n;have p:∀i,i<n->(eB r c 0 n)[i]?=some (qd r c (n-1-i)):=λi a=>OA a;generalize eB r c 0 n=D at q l v p;refine xj4 (lo:=(n:Int)-1) (n:=n) (NL t M n k r c rows D H) ?_ ?_ ?_
  ·refine⟨k,none,none,rfl,?_,j.oA,?_⟩
   ·rw[Ww,ze,<- Pl];rfl
   ·rw[Ww,ze]
  ·rintro i N J a ⟨y,x,u,rfl,rfl,g,d⟩;exact Pk (K:=K) ok L j.size l a (p i a) g d λ_ _ z=>z
  ·rintro N J ⟨y,x,u,rfl,rfl,g,d⟩;have e:D.take n=D:=Yn (by lia);rw[e];refine⟨_,rfl,_,rfl,(by show 2<=sizeLine;decide),λC R=>q _ C y (bQ R) g (d.trans (by rw[e])) bu⟩
abbrev nSq:List ar:=["_law_n","_law_address","_law_row","_law_column","_law_side","_law_figure"]
theorem jw:aF nSq ["_law_n","_law_address"] (bJ Gj):=cZ
theorem xU3{f:af}{C:ak}(F:a_ K "_law_square" "_law_square" Gj f C)(B:eF mg):aE P w K mg base aS 1 f C ["_law_n","_law_address"] Gf:=by
 refine F.ok jw (λR H Q E h=>?_) (λT A j s H R Q E U h=>?_)
 ·obtain⟨m,a,rfl,_⟩:=h
  rfl
 ·obtain⟨n,a,rfl,W,I,t,q⟩:=h;refine aQ ⟨_,⟨cg 2 jw.nd aK⟩,?_⟩;refine aQ ⟨_,⟨cg 3 jw.nd aK⟩,?_⟩;refine aQ ⟨_,⟨cg 4 jw.nd (aO jl aK (pv 0))⟩,?_⟩;refine aQ ⟨_,⟨pO Yx rfl (KI (pv 1)) (c8 5 jw.nd)
   (gG.go (.cons ⟨cg 4 jw.nd (aO rq (pv 4) aK)⟩
   (.cons ⟨cg 2 jw.nd (aO c7 (pv 2) (aO gJ (pv 4) (bw.go ⟨ki JD (by rfl) B.int YX (aG (jn JE (pv 5) se (by first|exact cD _|rfl|decide)) aP)⟩)))⟩
   (.one ⟨cg 3 jw.nd (aO c7 (pv 3) (aO gJ (pv 4) (bw.go ⟨ki JD (by rfl) B.int YX (aG (jn JE (pv 5) se (by first|exact cD _|rfl|decide)) aP)⟩)))⟩))))⟩,?_⟩
  refine gj ⟨_,⟨cF (fo (aW.go (.cons ⟨pv 2⟩ (.cons ⟨pv 3⟩ (.cons ⟨pv 4⟩ .nil rfl) rfl) rfl)))⟩,?_⟩;have N:(1:Int)*2^((n:Nat):Int).toNat=((2^n:Nat):Int):=by rw[WX,ZD];simp
  refine⟨_,rfl,_,_,rfl,rfl,⟨by lia,by lia,by decide⟩,?_⟩;have D:∀g:Nat->Nat,cT g n []=0:=λg=>by cases n<;>rfl
  refine⟨_,rfl,txt a,rfl,TV (λi l k=>k=H/\∃v,l=[some (.int (n:Nat)),some (.str (txt a)),some (.int ((gS n (a.take i):Nat):Int)),some (.int ((gX n (a.take i):Nat):Int)),some (.int ((2^(n-i):Nat):Int)),v]) ⟨rfl,none,?_⟩ ?_ ?_⟩
  ·rw[Ww];show _=[some (V.int (n:Nat)),some (.str (txt a)),some (.int ((cT (· / 2) n []:Nat):Int)),some (.int ((cT (·%2) n []:Nat):Int)),some (.int ((2^n:Nat):Int)),none];rw[D,D,<- N]
   rfl
  ·rintro i c l k G ⟨rfl,v,rfl⟩;obtain⟨d,b,rfl⟩:=KA G;have X:=(cz b).1;have y:d<4:=I d (Zv b);have h1:gS n (a.take (i+1))=gS n (a.take i)+2^(n-i-1)*(d/2):=E8 b t;have S:gX n (a.take (i+1))=gX n (a.take i)+2^(n-i-1)*(d%2):=E8 b t;have u:=Ss (n:=n) (i:=i) (by lia);have O:2^(n-i-1)<=4096:=zo (by lia);have r:-(2^64)<((2^(n-i):Nat):Int)/2/\((2^(n-i):Nat):Int)/2<2^64:=by
    rw[u];generalize 2^(n-i-1)=x at O;lia
   refine⟨_,rfl,_,_,rfl,rfl,⟨by decide,by decide⟩,?_⟩;refine⟨_,rfl,_,rfl,_,rfl,_,_,rfl,rfl,.inr ⟨_,rfl,_,_,rfl,rfl,.inl r,_,_,rfl,rfl,?_⟩⟩;refine⟨_,rfl,_,rfl,_,rfl,_,_,rfl,rfl,.inr ⟨_,rfl,_,_,rfl,rfl,.inl r,_,_,rfl,rfl,?_⟩⟩;refine⟨rfl,some (.str ⟨#[48+d]⟩),?_⟩;rw[h1,S];have M:((gS n (a.take i):Nat):Int)+((2^(n-i-1):Nat):Int)*((d/2:Nat):Int)=((gS n (a.take i)+2^(n-i-1)*(d/2):Nat):Int):=by
    rw[YQ,Xx]
   have L:((gX n (a.take i):Nat):Int)+((2^(n-i-1):Nat):Int)*((d%2:Nat):Int)=((gX n (a.take i)+2^(n-i-1)*(d%2):Nat):Int):=by
    rw[YQ,Xx]
   rw[<- M,<- L,show n-(i+1)=n-i-1 from by lia,<- u,<- Ll y,<- Lo y]
   rfl
  ·rintro l k ⟨rfl,v,rfl⟩;refine⟨_,rfl,_,rfl,_,rfl,(by show 3<=sizeLine;decide),λp J=>?_⟩;have e:a.take (txt a).cps.size=a:=Yn (by simp[txt]);rw[e,Kn];exact q p J
end Pr
namespace L2
open PySem PySem.Spec PyProof.Rows
section
variable{X:Cx}
inductive lB(xs:List V)(H:Hp)(Q:VK):Prop
 |mk(p:af)(ns:List Int)(aX:xs=[.ref p])(dQ:H p=some (.tup (ns.map V.int)))(cA:ns≠[])(aU:Q (.int (best ns (ns.length-1))) H)
theorem xb4(hc:X.calm=true):fm X (.builtin "max") lB:=by
 intro j8 s Z H U W Q I r h;obtain⟨p,c,rfl,N,D,q⟩:=h;obtain⟨u,rfl,M⟩:=gI r;cases M;obtain⟨d,C,E,_⟩:=I.tuple (aZ.of N);have l:s.heap.IsTuple p d.toArray:=E;obtain⟨ol,y,_⟩:=id l;have B:d.length=c.length:=by have:=C.length;simpa using this.symm
 have O:p≠s.heap.objs.size:=Zp (Zi y);have n:d.toArray.size=c.length:=by simpa using B
 have k:0<c.length:=X6.mpr D;have a:∀(i:Nat)(v:aa),d.toArray[i]?=some v->∃t,v=.int (c.getD i 0) t:=λi v g=>by
  have m:d[i]?=some v:=by simpa using g
  have f:i<c.length:=by rw[<- B];exact(cz m).1
  obtain⟨Y,w,t,J⟩:=C.get (x:=V.int (c[i])) (i:=i) (by simp[f]);rw[m]at w;cases w;exact⟨t,by rw[J];simp[List.getD,f]⟩
 refine call_max_walkS (YK l ?_);refine⟨s.heap.objs.size,_,_,_,_,_,_,λi j=>decide (c.getD i 0>c.getD j 0),rfl,(Ub (A:=X.A.in1) (I.ok.hd hc) s.heap.objs.size p O d.toArray).toS,⟨⟨_,Zg _ rfl,rfl,rfl⟩,l.at λo e=>Zb _ e⟩,?_,by rw[n];exact k,?_,?_⟩
 ·intro b hb;rw[ZS];rcases Zu.mp hb with rfl|hb
  ·exact Yd _
  ·have:b=p:=by simpa using hb
   subst this;exact ZZ (Zi y)
 ·intro i j P F R Q' T f K G;obtain⟨t,rfl⟩:=a i P f;obtain⟨S,rfl⟩:=a j F K;exact gt_int G
 ·intro v R g L;rw[n]at g;obtain⟨t,rfl⟩:=a _ v g;rw[(Fd c (c.length-1)).1];refine⟨.int _,H,zu I L (λb o e hb=>?_),⟨t,rfl⟩,q⟩;have:b=s.heap.objs.size:=by simpa using hb
  exact Yc _ (by rw[this]at e;exact Zi e)
end
end L2
namespace L2
open PySem
section
variable{X:Cx}
def xU4(t:TS):TS:=λD c H=>∃J:St->Hp->Prop,t {D with nx:=J} c H/\∀a b,J a b->D.nx a b
theorem Bs{st:aB}{t:TS}(h:PS X st t):PS X st (xU4 t):=by
 intro g s l H D I d;obtain⟨J,h1,k⟩:=d;refine Yv (h g s l H _ I h1) (λf m a=>?_) λ_ _ e=>e;cases f with
 |next=>
  obtain⟨b,i,c,j⟩:=a;exact⟨b,i,c,k _ _ j⟩
 |brk=>exact a
 |cont=>exact a
 |ret u=>exact a
end
end L2
namespace Qf
theorem xU5{a h x s:Int}(hs:0<=s):ov a h x s<=s:=by
 unfold ov;obtain⟨h1,c,d⟩:=HY (a+h) (x+s);obtain⟨f,g,b⟩:=pK a x;generalize gm (a+h) (x+s)=m at *;generalize dr a x=k at *;obtain⟨_,_,e⟩:=pK 0 (m-k);rcases e with e|e<;>rw[e]<;>lia
end Qf
namespace Pr
open PySem L2 Qf
def k_(b:Bx):List V:=[.int b.r,.int b.c,.int b.h,.int b.w]
def mO(H:Hp)(l:af)(bs:List Bx):Prop:=∃as:List af,H l=some (.lst (as.map V.ref))/\as.length=bs.length/\∀(i:Nat) a b,as[i]?=some a->bs[i]?=some b->H a=some (.tup (k_ b))
theorem mO.same{H c:Hp}{l:af}{bs:List Bx}(h:mO H l bs)(s:aI H c):mO c l bs:=by
 obtain⟨as,h1,g,f⟩:=h;exact⟨as,s _ _ h1,g,λi a b e d=>s _ _ (f i a b e d)⟩
abbrev nCm:List ar:=["_law_box_here","_law_other","_law_high","_law_wide"]
theorem vw:aF nCm ["_law_box_here","_law_other"] (bJ BB):=cZ
inductive Bb(vs:List V)(H:Hp)(Q:VK):Prop
 |mk(p q:af)(a b:Bx)(e0:vs=[.ref p,.ref q])(e1:H p=some (.tup (k_ a)))(e2:H q=some (.tup (k_ b)))(e3:0<=b.h)(e4:b.h<=4096)(e5:Q (.int (a.gF b)) H)
def vp:Sp:=λa H Q _=>Bb a H Q
theorem xU6{f:af}{g:ak}(F:a_ K "_law_common" "_law_common" BB f g)(B:eF mg):aE P w K mg base aS 1 f g ["_law_box_here","_law_other"] vp:=by
 refine F.ok vw (λi H Q E h=>?_) (λl A e s H i Q E m h=>?_)
 ·obtain⟨p,q,a,b,rfl,_⟩:=h
  rfl
 ·obtain⟨p,q,a,b,rfl,d,c,j,n,k⟩:=h;refine aQ ⟨_,⟨cg 2 vw.nd (aO c6
   (bw.go ⟨cB (oy rfl) (by rfl) B.min ZV (aW.go (.cons ⟨aO c7 (cb cJ (pv 0) aK) (cb cJ (pv 0) aK)⟩ (.cons ⟨aO c7 (cb cJ (pv 1) aK) (cb cJ (pv 1) aK)⟩ .nil rfl) rfl))⟩)
   (bw.go ⟨cB (m7 rfl) (by rfl) B.max ZM (aW.go (.cons ⟨cb cJ (pv 0) aK⟩ (.cons ⟨cb cJ (pv 1) aK⟩ .nil rfl) rfl))⟩))⟩,?_⟩
  refine aQ ⟨_,⟨cg 3 vw.nd (aO c6
   (bw.go ⟨cB (oy rfl) (by rfl) B.min ZV (aW.go (.cons ⟨aO c7 (cb cJ (pv 0) aK) (cb cJ (pv 0) aK)⟩ (.cons ⟨aO c7 (cb cJ (pv 1) aK) (cb cJ (pv 1) aK)⟩ .nil rfl) rfl))⟩)
   (bw.go ⟨cB (m7 rfl) (by rfl) B.max ZM (aW.go (.cons ⟨cb cJ (pv 0) aK⟩ (.cons ⟨cb cJ (pv 1) aK⟩ .nil rfl) rfl))⟩))⟩,?_⟩
  refine gj ⟨_,⟨cF (aO gJ (bw.go ⟨cB (m7 rfl) (by rfl) B.max ZM (aG aK (aG (pv 2) aP))⟩) (bw.go ⟨cB (m7 rfl) (by rfl) B.max ZM (aG aK (aG (pv 3) aP))⟩))⟩,?_⟩;refine⟨_,rfl,p,_,0,.int a.r,rfl,rfl,aZ.of d,rfl,_,rfl,p,_,2,.int a.h,rfl,rfl,aZ.of d,rfl,_,_,rfl,rfl,?_⟩;refine⟨_,rfl,q,_,0,.int b.r,rfl,rfl,aZ.of c,rfl,_,rfl,q,_,2,.int b.h,rfl,rfl,aZ.of c,rfl,_,_,rfl,rfl,_,_,rfl,?_⟩;refine⟨_,rfl,p,_,0,.int a.r,rfl,rfl,aZ.of d,rfl,_,rfl,q,_,0,.int b.r,rfl,rfl,aZ.of c,rfl,_,_,rfl,_,_,rfl,rfl,?_⟩;refine⟨_,rfl,p,_,1,.int a.c,rfl,rfl,aZ.of d,rfl,_,rfl,p,_,3,.int a.w,rfl,rfl,aZ.of d,rfl,_,_,rfl,rfl,?_⟩;refine⟨_,rfl,q,_,1,.int b.c,rfl,rfl,aZ.of c,rfl,_,rfl,q,_,3,.int b.w,rfl,rfl,aZ.of c,rfl,_,_,rfl,rfl,_,_,rfl,?_⟩;refine⟨_,rfl,p,_,1,.int a.c,rfl,rfl,aZ.of d,rfl,_,rfl,q,_,1,.int b.c,rfl,rfl,aZ.of c,rfl,_,_,rfl,_,_,rfl,rfl,?_⟩;have h1:ov a.r a.h b.r b.h<=b.h:=xU5 j;have r:=HX a.r a.h b.r b.h;exact⟨_,rfl,_,_,rfl,_,rfl,_,_,rfl,_,_,rfl,rfl,.inl ⟨by show -(2^64)<ov a.r a.h b.r b.h;lia,by show ov a.r a.h b.r b.h<2^64;lia⟩,k⟩
abbrev zM:List ar:=["_law_ahead_here","_law_box_here"]
theorem Bh:aF zM zM (bJ Cb):=cZ
inductive AI(vs:List V)(H:Hp)(Q:VK):Prop
 |mk(l q:af)(bs:List Bx)(b:Bx)(e0:vs=[.ref l,.ref q])(e1:mO H l bs)(e2:bs.length<=100)(e3:H q=some (.tup (k_ b)))(e4:0<=b.h)(e5:b.h<=4096)(e6:∀H',aI H H'->Q (.int (shr bs b)) H')
def AJ:Sp:=λa H Q _=>AI a H Q
theorem Pj(b:Bx):∀bs:List Bx,(bs.map λa=>a.gF b).sum=shr bs b
 |[]=>rfl
 |a::bs=>by
  rw[ZC,X1,Pj b bs]
  rfl
theorem xU7{f m:af}{B g:ak}(F:a_ K "_law_share" "_law_share" Cb f B)(Y:mg "sum"=none)(hC:mg "_law_common"=some (.ref m))(W:a_ K "_law_common" "_law_common" BB m g)(I:Binds K g ["_law_box_here","_law_other"] [])(R:aE P w K mg base aS 1 m g ["_law_box_here","_law_other"] vp):
  aE P w K mg base aS 2 f B zM AJ:=by
 refine F.ok Bh (λZ H Q E h=>?_) (λbO A j s H Z Q E J h=>?_)
 ·obtain⟨l,q,bs,b,rfl,_⟩:=h
  rfl
 ·obtain⟨l,q,bs,b,rfl,U,hn,N,b0,L,k⟩:=h;refine gj ⟨_,⟨cF (cB (Jt rfl) (by rfl) Y Vl (aG (rz zM (bJ Cb) rfl rfl rfl Bh.nd (ux (pv 0)) (λcl C fp aH aJ=>bZ R J hC W.kp I (aG (pv 0) (aG (pv 2) aP)))) aP))⟩,?_⟩;obtain⟨as,v,n,vA⟩:=U;refine⟨_,rfl,l,rfl,⟨_,cH.of v⟩,λD T=>uC T (λi y d=>∃a,bs[i]?=some a/\y=.int (a.gF b)) (wq (K:=K) v) (by rw[Zh,n];exact pN (by lia)) (λi y H1 d _ _ h=>h) ?_ ?_⟩
  ·intro i x d c G e Q' O;rw[Zf]at G;obtain⟨a,r,rfl⟩:=Zj.mp G;have X:i<bs.length:=by rw[<- n];exact(cz r).1
   have hb:=Zd X;exact⟨_,rfl,_,rfl,a,q,bs[i],b,rfl,e _ _ (vA i a _ r hb),e _ _ N,b0,L,O _ _ (aI.refl _) ⟨_,hb,rfl⟩⟩
  ·intro u d e t p S;have M:u=(bs.map λa=>a.gF b).map V.int:=by
    refine Xu λi=>?_;rw[Zf,Zf];by_cases c:i<u.length
    ·obtain⟨a,h1,h2⟩:=S i _ (Zd c);rw[Zd c,h1,h2]
     rfl
    ·rw[Yr (iE c),Yr (by rw[Zh]at p;exact Qr n p c)]
     rfl
   rw[M]at t;refine⟨D,_,rfl,t,?_⟩;rw[Pj];exact k d e
abbrev nAh:List ar:=["_law_row","_law_column","_law_far","_law_place","_law_above","_law_first","_law_amid","_law_wide"]
abbrev sO:List ar:=["_law_row","_law_column","_law_far","_law_place"]
theorem nC:aF nAh sO (bJ Fw):=cZ
def u7(r c far R C:Int):Int:=if fZ (R-r)<far then gm 1 (C-c+far)else C-c+far
inductive Be(vs:List V)(H:Hp)(Q:VK):Prop
 |mk(p:af)(r c far R C:Int)(e0:vs=[.int r,.int c,.int far,.ref p])(e1:H p=some (.tup [.int R,.int C]))(e2:∀H' l,aI H H'->mO H' l (ym r c far R C (u7 r c far R C))->Q (.ref l) H')
def Bf:Sp:=λa H Q _=>Be a H Q
theorem xU8{f:af}{U:ak}(F:a_ K "_law_ahead" "_law_ahead" Fw f U)(B:eF mg)(C:rf mg):aE P w K mg base aS 1 f U sO Bf:=by
 refine F.ok nC (λW H Q E h=>?_) (λZ A D s H W Q E hr h=>?_)
 ·obtain⟨p,r,c,d,R,m,rfl,_⟩:=h
  rfl
 ·obtain⟨p,r,c,d,R,m,rfl,L,q⟩:=h;refine aQ ⟨_,⟨cg 4 nC.nd (@fo _ _ _ _ _ (aW.go (.cons ⟨aO c6 (pv 0) (pv 2)⟩ (.cons ⟨aO c6 (pv 1) (pv 2)⟩ (.cons ⟨aO c7 (aO c6 (cb cJ (pv 3) aK) (pv 0)) (pv 2)⟩ (.cons ⟨aO c7 (aO gJ aK (pv 2)) aK⟩ .nil rfl) rfl) rfl) rfl)))⟩,?_⟩;refine aQ ⟨_,⟨cg 5 nC.nd (cB (m7 rfl) (by rfl) B.max ZM (aW.go (.cons ⟨cb cJ (pv 3) aK⟩ (.cons ⟨aO c7 (aO c6 (pv 0) (pv 2)) aK⟩ .nil rfl) rfl)))⟩,?_⟩;refine aQ ⟨_,⟨cg 6 nC.nd (@fo _ _ _ _ _ (aW.go (.cons ⟨pv 5⟩ (.cons ⟨aO c7 (aO c6 (pv 1) (pv 2)) aK⟩ (.cons ⟨aO c6 (aO c7 (pv 0) (pv 2)) (pv 5)⟩ (.cons ⟨aO c6 (aO gJ aK (pv 2)) aK⟩ .nil rfl) rfl) rfl) rfl)))⟩,?_⟩;refine aQ ⟨_,⟨cg 7 nC.nd (aO c7 (aO c6 (cb cJ (pv 3) aK) (pv 1)) (pv 2))⟩,?_⟩;refine aQ ⟨_,⟨Bs (dE (c_ iD (bw.go ⟨cB BK (by rfl) C.abs XH (aG (aO c6 (cb cJ (pv 3) aK) (pv 0)) aP)⟩) (pv 2) (cD _))
   (gG.go (.one ⟨cg 7 nC.nd (cB (oy rfl) (by rfl) B.min ZV (aG aK (aG (pv 7) aP)))⟩)) dG)⟩,?_⟩
  refine gj ⟨_,⟨cF (@jk _ _ _ _ (aW.go (.cons ⟨pv 4⟩ (.cons ⟨pv 6⟩ (.cons ⟨@fo _ _ _ _ _ (aW.go (.cons ⟨cb cJ (pv 3) aK⟩ (.cons ⟨aO c6 (pv 1) (pv 2)⟩ (.cons ⟨aK⟩ (.cons ⟨pv 7⟩ .nil rfl) rfl) rfl) rfl))⟩ .nil rfl) rfl) rfl)))⟩,?_⟩;refine⟨_,rfl,_,rfl,_,_,rfl,rfl,_,rfl,_,rfl,_,_,rfl,rfl,_,rfl,p,_,0,.int R,rfl,rfl,aZ.of L,rfl,_,rfl,_,_,rfl,rfl,_,rfl,_,_,rfl,rfl,?_⟩;refine⟨_,rfl,_,_,rfl,rfl,.inl ⟨by decide,by decide⟩,_,_,rfl,rfl,(by show 4<=sizeLine;decide),λj J=>?_⟩;have k:aI H (upd H j (.tup (k_ ⟨r-d,c-d,R-r+d,2*d+1⟩))):=bQ J;have h1:upd H j (.tup (k_ ⟨r-d,c-d,R-r+d,2*d+1⟩)) j=some (.tup (k_ ⟨r-d,c-d,R-r+d,2*d+1⟩)):=bu;refine(λ(go:∀v,aI H v->v j=some (.tup (k_ ⟨r-d,c-d,R-r+d,2*d+1⟩))->_)=>go _ k h1) ?_;clear k h1;intro v k h1;refine⟨_,rfl,p,_,0,.int R,rfl,rfl,aZ.of (k _ _ L),rfl,_,rfl,_,rfl,_,_,rfl,rfl,_,_,rfl,rfl,_,_,rfl,?_⟩;refine iM (σ':=[some (.int r),some (.int c),some (.int d),some (.ref p),some (.ref j),some (.int (dr R (r-d+1))),none,none]) rfl ?_;generalize X:dr R (r-d+1)=M;refine⟨_,rfl,_,rfl,_,rfl,_,_,rfl,rfl,_,_,rfl,rfl,_,rfl,_,rfl,_,_,rfl,rfl,_,rfl,_,_,rfl,rfl,?_⟩;refine⟨_,rfl,_,_,rfl,rfl,.inl ⟨by decide,by decide⟩,_,_,rfl,rfl,(by show 4<=sizeLine;decide),λn I=>?_⟩;refine(λ(go:∀u,aI v u->u n=some (.tup (k_ ⟨M,c-d+1,r+d-M,2*d-1⟩))->_)=>go _ (bQ I) bu) ?_;intro u O Y;have S:=O _ _ (k _ _ L);refine⟨_,rfl,p,_,1,.int m,rfl,rfl,aZ.of S,rfl,_,rfl,_,_,rfl,rfl,_,rfl,_,_,rfl,rfl,?_⟩;refine iM (σ':=[some (.int r),some (.int c),some (.int d),some (.ref p),some (.ref j),some (.int M),some (.ref n),some (.int (m-c+d))]) rfl ?_;refine⟨λV t=>t=u/\V=[some (.int r),some (.int c),some (.int d),some (.ref p),some (.ref j),some (.int M),some (.ref n),some (.int (u7 r c d R m))],?_,?_⟩
  ·refine⟨_,rfl,p,_,0,.int R,rfl,rfl,aZ.of S,rfl,_,rfl,_,_,rfl,rfl,_,rfl,_,rfl,_,_,rfl,rfl,_,rfl,?_⟩;refine cw (λy=>?_) (λy=>?_)
   ·refine⟨_,rfl,_,_,rfl,rfl,?_⟩;unfold u7;rw[Zx (show fZ (R-r)<d from ZG y)]
    rfl
   ·refine⟨rfl,?_⟩;unfold u7;rw[Zl (show ¬fZ (R-r)<d from λz=>y (Zt z))]
  ·rintro V t ⟨rfl,rfl⟩;refine⟨_,rfl,_,rfl,_,rfl,p,_,0,.int R,rfl,rfl,aZ.of S,rfl,_,rfl,_,rfl,_,_,rfl,rfl,_,rfl,(by show 4<=sizeLine;decide),λN G=>⟨(by show 3<=sizeLine;decide),λl T=>?_⟩⟩;have x:aI t (upd (upd t N (.tup (k_ ⟨R,c-d,1,u7 r c d R m⟩))) l (.lst [.ref j,.ref n,.ref N])):=(bQ G).trans (bQ T);refine q _ l ((k.trans O).trans x) ⟨[j,n,N],bu,rfl,λi a b g e=>?_⟩;unfold ym at e;rw[X]at e
   match i,g,e with
   |0,g,e=>cases g;cases e;exact x _ _ (O _ _ h1)
   |1,g,e=>cases g;cases e;exact x _ _ Y
   |2,g,e=>cases g;cases e;exact c9 bu T
   |i+3,g,e=>cases g
theorem Ap(a:List Nat):(txt a).cps.toList.map Int.ofNat=a.map λx:Nat=>((48+x:Nat):Int):=by
 unfold txt;rw[Yq]
 rfl
theorem Ph:∀{a b:List Nat},(a.map λx:Nat=>((48+x:Nat):Int))<(b.map λx:Nat=>((48+x:Nat):Int))<->a<b
 |[],[]=>by simp
 |[],_::_=>by simp
 |_::_,[]=>by simp
 |x::a,y::b=>by
  rw[ZC,ZC,Z1,Z1,Ph];constructor
  ·rintro(h|⟨h1,c⟩)
   ·exact .inl (by lia)
   ·exact .inr ⟨by lia,c⟩
  ·rintro(h|⟨h1,c⟩)
   ·exact .inl (by lia)
   ·exact .inr ⟨by lia,c⟩
theorem xO2{a b:List Int}:[a]<[b]<->a<b:=by rw[Z1];simp
end Pr
namespace L2
open PySem PySem.Spec PyProof.Rows PySem.W
theorem bV:Slot "set_iterator" "__next__" "set_iterator.__next__":=
 .of (owner:= "set_iterator") (n:= "__next__") (by rw[typeLookup_type,Vn];kernel_rfl) (by decide +kernel) (by decide +kernel) (by decide +kernel) (by first|exact .inl (by decide +kernel)|exact .inr (by decide +kernel)) (by rw[VZ];kernel_rfl)
theorem RU:entryFor table "set_iterator.__next__"=some Builtin.«set_iterator.__next__»:=entryFor_of_tree (by kernel_rfl)
theorem RT(a:aa):argsOk "set_iterator.__next__" ⟨[a],[]⟩:=by unfold argsOk;kernel_rfl
theorem RS:Slot "set_iterator" "__iter__" "set_iterator.__iter__":=
 .of (owner:= "set_iterator") (n:= "__iter__") (by rw[typeLookup_type,Vn];kernel_rfl) (by decide +kernel) (by decide +kernel) (by decide +kernel) (by first|exact .inl (by decide +kernel)|exact .inr (by decide +kernel)) (by rw[VZ];kernel_rfl)
theorem qz0(a:aa):argsOk "set_iterator.__iter__" ⟨[a],[]⟩:=by unfold argsOk;kernel_rfl
theorem qz1:entryFor table "set.__iter__"=some Builtin.«frozenset.__iter__»:=entryFor_alias (id':= "frozenset.__iter__") (by kernel_rfl) rfl (by decide +kernel) (by kernel_rfl)
theorem qx8:entryFor table "set_iterator.__iter__"=some Builtin.«dict_keyiterator.__iter__»:=entryFor_alias (id':= "dict_keyiterator.__iter__") (by kernel_rfl) rfl (by decide +kernel) (by kernel_rfl)
theorem JF{α:Type}:∀{l:List α}{i:Nat}(h:i<l.length),(l[i]::l.eraseIdx i).Perm l
 |x::l,0,_=>.refl _
 |x::l,i+1,h=>by
  have a:i<l.length:=by simpa using h
  show(l[i]::x::l.eraseIdx i).Perm (x::l);exact(List.Perm.swap _ _ _).trans ((JF a).cons _)
theorem iA:Slot "set" "__len__" "set.__len__":=
 .of (owner:= "set") (n:= "__len__") (by rw[typeLookup_type,Vn];kernel_rfl) (by decide +kernel) (by decide +kernel) (by decide +kernel) (by first|exact .inl (by decide +kernel)|exact .inr (by decide +kernel)) (by rw[VZ];kernel_rfl)
theorem SV{α:Type}(next:Nat->Nat):∀(a k:Nat)(left:List α)(b:Array α),left.length=a->(pickOrder.go next a k left b).toList.Perm (b.toList++left)
 |0,k,left,b,h=>by
  have:left=[]:=WZ.mp h;subst this;unfold pickOrder.go;rw[Yo]
 |a+1,k,left,b,h=>by
  unfold pickOrder.go;have c:next k%left.length<left.length:=We _ (by lia)
  rw[Zd c];dsimp only;refine(SV next a (k+1) (left.eraseIdx (next k%left.length)) (b.push left[next k%left.length]) (by rw[V0 c];lia)).trans ?_;rw[Xv,Yg];refine Wn _ ?_;exact(JF c)
theorem RR{α:Type}(next:Nat->Nat)(xs:Array α):(pickOrder next xs).toList.Perm xs.toList:=by
 unfold pickOrder;have:=SV next xs.size 0 xs.toList #[] (by simp)
 simpa using this
section
theorem qJ1{a:Source}{n:Nat}{Q:Nat->ae->Prop}(b:0<n)(h:∀i d,i<n->Q i {s with drawn:=d}):ag (ai prog w) A (choose a n) Q E s:=λc p _=>by
 show Sem.wp _ _ (.choose a n .pure) _ _ _ _;rw[Sem.wp_choose];exact⟨Rt b,h _ _ (We _ b)⟩
theorem SU{α:Type}:∀(n:Nat)(a:List α)(s:ae)(Q:List α->ae->Prop),a.length=n->(∀c d,c.Perm a->Q c {s with drawn:=d})->ag (ai prog w) A (drawOrder n a) Q E s
 |0,a,s,Q,b,h=>by
  have:a=[]:=WZ.mp b;subst this;exact Zc (h [] s.drawn (.refl _))
 |n+1,[],s,Q,b,h=>by simp at b
 |n+1,x::a,s,Q,b,h=>by
  show ag _ _ (choose .order (x::a).length >>= _) _ _ _;refine Za (qJ1 (by simp) λi d e=>?_);rw[Zd e];refine Za (SU n ((x::a).eraseIdx i) _ _ (by rw[V0 e];simpa using b) λc g f=>?_);exact Zc (h _ _ ((f.cons _).trans (JF e)))
def fj(h:ao)(a:af)(b:Array (Int×aa))(ep:Nat)(t:aw):Prop:=∃o,h.get? a=some o/\o.ExactSet/\o.data=.set b ep t
theorem fj.cX{h h':ao}{a:af}{b:Array (Int×aa)}{ep:Nat}{t:aw}(x:fj h a b ep t)(k:∀o,h.get? a=some o->h'.get? a=some o):fj h' a b ep t:=let ⟨o,ho,r⟩:=x;⟨o,k o ho,r⟩
theorem fj.ty{s:ae}{a:af}{b:Array (Int×aa)}{ep:Nat}{t:aw}(x:fj s.heap a b ep t):s.TypeIs (.ref a) "set":=let ⟨o,ho,hc,_⟩:=x;⟨o,ho,hc.1⟩
theorem fj.lt{h:ao}{a:af}{b:Array (Int×aa)}{ep:Nat}{t:aw}(x:fj h a b ep t):a<h.objs.size:=let ⟨_,ho,_⟩:=x;Zi ho
def gC(h:ao)(it:af)(first:aa)(i:Nat)(a:af)(n ep:Nat):Prop:=∃o,h.get? it=some o/\o.cls=.type "set_iterator" /\ o.data=.fields #[first,.int i 0,.ref a,.int n 0,.int ep 0]
theorem gC.ty{s:ae}{it:af}{first:aa}{i:Nat}{a:af}{n ep:Nat}(x:gC s.heap it first i a n ep):s.TypeIs (.ref it) "set_iterator":=let ⟨o,ho,hc,_⟩:=x;⟨o,ho,hc⟩
inductive Md(w:aj)(a:af)(es:Array (Int×aa))(ep:Nat)(t:aw):(ao->Prop)->(Nat->aa)->List aa->Prop
 |text (b:w.params.followText "set-order"=true):Md w a es ep t (λ_=>True) (λ_=>.int 0 0) ((pickOrder (w.params.setOrder a ep) es).toList.map (·.2))
 |plain (b:w.params.followText "set-order"=false) (nd:(!t.plain&&decide (es.size>1))=false) (led:t.led=true) (sl:Nat->Nat) (s0:sl 0=0) (bl:∀i,i<=es.size->SetTable.below t.place (sl i)=i) (sn:∀i j,t.place[i]?=some j->sl (i+1)=j+1):Md w a es ep t (λ_=>True) (λi=>.int (sl i) 0) (es.toList.map (·.2))
 |draw (b:w.params.followText "set-order"=false) (tp:af) (ps:List Nat) (pp:ps.Perm (List.range es.size)):Md w a es ep t (λh=>h.IsTuple tp (ps.map λ(i:Nat)=>Value.int i 0).toArray) (λ_=>.ref tp) (ps.map λi=>(es.getD i (0,.none)).2)
variable{it a:af}{es:Array (Int×aa)}{ep i:Nat}{t:aw}{OK:ao->Prop}{fst:Nat->aa}{ord:List aa}
theorem xb7{Q:Option aa->ae->Prop}(m:Md w a es ep t OK fst ord)(st:gC s.heap it (fst i) i a es.size ep)(x:fj s.heap a es ep t)(p:t.fits es.size=true)(ok:OK s.heap){v:aa}(K:ord[i]?=some v)
  (q:∀n,gC n it (fst (i+1)) (i+1) a es.size ep->Heap.SameBut it s.heap n->Q (some v) {s with heap:=n}):ag (ai prog w) A (pyNext (.ref it)) Q E s:=by
 obtain⟨o,F,M,r⟩:=id st;obtain⟨oa,u,hca,B⟩:=id x;unfold pyNext;refine Za (Xj (Z0 (name:=Str.ofString "__next__") st.ty bV (Z3 bV st.ty RU ?_ (RT _))));refine Za (Zc (Za (Wv F r ?_)));show ag _ _ (setEntries a >>= _) _ _ s;refine Za (VL u B p ?_);rw[Zl (by simp)];refine Za (Zc ?_);have N:∀{H:aa->ae->Prop}(c:ae) (D:az) (f:aa),c.heap.get? it=some D->D.cls=.type "set_iterator"->D.data=.fields #[f,.int i 0,.ref a,.int es.size 0,.int ep 0]->f=fst (i+1)->Heap.SameBut it s.heap c.heap->c={s with heap:=c.heap} ->
   ag (ai prog w) A.in1 (setField (.ref it) 1 (rawInt ((i:Int)+1)) >>= λ_=>ret v) (λl c=>∃v,l=Fin.done (Flow.ret v)/\ag (ai prog w) A (pure (some v)) Q E c) H c:=λc D f P X I W sb J=>by
  refine Za (YD P I (by simp) (Zc ⟨v,rfl,Zc ?_⟩));rw[J];refine q _ ⟨_,ZO _ P (YG (Z2 I _)),(XS ..).trans X,?_⟩ (sb.trans (Yk ..));rw[Z2 I,W];simp[rawInt]
 have g:∀{H:aa->ae->Prop}(y:Nat),Value.int y 0=fst (i+1)->ag (ai prog w) A.in1 (setField (.ref it) 0 (rawInt y) >>= λ_=>setField (.ref it) 1 (rawInt ((i:Int)+1)) >>= λ_=>ret v) (λl c=>∃v,l=Fin.done (Flow.ret v)/\ag (ai prog w) A (pure (some v)) Q E c) H s:=λy e=>by
  refine Za (YD F r (by simp) ?_);exact N {s with heap:=s.heap.update it (Obj.mapFields (·.setIfInBounds 0 (rawInt y)))} _ (.int y 0) (ZO _ F (YG (Z2 r _))) ((XS ..).trans M) (by rw[Z2 r];simp[rawInt]) e (Yk ..) rfl
 cases m with
 |text b=>
  show ag _ _ (setNext a 0 ((i:Nat):Int).toNat ((ep:Nat):Int).toNat >>= _) _ _ s;rw[ZD,ZD];unfold setNext;refine Za (Za (Z8 u B p ?_));dsimp only;unfold setsByText;refine Za (Za (YU (Zc ?_)));refine ZU (λ_=>?_) (λh=>absurd b h);rw[Zl (by simp)];unfold setWalk;refine Za (Za (Z8 u B p ?_));dsimp only;unfold setsByText;refine Za (Za (YU (Zc ?_)));refine ZU (λ_=>?_) (λh=>absurd b h);refine Za (YU (Zc (Zc ?_)));have d:((pickOrder (w.params.setOrder a ep) es).toList.map (·.2))[i]?=some v:=K;rw[Zf,Yp]at d;obtain⟨e,C,rfl⟩:=Zj.mp d;show ag _ _ (match Option.map (λe=>(e.2,0)) (pickOrder (w.params.setOrder a ep) es)[i]? with|some (x,next)=>_|none=>_) _ _ s;rw[C];exact g 0 rfl
 |plain b nd G sl s0 bl V=>
  show ag _ _ (setNext a ((sl i:Nat):Int).toNat ((i:Nat):Int).toNat ((ep:Nat):Int).toNat >>= _) _ _ s;rw[ZD,ZD,ZD];unfold setNext;refine Za (Za (Z8 u B p ?_));dsimp only;unfold setsByText;refine Za (Za (YU (Zc ?_)));refine ZU (λh=>absurd (show w.params.followText "set-order"=true from h) (by rw[b];exact Zy)) (λ_=>?_);refine ZU (λh=>absurd (show(!t.plain&&decide (es.size>1))=true from h) (by rw[nd];exact Zy)) (λ_=>?_);have d:(es.toList.map (·.2))[i]?=some v:=K;rw[Zf,Yp]at d;obtain⟨e,C,rfl⟩:=Zj.mp d;have S:=(YL.mp C).1;have yA:t.place.size=es.size:=by
   have:=p;unfold SetTable.fits at this;simp at this;exact this.1
  obtain⟨j,R⟩:∃j,t.place[i]?=some j:=⟨_,Xd (uL S yA)⟩;refine Za ?_;refine ZU (λh=>?_) (λ_=>Zc (Zc ?_))
  ·have n:(!t.led&&!es.isEmpty)=true:=h;rw[G]at n;cases n
  ·rw[bl i (xx S),C,R];exact g (j+1) (by show Value.int _ 0=Value.int _ 0;rw[V i j R])
 |draw b U O pp=>
  obtain⟨ot,Z,hct,nt,Ad⟩:=id ok;show ag _ _ (seqItems? (.ref U) >>= _) _ _ s;refine Za (Xo Z Ad ?_);have d:(O.map λi=>(es.getD i (0,.none)).2)[i]?=some v:=K;rw[Zf]at d;obtain⟨k,L,rfl⟩:=Zj.mp d;have T:k<es.size:=YJ.mp (pp.mem_iff.mp (Zv L));have Y:(O.map λ(i:Nat)=>Value.int i 0).toArray[((i:Nat):Int).toNat]?=some (.int k 0):=by rw[ZD,List.getElem?_toArray,Zf,L];rfl
  have ex:es[k]?=some (es.getD k (0,.none)):=by rw[Xd T];simp[Array.getD,T]
  dsimp only;rw[Y];show ag _ _ (setNextDrawn a ((k:Nat):Int).toNat ((ep:Nat):Int).toNat >>= _) _ _ s;rw[ZD,ZD];unfold setNextDrawn;refine Za (Za (Z8 u B p ?_));dsimp only;rw[Zl (by simp)];rw[ex];refine Zc ?_;exact N s o (.ref U) F M r rfl (XT _ _) rfl
theorem xj7{Q:Option aa->ae->Prop}(D:A.handled=none)(m:Md w a es ep t OK fst ord)(st:gC s.heap it (fst es.size) es.size a es.size ep)(x:fj s.heap a es ep t)(l:t.fits es.size=true)(ok:OK s.heap)
  (q:∀g,Heap.ExtBut it s.heap g->Q none {s with heap:=g}):ag (ai prog w) A (pyNext (.ref it)) Q E s:=by
 obtain⟨o,j,U,f⟩:=id st;obtain⟨Y,k,O,n⟩:=id x;unfold pyNext;refine Za (Xj (Z0 (name:=Str.ofString "__next__") st.ty bV (Z3 bV st.ty RU ?_ (RT _))));refine Za (Zc (Za (Wv j f ?_)));show ag _ _ (setEntries a >>= _) _ _ s;refine Za (VL k n l ?_);rw[Zl (by simp)];refine Za (Zc ?_);have c:∀(d:ae)(p:az)(u:Array aa),d.heap.get? it=some p->p.data=.fields u->u.size=5->Heap.SameBut it s.heap d.heap->d={s with heap:=d.heap} ->
   ag (ai prog w) A.in1 (setField (.ref it) 2 .none >>= λ_=>newExc (.type "StopIteration") [] >>= λe=>raiseNew e) (λc d=>∃v,c=Fin.done (Flow.ret v)/\ag (ai prog w) A (pure (some v)) Q E d) (λe d=>ag (ai prog w) A (isInstance e (.type "StopIteration") >>= λb=>if b=true then pure none else throw e) Q E d) d:=λd p u G M Z R B=>by
  refine Za (YD G M (by lia) ?_);refine Za ?_;simp only[newExc,newTuple];refine Za (ZJ ?_ (by size_fits));refine Za (m:=firstArgMember _ _) (Wc (a:=Value.none) (by first|rfl|(simp only[firstArgMember];rfl)) (ZJ ?_ (by size_fits)));simp only[raiseNew];refine Za (Ul ?_);rw[show A.in1.handled=none by exact D];refine Za (Zc (wpAny_throw ?_));refine Za (Xg (T:= "StopIteration") (b:=true) ⟨_,Zg _ rfl,rfl⟩ W6 ?_);rw[B];exact Zc (q _ (((R.trans (Yk ..)).extBut.push _).push _))
 cases m with
 |text b=>
  show ag _ _ (setNext a 0 ((es.size:Nat):Int).toNat ((ep:Nat):Int).toNat >>= _) _ _ s;rw[ZD,ZD];unfold setNext;refine Za (Za (Z8 k n l ?_));dsimp only;unfold setsByText;refine Za (Za (YU (Zc ?_)));refine ZU (λ_=>?_) (λh=>absurd b h);rw[Zl (by simp)];unfold setWalk;refine Za (Za (Z8 k n l ?_));dsimp only;unfold setsByText;refine Za (Za (YU (Zc ?_)));refine ZU (λ_=>?_) (λh=>absurd b h);refine Za (YU (Zc (Zc ?_)));have y:(pickOrder (w.params.setOrder a ep) es)[es.size]?=none:=by
   rw[V1];have:=(RR (w.params.setOrder a ep) es).length_eq;simp at this;exact nV this
  show ag _ _ (match Option.map (λe=>(e.2,0)) (pickOrder (w.params.setOrder a ep) es)[es.size]? with|some (x,next)=>_|none=>_) _ _ s;rw[y];exact c s o _ j f rfl (XT _ _) rfl
 |plain b nd r N X bl S=>
  show ag _ _ (setNext a ((N es.size:Nat):Int).toNat ((es.size:Nat):Int).toNat ((ep:Nat):Int).toNat >>= _) _ _ s;rw[ZD,ZD,ZD];unfold setNext;refine Za (Za (Z8 k n l ?_));dsimp only;unfold setsByText;refine Za (Za (YU (Zc ?_)));refine ZU (λh=>absurd (show w.params.followText "set-order"=true from h) (by rw[b];exact Zy)) (λ_=>?_);refine ZU (λh=>absurd (show(!t.plain&&decide (es.size>1))=true from h) (by rw[nd];exact Zy)) (λ_=>?_);have y:es[es.size]?=none:=Va (Ze _);refine Za ?_;refine ZU (λh=>?_) (λ_=>Zc (Zc ?_))
  ·have g:(!t.led&&!es.isEmpty)=true:=h;rw[r]at g;cases g
  ·rw[bl es.size (Ze _),y];exact c s o _ j f rfl (XT _ _) rfl
 |draw b P C L=>
  obtain⟨V,H,K,W,I⟩:=id ok;show ag _ _ (seqItems? (.ref P) >>= _) _ _ s;refine Za (Xo H I ?_);have J:C.length=es.size:=by rw[L.length_eq,YW]
  have F:(C.map λ(i:Nat)=>Value.int i 0).toArray[((es.size:Nat):Int).toNat]?=none:=by rw[ZD,V1];simp;exact nV J
  dsimp only;rw[F];show ag _ _ (setField (.ref it) 0 (rawInt 0) >>= _) _ _ s;refine Za (YD j f (by simp) ?_);exact c {s with heap:=s.heap.update it (Obj.mapFields (·.setIfInBounds 0 (rawInt 0)))} _ _ (ZO _ j (YG (Z2 f _))) (Z2 f _) (by simp) (Yk ..) rfl
end
end L2
namespace cI
open PySem
def n_(xs:Array Nat):Prop:=∀i j (a:i<xs.size) (b:j<xs.size),i<j->xs[i]<xs[j]
theorem Kl{xs:Array Nat}(l:n_ xs)(j:Nat):∀(f b a:Nat),a-b<=f->b<=a->a<=xs.size->(∀k (h:k<xs.size),k<b->xs[k]<j)->(∀k (h:k<xs.size),a<=k->j<=xs[k]) ->
  SetTable.below.go xs j f b a<=xs.size/\(∀k (h:k<xs.size),k<SetTable.below.go xs j f b a->xs[k]<j)/\(∀k (h:k<xs.size),SetTable.below.go xs j f b a<=k->j<=xs[k])
 |0,b,a,s,q,c,h1,m=>by
  have e:b=a:=by lia
  subst e;exact⟨c,h1,m⟩
 |f+1,b,a,s,q,c,h1,m=>by
  unfold SetTable.below.go;by_cases n:b<a
  ·rw[Zx n];have g:(b+a)/2<xs.size:=by lia
   have r:xs.getD ((b+a)/2) j=xs[(b+a)/2]:=by simp[Array.getD,g]
   simp only;rw[r];by_cases i:xs[(b+a)/2]<j
   ·rw[Zx i];refine Kl l j f _ a (by lia) (by lia) c (λk h p=>?_) m;by_cases d:k=(b+a)/2
    ·subst d;exact i
    ·exact WA (l k _ h g (xq p d)) i
   ·rw[Zl i];refine Kl l j f b _ (by lia) (by lia) (xx g) h1 (λk h p=>?_);by_cases d:k=(b+a)/2
    ·subst d;lia
    ·have:=l _ k g h (by lia);lia
  ·rw[Zl n];have e:b=a:=by exact mn q n
   subst e;exact⟨c,h1,m⟩
theorem qV{xs:Array Nat}(b:n_ xs)(j:Nat):SetTable.below xs j<=xs.size/\(∀k (h:k<xs.size),k<SetTable.below xs j->xs[k]<j)/\(∀k (h:k<xs.size),SetTable.below xs j<=k->j<=xs[k]):=
 Kl b j xs.size 0 xs.size Rv (Zz _) (Ze _) (λk h a=>absurd a (XM _)) (λk h a=>absurd h (fO a))
end cI
namespace L2
open PySem PySem.Spec PyProof.Rows PySem.W
section
variable{it a:af}{es:Array (Int×aa)}{ep:Nat}{t:aw}{OK:ao->Prop}{fst:Nat->aa}{ord:List aa}
theorem qX0(x:A.handled=none)(m:Md w a es ep t OK fst ord)(n:ord.length=es.size)(j:t.fits es.size=true)(B:a≠it)(f:List af)(D:it∉f)(u:∀h d:ao,OK h->(∀b∈f,∀o,h.get? b=some o->d.get? b=some o)->OK d):
  Walks prog w A it (it::a::f) [it] es.size (λi v=>ord[i]?=some v) (λi h=>gC h it (fst i) i a es.size ep/\fj h a es ep t/\OK h) where
 sub:=λb hb=>by simp at hb;simp[hb]
 frame:=λ_ _ _ c k=>⟨(let ⟨o,ho,r⟩:=c.1;⟨o,k it (by simp) o ho,r⟩),c.2.1.cX λo e=>k a (by simp) o e,u _ _ c.2.2 λb hb o e=>k b (by simp[hb]) o e⟩
 item:=λi s Q E l c q=>by
  have p:ord[i]?=some (ord[i]'(uL l n)):=Zd (uL l n);refine xb7 m c.1 c.2.1 j c.2.2 p λd C g=>q _ d s.toks p ⟨C,c.2.1.cX λo e=>g.extBut a o B e,u _ _ c.2.2 λb hb o e=>g.extBut b o (λz=>D (by rw[<- z];exact hb)) e⟩ λb o hb e=>g.extBut b o (λh=>hb (by simp[h])) e
 done:=λs Q E c q=>xj7 x m c.1 c.2.1 j c.2.2 λd y=>q d s.toks λb o hb e=>y b o (λh=>hb (by simp[h])) e
 self:=λ_ _ _ _ c q=>by
  refine Uf c.1.ty RS (Z3 RS c.1.ty qx8 ?_ (qz0 _));show ag _ _ (ret (.ref it)) _ _ _;exact Zc ⟨_,rfl,"set_iterator",_,c.1.ty,bV.lookup,q⟩
theorem xj8{Q:Bool->ae->Prop}(c:s.TypeIs (.ref a) "set")(h:Q false s):ag (ai prog w) A (Builtin.List.listLengthHint (.ref a)) Q E s:=by
 unfold Builtin.List.listLengthHint;refine Za (VB c iA.lookup ?_);generalize f:("set.__len__":String)=e
 wp_delta
 rw[show splitId e=some ("set","__len__")from by subst f;decide +kernel];subst f;refine Za (Xg (T:= "set") (b:=true) c (by rw[VZ];kernel_rfl) ?_);refine ZU (λd=>absurd d (by decide)) (λ_=>?_);refine ZU (λ_=>?_) (λd=>absurd (by decide +kernel) d);refine Za (VM c ?_);exact Zc h
structure NM(prog:ah)(w:aj)(A:aq)(a:af)(es:Array (Int×aa))(ep:Nat)(t:aw)(s s':ae)(it:af)(vs:List aa):Prop where
 perm:vs.Perm (es.toList.map (·.2))
 new:s.heap.objs.size<=it
 keep:∀b o,s.heap.get? b=some o->s'.heap.get? b=some o
 same:∃d,s'={s with heap:=s'.heap,drawn:=d}
 wk:∃mF St,it∉mF/\(∀b∈mF,s.heap.objs.size<=b/\b<s'.heap.objs.size)/\it<s'.heap.objs.size/\Walks prog w A it (it::a::mF) [it] es.size (λi v=>vs[i]?=some v) St/\St 0 s'.heap
theorem pd{Q:aa->ae->Prop}{A':aq}(hh:A'.handled=none)(x:fj s.heap a es ep t)(n:t.fits es.size=true)(hn:es.size<=sizeLine)(hl:t.led=!w.params.followText "set-order")(hr:(!t.plain&&decide (es.size>1))=true\/cI.n_ t.place)
  (q:∀it vs C,NM prog w A' a es ep t s C it vs->Q (.ref it) C):ag (ai prog w) A (pyIter (.ref a)) Q E s:=by
 obtain⟨o,p,hc,D⟩:=id x;have v0:=x.lt;refine Uf x.ty PySem.F.slot_set_iter (Z3 PySem.F.slot_set_iter x.ty qz1 ?_ (PySem.F.args_set_iter_1 _));refine Za (Zc ?_);show ag _ _ (Builtin.Frozenset.sizeOf a >>= _) _ _ _;unfold Builtin.Frozenset.sizeOf;refine Za (Za (VL p D n (Zc ?_)));unfold setDrawn setsByText;refine Za (Za (Z8 p D n ?_));dsimp only;refine Za (Za (YU (Zc (Zc ?_))));have last:∀(f:ae)(first:aa)(OK:ao->Prop)(fst:Nat->aa)(ord:List aa)(y:List af)(d:Drawn),f={s with heap:=f.heap,drawn:=d}->(∀b o,s.heap.get? b=some o->f.heap.get? b=some o)->s.heap.objs.size<=f.heap.objs.size->Md w a es ep t OK fst ord->fst 0=first->OK f.heap->ord.Perm (es.toList.map (·.2))->(∀b∈y,s.heap.objs.size<=b/\b<f.heap.objs.size)->(∀h c:ao,OK h->(∀b∈y,∀o,h.get? b=some o->c.get? b=some o)->OK c) ->
   ag (ai prog w) A.in1 (setEpoch a >>= λe=>newFields "set_iterator" [first,rawInt 0,.ref a,rawInt es.size,rawInt e] >>= λv=>ret v) (λJ C=>∃v,J=.done (.ret v)/\∃T u,C.TypeIs v T/\typeLookup (.type T) "__next__"=pure (some u)/\Q v C) E f:=λf first OK fst ord y d e1 O Y m ef ok F I V=>by
  have X:=O _ _ p;refine Za (wpAny_setEpoch_of X D n ?_);refine Za (ZJ (Zc ⟨_,rfl,"set_iterator",_,⟨_,Zg _ rfl,rfl⟩,bV.lookup,?_⟩));have vZ:ord.length=es.size:=by rw[F.length_eq,Zh,ZL]
  refine q f.heap.objs.size ord _ ⟨F,Y,λb o e=>Zb _ (O b o e),⟨d,by rw[e1]⟩,y,_,λz=>Yc _ (I _ z).2,λb hb=>⟨(I b hb).1,by rw[ZS];exact ZZ (I b hb).2⟩,by rw[ZS];exact Yd _,qX0 hh m vZ n (Zp (ZR v0 Y)) y (λz=>Yc _ (I _ z).2) V,?_⟩;exact⟨⟨_,Zg _ rfl,rfl,by rw[ef];simp[rawInt]⟩,⟨o,Zb _ X,hc,D⟩,V _ _ ok λb _ o e=>Zb _ e⟩
 by_cases hb:w.params.followText "set-order"=true
 ·refine ZU (λh=>?_) (λ_=>?_)
  ·have c:(!w.params.followText "set-order"&&(!t.plain&&decide (es.size>1)))=true:=h;rw[hb]at c;cases c
  ·refine Za (Zc ?_);exact last s (.int 0 0) _ _ _ [] s.drawn rfl (λ_ _ e=>e) (Ze _) (.text hb) rfl trivial ((RR _ _).map _) (λb hb=>nomatch hb) (λ_ _ _ _=>trivial)
 ·have G:w.params.followText "set-order"=false:=Ye.mpr hb;have K:t.led=true:=by rw[hl,G];rfl
  refine ZU (λh=>?_) (λh=>?_)
  ·refine Za (SU es.size (List.range es.size) _ _ (by simp) λl d M=>Za ?_);have jF:l.length=es.size:=by rw[M.length_eq,YW]
   refine wpAny_newTuple ?_ (by rw[Zh];exact xn jF hn);have hT:(s.heap.push (seqObj "tuple" (l.map λ(i:Nat)=>Value.int i 0).toArray 0)).get? s.heap.objs.size=some (seqObj "tuple" (l.map λ(i:Nat)=>Value.int i 0).toArray 0):=Zg _ rfl;have er:((List.range es.size).map λi=>(es.getD i (0,.none)).2)=es.toList.map (·.2):=by
    refine List.ext_getElem (by simp) λi h1 U=>?_;have Z:i<es.size:=by simpa using h1
    simp[Array.getD,Z]
   have F:(l.map λi=>(es.getD i (0,.none)).2).Perm (es.toList.map (·.2)):=by rw[<- er];exact M.map _
   exact last {s with heap:=s.heap.push (seqObj "tuple" (l.map λ(i:Nat)=>Value.int i 0).toArray 0),drawn:=d} (.ref s.heap.objs.size) _ _ _ [s.heap.objs.size] d rfl (λb o e=>Zb _ e) (by rw[ZS];exact Xp _) (.draw G s.heap.objs.size l M) rfl ⟨_,hT,rfl,0,rfl⟩ F
    (λb hb=>by rw[XG.mp hb,ZS];exact⟨Ze _,Yd _⟩) (λh c ⟨o,p,r⟩ k=>⟨o,k _ (by simp) o p,r⟩)
  ·refine Za (Zc ?_);have nd:(!t.plain&&decide (es.size>1))=false:=by
    have c:¬(!w.params.followText "set-order"&&(!t.plain&&decide (es.size>1)))=true:=h;rw[G]at c;simpa using c
   have P:cI.n_ t.place:=by
    rcases hr with z|z
    ·rw[nd]at z;cases z
    ·exact z
   have yA:t.place.size=es.size:=by
    have:=n;unfold SetTable.fits at this;simp at this;exact this.1
   refine last s (.int 0 0) _ _ _ [] s.drawn rfl (λ_ _ e=>e) (Ze _) (.plain G nd K (λi=>if i=0 then 0 else t.place.getD (i-1) 0+1) rfl (λi Z=>?_) (λi j hj=>?_)) rfl trivial (List.Perm.refl _) (λb hb=>nomatch hb) (λ_ _ _ _=>trivial)
   ·obtain⟨W,g,H⟩:=cI.qV P (if i=0 then 0 else t.place.getD (i-1) 0+1);generalize SetTable.below t.place (if i=0 then 0 else t.place.getD (i-1) 0+1)=B at W g H;by_cases L:i=0
    ·subst L;rw[Zx rfl]at g;by_cases S:B=0
     ·exact S
     ·exact absurd (g 0 (by lia) (qe S)) (XM _)
    ·rw[Zl L]at g H;have N:i-1<t.place.size:=by lia
     have eg:t.place.getD (i-1) 0=t.place[i-1]:=by simp[Array.getD,N]
     rw[eg]at g H;rcases Ud B i with z|z|z
     ·have:=H (i-1) N (iZ z);lia
     ·exact z
     ·have R:i<t.place.size:=by exact qh z W
      have q1:=g i R z;have q2:=P (i-1) i N R (Rm L);lia
   ·show(if i+1=0 then 0 else t.place.getD (i+1-1) 0+1)=j+1;rw[Zl (by lia),Nat.add_sub_cancel];obtain⟨h1,U⟩:=YL.mp hj;simp[Array.getD,h1,U]
theorem qN4{Q:List aa->ae->Prop}(R:A.handled=none)(x:fj s.heap a es ep t)(hf:t.fits es.size=true)(N:es.size<=sizeLine)(hl:t.led=!w.params.followText "set-order")(X:(!t.plain&&decide (es.size>1))=true\/cI.n_ t.place)
  (hQ:∀f D k d,f.Perm (es.toList.map (·.2))->(∀b o,s.heap.get? b=some o->D.get? b=some o)->Q f {s with heap:=D,drawn:=d,toks:=k}):ag (ai prog w) A (collect (.ref a)) Q E s:=by
 have L:=x.lt;unfold collect;refine Za (W5 (Yb PySem.F.entry_proto_collect ?_));rw[Z6 PySem.F.plain_proto_collect _];show ag _ A.in1 (newList [] >>= λl=>again (.builtin "list.__iadd__" ⟨[l,.ref a],[]⟩)) _ _ s;refine Za (ZJ ?_);refine Zc ⟨YE PySem.F.plain_list_iadd _,Yb PySem.F.entry_list_iadd ?_⟩;rw[Z6 PySem.F.plain_list_iadd _];have Y:(s.heap.push (seqObj "list" #[] 0)).get? s.heap.objs.size=some (seqObj "list" #[] 0):=Zg _ rfl;show ag _ A.in1 (Builtin.List.listExtendWith (.ref s.heap.objs.size) (.ref a) (.ref s.heap.objs.size)) _ _ {s with heap:=s.heap.push (seqObj "list" #[] 0)};have B:fj (s.heap.push (seqObj "list" #[] 0)) a es ep t:=x.cX λo e=>Zb _ e;unfold Builtin.List.listExtendWith;refine Za (VM (T:= "set") (s:={s with heap:=s.heap.push (seqObj "list" #[] 0)}) B.ty ?_);have h1:Builtin.List.listSameRef (.ref s.heap.objs.size) (.ref a)=false:=by simp[Builtin.List.listSameRef,XN L]
 simp only[h1,show(Value.type "set"== Value.type "list")=false by decide,show(Value.type "set"== Value.type "tuple")=false by decide,Bool.or_false,Zr,Z5];refine Za (pd (A':=A.in1) (s:={s with heap:=s.heap.push (seqObj "list" #[] 0)}) R B hf N hl X λit f j I=>?_);obtain⟨H,nw,u,⟨d,e1⟩,mF,St,yC,y,yE,W,G⟩:=I;have hz:(s.heap.push (seqObj "list" #[] 0)).objs.size=s.heap.objs.size+1:=ZS ..;have M:s.heap.objs.size+1<=it:=by rw[<- hz];exact nw
 have F:s.heap.objs.size∉it::a::mF:=by
  intro z;rcases Zu.mp z with z|z
  ·exact absurd z (Zp M)
  ·rcases Zu.mp z with z|z
   ·exact absurd z (XN L)
   ·have:=(y _ z).1;rw[hz]at this;exact absurd this (Nat.not_le.mpr (Yd _))
 have V:fj j.heap a es ep t:=B.cX λo e=>u _ _ e;have q:=u _ _ Y;have key:∀(h:ao)(c k:Nat),St 0 h->(∀b o,b≠s.heap.objs.size->j.heap.get? b=some o->h.get? b=some o)->h.get? s.heap.objs.size=some (seqObj "list" #[] c) ->
   codeAny (ai prog w) A (.builtin "list.extend.loop" ⟨[.ref s.heap.objs.size,.ref it,.ref s.heap.objs.size],[]⟩) (wants (λv m=>ag (ai prog w) A (match v with|.ref a=>(do let ob <- load a;match ob.data with|.seq Z _=>pure Z.toList|_=>unsupported "internal:collect")|_=>unsupported "internal:collect") Q E m) E) {s with heap:=h,drawn:=d,toks:=k}:=by
  intro h c k jS S C;refine codeAny_extend_loopS W.toS N s.heap.objs.size F (.ref s.heap.objs.size) es.size 0 _ #[] c rfl (Zz _) jS C (ItemsOf.nil _) λm g c' K U O=>?_;rw[Moved.eq_with K];show ag _ A (load s.heap.objs.size >>= _) _ _ _;refine Za (wpAny_load U ?_);have ev:g.toList=f:=by
   have r:f.length=es.size:=by rw[H.length_eq,Zh,ZL]
   refine Xu λi=>?_;rw[Yp];by_cases n:i<g.size
   ·have:=O.2 i g[i] (Xd n);rw[Xd n,this]
   ·rw[Va (iE n),Yr (by rw[r,<- O.1];exact iE n)]
  refine Zc ?_;show Q g.toList _;rw[ev];refine hQ f m.heap m.toks d H λb o e=>?_;have hb:=Zi e;have e2:j.heap.get? b=some o:=u _ _ (Zb _ e);refine K.heap b o (λz=>?_) (S b o (Zp hb) e2);rcases Zu.mp z with z|z
  ·exact Zp hb z
  ·exact Zp (ZR (ZZ hb) M) (XG.mp z)
 rw[e1];refine Za (ZP (xj8 (s:={s with heap:=j.heap,drawn:=d}) V.ty ?_));refine ZU (λ_=>?_) (λ_=>Zc ⟨YE V4 _,key _ 0 _ G (λb o _ e=>e) q⟩);refine Za (Y4 ?_);refine Za ?_;show ag _ _ (updateSeq s.heap.objs.size (·.push .none) >>= λ_=>updateSeq s.heap.objs.size (·.pop)) _ _ _;refine Za (WN q rfl ?_);have P:=ZO (Obj.mapSeq (·.push Value.none)) q rfl;refine WN (hz:=by seq_fits) P rfl ?_;have p:=ZO (Obj.mapSeq (·.pop)) P rfl;refine Zc ⟨YE V4 _,key _ _ _ ?_ (λb o hb e=>?_) p⟩
 ·refine W.frame 0 _ _ G λb hb o e=>?_;have J:b≠s.heap.objs.size:=λh=>F (h▸hb);exact(Zq _ _ (Xc J)).trans ((Zq _ _ (Xc J)).trans e)
 ·exact(Zq _ _ (Xc hb)).trans ((Zq _ _ (Xc hb)).trans e)
end
theorem xx2(t:aw)(a:Array (Int×aa))(h:Int)(x:aa):(layNew t a h x).2.1.led=t.led:=by
 unfold layNew;split
 ·show(SetTable.orStandIn _ _).led=t.led;unfold SetTable.orStandIn;split<;>rfl
 ·rfl
theorem qN5(t:aw)(a:Array (Int×aa))(n:Nat):(relayAll t a n).2.1.led=t.led/\((relayAll t a n).2.1.plain=true->t.plain=true):=by
 unfold relayAll;split
 ·rename_i d c e;dsimp only;split
  ·have:d.led=t.led/\d.plain=t.plain:=by
    unfold SetTable.relaid SetTable.laid at e;cases ho:SetTable.layClean (SetTable.sizeAbove n-1) (a.map (·.1))with
    |none=>rw[ho]at e;cases e
    |some b=>
     rw[ho]at e;have e:=ZT e;injection e with e1 _
     rw[<- e1];exact⟨rfl,rfl⟩
   exact⟨this.1,λz=>by rw[<- this.2];exact z⟩
  ·exact⟨rfl,λz=>nomatch z⟩
 ·exact⟨rfl,λz=>nomatch z⟩
section
variable{K:Type}[DecidableEq K](knd:KeyKind prog w K)
def yu(e:Int×aa)(k:K):Prop:=knd.is k e.2=true/\e.1=knd.hash k/\e.2.scannable=true
def lR(h:ao)(a:af)(d:List K):Prop:=∃b e t,fj h a b e t/\t.fits b.size=true/\t.led=(!w.params.followText "set-order")/\(t.plain=true->b.size=0)/\b.size<scanBound/\∃c,Paired (yu knd) b.toList c/\c.Nodup/\∀k,k∈c<->k∈d
variable{knd}
theorem lR.cX{h h':ao}{a:af}{c:List K}(x:lR knd h a c)(k:∀o,h.get? a=some o->h'.get? a=some o):lR knd h' a c:=by
 obtain⟨d,e,t,b,r⟩:=x;exact⟨d,e,t,b.cX k,r⟩
theorem lR.congr{h:ao}{a:af}{d c:List K}(x:lR knd h a d)(e:∀k,k∈d<->k∈c):lR knd h a c:=by
 obtain⟨l,m,t,b,h1,q,j,g,p,f,n,i⟩:=x;exact⟨l,m,t,b,h1,q,j,g,p,f,n,λk=>(i k).trans (e k)⟩
theorem xx3{h:ao}{a:af}(e:h.get? a=some (cI.dk (!w.params.followText "set-order"))):lR knd h a []:=
 ⟨#[],0,_,⟨_,e,⟨rfl,rfl,rfl⟩,rfl⟩,rfl,rfl,λ_=>rfl,by decide,[],.nil,VV,λ_=>Iff.rfl⟩
theorem xb8{l:List (Int×aa)}{c:List K}(p:Paired (yu knd) l c):ElemsOf knd l:=λe a=>by
 obtain⟨i,b,rfl⟩:=ZH.mp a;obtain⟨k,_,h1,f,d⟩:=BL p i _ (Zd b);exact⟨⟨k,h1,f⟩,d⟩
theorem RH{α b:Type}{R:α->b->Prop}{x:α}{y:b}(h:R x y):∀{l:List α}{m:List b},Paired R l m->Paired R (l++[x]) (m++[y])
 |_,_,.nil=>.cons h .nil
 |_,_,.cons a r=>.cons a (RH h r)
theorem xx4{a:af}{M:List K}{k:K}{x:aa}{Q:Bool->ae->Prop}(vI:knd.is k x=true)(kM:x.scannable=true)(jF:plainKind x=false)(hS:lR knd s.heap a M)(hroom:M.length+1<scanBound)
  (h:∀b h',Heap.SameBut a s.heap h'->lR knd h' a (k::M)->Q b {s with heap:=h'}):ag (ai prog w) A (setAddHashed a x (knd.hash k)) Q E s:=by
 obtain⟨f,ep,t,⟨o,N,kD,F⟩,hf,W,vE,hb,I,G,wT,R⟩:=hS;have vO:=xb8 G;have j9:f.size=I.length:=by have:=XA G;simpa using this
 have vU:I.length<=M.length:=by
  have:∀(l m:List K),l.Nodup->(∀k,k∈l->k∈m)->l.length<=m.length:=λl=>by
   induction l with
   |nil=>intro m _ _;exact Zz _
   |cons y l ih=>
    intro m nd H;obtain⟨n1,n2⟩:=Y1.mp nd;have hy:=H y (by simp);have:=ih (m.erase y) n2 λz hz=>(List.mem_erase_of_ne (λe=>n1 (by rw[<- e];exact hz))).mpr (H z (by simp[hz]));rw[List.length_erase_of_mem hy]at this;have:=List.length_pos_of_mem hy;rw[Z4];lia
  exact this _ _ wT λk Y=>(R k).mp Y
 have wZ:f.size+1<scanBound:=by lia
 unfold setAddHashed setAddHashedIn;refine ZP (Za (Z8 N F hf ?_));dsimp only;rw[byScan_of kM hb vO];simp only[↓reduceIte];unfold setAddByScan;refine Za ?_;refine Za (Y4 ?_);refine Za (wpAny_setScan_of vI N F hf vO ?_);cases hr:List.findIdx? (λe=>knd.is k e.2) f.toList with
 |some j=>
  dsimp only;obtain⟨hj,hpj,_⟩:=List.findIdx?_eq_some_iff_getElem.mp hr;obtain⟨k1,P,e2,_⟩:=BL G j _ (Zd hj);have ek:k1=k:=knd.inj _ _ _ e2 hpj;subst ek;have jX:k1∈I:=Zv P;refine Zc (Zc ?_);have e:s={s with heap:=s.heap}:=by cases s;rfl
  rw[e];exact h _ s.heap (XT a s.heap) ⟨f,ep,t,⟨o,N,kD,F⟩,hf,W,vE,hb,I,G,wT,λg=>⟨λz=>Zk _ ((R g).mp z),λz=>(Zu.mp z).elim (λe=>by rw[e];exact jX) (λz=>(R g).mpr z)⟩⟩
 |none=>
  dsimp only;have yC:k∉I:=λY=>by
   obtain⟨i,hi,ei⟩:=ZH.mp Y;have zX:i<f.toList.length:=by rw[ZL,j9];exact hi
   obtain⟨k1,P,e2,_⟩:=BL G i _ (Zd zX);rw[Zd hi,ei]at P;cases P;have:=List.findIdx?_eq_none_iff.mp hr _ (Yz zX);rw[e2]at this;cases this
  have J:∀(b:Bool){V:ae}{Q':Unit->ae->Prop},Q' () V->ag (ai prog w) A (match b with|true=>rule "set.scan.the-table-gave-way" | false=>pure ()) Q' E V:=λb V Q' B=>by cases b<;>first|exact Zc B|exact Y4 B
  have O:=layNew_perm t f (knd.hash k) x;have S:=layNew_fits t f (knd.hash k) x;have U:=xx2 t f (knd.hash k) x;generalize hL:layNew t f (knd.hash k) x=L at O S U ⊢;obtain⟨c,t1,oN,gave⟩:=L;dsimp only at O S U ⊢;rw[Xv]at O;obtain⟨Lf,p1,kp⟩:=Fq O (RH (show yu knd (knd.hash k,x) k from⟨vI,rfl,kM⟩) G);have U6:Lf.Nodup:=kp.nodup_iff.mpr (Wp.mpr ⟨wT,by simp,λu hu v hv e=>yC (by rw[XG.mp hv]at e;rw[<- e];exact hu)⟩);have pX:∀g,g∈Lf<->g∈k::M:=λg=>by
   rw[kp.mem_iff,ZX,XG,Zu,R,or_comm]
  have T:c.size<scanBound:=by
   have:=O.length_eq;rw[ZL,Zn,ZL]at this;simp at this;exact xy wZ this
  refine Za (J _ ?_);have n:∀(d:aw),d.fits c.size=true->d.led=t.led->d.plain=false->ag (ai prog w) A (do
    storeSet a c d
    if(!oN&&d.tooFull)=true then do
      (match (relayAll d c (SetTable.grown c.size)).2.2 with|true=>rule "set.scan.the-table-gave-way" | false=>pure ())
      storeSet a (relayAll d c (SetTable.grown c.size)).1 (relayAll d c (SetTable.grown c.size)).2.1
      pure (some true)
     else pure (some true)) (λr s'=>ag (ai prog w) A (match r with|some p=>pure p|none=>setAddHashedIn a x (knd.hash k) 99999) Q E s') E s:=λd DP jQ jK=>by
   refine Za (W4 N F ?_ (Ui T));have wA:(s.heap.update a (Obj.putSet c d)).get? a=some {o with data:=.set c (ep+1) d}:=by
    have:=ZO (Obj.putSet c d) N (by rw[Up c d F];rfl);rw[Up c d F]at this;exact this
   have Dl:=Yk s.heap a (Obj.putSet c d);refine ZU (λ_=>?_) (λ_=>?_)
   ·have B:=relayAll_perm d c (SetTable.grown c.size);have C:=relayAll_fits d c (SetTable.grown c.size);obtain⟨g1,Z⟩:=qN5 d c (SetTable.grown c.size);generalize relayAll d c (SetTable.grown c.size)=Rl at B C g1 Z ⊢;obtain⟨q,D,X⟩:=Rl;dsimp only at B C g1 Z ⊢;obtain⟨GJ,p2,Z_⟩:=Fq B p1;have xQ:q.size=c.size:=by have:=B.length_eq;simpa using this
    refine Za (J _ ?_);refine Za (W4 wA rfl ?_ (Ui (xy T xQ)));have Mf:((s.heap.update a (Obj.putSet c d)).update a (Obj.putSet q D)).get? a=some {o with data:=.set q (ep+1+1) D}:=by
     have:=ZO (Obj.putSet q D) wA (by rw[Up q D rfl];rfl);rw[Up q D rfl]at this;exact this
    refine Zc (Zc (h _ _ (Dl.trans (Yk _ a _)) ⟨q,_,D,⟨_,Mf,kD,rfl⟩,C,(by rw[g1,jQ];exact W),λz=>?_,xy T xQ,GJ,p2,Z_.nodup_iff.mpr U6,λg=>Z_.mem_iff.trans (pX g)⟩));have:=Z z;rw[jK]at this;cases this
   ·exact Zc (Zc (h _ _ Dl ⟨c,_,d,⟨_,wA,kD,rfl⟩,DP,(by rw[jQ];exact W),(λz=>by rw[jK]at z;cases z),T,Lf,p1,U6,pX⟩))
  cases L8:t1.plain with
  |true=>
   rw[Zx rfl];rw[hashByValue_scannable 8 kM,jF];refine Za (Zc ?_);rw[Zl Zy];exact n _ (SetTable.fits_plain_off S) U rfl
  |false=>
   rw[Zl Zy];refine Za (Zc ?_);rw[Zx rfl];exact n _ S U L8
end
theorem xx5(a:aa){Q₁:aa->ae->Prop}(h:Q₁ (.ref s.heap.objs.size) {s with heap:=s.heap.push (cI.dk (!w.params.followText "set-order"))}):
  codeAny (ai prog w) A (.call (.builtin "set.__new__") ⟨[.type "set",a],[]⟩) (wants Q₁ E) s:=by
 refine VC ?_;show ag _ A.in1 (do checkBuiltinCall "set.__new__" ⟨[.type "set",a],[]⟩;again (.builtin "set.__new__" ⟨[.type "set",a],[]⟩)) _ _ s;refine Za (Wc (PySem.F.newCall_set_1 a) (Zc ⟨YE PySem.F.plain_set_new _,Yb PySem.F.entry_set_new ?_⟩));rw[Z6 PySem.F.plain_set_new _];unfold Builtin.«set.__new__» Builtin.Frozenset.newClass;have b:=sub_set_self;obtain⟨e,g,d,c,f⟩:=s;dsimp only
 wp_walk
 refine YU (Zc ?_);dsimp only;simp only[newObj];refine Za (wpAny_alloc (Zc ?_));exact Zc h
section
variable{R:Result->ae->Prop}{I:af}{fp wr:List af}{G:Array GenState->Array GenState->Prop}{n:Nat}{P:Nat->aa->Prop}{St:Nat->ae->Prop}
theorem xx6(W:WalksS prog w A.in1 I fp wr G n P St)(S:af)(m:S∉fp)(val:Nat->ar)(H:∀i v,P i v->∃t,v=.str (val i) t)(hb:n+1<scanBound):
  ∀(k i:Nat)(s:ae),n-i=k->i<=n->St i s->lR (strKind prog w) s.heap S ((List.range i).map val) ->
   (∀a,Moved (S::wr) G s a->lR (strKind prog w) a.heap S ((List.range n).map val)->R (.ok (.ret .none)) a)->codeAny (ai prog w) A (.builtin "set.update.loop" ⟨[.ref S,.ref I],[]⟩) R s:=by
 have u:S∉wr:=λh=>m (W.sub _ h);have p:∀b∈wr,b∈S::wr:=λb hb=>Zk _ hb;intro k
 induction k with
 |zero=>
  intro i s c r j f l;have F:i=n:=by exact CV r c
  subst F;refine Yb YV ?_;rw[Z6 Yl _];show ag _ A.in1 (pyNext (.ref I) >>= _) _ _ s;refine Za (W.done s _ _ j λa d=>?_);show ag _ A.in1 (ret Value.none) _ _ a;exact Zc (l a (d.mono p) (f.cX λo e=>d.heap S _ u e))
 |succ k N=>
  intro i s c r j f l;have y:i<n:=by exact xr c
  refine Yb YV ?_;rw[Z6 Yl _];show ag _ A.in1 (pyNext (.ref I) >>= _) _ _ s;refine Za (W.item i s _ _ y j λv a B K d=>?_);obtain⟨t,rfl⟩:=H i v B;have C:=f.cX λo e=>d.heap S _ u e;show ag _ A.in1 (holding [Value.str (val i) t] (setAdd S (.str (val i) t)) >>= _) _ _ a;refine Za (ZP ?_);unfold setAdd;refine ZP ?_;have c:(strKind prog w).is (val i) (.str (val i) t)=true:=strKind_is _ _ _ _;refine Za ((strKind prog w).pyHash (k:=val i) c ?_);refine xx4 (s:={a with toks:=a.toks+1}) c rfl rfl C (by rw[Zh,YW];lia) λb E q M=>?_;have g:lR (strKind prog w) E S ((List.range (i+1)).map val):=M.congr λx=>by
   rw[Xa,ZY,ZX,Zu];show _<->_\/x∈[val i];rw[XG,or_comm]
  refine Zc ⟨YE Yl _,N (i+1) _ (by lia) y (W.frame _ a _ _ K (Xp _) λb hb o e=>?_) g λL J D=>?_⟩
  ·rw[q.2 b (λh:b=S=>m (by rw[<- h];exact hb))];exact e
  ·refine l L (Ua W.gtrans ((d.mono p).then_heap (Xp _) λb o hb e=>?_) J) D;rw[q.2 b (λh:b=S=>hb (by rw[h];exact ZE))];exact e
end
theorem xb9{l:af}{items:Array aa}{val:Nat->ar}{Q:aa->ae->Prop}(I:A.handled=none)(U:s.heap.IsList l items)
  (hi:∀(i:Nat)(v:aa),items[i]?=some v->∃t,v=.str (val i) t) (hb:items.size+1<scanBound)
  (h:∀(d:ao)(n:Nat),lR (strKind prog w) d s.heap.objs.size ((List.range items.size).map val)->(∀b o,b<s.heap.objs.size->s.heap.get? b=some o->d.get? b=some o)->Q (.ref s.heap.objs.size) {s with heap:=d,toks:=n}):
  ag (ai prog w) A (call (.type "set") [.ref l]) Q E s:=by
 obtain⟨c,tl,Mk⟩:=PySem.F.called_set.mro;have CM:=PySem.F.called_set.made;have Jb:=PySem.F.called_set.sub;refine VT (VC ?_);show ag _ _ (callAny (.type "set") _) _ _ _;refine Zc ⟨VX _ (by decide +kernel),Yb PySem.F.entry_type_call ?_⟩;rw[Around.under_plain (weight_type_call_type "set" [.ref l] []) rfl];have f1:=PySem.F.called_set.notType;have f2:=PySem.F.called_set.canCreate;have f3:=PySem.F.typeCall_set_1 (.ref l)
 repeat (any_goals first|assumption|wp_step)
 refine XO (xx5 (.ref l) (E:=E) (Q₁:=λj q=>j=.ref s.heap.objs.size/\q={s with heap:=s.heap.push (cI.dk (!w.params.followText "set-order"))}) ⟨rfl,rfl⟩) λr q k=>?_;generalize P:(!w.params.followText "set-order")=a at k;cases r with
 |error e=>exact k
 |ok S=>
  cases S with
  |ret j=>
   obtain⟨rfl,rfl⟩:=k;have u:(s.heap.push (cI.dk a)).get? s.heap.objs.size=some (cI.dk a):=Zg _ rfl;have V:Shared.TypeIs {s with heap:=s.heap.push (cI.dk a)} (.ref s.heap.objs.size) "set":=⟨_,u,rfl⟩;have i1:=PySem.F.called_set.init.lookup;have i2:=PySem.F.called_set.init.bind (.ref s.heap.objs.size)
   repeat (any_goals first|assumption|wp_step)
   refine XO (XR (R:=wants (λr D=>r=.none/\∃d n,D={s with heap:=d,toks:=n}/\lR (strKind prog w) d s.heap.objs.size ((List.range items.size).map val) /\
     (∀b o,b<s.heap.objs.size->s.heap.get? b=some o->d.get? b=some o)) E) PySem.F.called_set.init.plain PySem.F.entry_set_init (check_set_init_1 V ?_)) λvy D p=>?_
   ·obtain⟨ol,H,G,y,C⟩:=id U;obtain⟨KY,L,CA,T⟩:=ol;simp only at G C;subst G;subst C;have xR:(s.heap.push (cI.dk a)).get? l=some {cls:=.type "list",dict:=L,data:=.seq items y,slots:=T}:=Zb _ H;have gD:=PySem.F.sub_list_set;have cm:=PySem.F.sub_list_frozenset;have M:(Value.type "list"== Value.type "dict")=false:=by decide
    have F:(s.heap.push (cI.dk a)).IsList l items:=⟨_,xR,rfl,y,rfl⟩;unfold Builtin.«set.__init__» noKeywords Builtin.Frozenset.updateFrom;generalize MZ:pyIter=PI
    wp_walk
    subst MZ;refine Xs F ?_;refine Za (W5 ?_);have B:l<s.heap.objs.size:=Zi H;have g:(s.heap.push (cI.dk a)).objs.size=s.heap.objs.size+1:=ZS _ _;have K:l≠(s.heap.push (cI.dk a)).objs.size:=by rw[g];exact Zp (ZZ B)
    have N:s.heap.objs.size∉[(s.heap.push (cI.dk a)).objs.size,l]:=by
     rw[g];simp only[Zu,Wa,UB,not_or];exact⟨Zp (Yd _),XN B⟩
    refine xx6 ((VY (by simp[I]) _ l K items).toS) s.heap.objs.size N val hi hb (items.size-0) 0 _ Oq (Zz _)
     ⟨⟨_,Zg _ rfl,rfl,rfl⟩,F.push _⟩ (xx3 (by rw[P];exact Zb _ u)) λs' m f=>?_
    obtain⟨d,g',X,IQ,gL⟩:=s';have Z:g'=s.gens:=m.gens;have Y:X=s.drawn:=m.drawn;have J:gL=s.os:=m.os;subst Z;subst Y;subst J;show ag _ _ _ _ _ _;refine Zc ?_;show ag _ _ (ret Value.none) _ _ _;refine Zc ⟨rfl,d,IQ,rfl,f,λb o x e=>?_⟩;exact m.heap b o (by rw[g];simp only[Zu,Wa,UB,not_or];exact⟨Zp x,Zp (ZZ x)⟩) (Zb _ (Zb _ e))
   ·cases vy with
    |error e=>exact p
    |ok O=>
     cases O with
     |ret r=>
      obtain⟨rfl,d,n,rfl,f,W⟩:=p
      repeat (any_goals first|assumption|wp_step)
      exact h _ _ f W
     |_=>exact p.elim
  |_=>exact k.elim
section
variable{X:Cx}
def En(P:ah)(w:aj)(r:af)(L:List ar):HO:=.ext λh=>lR (strKind P w) h r L
inductive jd(X:Cx)(xs:List V)(H:Hp)(Q:VK):Prop
 |mk(p:af)(L:List ar)(aX:xs=[.ref p])(dQ:H p=some (.lst (L.map V.str)))(cA:L.length+1<scanBound)(aU:∀r,H r=none->Q (.ref r) (upd H r (En X.prog X.w r L)))
theorem qX1(hc:X.calm=true):fm X (.type "set") (jd X):=by
 intro U s T H O P Q I F h;obtain⟨p,L,rfl,G,j,q⟩:=h;obtain⟨u,rfl,J⟩:=gI F;cases J;obtain⟨W,d,n,r,D⟩:=I.aT p _ G;have f:d.length=L.length:=by have:=r.length;simpa using this.symm
 refine xb9 (items:=d.toArray) (val:=λi=>L.getD i "") (I.ok.hd hc) ⟨_,D,rfl,n,rfl⟩ (λi v M=>?_) (by rw[ZK,f];exact j) λN K c E=>?_
 ·have l:d[i]?=some v:=by simpa using M
  have y:i<L.length:=by rw[<- f];exact(cz l).1
  obtain⟨R,m,t,C⟩:=r.get (i:=i) (x:=V.str L[i]) (by simp[y]);rw[l]at m;cases m;exact⟨t,by rw[C];simp[List.getD,y]⟩
 ·have B:(List.range d.toArray.size).map (λi=>L.getD i "")=L:=by
   refine List.ext_getElem (by simp[f]) λi h1 w=>?_;simp[List.getD,w]
  rw[B]at c;obtain⟨S,Y,t,⟨o,g,_⟩,_⟩:=id c;exact⟨.ref s.heap.objs.size,_,I.laid (a:=s.heap.objs.size) (o:=En X.prog X.w s.heap.objs.size L) (t':=K) (λb o e=>E b o (Zi e) e) (Ze _) ⟨c,⟨o,g⟩,λh1 w A k=>A.cX k⟩,rfl,q _ (I.aT.fresh (Ze _))⟩
theorem qD7(hc:X.calm=true){k:Nat}(hr:bf k X.A):fm X (.builtin "sorted") (λU H Q=>∃(r:af)(L:List ar),U=[.ref r]/\H r=some (En X.prog X.w r L) /\
  ∀q B (f:List ar),H q=none->B=f.map V.str->f.Nodup->(∀x,x∈f<->x∈L)->ub (P:=X.prog) (w:=X.w) (rF true) H B->Q (.ref q) (upd H q (.lst B))):=by
 intro j8 s σ H U B Q I n h;obtain⟨r,L,rfl,LX,q⟩:=h;obtain⟨u,rfl,ru⟩:=gI n;cases ru;obtain⟨F,_,_⟩:=(show bh X.prog X.w H s.heap r (En X.prog X.w r L)from I.aT r _ LX);obtain⟨A,ep,t,b,W,vH,vE,y8,K,C,wT,jP⟩:=(show lR (strKind X.prog X.w) s.heap r L from F);have un:=hr.units;have hz:=Ui y8;have yA:t.place.size=A.size:=by
  have:=W;unfold SetTable.fits at this;simp at this;exact this.1
 have Dn:(!t.plain&&decide (A.size>1))=true\/cI.n_ t.place:=by
  by_cases h1:A.size>1
  ·left;have:t.plain=false:=by
    cases z:t.plain with
    |false=>rfl
    |true=>have:=vE z;lia
   rw[this,Zt h1];rfl
  ·right;intro i j hi hj jN;lia
 have key:∀g:List aa,g.Perm (A.toList.map (·.2))->∃f:List ar,Vals (f.map V.str) g/\f.Perm K:=λg m=>by
  have pr:Paired (λ(v:aa) (x:ar)=>∃t,v=.str x t) (A.toList.map (·.2)) K:=by
   refine Js (by rw[Zh];exact XA C) λi v x h1 l=>?_;rw[Zf]at h1;obtain⟨e,E,rfl⟩:=Zj.mp h1;obtain⟨Y,Z,e2,_⟩:=BL C i e E;rw[l]at Z;cases Z;exact Value.isStrOf_shape e2
  obtain⟨f,p1,T⟩:=Fq m pr;refine⟨f,?_,T⟩;clear m T
  induction p1 with
  |nil=>exact .nil
  |cons h _ O=>exact .cons h O
 refine xj1 (xT4 true) (by show _+3+0<cLine;lia) (Pv:=λg=>∃f:List ar,Vals (f.map V.str) g/\f.Perm K) (λg ⟨f,n,p⟩=>⟨λv m=>?_,?_⟩) (λQ' k'=>qN4 (I.ok.hd hc) b W hz vH Dn λg h' D d m kp=>k' g h' D d (key g m) kp) λg J h1 l D d c ⟨f,n,p⟩ Y k2 E o1 o2=>?_
 ·obtain⟨x,hx,rx⟩:=Sj n m;obtain⟨y,_,rfl⟩:=Yu.mp hx;exact⟨_,J7 (P:=X.prog) (w:=X.w) y _ _ I.aT rx⟩
 ·have h1:=n.length;rw[Zh,p.length_eq]at h1;have l:=XA C;simp at l;lia
 ·obtain⟨M,S,G⟩:=xa5 o1 n;have R:Paired (λ(v:V) (x:ar)=>v=.str x) (f.map V.str) f:=Js (by rw[Zh]) λi v x h1 l=>by
   rw[Zf,l]at h1;exact(ZT h1).symm
  obtain⟨X_,q1,N⟩:=Fq G R;have ex:M=X_.map V.str:=by
   clear S G N
   induction q1 with
   |nil=>rfl
   |cons h _ O=>rw[h,O];rfl
  have I1:=I.C4 (t':=D) (d':=d) Y;refine⟨.ref _,_,I1.laid (a:=h1.objs.size) (o:=.lst M) (t':=D) (λb o z=>k2 b o z) (Ze _) ⟨?_,J.toList,c,S,by simpa using E⟩,rfl,q _ M X_ (I1.aT.fresh (Ze _)) ex ((N.trans p).nodup_iff.mpr wT) (λx=>(N.trans p).mem_iff.trans (jP x)) (Pn I.aT S o2)⟩;have h3:=G.length_eq;rw[Zh,p.length_eq]at h3;have l:=XA C;simp at l;exact CT l h3 hz
end
end L2
namespace Pr
open PySem L2 Qf
theorem Sd:∀{ls:List ar},(∀x∈ls,∃a,x=txt a)->∃b:List (List Nat),ls=b.map txt
 |[],_=>⟨[],rfl⟩
 |x::ls,h=>by
  obtain⟨a,rfl⟩:=h x (by simp);obtain⟨b,rfl⟩:=Sd (ls:=ls) λy c=>h y (by simp[c]);exact⟨a::b,rfl⟩
theorem qX2{P:ah}{w:aj}{H:Hp}{us:List V}{ls:List ar}{d:List (List Nat)}(k:d.Pairwise (·<·))(e:us=ls.map V.str)(nd:ls.Nodup)(j:∀x,x∈ls<->x∈d.map txt)(as:ub (P:=P) (w:=w) (PyProof.Rows.rF true) H us):us=vT d:=by
 obtain⟨c,rfl⟩:=Sd (ls:=ls) λx p=>by
  obtain⟨a,_,e⟩:=Yu.mp ((j x).mp p);exact⟨a,e.symm⟩
 have g:us=vT c:=by rw[e];unfold vT;rw[Yq];rfl
 rw[g];congr 1;have f:c.Nodup:=by
  rw[V2]at nd ⊢;rw[Ug]at nd;exact Uh (λ{u v} z e=>z (by rw[e])) nd
 refine OL ?_ k λx=>?_
 ·rw[g]at as;unfold ub vT at as;rw[Ug]at as;refine List.Pairwise.imp₂ (λa b h1 n=>?_) as (V2.mp f);have i:=h1 _ _ (J7 _) (J7 _);rw[xO2,Ap,Ap,Ph]at i;by_cases z:a<b
  ·exact z
  ·exact absurd (List.le_antisymm (Vy.mp i) (Vy.mp z)) n
 ·have h1:∀l:List (List Nat),x∈l<->txt x∈l.map txt:=λl=>⟨λh=>Yu.mpr ⟨x,h,rfl⟩,λh=>by
   obtain⟨y,m,e⟩:=Yu.mp h;rw[<- xv2 e];exact m⟩
  rw[h1,j,<- h1]
theorem xO3(L:List (List Nat)):vT L=(L.map txt).map V.str:=by unfold vT;rw[Yq];rfl
def yg(L:List (List Nat)):List PyData:=L.map λe=>PyData.str (txt e)
theorem Kk{H:Hp}:∀L:List (List Nat),aR H (vT L) (yg L)
 |[]=>.nil
 |e::L=>.cons (.str _) (Kk L)
theorem Pz{e:List Nat}(a:∀d∈e,d<4):PyData.strOk (txt e)=true:=by
 unfold PyData.strOk;simp only[txt,List.all_toArray,List.all_map,Y6];intro d b;have:=a d b
 match d,this with
 |0,_|1,_|2,_|3,_=>decide +kernel
theorem Oz:∀L:List (List Nat),(∀e∈L,∀d∈e,d<4)->PyData.canLayAll0 (yg L)=true
 |[],_=>rfl
 |e::L,h=>by
  show(PyData.canLay0 (.str (txt e))&&PyData.canLayAll0 (yg L))=true;rw[Oz L (λx a=>h x (Zk _ a)),Bool.and_true];exact Pz (h e (by simp))
theorem Sb:∀L:List (List Nat),PyData.depthAll (yg L)=0
 |[]=>rfl
 |e::L=>by
  show max (PyData.depth (.str (txt e))) (PyData.depthAll (yg L))=0;rw[Sb L]
  rfl
theorem sr{H e:Hp}{t n f:Nat}{rows:List Row}(h:g7 H t n f rows)(k:gz H e):g7 e t n f rows:=let ⟨⟨p,a,b⟩,c,d⟩:=h;⟨⟨p,k _ _ a,b.mono k⟩,c,d⟩
theorem t6{rows:List Row}{y:Nat}{b:Bool}(ok:fw rows)(c:y<rows.length+2)(h:T rows y=sF b):y=if b then 1 else 0:=by
 by_cases a:y<2
 ·have:y=0\/y=1:=by exact Rj a
  rcases this with rfl|rfl
  ·rw[l7]at h;cases b with|true=>cases h|false=>rfl
  ·rw[l5]at h;cases b with|true=>rfl|false=>cases h
 ·obtain⟨g,e,f,j,i,rfl,d⟩:=pM ok c a;rw[lK ok d]at h;cases b<;>cases h
end Pr
namespace L2
open PySem PySem.Spec PyProof.Rows PySem.W
section
variable{X:Cx}
def least(a:List Int):Nat->Int
 |0=>a.getD 0 0
 |k+1=>if a.getD (k+1) 0<least a k then a.getD (k+1) 0 else least a k
theorem Jr(a:List Int):∀k,a.getD (argBest (λi j=>decide (a.getD i 0<a.getD j 0)) k) 0=least a k/\argBest (λi j=>decide (a.getD i 0<a.getD j 0)) k<=k
 |0=>⟨rfl,Ze _⟩
 |k+1=>by
  obtain⟨h1,c⟩:=Jr a k;unfold argBest least;rw[<- h1];by_cases b:a.getD (k+1) 0<a.getD (argBest (λi j=>decide (a.getD i 0<a.getD j 0)) k) 0
  ·rw[Zx (Zt b),Zx b];exact⟨rfl,Ze _⟩
  ·rw[Zl (by simpa using b),Zl b];exact⟨rfl,Uc c⟩
theorem xc0(a b c d:aa):argsOk "min" ⟨[a,b,c,d],[]⟩:=by unfold argsOk;kernel_rfl
inductive lz(xs:List V)(H:Hp)(Q:VK):Prop
 |mk(a b c d:Int)(aX:xs=[.int a,.int b,.int c,.int d])(dQ:Q (.int (least [a,b,c,d] 3)) H)
theorem xc1(hc:X.calm=true):fm X (.builtin "min") lz:=by
 intro j8 s σ H xs R Q I r h;obtain⟨a,b,c,d,rfl,q⟩:=h;have E:=r;have U:R.length=4:=E.length.symm;obtain⟨m,k,g,l,rfl⟩:=L2.UX U
 ·
  have Y:(toString "min"++toString ".loop":String)="min.loop":=by decide
  refine call_function_tree PySem.F.kind_min PySem.F.plain_min PySem.F.entry_min (xc0 _ _ _ _) ?_;show ag _ X.A.in1 (Builtin.Builtins.bindParams "min" ["key","default"] 0 ⟨[],[]⟩ >>= _) _ _ s;refine Za (Wc (show Builtin.Builtins.bindParams "min" ["key","default"] 0 ⟨[],[]⟩=pure [none,none]from rfl) ?_);show ag _ X.A.in1 (newTuple [m,k,g,l] >>= _) _ _ s;refine Za (ZJ ?_);have D:(s.heap.push {cls:=.type "tuple",data:=.seq #[m,k,g,l]}).IsTuple s.heap.objs.size #[m,k,g,l]:=⟨_,Zg _ rfl,rfl,0,rfl⟩;have p:(s.heap.push {cls:=.type "tuple",data:=.seq #[m,k,g,l]}).objs.size=s.heap.objs.size+1:=ZS ..;have f:∀(i:Nat)(v:aa),(#[m,k,g,l]:Array aa)[i]?=some v->∃t,v=.int ([a,b,c,d].getD i 0) t:=λi v S=>by
   have B:[m,k,g,l][i]?=some v:=by simpa using S
   have y:i<4:=(cz B).1;obtain⟨w',C,t,T⟩:=E.get (x:=V.int ([a,b,c,d].getD i 0)) (i:=i) (by
    match i,y with
    |0,_|1,_|2,_|3,_=>rfl)
   rw[B]at C;cases C;exact⟨t,T⟩
  refine Za (Yv (YK D (Q:=λF G=>F=.ref (s.heap.objs.size+1)/\G=_) ⟨by rw[p],rfl⟩) (λF G M=>?_) λ_ _ e=>e);obtain⟨rfl,rfl⟩:=M;have W:=Ub (prog:=X.prog) (w:=X.w) (A:=X.A.in1) (I.ok.hd hc) (s.heap.objs.size+1) s.heap.objs.size (Zp (Yd _)) #[m,k,g,l];refine Za (ZJ ?_);rw[Y];refine Zc ⟨YE YB _,codeAny_min_loop_first W (λi j=>decide ([a,b,c,d].getD i 0<[a,b,c,d].getD j 0)) ?_ _ ?_ (by show 0<4;decide) ?_ (Zg _ rfl) λv h' tk L K=>?_⟩
  ·intro i j vi O s' Q' E' y Z P;obtain⟨t,rfl⟩:=f i vi y;obtain⟨t',rfl⟩:=f j O Z;exact lt_int P
  ·intro J;simp only[ZS]at J;have:s.heap.objs.size+1+1=s.heap.objs.size+1\/s.heap.objs.size+1+1=s.heap.objs.size:=by simpa using J
   exact Ql this
  ·refine W.frame _ _ _ ?_ λb _ o e=>Zb _ e;refine⟨⟨{cls:=.type "tuple_iterator",data:=.fields #[.ref s.heap.objs.size,.int 0 0]},?_,rfl,rfl⟩,D.push _⟩;rw[<- p];exact Zg _ rfl
  ·obtain⟨t,rfl⟩:=f _ v L;have N:=(Jr [a,b,c,d] 3).1;refine⟨.int _,H,I.kept (h':=h') (t':=tk) (λu o n=>K u o (λz=>?_) (λz=>?_) (Zb _ (Zb _ (Zb _ n)))),⟨t,rfl⟩,?_⟩
   ·have h1:u=s.heap.objs.size+1:=by simpa using z
    rw[h1]at n;exact absurd (Zi n) (UE.mpr (Xp _))
   ·have h1:u=s.heap.objs.size+1+1:=by rw[z];simp only[ZS]
    rw[h1]at n;exact absurd (Zi n) (UE.mpr (ZI (Xp _) (Xp _)))
   ·show Q (.int ([a,b,c,d].getD (argBest (λi j=>decide ([a,b,c,d].getD i 0<[a,b,c,d].getD j 0)) 3) 0)) H;rw[N];exact q
theorem Oy(a b c d:Int):least [a,b,c,d] 3<=a/\least [a,b,c,d] 3<=b/\least [a,b,c,d] 3<=c/\least [a,b,c,d] 3<=d/\(least [a,b,c,d] 3=a\/least [a,b,c,d] 3=b\/least [a,b,c,d] 3=c\/least [a,b,c,d] 3=d):=by
 simp only[least,List.getD_cons_zero,List.getD_cons_succ];split<;>split<;>split<;>lia
end
end L2
namespace L2
open PySem PySem.Spec PyProof.Rows
section
variable{X:Cx}
inductive lq(xs:List V)(H:Hp)(Q:VK):Prop
 |mk(p:af)(ns:List Int)(aX:xs=[.ref p])(dQ:H p=some (.tup (ns.map V.int)))(cA:ns≠[])(aU:Q (.int (least ns (ns.length-1))) H)
theorem xc2(hc:X.calm=true):fm X (.builtin "min") lq:=by
 intro j8 s Z H U W Q I r h;obtain⟨p,c,rfl,N,D,q⟩:=h;obtain⟨u,rfl,M⟩:=gI r;cases M;obtain⟨d,C,E,_⟩:=I.tuple (aZ.of N);have l:s.heap.IsTuple p d.toArray:=E;obtain⟨ol,y,_⟩:=id l;have B:d.length=c.length:=by have:=C.length;simpa using this.symm
 have O:p≠s.heap.objs.size:=Zp (Zi y);have n:d.toArray.size=c.length:=by simpa using B
 have k:0<c.length:=X6.mpr D;have a:∀(i:Nat)(v:aa),d.toArray[i]?=some v->∃t,v=.int (c.getD i 0) t:=λi v g=>by
  have m:d[i]?=some v:=by simpa using g
  have f:i<c.length:=by rw[<- B];exact(cz m).1
  obtain⟨Y,w,t,J⟩:=C.get (x:=V.int (c[i])) (i:=i) (by simp[f]);rw[m]at w;cases w;exact⟨t,by rw[J];simp[List.getD,f]⟩
 refine call_min_walkS (YK l ?_);refine⟨s.heap.objs.size,_,_,_,_,_,_,λi j=>decide (c.getD i 0<c.getD j 0),rfl,(Ub (A:=X.A.in1) (I.ok.hd hc) s.heap.objs.size p O d.toArray).toS,⟨⟨_,Zg _ rfl,rfl,rfl⟩,l.at λo e=>Zb _ e⟩,?_,by rw[n];exact k,?_,?_⟩
 ·intro b hb;rw[ZS];rcases Zu.mp hb with rfl|hb
  ·exact Yd _
  ·have:b=p:=by simpa using hb
   subst this;exact ZZ (Zi y)
 ·intro i j P F R Q' T f K G;obtain⟨t,rfl⟩:=a i P f;obtain⟨S,rfl⟩:=a j F K;exact lt_int G
 ·intro v R g L;rw[n]at g;obtain⟨t,rfl⟩:=a _ v g;rw[(Jr c (c.length-1)).1];refine⟨.int _,H,zu I L (λb o e hb=>?_),⟨t,rfl⟩,q⟩;have:b=s.heap.objs.size:=by simpa using hb
  exact Yc _ (by rw[this]at e;exact Zi e)
end
end L2
namespace PyProof.Rows
open PySem
theorem qX3(a d:aa):argsOk "min" ⟨[a],[("default",d)]⟩:=by unfold argsOk;kernel_rfl
theorem qo0{id:String}{b:Builtin}{args:List aa}{c:List (ar×aa)}{Q:aa->ae->Prop}(j:builtinKind id=none)(k:plainId id=true)
  (hb:entryFor table id=some b) (i:argsOk id ⟨args,c⟩)
  (hc:ag (ai prog w) A.in1 (b ⟨args,c⟩) (λg a=>match g with
   |.done f=>(match (Except.ok f:Result)with|.ok (.ret v)=>Q v a|.ok _=>False|.error e=>E e a)
   |.again h=>h.quiet=true/\codeAny (ai prog w) A h (λr a=>match r with|.ok (.ret v)=>Q v a|.ok _=>False|.error e=>E e a) a) E s):
  ag (ai prog w) A (call (.builtin id) args c) Q E s:=by
 refine VT (XR k hb ?_);simp only[checkBuiltinCall,j];cases LO:Manifest.signature? id with
 |none=>exact Zc hc
 |some d=>
  simp only[argsOk,LO]at i;have l:Bind.checkArgs id d ⟨args,c⟩=pure ():=i;show ag _ A.in1 (Bind.checkArgs id d ⟨args,c⟩) _ _ s;rw[l];exact Zc hc
section
variable{R:Result->ae->Prop}{I:af}{fp wr:List af}{G:Array GenState->Array GenState->Prop}{n:Nat}{P:Nat->aa->Prop}{St:Nat->ae->Prop}
theorem J4{kw:List (ar×aa)}(W:WalksS prog w A.in1 I fp wr G n P St)(S:af)(m:S∉fp)(bt:Nat->Nat->Bool)(h0:ao)
  (K:∀i j vi vj (d:ae) (Y:aa->ae->Prop) (Z:aa->ae->Prop),(∀b o,b∉S::wr->h0.get? b=some o->d.heap.get? b=some o)->P i vi->P j vj->Y (.bool (bt i j)) d->ag (ai prog w) A.in1 (richCompare .Lt vi vj) Y Z d):
  ∀(k j:Nat)(s:ae)(g:aa)(c:Nat),n-(j+1)=k->j+1<=n->St (j+1) s->P (argBest bt j) g->s.heap.get? S=some (seqObj "list" #[g,g] c) ->
   (∀b o,b∉S::wr->h0.get? b=some o->s.heap.get? b=some o)->(∀v d,P (argBest bt (n-1)) v->Moved (S::wr) G s d->R (.ok (.ret v)) d)->codeAny (ai prog w) A (.builtin "min.loop" ⟨[.ref I,.none,.ref S],kw⟩) R s
 |0,j,s,g,c,p,U,C,x,r,T,u=>by
  have L:S∉wr:=λh=>m (W.sub _ h);have t:∀b∈wr,b∈S::wr:=λb hb=>Zk _ hb;have D:(toString "min"++toString ".loop":String)="min.loop":=by decide
  have a:∀{h:ao}{f:az->az}{b:af}{o:az},b∉S::wr->h.get? b=some o->(h.update S f).get? b=some o:=λhb e=>(Zq _ _ (λz=>hb (by rw[z];exact ZE))).trans e;have V:∀{h:ao}{f:az->az}{b:af}{o:az},b∈fp->h.get? b=some o->(h.update S f).get? b=some o:=λhb e=>(Zq _ _ (λz=>m (by rw[z];exact hb))).trans e;refine Yb Vf ?_;rw[Z6 YB _];show ag _ A.in1 (seqItems? (.ref S) >>= _) _ _ s;refine Za (Xo r rfl ?_);show ag _ A.in1 (tryCatch (pyNext (.ref I)) _ >>= _) _ _ s;have Q:j+1=n:=by exact CV U p
  refine Za (Vg (W.done s _ _ (Q▸C) λd l=>?_));have q:=l.heap S _ L r;show ag _ A.in1 (updateSeq S (λ_=>#[]) >>= _) _ _ _;refine Za (WN q rfl (Za (Vw (Zc ?_))));exact u g _ (by rw[<- Q];exact x) ((l.mono t).then_heap (tk:=d.toks) (Ze _) λb o hb e=>a hb e)
 |k+1,j,s,g,c,p,U,C,x,r,T,u=>by
  have L:S∉wr:=λh=>m (W.sub _ h);have t:∀b∈wr,b∈S::wr:=λb hb=>Zk _ hb;have D:(toString "min"++toString ".loop":String)="min.loop":=by decide
  have a:∀{h:ao}{f:az->az}{b:af}{o:az},b∉S::wr->h.get? b=some o->(h.update S f).get? b=some o:=λhb e=>(Zq _ _ (λz=>hb (by rw[z];exact ZE))).trans e;have V:∀{h:ao}{f:az->az}{b:af}{o:az},b∈fp->h.get? b=some o->(h.update S f).get? b=some o:=λhb e=>(Zq _ _ (λz=>m (by rw[z];exact hb))).trans e;refine Yb Vf ?_;rw[Z6 YB _];show ag _ A.in1 (seqItems? (.ref S) >>= _) _ _ s;refine Za (Xo r rfl ?_);show ag _ A.in1 (tryCatch (pyNext (.ref I)) _ >>= _) _ _ s;have N:j+1<n:=by exact xr p
  refine Za (Vg (W.item (j+1) s _ _ N C λv d O X l=>?_));have q:=l.heap S _ L r;have M:∀b o,b∉S::wr->h0.get? b=some o->d.heap.get? b=some o:=λb o hb e=>l.heap b o (λz=>hb (t b z)) (T b o hb e);show ag _ A.in1 (tryCatch (holding [v,v] (richCompare .Lt v g >>= _)) _ >>= _) _ _ _;refine Za (Vg (ZP (Za (K (j+1) (argBest bt j) v g _ _ _ M O x ?_))));refine Za (ZP (Yt (Za (Vw (Zc ?_)))));cases hb:bt (j+1) (argBest bt j)with
  |true=>
   rw[Zx rfl];refine Za (WN q rfl (Za (Vw ?_)));rw[D];refine Zc ⟨YE YB _,J4 W S m bt h0 K k (j+1) _ v _ (xp p) N (W.frame _ d _ d.toks X (Ze _) λb MM o e=>V MM e) (by unfold argBest;rw[Zx hb];exact O) (ZO _ q rfl)
    (λb o y e=>a y (M b o y e)) λJ B H F=>u J B H (Ua W.gtrans ((l.mono t).then_heap (Ze _) λb o y e=>a y e) F)⟩
  |false=>
   rw[Zl Zy];refine Za (Vw ?_);rw[D];exact Zc ⟨YE YB _,J4 W S m bt h0 K k (j+1) _ g _ (xp p) N X (by unfold argBest;rw[Zl (by rw[hb];exact Zy)];exact x) q
    M λJ B H F=>u J B H (Ua W.gtrans (l.mono t) F)⟩
end
theorem xO5{x d:aa}{Q:aa->ae->Prop}
  (h:ag (ai prog w) A.in1 (pyIter x) (λJ a=>∃I k f G n P St bt,J=.ref I/\WalksS prog w A.in1 I k f G n P St/\St 0 a/\(∀b∈k,b<a.heap.objs.size) /\
   (∀i j p l (c:ae) (m:aa->ae->Prop) (t:aa->ae->Prop),(∀b o,b∉f->a.heap.get? b=some o->c.heap.get? b=some o)->P i p->P j l->m (.bool (bt i j)) c->ag (ai prog w) A.in1 (richCompare .Lt p l) m t c) /\
   (n=0->∀c,Moved f G a c->Q d c)/\(0<n->∀v c,P (argBest bt (n-1)) v->Moved f G a c->Q v c)) E s):
  ag (ai prog w) A (call (.builtin "min") [x] [("default",d)]) Q E s:=by
 have H:(toString "min"++toString ".loop":String)="min.loop":=by decide
 refine qo0 PySem.F.kind_min PySem.F.plain_min PySem.F.entry_min (qX3 _ _) ?_;show ag _ A.in1 (Builtin.Builtins.bindParams "min" ["key","default"] 0 ⟨[],[("default",d)]⟩ >>= _) _ _ s;refine Za (Wc (show Builtin.Builtins.bindParams "min" ["key","default"] 0 ⟨[],[("default",d)]⟩=pure [none,some d]from rfl) (Za (Zc (Za (Yv h (λJ a M=>?_) λ_ _ e=>e)))));obtain⟨I,k,f,G,n,P,St,bt,rfl,W,F,yG,Z,q,hQ⟩:=M;refine Za (ZJ ?_);have r:a.heap.objs.size∉k:=λg=>Yc _ (yG _ g);have wM:a.heap.objs.size∉f:=λh=>r (W.sub _ h);have u:∀b∈f,b∈a.heap.objs.size::f:=λb hb=>Zk _ hb;have D:(a.heap.push (seqObj "list" #[] 0)).get? a.heap.objs.size=some (seqObj "list" #[] 0):=Zg _ rfl;have K:∀{b:af}{o:az},a.heap.get? b=some o->b≠a.heap.objs.size:=λe=>Zp (Zi e);rw[H];refine Zc ⟨YE YB _,Yb Vf ?_⟩;rw[Z6 YB _];show ag _ A.in1 (seqItems? (.ref a.heap.objs.size) >>= _) _ _ _;refine Za (Xo D rfl ?_);show ag _ A.in1 (tryCatch (pyNext (.ref I)) _ >>= _) _ _ _;by_cases y:0<n
 case neg=>
  have C:n=0:=by lia
  refine Za (Vg (W.done _ _ _ (by rw[C];exact W.frame 0 a _ a.toks F (Ze _) λb _ o e=>Zb _ e) λc g=>?_));show ag _ A.in1 (rule _ >>= _) _ _ _;refine Za (Y4 (Zc ?_));refine q C c (Moved.drop_new (tk:=a.toks) (o:=seqObj "list" #[] 0) (g.mono u) (Ze _))
 refine Za (Vg (W.item 0 _ _ _ y (W.frame 0 a _ a.toks F (Ze _) λb _ o e=>Zb _ e) λv c L n0 g=>?_));have B:=g.heap _ _ wM D;have CD:∀{b:af}{o:az},b∉f->a.heap.get? b=some o->b∉a.heap.objs.size::f:=λhb e z=>by
  rcases Zu.mp z with S|z
  ·exact K e S
  ·exact hb z
 show ag _ A.in1 (updateSeq a.heap.objs.size (λ_=>#[v,v]) >>= _) _ _ _;refine Za (WN B rfl ?_);rw[H];refine Zc ⟨YE YB _,J4 W a.heap.objs.size r bt a.heap (λi j p l N m t T U O R=>Z i j p l N m t (λb o hb e=>T b o (CD hb e) e) U O R) _ 0 _ v _ rfl y (W.frame _ c _ c.toks n0 (Ze _) λb MM o e=>?_) L (ZO _ B rfl) (λb o hb e=>?_) λY nE X V=>?_⟩
 ·exact(Zq _ _ (λh=>r (by rw[h];exact MM))).trans e
 ·exact(Zq _ _ (λh=>K e h.symm)).trans (g.heap b o (λz=>hb (u b z)) (Zb _ e))
 ·refine hQ y Y nE X (Moved.drop_new (tk:=a.toks) (o:=seqObj "list" #[] 0) (Ua W.gtrans ((g.mono u).then_heap (Ze _) λb o hb e=>?_) V) (Ze _));exact(Zq _ _ (λh=>hb (by rw[<- h];exact ZE))).trans e
end PyProof.Rows
namespace L2
open PySem PyProof.Rows
section
variable{X:Cx}
def Py(X:Cx)(f:aa)(k:ar)(r:List V->V->Hp->VK->Prop):Prop:=
 ∀(b:List (af×az))(s:ae)(c:St)(H:Hp)(e:List V)(a:List aa)(y:V)(d:aa)(Q:VK),Inv X b c H s->Vals e a->RelV y d->r e y H Q ->
  ag (ai X.prog X.w) X.A (call f a [(k,d)]) (EP X b c Q) X.xe s
def tCK(r:List V->V->Hp->VK->Prop)(t:TA)(d:TE):TE:=λa H Q=>t a H λe b=>d a b λy c=>r e y c Q
theorem xc3{id:String}{x k:ar}{p A a:aC}{e ev:av}{b:List av}{r:List V->V->Hp->VK->Prop}{t:TA}{g:TE}(hc:Py X (.builtin id) k r)(G:Gl X x)(M:X.mg x=none)(u:bootBuiltins x=some (.builtin id))(v:PA X (e::b) t)(i:PE X ev g)(F:x ≠ "__name__":=by decide)(L:(x==("__debug__":ar))=false:=by decide)
  (j:backTo a (starEach (e::b) X.env)=(false,eval e X.env)::backTo a (starEach b X.env):=by rfl) (w:(backTo a (starEach (e::b) X.env)).any (·.1)=false:=by rfl):PE X (.Call (.Name x p) (e::b) [⟨some k,ev,A⟩] a) (tCK r t g):=by
 intro c s f H Q I h;refine XD (uq I G M u ?_ F L);refine callWith_kw (bo (v a c s f H _ I h) λn K ⟨D,B,O,m,l⟩=>?_) j w;refine kws_cons (bo (i c K f B _ O l) λd E ⟨y,q,J,N,C⟩=>?_);exact kws_nil (hc c E f q D n y d Q J m N C)
open Classical in
theorem qX4(hc:X.calm=true){κ:bj X.prog X.w}{k:Nat}(Y:bf k X.A)(hk:κ.lvl<=20):Py X (.builtin "min") "default" (λR y H Q=>∃(p:af)(a:List V),R=[.ref p]/\H p=some (.lst a)/\(∀v∈a,∃l,lN κ H v l) /\
  ∀v,(a=[]/\v=y\/v∈a/\∀u∈a,∀l m,lN κ H v l->lN κ H u m->¬m<l)->Q v H):=by
 intro j8 s σ H R us y d Q I r ry h;obtain⟨p,a,rfl,hp,ht,q⟩:=h;obtain⟨u,rfl,rx⟩:=gI r;cases rx;obtain⟨z,f,n,T,G⟩:=I.aT p _ hp;have W:s.heap.IsList p f.toArray:=⟨_,G,rfl,_,rfl⟩;have J:f.length=a.length:=T.length.symm;have np:p≠s.heap.objs.size:=Zp (Zi G);have S:f.toArray.size=a.length:=by simpa using J
 let key:Nat->List (List Int):=λi=>if e:∃l,lN κ H (a.getD i .cu) l then e.choose else[]
 have c:∀(i:Nat)(v:aa),f.toArray[i]?=some v->∃x,a[i]?=some x/\RelV x v/\lN κ H x (key i):=λi v C=>by
  have O:f[i]?=some v:=by simpa using C
  have t:i<a.length:=by rw[<- J];exact(cz O).1
  obtain⟨w',w,g⟩:=T.get (x:=a[i]) (i:=i) (by simp[t]);rw[O]at w;cases w;have U:a.getD i .cu=a[i]:=by simp[List.getD,t]
  have ex:∃l,lN κ H (a.getD i .cu) l:=by rw[U];exact ht _ (Yz t)
  refine⟨a[i],by simp[t],g,?_⟩;show lN κ H a[i] (if e:∃l,lN κ H (a.getD i .cu) l then e.choose else[]);rw[dif_pos ex];have key:∀v,v=a.getD i .cu->lN κ H v ex.choose:=λv e=>by subst e;exact ex.choose_spec
  exact key _ U.symm
 refine xO5 (Xs W ?_);refine⟨s.heap.objs.size,_,_,_,_,_,_,λi j=>decide (key i<key j),rfl,(VY (A:=X.A.in1) (I.ok.hd hc) s.heap.objs.size p np f.toArray).toS,⟨⟨_,Zg _ rfl,rfl,rfl⟩,W.at λo e=>Zb _ e⟩,?_,?_,?_,?_⟩
 ·intro b hb;rw[ZS];rcases Zu.mp hb with rfl|hb
  ·exact Yd _
  ·have:b=p:=by simpa using hb
   subst this;exact ZZ (Zi G)
 ·intro i j vi vj N Q' E' kp t B hq;obtain⟨x,w,g,E⟩:=c i vi t;obtain⟨y,L,D,M⟩:=c j vj B;have k3:∀b o,s.heap.get? b=some o->o.cls=.type "tuple"->N.heap.get? b=some o:=λb o e _=>by
   refine kp b o (λz=>?_) (Zb _ e);have:b=s.heap.objs.size:=by simpa using z
   rw[this]at e;exact Yc _ (Zi e)
  have un:=Y.units;exact κ.lt (by show X.A.units+1+κ.lvl<cLine;lia) (κ.keep k3 (E _ _ I.aT g)) (κ.keep k3 (M _ _ I.aT D)) hq
 ·intro P N K;rw[S]at P;refine⟨y,H,zu I K (λb o e hb=>?_),ry,q y (.inl ⟨List.eq_nil_of_length_eq_zero P,rfl⟩)⟩;have:b=s.heap.objs.size:=by simpa using hb
  exact Yc _ (by rw[this]at e;exact Zi e)
 ·intro F v N C K;rw[S]at C F;obtain⟨x,w,g,E⟩:=c _ v C;refine⟨x,H,zu I K (λb o e hb=>?_),g,q x (.inr ⟨Zv w,λu xP l m Z lP=>?_⟩)⟩
  ·have:b=s.heap.objs.size:=by simpa using hb
   exact Yc _ (by rw[this]at e;exact Zi e)
  ·obtain⟨j,B,ej⟩:=ZH.mp xP;have Mw:j<f.length:=by exact uL B J
   obtain⟨y,L,D,M⟩:=c j f[j] (by simp[Mw]);have:y=u:=by rw[Zd B]at L;rw[<- ZT L,ej]
   subst this;rw[κ.uniq (Z _ _ I.aT g) (E _ _ I.aT g),κ.uniq (lP _ _ I.aT D) (M _ _ I.aT D)];exact IH key _ j (iZ B)
end
end L2
namespace L2
open PySem PySem.Spec PyProof.Rows
theorem a_.ok1{P:ah}{w:aj}{K:PySem.W.Frag}{mg:ar->Option aa}{base:ao}{x b:ar}{st:aB}{f:af}{e:ak}{N ps:List ar}{k:Nat}{sp:Sp}(F:a_ K x b st f e)(S:aF N ps (bJ st))(len:∀c H Q E,sp c H Q E->c.length=ps.length)
  (n:∀(d:aa)(A:aq)(a:List Env)(s:ae)(H:Hp)(c:List V)(Q:VK)(E:XK),bf k (A.deeper (envOfC b (bJ st) s.heap.objs.size f d))->sp c H Q E ->
   ∃t,ir (jb (yv P w) P w K mg base N b (bJ st) f d A a s H E) (ou st) t/\t {nx:=λ_ l=>Q .cu l,rt:=Q} (start N c) H):aE P w K mg base (yv P w) (k+1) f e ps sp:=by
 obtain⟨q,r,kV,h,p,u,d,v,y,rfl,j,i⟩:=F.ex;exact P1 j i S len λA a s H c Q E g m=>n d A a s H c Q E g m
end L2
namespace Qf
def df(n r c:Nat):Int:=1+L2.least [(r:Int),(c:Int),((2^n:Nat):Int)-1-r,((2^n:Nat):Int)-1-c] 3
def rl(n r c:Nat)(L:List (List Nat×Bool))(far:Int):List (List Nat):=(L.filter λe=>decide (de n r c e.1<far)).map (·.1)
def ji(n r c:Nat)(e:List Nat×Bool):Bool:=!e.2&&decide (de n r c e.1<=df n r c)
end Qf
namespace Pr
open PySem L2 Qf
structure NK(K:PySem.W.Frag)(mg:ar->Option aa)(C:af):Prop where
 at_:mg "NotFull"=some (.ref C)
 ex:PySem.W.excIn K C Ny "ValueError.__new__"=true
abbrev K7:List ar:=["shape","row","column","leaves","last","to_the_edge","empty_ones","far","cell"]
theorem jy:aF K7 ["shape","row","column"] (bJ zh):=cZ
inductive AX(C:af)(vs:List V)(H:Hp)(Q:VK)(E:XK):Prop
 |mk(t:af)(n tp r c:Nat)(rows:List Row)(e0:vs=[.ref t,.int (r:Nat),.int (c:Nat)])(e1:g7 H t n tp rows)(e2:bK (T rows tp)<=2000)(e3:r<2^n)(e4:c<2^n)(e5:((∀e∈ck (T rows tp),ji n r c e=false)->∀H' p l,aI H H'->H l=none->H' p=some (.tup [.int (df n r c-1),.cu,.ref l])->H' l=some (.lst (vT (rl n r c (ck (T rows tp)) (df n r c))))->Q (.ref p) H'))(e6:∀e0,e0∈ck (T rows tp)->ji n r c e0=true->(∀e∈ck (T rows tp),ji n r c e=true->¬kF n r c e.1<kF n r c e0.1)->(de n r c e0.1=0->∀H',aI H H'->E (.ref C) none H')/\(de n r c e0.1≠0->∀H' p q l,aI H H'->H l=none->H' p=some (.tup [.int (de n r c e0.1-1),.ref q,.ref l])->H' q=some (.tup [.int (zO n r c e0.1),.int (zP n r c e0.1)])->H' l=some (.lst (vT (rl n r c (ck (T rows tp)) (de n r c e0.1))))->Q (.ref p) H'))
def AY(C:af):Sp:=λa H Q E=>AX C a H Q E
inductive Lies(n r c:Nat)(H:Hp)(e:List Nat×Bool)(v:V):Prop
 |mk(p q:af)(e1:v=.ref p)(h1:H p=some (.tup [.int (de n r c e.1),.ref q]))(h2:H q=some (.tup [.int (zO n r c e.1),.int (zP n r c e.1)]))
inductive Ew(L:List (List Nat×Bool))(n r c:Nat)(i:Nat)(v:V)(H:Hp):Prop
 |mk(e:List Nat×Bool)(h:L[i]?=some e)(z:Lies n r c H e v)
inductive Eu(L:List (List Nat×Bool))(n r c:Nat)(H:Hp)(v:V):Prop
 |mk(e:List Nat×Bool)(h:e∈L)(k:ji n r c e=true)(z:Lies n r c H e v)
inductive Told(C:af)(n r c:Nat)(L:List (List Nat×Bool))(H H3:Hp)(Q:VK)(E:XK)(v:V):Prop
 |mk(p0:af)(far:Int)(cv:V)(e1:v=.ref p0)(h:H3 p0=some (.tup [.int far,cv]))(qE:far=0->∀H',aI H H'->E (.ref C) none H')
  (qQ:far≠0->∀H' p l,aI H3 H'->H l=none->H' p=some (.tup [.int (far-1),cv,.ref l])->H' l=some (.lst (vT (rl n r c L far)))->Q (.ref p) H')
theorem xU9{f fS fD C:af}{fd fg fh:ak}(F:a_ K "inside" "inside" zh f fd)(B:eF mg)(EC:NK K mg C)(hD:mg "side_of"=some (.ref fD))(FD:a_ K "side_of" "side_of" zD fD fh)(bD:Binds K fh ["n"] [])(hS:mg "seen_leaves"=some (.ref fS))(FS:a_ K "seen_leaves" "seen_leaves" Cm fS fg)(bS:Binds K fg ["shape","row","column"] [])(GS:aE P w K mg base aS 18 fS fg ["shape","row","column"] AL):
  aE P w K mg base (yv P w) 19 f fd ["shape","row","column"] (AY C):=by
 have GD:aE P w K mg base aS 1 fD fh ["n"] Fs:=Ka FD;refine F.ok1 jy (λvs H Q E h=>?_) (λbO A outer s H vs Q E hr h=>?_)
 ·obtain⟨t,n,tp,r,c,rows,rfl,_⟩:=h
  rfl
 ·obtain⟨t,n,tp,r,c,rows,rfl,kK,hm,k9,kB,q0,q⟩:=h;have jH:bf 1 _:=hr.mono (by decide);refine aQ ⟨_,⟨cg 3 jy.nd (bZ GS hr hS FS.kp bS (aG (pv 0) (aG (pv 1) (aG (pv 2) aP))))⟩,?_⟩;refine aQ ⟨_,⟨cg 4 jy.nd (aO c6 (bw.go ⟨bZ GD jH hD FD.kp bD (aW.go (.cons ⟨cb cJ (pv 0) aK⟩ .nil rfl))⟩) aK)⟩,?_⟩;refine aQ ⟨_,⟨cg 5 jy.nd (aO c7 aK (bw.go ⟨cB (xc1 rfl) (by rfl) B.min ZV (aW.go (.cons ⟨pv 1⟩ (.cons ⟨pv 2⟩ (.cons ⟨aO c6 (pv 4) (pv 1)⟩ (.cons ⟨aO c6 (pv 4) (pv 2)⟩ .nil rfl) rfl) rfl) rfl))⟩))⟩,?_⟩;refine aQ ⟨_,⟨qW8 (i0:=6) K7 (bJ zh) rfl rfl rfl jy.nd rfl rfl (ux (pv 3)) (λcl C fp aH aJ=>PW.pt (Ga (md (jm (pv 1))) (Gr (c_ om (bw.go ⟨cb (Li K rfl) (pv 2) aK⟩) (pv 8) (cD _))))) (λcl C fp aH aJ=>pv 2)⟩,?_⟩;refine aQ ⟨_,⟨mY (xc3 (qX4 rfl (κ:=k3) hr xN8) (by rfl) B.min ZV (aG (pv 6) aP) (bw.go ⟨fo (aG (pv 5) (aG Pa aP))⟩)) (l_ rfl (dz (c8 7 jy.nd) (dz (c8 8 jy.nd) lM)))⟩,?_⟩;refine aQ ⟨_,⟨dE (c_ nG (pv 7) aK (cD _)) (cR (xf4 (by rfl) EC.at_ EC.ex rfl xs7 (aG se aP))) dG⟩,?_⟩;refine gj ⟨_,⟨cF (fo (aW.go (.cons ⟨aO c6 (pv 7) aK⟩ (.cons ⟨pv 8⟩ (.cons ⟨qW6 K7 (bJ zh) rfl rfl rfl jy.nd (ux (pv 3)) (λcl C fp aH aJ=>c_ iD (bw.go ⟨cb (Li K rfl) (pv 2) aK⟩) (pv 10) (cD _)) (λcl C fp aH aJ=>pv 0)⟩ .nil rfl) rfl) rfl)))⟩,?_⟩;obtain⟨⟨rp,ht,hR⟩,cn,wF⟩:=id kK;refine⟨_,rfl,_,rfl,_,rfl,t,n,tp,r,c,rows,rfl,kK,hm,k9,kB,λH1 lp s1 hsn=>?_⟩;obtain⟨ys,vG,Z,hye⟩:=hsn;have LM:=s1 _ _ ht;refine⟨_,rfl,t,_,0,.int (n:Nat),rfl,rfl,aZ.of LM,rfl,n,rfl,cn.size,?_⟩;refine⟨_,_,rfl,rfl,?_⟩;refine⟨_,rfl,_,rfl,_,rfl,_,rfl,_,_,rfl,rfl,_,rfl,_,rfl,_,_,rfl,rfl,_,_,_,_,rfl,_,_,rfl,rfl,?_⟩;obtain⟨M,He⟩:∃z,z=df n r c:=⟨_,rfl⟩;refine iM (σ':=[some (.ref t),some (.int (r:Nat)),some (.int (c:Nat)),some (.ref lp),some (.int (((2^n:Nat):Int)-1)),some (.int M),none,none,none]) (by rw[He];rfl) ?_;have epos:1<=M:=by
   have h:=(Oy (r:Int) (c:Int) (((2^n:Nat):Int)-1-r) (((2^n:Nat):Int)-1-c)).2.2.2.2;have e:M=1+least [(r:Int),(c:Int),((2^n:Nat):Int)-1-r,((2^n:Nat):Int)-1-c] 3:=He;lia
  have hL2:(ck (T rows tp)).length<=2000:=by rw[ur];exact hm
  generalize ck (T rows tp)=L at *;have Jd:∀e,ji n r c e=(!e.2&&decide (de n r c e.1<=M)):=λe=>by rw[He];rfl
  have at_:∀i y,ys[i]?=some y->∃e,L[i]?=some e/\e∈L/\gB H1 n r c y e:=λi y hy=>by
   have N:i<L.length:=by rw[<- Z];exact(cz hy).1
   exact⟨L[i],Zd N,Yz N,hye i y _ hy (Zd N)⟩
  refine⟨_,rfl,lp,rfl,⟨_,cH.of vG⟩,λD hD=>JM hD (λi=>ji n r c (L.getD i ([],false))) (Ew L n r c) (wq (K:=K) vG) (pN (QF Z hL2)) ?_ ?_ ?_⟩
  ·rintro i y H3 H4 t4 ⟨e,h1,p,q,g,I,J⟩;exact⟨e,h1,p,q,g,t4 _ _ I,t4 _ _ J⟩
  ·intro i x H3 N hx a os ho Q1 Q2 W Y;obtain⟨e,d,_,b,p,q',rfl,hb,hp,hq⟩:=at_ i x hx
   have ee:L.getD i ([],false)=e:=by rw[ZA,d];rfl
   rw[ee]at W Y;obtain⟨o1,o2,o3,rfl⟩:=L2.Gv ho
   ·
    refine⟨b,_,rfl,aZ.of (a _ _ hb),rfl,_,_,rfl,_,_,rfl,_,_,rfl,rfl,?_⟩;refine⟨_,rfl,e.2,rfl,?_⟩;have jW:=a _ _ hp;refine cw (λS=>?_) (λS=>?_)
    ·have g:e.2=false:=by simpa using S
     refine⟨_,rfl,p,_,0,.int (de n r c e.1),rfl,rfl,aZ.of jW,rfl,_,rfl,_,_,rfl,rfl,_,rfl,?_⟩;refine cw (λhd=>?_) (λhd=>?_)
     ·exact⟨_,rfl,Y (by rw[Jd,g,hd];rfl) _ _ (aI.refl _) ⟨e,d,p,q',rfl,jW,a _ _ hq⟩⟩
     ·exact W (by rw[Jd,Ye.mpr hd,VW]) _ (aI.refl _)
    ·have g:e.2=true:=by simpa using S
     exact W (by rw[Jd,g];rfl) _ (aI.refl _)
  ·intro zs X s2 vR hzl hzr;have R:∀(m:Nat)(v:V),zs[m]?=some v->Eu L n r c X v:=λm v G=>by
    have wD:m<((List.range ys.length).filter λi=>ji n r c (L.getD i ([],false))).length:=by rw[<- hzl];exact(cz G).1
    have hj:=Zd wD;have hjm:=Yz wD;generalize ((List.range ys.length).filter λi=>ji n r c (L.getD i ([],false)))[m]=j at hj hjm;obtain⟨e,h1,p,q,g,I,J⟩:=hzr m v j G hj;have vL:=(Y9.mp hjm).2;have ee:L.getD j ([],false)=e:=by rw[ZA,h1];rfl
    rw[ee]at vL;exact⟨e,Zv h1,vL,p,q,g,I,J⟩
   have O:∀e∈L,ji n r c e=true->∃v,v∈zs/\Lies n r c X e v:=λe d g=>by
    obtain⟨i,N,rfl⟩:=ZH.mp d;have Mw:i∈(List.range ys.length).filter λi=>ji n r c (L.getD i ([],false)):=Y9.mpr ⟨YJ.mpr (uL N Z),by simpa[List.getD,N]using g⟩;obtain⟨m,wD,Mm⟩:=ZH.mp Mw;have hmz:m<zs.length:=by rw[hzl];exact wD
    obtain⟨e',h1,p,q,I,J,U⟩:=hzr m zs[m] i (Zd hmz) (by rw[Zd wD,Mm]);rw[Zd N]at h1;cases h1;exact⟨zs[m],Yz hmz,p,q,I,J,U⟩
   refine⟨_,rfl,_,rfl,(by show 2<=sizeLine;decide),λkd w4=>⟨D,zs,rfl,c9 vR w4,λv G=>?_,λv G=>?_⟩⟩
   ·obtain⟨m,lP,rfl⟩:=ZH.mp G;obtain⟨e,_,_,p,q',I,J,U⟩:=R m _ (Zd lP);exact⟨_,by rw[I];exact HZ (c9 J w4) (c9 U w4)⟩
   have a:aI X (upd X kd (.tup [.int M,.cu])):=bQ w4;have G7:upd X kd (.tup [.int M,.cu]) kd=some (.tup [.int M,.cu]):=bu;generalize upd X kd (.tup [.int M,.cu])=H3 at a G7 G ⊢;obtain⟨p0,far,cv,rfl,hp0,qE,qQ⟩:Told C n r c L H H3 Q E v:=by
    rcases G with⟨hz,rfl⟩|⟨G,n5⟩
    ·refine⟨kd,M,.cu,rfl,G7,λh=>by lia,λ_ H' p l sf hl hp kx=>?_⟩;subst He;refine q0 (λe d=>?_) H' p l ((s1.trans s2).trans (a.trans sf)) hl hp kx;cases g:ji n r c e with
     |false=>rfl
     |true=>
      obtain⟨v,G,_⟩:=O e d g;rw[hz]at G;cases G
    ·obtain⟨m,lP,rfl⟩:=ZH.mp G;obtain⟨e0,yH,hf0,p,q',I,J,U⟩:=R m _ (Zd lP);have qq:=q e0 yH hf0 λe d g=>by
      obtain⟨u,hu,p',Y,e1,e2,e3⟩:=O e d g;exact n5 u hu _ _ (by rw[I];exact HZ (a _ _ J) (a _ _ U)) (by rw[e1];exact HZ (a _ _ e2) (a _ _ e3))
     exact⟨p,_,_,I,a _ _ J,qq.1,λh H' p l sf hl hp kx=>qq.2 h H' p q' l ((s1.trans s2).trans (a.trans sf)) hl hp (sf _ _ (a _ _ U)) kx⟩
   have EY:aI H1 H3:=s2.trans a;refine⟨p0,_,rfl,aZ.of hp0,rfl,_,_,rfl,_,_,rfl,rfl,?_⟩;refine iM (σ':=[some (.ref t),some (.int (r:Nat)),some (.int (c:Nat)),some (.ref lp),some (.int (((2^n:Nat):Int)-1)),some (.int M),some (.ref D),some (.int far),some cv]) rfl ?_;refine⟨_,rfl,rfl,_,rfl,?_⟩;refine cw (λh0=>?_) (λh0=>?_)
   ·exact⟨(by show 1<=sizeLine;decide),qE (by simpa using h0) H3 (s1.trans EY)⟩
   ·have DC:=EY _ _ vG;refine⟨_,rfl,_,_,rfl,rfl,_,rfl,_,rfl,lp,rfl,⟨_,cH.of DC⟩,λD2 x6=>JH x6 (λi=>decide (de n r c (L.getD i ([],false)).1<far)) (λi=>.str (txt (L.getD i ([],false)).1)) (wq (K:=K) DC) (pN (QF Z hL2)) ?_ ?_⟩
    ·intro i x H4 N hx s4 os ho Q1 Q2 W Y;obtain⟨e,d,_,b,p3,q3,rfl,wL,jW,Dq⟩:=at_ i x hx
     have ee:L.getD i ([],false)=e:=by rw[ZA,d];rfl
     rw[ee]at W Y;have RC:=EY.trans s4;obtain⟨o1,o2,o3,rfl⟩:=L2.Gv ho
     ·
      refine⟨b,_,rfl,aZ.of (RC _ _ wL),rfl,_,_,rfl,_,_,rfl,_,_,rfl,rfl,?_⟩;refine⟨_,rfl,p3,_,0,.int (de n r c e.1),rfl,rfl,aZ.of (RC _ _ jW),rfl,_,rfl,_,_,rfl,rfl,_,rfl,?_⟩;refine cw (λS=>?_) (λS=>?_)
      ·exact⟨_,rfl,Y S _ (aI.refl _)⟩
      ·exact W (Ye.mpr S) _ (aI.refl _)
    ·intro H4 s4 wO;have M3:H D2=none:=by
      cases e:H D2 with
      |none=>rfl
      |some o=>rw[EY _ _ (s1 _ _ e)]at x6;cases x6
     refine⟨(by show 3<=sizeLine;decide),λk hk=>qQ (by simpa using h0) _ k D2 (s4.trans (bQ hk)) M3 bu (c9 ?_ hk)⟩;rw[wO,Z];unfold rl vT;rw[Yq];congr 2;exact qI9 L _ _ _ _ (λi e d=>by rw[ZA,d];rfl) (λi e d=>by rw[ZA,d];rfl)
end Pr
namespace Qf
open Tr L2
theorem IE{n r c:Nat}{ad:List Nat}(e:∀d∈ad,d<4)(i:ad.length<=n)(f:r<2^n)(hc:c<2^n):(∀a b,lO n ad a b->de n r c ad<=dst r c a b)/\∃a b:Nat,lO n ad a b/\dst r c a b=de n r c ad:=by
 obtain⟨⟨a,b,h1,_,_,k⟩,j⟩:=Kx e i f hc;refine⟨λg l h=>?_,a,b,h1,(Sr k).1.symm⟩;have:=j g l h;unfold kC kF at this;rw[Bu]at this;lia
def gh(r c far:Int):Bx:=⟨r-far,c-far,2*far+1,2*far+1⟩
theorem oU{r c a b:Nat}{far:Int}:(gh r c far).has a b<->dst r c a b<=far:=by
 rw[dh];unfold gh Bx.has;simp only;lia
theorem Pg(p q:Bx):shr [p] q=p.gF q:=by
 show p.gF q+0=_;rw[XW]
theorem ID{n r c:Nat}{far:Int}{ad:List Nat}(g:∀d∈ad,d<4)(j:ad.length<=n)(i:r<2^n)(hc:c<2^n):de n r c ad<=far<->shr [gh r c far] (d_ n 0 0 ad)≠0:=by
 obtain⟨f,a,b,u,e⟩:=IE g j i hc;constructor
 ·intro h;have:=J5 (oU.mpr (by rw[e];exact h)) (gU.mpr ⟨a,b,rfl,rfl,u⟩) (l:=[gh r c far]) (by simp);exact tj this
 ·intro h;rcases J6 (q:=d_ n 0 0 ad) (l:=[gh r c far])with z|⟨p,k,a,b,h1,t⟩
  ·exact absurd z h
  ·obtain⟨w,v,rfl,rfl,m⟩:=gU.mp t;have s:p=gh r c far:=by simpa using k
   rw[s]at h1;exact Xl (f _ _ m) (oU.mp h1)
theorem Px{a h s:Int}(h0:0<=a)(h1:a+h<=s)(d:0<=h):ov a h 0 s=h:=by
 unfold ov;have c:gm (a+h) (0+s)=a+h:=by unfold gm;split<;>lia
 have b:dr a 0=a:=by unfold dr;split<;>lia
 rw[c,b];unfold dr;split<;>lia
theorem xO8{n r c:Nat}{far:Int}{t:Tr}(a:dep t<=n)(g:r<2^n)(hc:c<2^n):
  cU (λb=>shr [gh r c far] (d_ n 0 0 b)) ((ck t).filter λe=>decide (de n r c e.1<=far))=shr [gh r c far] ⟨0,0,((2^n:Nat):Int),((2^n:Nat):Int)⟩:=by
 rw[JL,Tw _ n t 0 0 a];intro e d z;obtain⟨f,h⟩:=pL n t e a d;have:=ID (far:=far) f h g hc;have z:=YA z;by_cases y:shr [gh r c far] (d_ n 0 0 e.1)=0
 ·exact y
 ·exact absurd (this.mpr y) z
theorem xj9{n r c:Nat}{far:Int}(h0:0<=far)(h1:far<=r)(d:far<=c)(b:(r:Int)+far<((2^n:Nat):Int))(e:(c:Int)+far<((2^n:Nat):Int)):shr [gh r c far] ⟨0,0,((2^n:Nat):Int),((2^n:Nat):Int)⟩=(2*far+1)*(2*far+1):=by
 rw[Pg];generalize ((2^n:Nat):Int)=S at *;unfold Bx.gF gh;show ov (r-far) (2*far+1) 0 _*ov (c-far) (2*far+1) 0 _=_;rw[Px (a:=(r:Int)-far) (s:=S) (Ip h1) (Qp b) (Ri h0),Px (a:=(c:Int)-far) (s:=S) (Ip d) (Qp e) (Ri h0)]
def gN:Nat->Nat->Nat->Tr->List Row
 |m,R,C,.o=>[[R,C,2^m,2^m]]
 |m+1,R,C,.nd a b c d=>gN m R C a++(gN m R (C+2^m) b++(gN m (R+2^m) C c++gN m (R+2^m) (C+2^m) d))
 |_,_,_,_=>[]
def iV(r:Row):Bx:=⟨(r.getD 0 0:Nat),(r.getD 1 0:Nat),(r.getD 2 0:Nat),(r.getD 3 0:Nat)⟩
def e_(g:Bx->Int):List Row->Int
 |[]=>0
 |r::l=>g (iV r)+e_ g l
theorem E5(g:Bx->Int):∀l m,e_ g (l++m)=e_ g l+e_ g m
 |[],m=>(Wh _).symm
 |e::l,m=>by
  show g (iV e)+e_ g (l++m)=g (iV e)+e_ g l+e_ g m;rw[E5 g l m,Vu]
theorem xc7(g:Bx->Int){l m:List Row}(h:l.Perm m):e_ g l=e_ g m:=by
 induction h with
 |nil=>rfl
 |cons x _ b=>show g _+_=g _+_;rw[b]
 |swap x y l=>show g _+(g _+_)=g _+(g _+_);lia
 |trans _ _ h1 a=>exact h1.trans a
theorem BO(x:Nat):∀l:List (List Nat×Bool),(l.map λe=>(x::e.1,e.2)).filter (·.2)=(l.filter (·.2)).map λe=>(x::e.1,e.2)
 |[]=>rfl
 |(a,b)::l=>by
  rw[ZC,Yy,Yy,BO x l];cases b<;>rfl
theorem xx7(g:Bx->Int):∀(n:Nat)(t:Tr)(R C:Nat),dep t<=n->e_ g (gN n R C t)=cU (λb=>g (d_ n R C b)) ((ck t).filter (·.2)):=by
 have d:∀(n R C:Nat),e_ g (gN n R C .z)=cU (λb=>g (d_ n R C b)) ((ck .z).filter (·.2)):=λn R C=>by cases n<;>rfl
 have f:∀(n R C:Nat),e_ g (gN n R C .o)=cU (λb=>g (d_ n R C b)) ((ck .o).filter (·.2)):=λn R C=>by
  have e:gN n R C .o=[[R,C,2^n,2^n]]:=by cases n<;>rfl
  rw[e];show g (iV [R,C,2^n,2^n])+0=g (d_ n R C [])+0;have:iV [R,C,2^n,2^n]=d_ n R C []:=by
   unfold d_;rw[zd,zd];show Bx.mk _ _ _ _=Bx.mk ((R:Int)+0) ((C:Int)+0) _ _;rw[XW,XW]
   rfl
  rw[this]
 intro n
 induction n with
 |zero=>
  intro t R C a;rcases n8 a with rfl|rfl
  ·exact d ..
  ·exact f ..
 |succ m c=>
  intro t R C a;cases t with
  |z=>exact d ..
  |o=>exact f ..
  |nd p q s u=>
   have h:=nI (x:=0) (by decide) a;have h1:=nI (x:=1) (by decide) a;have j:=nI (x:=2) (by decide) a;have i:=nI (x:=3) (by decide) a;show e_ g (_++(_++(_++_)))=cU _ ((_++_++_++_:List _).filter _);rw[E5,E5,E5,Xh,Xh,Xh,BO,BO,BO,BO,uy,uy,uy,su,su,su,su,c p _ _ h,c q _ _ h1,c s _ _ j,c u _ _ i];simp only[Sg,Nat.reduceDiv,Nat.reduceMod,Uv,V8,Int.natCast_zero,XW,YQ];lia
theorem xk0{n:Nat}{t:Tr}{l:List Bx}(a:dep t<=n)(c:∀e∈ck t,e.2=false->shr l (d_ n 0 0 e.1)=0):e_ (λb=>shr l b) (gN n 0 0 t)=shr l ⟨0,0,((2^n:Nat):Int),((2^n:Nat):Int)⟩:=by
 rw[xx7 _ n t 0 0 a];rw[JL _ (·.2) _ c];exact Tw l n t 0 0 a
end Qf
namespace Pr
open PySem L2 Qf
abbrev nDp:List ar:=["_law_told","_law_row","_law_column","_law_far","_law_leaves","_law_side","_law_around","_law_many","_law_leaf_here","_law_first","_law_left","_law_wide","_law_share_here"]
abbrev sN:List ar:=["_law_told","_law_row","_law_column","_law_far","_law_leaves"]
theorem iC:aF nDp sN (bJ Fu):=cZ
inductive A6(vs:List V)(H:Hp)(Q:VK):Prop
 |mk(t l:af)(n tp r c:Nat)(fr:Int)(rows:List Row)(e0:vs=[.ref t,.int (r:Nat),.int (c:Nat),.int (fr-1),.ref l])(e1:g7 H t n tp rows)(e2:bK (T rows tp)<=2000)(e3:(1<=fr/\fr<=r+1/\fr<=c+1)/\(r:Int)+fr<=((2^n:Nat):Int)/\(c:Int)+fr<=((2^n:Nat):Int))
  (e4:H l=some (.lst (vT (rl n r c (ck (T rows tp)) fr)))) (e5:∀e∈ck (T rows tp),de n r c e.1<fr->e.2=true) (e6:∀H',aI H H'->Q (.bl true) H')
def A7:Sp:=λa H Q _=>A6 a H Q
theorem xV0{f fL fS fC:af}{fd lQ fg fi:ak}(F:a_ K "_law_deep_right" "_law_deep_right" Fu f fd)(B:eF mg)(LN:mg "sorted"=none)
  (hL:mg "_law_leaf"=some (.ref fL)) (FL:a_ K "_law_leaf" "_law_leaf" xa fL lQ) (bL:Binds K lQ fK []) (GL:aE P w K mg base aS 1 fL lQ fK rS)
  (hS:mg "_law_square"=some (.ref fS)) (FS:a_ K "_law_square" "_law_square" Gj fS fg) (bS:Binds K fg ["_law_n","_law_address"] []) (GS:aE P w K mg base aS 1 fS fg ["_law_n","_law_address"] Gf)
  (hC:mg "_law_common"=some (.ref fC)) (FC:a_ K "_law_common" "_law_common" BB fC fi) (bC:Binds K fi ["_law_box_here","_law_other"] []) (GC:aE P w K mg base aS 1 fC fi ["_law_box_here","_law_other"] vp):
  aE P w K mg base aS 2 f fd sN A7:=by
 refine F.ok iC (λvs H Q E h=>?_) (λbO A outer s H vs Q E L h=>?_)
 ·obtain⟨t,l,n,I,r,c,a,rows,rfl,_⟩:=h
  rfl
 ·obtain⟨t,l,n,I,r,c,a,rows,rfl,kK,kH,⟨⟨f1,f2,f3⟩,f4,f5⟩,D,m_,q⟩:=h;refine aQ ⟨_,⟨cg 5 iC.nd (aO jl aK (cb cJ (pv 0) aK))⟩,?_⟩;refine aQ ⟨_,⟨cg 6 iC.nd (@fo _ _ _ _ _ (aW.go (.cons ⟨aO c6 (pv 1) (pv 3)⟩ (.cons ⟨aO c6 (pv 2) (pv 3)⟩ (.cons ⟨aO c7 (aO gJ aK (pv 3)) aK⟩ (.cons ⟨aO c7 (aO gJ aK (pv 3)) aK⟩ .nil rfl) rfl) rfl) rfl)))⟩,?_⟩;refine aQ ⟨_,⟨cg 7 iC.nd aK⟩,?_⟩;refine aQ ⟨_,⟨pO Yx rfl (ux (pv 4)) (c8 8 iC.nd)
   (gG.go (.cons ⟨mY (bw.go ⟨bZ GS L hS FS.kp bS (aW.go (.cons ⟨cb cJ (pv 0) aK⟩ (.cons ⟨pv 8⟩ .nil rfl) rfl))⟩) (l_ rfl (dz (c8 9 iC.nd) (dz (c8 10 iC.nd) (dz (c8 11 iC.nd) lM))))⟩
   (.cons ⟨cg 12 iC.nd (bw.go ⟨bZ GC L hC FC.kp bC (aW.go (.cons ⟨pv 6⟩ (.cons ⟨fo (aW.go (.cons ⟨pv 9⟩ (.cons ⟨pv 10⟩ (.cons ⟨pv 11⟩ (.cons ⟨pv 11⟩ .nil rfl) rfl) rfl) rfl))⟩ .nil rfl) rfl))⟩)⟩
   (.cons ⟨dE (PW.pt (iW (c_ (Cg L) (bw.go ⟨bZ GL L hL FL.kp bL (aW.go (.cons ⟨pv 0⟩ (.cons ⟨pv 9⟩ (.cons ⟨pv 10⟩ .nil rfl) rfl) rfl))⟩) (bw.go ⟨fo (aW.go (.cons ⟨pv 8⟩ (.cons ⟨aK⟩ .nil rfl) rfl))⟩) (cD _)) (mZ (c_ nG (pv 12) aK (cD _))))) (cR (cF j_)) dG⟩
   (.one ⟨cg 7 iC.nd (aO c7 (pv 7) (pv 12))⟩)))))⟩,?_⟩
  refine aQ ⟨_,⟨dE (PW.pt (iW (c_ (Cg L) (pv 4) (bw.go ⟨cB (qD7 rfl L) (by rfl) LN PyProof.Rows.boot_sorted (aW.go (.cons ⟨ki (qX1 rfl) (by rfl) B.set PyProof.Rows.boot_set (aG (pv 4) aP)⟩ .nil rfl))⟩) (cD _))
   (iW (c_ iD (bw.go ⟨cB (oy rfl) (by rfl) B.min ZV (aG (pv 1) (aG (pv 2) aP))⟩) (pv 3) (cD _))
   (mZ (c_ Ic (bw.go ⟨aO c7 (bw.go ⟨cB (m7 rfl) (by rfl) B.max ZM (aG (pv 1) (aG (pv 2) aP))⟩) (pv 3)⟩) (pv 5) (cD _)))))) (cR (cF j_)) dG⟩,?_⟩
  refine gj ⟨_,⟨cF (jn nG (pv 7) (bw.go ⟨aO gJ (aO c7 (aO gJ aK (pv 3)) aK) (aO c7 (aO gJ aK (pv 3)) aK)⟩) (cD _))⟩,?_⟩;obtain⟨⟨rp,ht,hR⟩,cn,wF⟩:=id kK;have hn:=cn.size;have vP:Tr.dep (T rows I)<=n:=zt cn;have qR:(1:Int)*2^((n:Nat):Int).toNat=((2^n:Nat):Int):=by rw[WX,ZD];simp
  have hSm:=zo hn;have k9:r<2^n:=by exact Qa f4 f1
  have kB:c<2^n:=by exact Qa f5 f1
  have tS:-(2^64)<2*(a-1)+1/\2*(a-1)+1<2^64:=by
   generalize 2^n=S at hSm k9 f4;lia
  obtain⟨g,N⟩:∃g,g=(ck (T rows I)).filter λe=>decide (de n r c e.1<=a-1):=⟨_,rfl⟩;have wY:rl n r c (ck (T rows I)) a=g.map (·.1):=by
   rw[N];unfold rl;congr 1;refine List.filter_congr λe _=>?_;rw[YT];lia
  have jU:=xO8 (far:=a-1) vP k9 kB;rw[<- N,xj9 (Ip f1) (QX f2) (QX f3) (QL f4) (QL f5)]at jU;have LP:∀j,(∀d∈j,d<4)->j.length<=n->(de n r c j<=a-1<->_):=λj G D=>ID G D k9 kB;have DY:∀x∈g,x∈ck (T rows I)/\de n r c x.1<=a-1:=λx C=>by
   rw[N]at C;obtain⟨h1,h2⟩:=Y9.mp C;exact⟨h1,ZG h2⟩
  have MP:(g.map (·.1)).Pairwise (·<·):=by
   rw[N];exact List.Pairwise.sublist (List.Sublist.map _ List.filter_sublist) (Bv _)
  have j9:(g.map (·.1)).length<=2000:=by
   rw[Zh,N];exact ZI (Wm _ _) (by rw[ur];exact kH)
  rw[wY]at D;have M5:∀x∈g.map (·.1),∀d∈x,d<4:=λx C=>by
   obtain⟨e,h1,rfl⟩:=Yu.mp C;exact(pL n _ e vP (DY e h1).1).1
  refine⟨_,rfl,t,_,0,.int (n:Nat),rfl,rfl,aZ.of ht,rfl,_,_,rfl,rfl,⟨mw,qj hn,by decide⟩,?_⟩;refine iM (σ':=[some (.ref t),some (.int (r:Nat)),some (.int (c:Nat)),some (.int (a-1)),some (.ref l),some (.int ((2^n:Nat):Int)),none,none,none,none,none,none,none]) (Z9 (λz:Int=>[some (V.ref t),some (V.int (r:Nat)),some (V.int (c:Nat)),some (V.int (a-1)),some (V.ref l),some (V.int z),none,none,none,none,none,none,none]) qR) ?_;refine⟨_,rfl,_,rfl,_,_,rfl,rfl,_,rfl,_,rfl,_,_,rfl,rfl,?_⟩;refine⟨_,rfl,_,_,rfl,rfl,.inl ⟨by decide,by decide⟩,_,_,rfl,rfl,_,rfl,_,_,rfl,rfl,.inl ⟨by decide,by decide⟩,_,_,rfl,rfl,(by show 4<=sizeLine;decide),λm hqa=>?_⟩;have v:aI H (upd H m (.tup (k_ (gh r c (a-1))))):=bQ hqa;have Z:upd H m (.tup (k_ (gh r c (a-1)))) m=some (.tup (k_ (gh r c (a-1)))):=bu;refine(λ(go:∀H3,aI H H3->H3 m=some (.tup (k_ (gh r c (a-1))))->_)=>go _ v Z) ?_;clear v Z;intro H3 v Z;refine⟨_,rfl,l,rfl,⟨_,cH.of (v _ _ D)⟩,xe4 (K:=K) (xs:=vT (g.map (·.1))) (λi W M=>aI H3 M/\∃v8 X u p O,W=[some (.ref t),some (.int (r:Nat)),some (.int (c:Nat)),some (.int (a-1)),some (.ref l),some (.int ((2^n:Nat):Int)),some (.ref m),some (.int (cU (λj=>shr [gh r c (a-1)] (d_ n 0 0 j)) (g.take i))),v8,X,u,p,O]) ⟨aI.refl _,none,none,none,none,none,rfl⟩ (λi W M _ ⟨J,_⟩=>cH.of (J _ _ (v _ _ D))) ?_ ?_⟩
  ·rintro i x W M C ⟨J,v8,X,u,p,O,rfl⟩;unfold vT at C;rw[Zf,Zf]at C;obtain⟨j,MT,rfl⟩:=Zj.mp C;obtain⟨e,he,rfl⟩:=Zj.mp MT;have etk:g.take (i+1)=g.take i++[e]:=by rw[List.take_succ,he];rfl
   obtain⟨vO,jA⟩:=DY e (Zv he);obtain⟨G,R⟩:=pL n _ e vP vO;have hef:e.2=true:=m_ e vO (by lia);have jG:=(LP e.1 G R).mp jA;have c1:gS n e.1+2^(n-e.1.length)<=2^n:=zH J_ G R;have c2:gX n e.1+2^(n-e.1.length)<=2^n:=zH Kz G R;have U:0<2^(n-e.1.length):=XB (by decide);have Y:=v.trans J;dsimp only[di];refine iM (σ':=[some (.ref t),some (.int (r:Nat)),some (.int (c:Nat)),some (.int (a-1)),some (.ref l),some (.int ((2^n:Nat):Int)),some (.ref m),some (.int (cU (λj=>shr [gh r c (a-1)] (d_ n 0 0 j)) (g.take i))),some (.str (txt e.1)),X,u,p,O]) rfl ?_;refine zK λkf DK=>?_;refine⟨_,rfl,t,_,0,.int (n:Nat),rfl,rfl,aZ.of (Y _ _ ht),rfl,_,rfl,n,e.1,rfl,hn,G,R,λpb wR=>?_⟩;refine⟨pb,_,rfl,aZ.of bu,rfl,_,_,rfl,_,_,rfl,_,_,rfl,rfl,?_⟩;have Jk:=J.trans (bQ (o:=.tup (vN [gS n e.1,gX n e.1,2^(n-e.1.length)])) wR);generalize upd M pb (.tup (vN [gS n e.1,gX n e.1,2^(n-e.1.length)]))=H5 at Jk ⊢;refine iM (σ':=[some (.ref t),some (.int (r:Nat)),some (.int (c:Nat)),some (.int (a-1)),some (.ref l),some (.int ((2^n:Nat):Int)),some (.ref m),some (.int (cU (λj=>shr [gh r c (a-1)] (d_ n 0 0 j)) (g.take i))),some (.str (txt e.1)),some (.int ((gS n e.1:Nat):Int)),some (.int ((gX n e.1:Nat):Int)),some (.int ((2^(n-e.1.length):Nat):Int)),O]) rfl ?_;have Nn:d_ n 0 0 e.1=⟨(gS n e.1:Nat),(gX n e.1:Nat),((2^(n-e.1.length):Nat):Int),((2^(n-e.1.length):Nat):Int)⟩:=by unfold d_;rw[Wh,Wh]
   refine⟨_,rfl,_,rfl,_,rfl,_,rfl,_,rfl,(by show 4<=sizeLine;decide),λk hk=>⟨m,k,gh r c (a-1),d_ n 0 0 e.1,rfl,c9 (Jk _ _ Z) hk,by rw[bu,Nn];rfl,?_,?_,?_⟩⟩
   ·rw[Nn];show(0:Int)<=((2^(n-e.1.length):Nat):Int);exact mw
   ·rw[Nn];show((2^(n-e.1.length):Nat):Int)<=4096;lia
   rw[<- Pg];have RB:=Jk.trans (bQ (o:=.tup [V.int ((gS n e.1:Nat):Int),V.int ((gX n e.1:Nat):Int),V.int ((2^(n-e.1.length):Nat):Int),V.int ((2^(n-e.1.length):Nat):Int)]) hk);have s06:=v.trans RB;refine⟨_,rfl,_,rfl,_,rfl,t,n,I,gS n e.1,gX n e.1,rows,rfl,sr kK s06.b_,hn,λH7 p7 y s7 hy hT vX=>?_⟩;obtain⟨l1,l2⟩:=J9 (r:=gS n e.1) (c:=gX n e.1) (b:=e.2) vP (p6 U c1) (p6 U c2) vO ⟨Ze _,Nat.lt_add_of_pos_right U,Ze _,Nat.lt_add_of_pos_right U⟩;rw[l2,hef]at hT;have Ly:y=1:=t6 (b:=true) cn.iL hy hT;subst Ly;rw[show(cO (T rows I) (eB (gS n e.1) (gX n e.1) 0 n)).2=e.1 from l1]at vX;have kA:(PyData.tuple [.str (txt e.1),.int ((1:Nat):Int)]).canLay0=true:=by
    show(PyData.strOk (txt e.1)&&true)=true;rw[Pz G]
    rfl
   refine⟨_,rfl,(by show 2<=sizeLine;decide),λk2 DL=>⟨_,_,.tup (c9 vX DL) (.cons (.str _) (.cons (.int _) .nil)),.tup bu (.cons (.str _) (.cons (.int _) .nil)),kA,kA,by show 1<=60;decide,_,rfl,?_⟩⟩;rw[show PyData.eqv (.tuple [.str (txt e.1),.int ((1:Nat):Int)]) (.tuple [.str (txt e.1),.int 1])=true from PySem.SeqAt.eqv_refl _ kA];refine bY ?_;refine⟨_,rfl,rfl,_,rfl,?_⟩;have hz:decide (V.int (shr [gh r c (a-1)] (d_ n 0 0 e.1))=V.int 0)=false:=Zo λz=>jG (V.int.inj z);rw[hz];refine bY ?_;refine⟨_,rfl,_,rfl,_,_,rfl,rfl,DK _ _ ⟨(RB.trans s7).trans (bQ DL),some (.str (txt e.1)),some (.int ((gS n e.1:Nat):Int)),some (.int ((gX n e.1:Nat):Int)),some (.int ((2^(n-e.1.length):Nat):Int)),some (.int (shr [gh r c (a-1)] (d_ n 0 0 e.1))),?_⟩⟩;rw[etk,uy];show _=[some (V.ref t),some (.int (r:Nat)),some (.int (c:Nat)),some (.int (a-1)),some (.ref l),some (.int ((2^n:Nat):Int)),some (.ref m),some (.int (_+(shr [gh r c (a-1)] (d_ n 0 0 e.1)+0))),some (.str (txt e.1)),some (.int ((gS n e.1:Nat):Int)),some (.int ((gX n e.1:Nat):Int)),some (.int ((2^(n-e.1.length):Nat):Int)),some (.int (shr [gh r c (a-1)] (d_ n 0 0 e.1)))];rw[XW]
   rfl
  ·rintro W M ⟨J,v8,X,u,p,O,rfl⟩;have el:g.take (vT (g.map (·.1))).length=g:=by unfold vT;rw[Zh,Zh,WD]
   rw[el,jU];have Y:=v.trans J;have evt:=xO3 (g.map (·.1));refine⟨_,rfl,_,rfl,l,(g.map (·.1)).map txt,rfl,by rw[<- evt];exact Y _ _ D,by rw[Zh];exact Xf (Nat.succ_le_succ j9) (by decide),λr2 kN=>⟨r2,_,rfl,bu,λq5 us ls hq5 LK wT jP has=>?_⟩⟩;have LJ:us=vT (g.map (·.1)):=qX2 MP LK wT jP has;subst LJ;have s5:aI H (upd (upd M r2 (En P w r2 ((g.map (·.1)).map txt))) q5 (.lst (vT (g.map (·.1))))):=(Y.trans (bQ kN)).trans (bQ hq5);have tM:(PyData.list (yg (g.map (·.1)))).canLay0=true:=Oz _ M5;refine⟨_,_,.lst (s5 _ _ D) (Kk _),.lst bu (Kk _),tM,tM,?_,_,rfl,?_⟩
   ·show PyData.depthAll (yg (g.map (·.1)))+1<=60;rw[Sb];decide
   rw[PySem.SeqAt.eqv_refl _ tM];refine bY ?_;have Ml:decide ((if(c:Int)<r then(c:Int)else r)<a-1)=false:=Zo λz=>by
    split at z<;>lia
   refine⟨_,rfl,_,rfl,_,_,rfl,_,rfl,_,_,rfl,rfl,_,rfl,?_⟩;rw[Ml];refine bY ?_;have Dx:decide (((2^n:Nat):Int)<=(if(c:Int)>r then(c:Int)else r)+(a-1))=false:=Zo λz=>by
    split at z<;>lia
   refine⟨_,rfl,_,rfl,_,_,rfl,_,rfl,_,_,rfl,rfl,_,rfl,_,_,rfl,rfl,_,rfl,?_⟩;rw[Dx];refine bY ?_;refine⟨_,rfl,_,rfl,_,_,rfl,rfl,.inl ⟨by decide,by decide⟩,_,_,rfl,rfl,_,rfl,_,_,rfl,rfl,.inl ⟨by decide,by decide⟩,_,_,rfl,rfl,_,_,rfl,rfl,.inl tS,rfl,?_⟩;rw[Zt rfl];exact q _ s5
theorem xk1(b:List PyData):PyData.eqv (.list b) (.list [])=decide (b=[]):=by
 cases b with
 |nil=>rfl
 |cons a l=>simp[PyData.eqv,PyData.eqvAll]
theorem bc.push{H:Hp}{p k:af}{rows:List Row}{r:Row}{bs:List af}(h0:H p=some (.lst (bs.map V.ref)))(h1:bs.length=rows.length)(l:∀(i:Nat) b r,bs[i]?=some b->rows[i]?=some r->H b=some (.tup (vN r)))(f:H k=none):bc (upd (upd H k (.tup (vN r))) p (.lst (bs.map V.ref++[.ref k]))) p (rows++[r]):=by
 have g:p≠k:=dI h0 f;have h:∀{b:af}{x:List V},H b=some (.tup x)->upd (upd H k (.tup (vN r))) p (.lst (bs.map V.ref++[.ref k])) b=some (.tup x):=λ{b x} e=>by
  rw[cN (λz=>by rw[z,h0]at e;cases e),cN (dI e f)];exact e
 refine⟨bs++[k],by rw[bu,ZY];rfl,by rw[Zn,Zn,h1];rfl,λi b x a c=>?_⟩;by_cases d:i<bs.length
 ·rw[Zw d]at a;rw[Zw (nN d h1)]at c;exact h (l i b x a c)
 ·rw[ZF (iE d)]at a;rw[ZF (Il h1 d),<- h1]at c;have j:i-bs.length=0:=by
   have:=(cz a).1;simp at this;exact this
  rw[j]at a c;cases a;cases c;rw[cN (Xc g),bu]
end Pr
namespace Qf
open Tr
def kl:Tr->Nat
 |.nd a b c d=>1+kl a+kl b+kl c+kl d
 |_=>1
structure Wt where
 y:Nat
 R:Nat
 C:Nat
 m:Nat
def Wt.row(x:Wt):Row:=[x.y,x.R,x.C,2^x.m]
def oM(rows:List Row):List Wt->List Row
 |[]=>[]
 |x::l=>gN x.m x.R x.C (T rows x.y)++oM rows l
def oh(rows:List Row):List Wt->Nat
 |[]=>0
 |x::l=>bK (T rows x.y)+oh rows l
def lW(rows:List Row):List Wt->Nat
 |[]=>0
 |x::l=>kl (T rows x.y)+lW rows l
theorem JZ(rows:List Row):∀l m,oM rows (l++m)=oM rows l++oM rows m
 |[],m=>rfl
 |x::l,m=>by show _++oM rows (l++m)=(_++oM rows l)++_;rw[JZ rows l m,Yg]
theorem JY(rows:List Row):∀l m,oh rows (l++m)=oh rows l+oh rows m
 |[],m=>(WE _).symm
 |x::l,m=>by show _+oh rows (l++m)=(_+oh rows l)+_;rw[JY rows l m,Vt]
theorem JX(rows:List Row):∀l m,lW rows (l++m)=lW rows l+lW rows m
 |[],m=>(WE _).symm
 |x::l,m=>by show _+lW rows (l++m)=(_+lW rows l)+_;rw[JX rows l m,Vt]
theorem JW:∀t:Tr,0<bK t
 |.z=>by decide
 |.o=>by decide
 |.nd a b c d=>by have:=JW a;show 0<bK a+bK b+bK c+bK d;lia
theorem Pf(rows:List Row):∀l,l.length<=oh rows l
 |[]=>Ze _
 |x::l=>by
  have:=Pf rows l;have:=JW (T rows x.y);show l.length+1<=bK (T rows x.y)+oh rows l;lia
end Qf
namespace Pr
open PySem L2 Qf
theorem xO9(l m:List Wt):(l++m).map Wt.row=l.map Wt.row++m.map Wt.row:=ZY
theorem SS{H:Hp}{p k:af}{rows:List Row}{r:Row}(h:bc H p rows)(c:H k=none):∃a,H p=some (.lst a)/\a.length=rows.length/\bc (upd (upd H k (.tup (vN r))) p (.lst (a++[.ref k]))) p (rows++[r])/\cf p H (upd (upd H k (.tup (vN r))) p (.lst (a++[.ref k]))):=by
 obtain⟨bs,d,h1,g⟩:=h;refine⟨_,d,by rw[Zh];exact h1,bc.push d h1 g c,λb o e f=>?_⟩;rw[cN f,cN (dI e c)];exact e
theorem xk2{H:Hp}{p:af}{rows:List Row}{r:Row}(h:bc H p (rows++[r])):∃d b,H p=some (.lst (d++[.ref b]))/\d.length=rows.length/\H b=some (.tup (vN r))/\bc (upd H p (.lst d)) p rows/\cf p H (upd H p (.lst d)):=by
 obtain⟨bs,k,h1,l⟩:=h;rcases List.eq_nil_or_concat bs with rfl|⟨a,b,rfl⟩
 ·rw[Zn]at h1;simp at h1
 rw[List.concat_eq_append]at *;have f:a.length=rows.length:=by rw[Zn,Zn]at h1;simp at h1;exact h1
 have hb:H b=some (.tup (vN r)):=l a.length b r (by simp) (by rw[f];simp);refine⟨a.map V.ref,b,by rw[k,ZY];rfl,by rw[Zh];exact f,hb,⟨a,bu,f,λi c x j g=>?_⟩,λc o e m=>by rw[cN m];exact e⟩;have n:=(cz j).1;have q:=(cz g).1;have e:=l i c x (by rw[Zw n];exact j) (by rw[Zw q];exact g);rw[cN (λz=>by rw[z,k]at e;cases e)];exact e
abbrev nFb:List ar:=["_law_told","_law_found","_law_waiting","_law_number_here","_law_row","_law_column","_law_side","_law_half","_law_k","_law_quarter"]
theorem iB:aF nFb ["_law_told"] (bJ Fv):=cZ
inductive A0(vs:List V)(H:Hp)(Q:VK):Prop
 |mk(t:af)(n tp:Nat)(rows:List Row)(e0:vs=[.ref t])(e1:g7 H t n tp rows)(e2:bK (T rows tp)<=2000)(e3:∀H' l fs,aI H H'->bc H' l fs->fs.Perm (gN n 0 0 (T rows tp))->fs.length<=2000->Q (.ref l) H')
def A3:Sp:=λa H Q _=>A0 a H Q
def Em(rows:List Row)(x:Wt):Prop:=x.y<rows.length+2/\Tr.dep (T rows x.y)<=x.m/\x.m<=12
inductive FbI(t fa wa:af)(n tp:Nat)(rows:List Row)(H:Hp)(m:Nat)(σ:St)(H3:Hp):Prop
 |mk(ws:List Wt)(fs:List Row)(v3 v4 v5 v6 v7 v8 v9:Option V)(e:σ=[some (.ref t),some (.ref fa),some (.ref wa),v3,v4,v5,v6,v7,v8,v9])(hW:bc H3 wa (ws.map Wt.row))(hF:bc H3 fa fs)(aT:∀x∈ws,Em rows x)(hp:(fs++oM rows ws).Perm (gN n 0 0 (T rows tp)))(hl:fs.length+oh rows ws<=2000)(hm:m=lW rows ws)(s:aI H H3)
theorem xV1{f:af}{fd:ak}(F:a_ K "_law_full_boxes" "_law_full_boxes" Fv f fd)(B:eF mg):aE P w K mg base aS 1 f fd ["_law_told"] A3:=by
 refine F.ok iB (λvs H Q E h=>?_) (λbO A outer s H vs Q E hr h=>?_)
 ·obtain⟨t,n,O,rows,rfl,_⟩:=h
  rfl
 ·obtain⟨t,n,O,rows,rfl,hS,kH,q⟩:=h;refine aQ ⟨_,⟨cg 1 iB.nd (jk aP)⟩,?_⟩;refine aQ ⟨_,⟨cg 2 iB.nd (@jk _ _ _ _ (aW.go (.cons ⟨@fo _ _ _ _ _ (aW.go (.cons ⟨cb cJ (pv 0) aK⟩ (.cons ⟨aK⟩ (.cons ⟨aK⟩ (.cons ⟨aO jl aK (cb cJ (pv 0) aK)⟩ .nil rfl) rfl) rfl) rfl))⟩ .nil rfl)))⟩,?_⟩;refine aQ ⟨_,⟨xe2 Yx (c_ (Cg hr) (pv 2) (jk aP) (cD _))
   (gG.go (.cons ⟨mY (bw.go ⟨xK0 YI PySem.F.slot_list_pop PySem.F.type_list_pop xK1 (pv 2)⟩) (l_ rfl (dz (c8 3 iB.nd) (dz (c8 4 iB.nd) (dz (c8 5 iB.nd) (dz (c8 6 iB.nd) lM)))))⟩
   (.cons ⟨Bs (dE (c_ nG (pv 3) aK (cD _)) (gG.go (.one ⟨ke (zF YI YZ Y0 wu (pv 1) (aG (bw.go ⟨@fo _ _ _ _ _ (aW.go (.cons ⟨pv 4⟩ (.cons ⟨pv 5⟩ (.cons ⟨pv 6⟩ (.cons ⟨pv 6⟩ .nil rfl) rfl) rfl) rfl))⟩) aP))⟩)) dG)⟩
   (.one ⟨dE (c_ zG (pv 3) aK (cD _)) (gG.go (.cons ⟨cg 7 iB.nd (aO rq (pv 6) aK)⟩
    (.one ⟨pO Yx rfl (Kv (by rfl) B.enum (aG (bw.go ⟨cb cJ (bw.go ⟨cb cJ (pv 0) aK⟩) (aO c6 (pv 3) aK)⟩) aP)) (l_ rfl (dz (c8 8 iB.nd) (dz (c8 9 iB.nd) lM)))
     (gG.go (.one ⟨ke (zF YI YZ Y0 wu (pv 2) (aG (bw.go ⟨@fo _ _ _ _ _ (aW.go (.cons ⟨pv 9⟩ (.cons ⟨aO c7 (pv 4) (aO gJ (pv 7) (aO rq (pv 8) aK))⟩ (.cons ⟨aO c7 (pv 5) (aO gJ (pv 7) (aO wj (pv 8) aK))⟩ (.cons ⟨pv 7⟩ .nil rfl) rfl) rfl) rfl))⟩) aP))⟩))⟩))) dG⟩))))⟩,?_⟩
  refine gj ⟨_,⟨cF (pv 1)⟩,?_⟩;obtain⟨⟨rp,ht,hR⟩,cn,wF⟩:=id hS;have ok:=cn.iL;have hn:=cn.size;have qR:(1:Int)*2^((n:Nat):Int).toNat=((2^n:Nat):Int):=by rw[WX,ZD];simp
  refine⟨(by show 0<=sizeLine;decide),λl G9=>?_⟩;have X:aI H (upd H l (.lst [])):=bQ G9;have zZ:upd H l (.lst []) l=some (.lst []):=bu;refine(λ(go:∀H1,aI H H1->H1 l=some (.lst [])->_)=>go _ X zZ) ?_;clear X zZ;intro H1 X zZ;refine⟨_,rfl,t,_,1,.int (O:Nat),rfl,rfl,aZ.of (X _ _ ht),rfl,_,rfl,t,_,0,.int (n:Nat),rfl,rfl,aZ.of (X _ _ ht),rfl,_,_,rfl,rfl,⟨mw,qj hn,by decide⟩,(by show 4<=sizeLine;decide),λk0 N=>⟨(by show 1<=sizeLine;decide),λj De=>?_⟩⟩;have s2:=(bQ (o:=.tup [V.int (O:Nat),V.int 0,V.int 0,V.int ((1:Int)*2^((n:Nat):Int).toNat)]) N).trans (bQ (o:=.lst [V.ref k0]) De);have yN:bc (upd (upd H1 k0 (.tup [V.int (O:Nat),V.int 0,V.int 0,V.int ((1:Int)*2^((n:Nat):Int).toNat)])) j (.lst [V.ref k0])) j ([Wt.mk O 0 0 n].map Wt.row):=by
   refine⟨[k0],bu,rfl,λi b r M g2=>?_⟩
   match i,M,g2 with
   |0,M,g2=>
    cases M;cases g2;rw[c9 bu De,qR]
    rfl
   |i+1,M,_=>cases M
  have LG:H1 j=none:=by
   cases e:H1 j with
   |none=>rfl
   |some o=>rw[c9 e N]at De;cases De
  refine(λ(go:∀H2,aI H1 H2->bc H2 j ([Wt.mk O 0 0 n].map Wt.row)->_)=>go _ s2 yN) ?_;clear s2 yN De N;intro H2 s2 yN;have hwH:H j=none:=by
   cases e:H j with
   |none=>rfl
   |some o=>rw[X _ _ e]at LG;cases LG
  have K4:l≠j:=dI zZ LG;have sB:∀{Ha Hb:Hp}{p:af},H p=none->aI H Ha->cf p Ha Hb->aI H Hb:=λ{Ha Hb p} hp s b c o e=>b _ _ (s _ _ e) (dI e hp);refine⟨FbI t l j n O rows H,
   ⟨_,[⟨O,0,0,n⟩],[],none,none,none,none,none,none,none,rfl,yN,⟨[],s2 _ _ zZ,rfl,λi b r M _=>by cases M⟩,λx hx=>?_,?_,?_,rfl,X.trans s2⟩,?_⟩
  ·have:x=⟨O,0,0,n⟩:=by simpa using hx
   subst this;exact⟨cn.oA,zt cn,hn⟩
  ·show([]++(gN n 0 0 (T rows O)++[])).Perm _;rw[Yo,Uy]
  ·show 0+(bK (T rows O)+0)<=2000;lia
  clear yN s2 zZ;rintro m U H3 ⟨ws,fs,v3,v4,v5,v6,v7,Y,Z,rfl,MV,hF3,aT,jJ,kQ,rfl,s3⟩;refine⟨_,rfl,(by show 0<=sizeLine;decide),λe he=>?_⟩;have Ue:=bQ (o:=.lst []) he;refine⟨_,_,BP (MV.same Ue),.lst bu .nil,zp _,by simp[PyData.canLay0,PyData.canLayAll0],BQ _,_,rfl,?_⟩;rw[xk1];have s4:=s3.trans Ue;have Hm:=MV.same Ue;have Ho:=hF3.same Ue;generalize upd H3 e (.lst [])=H4 at s4 Hm Ho ⊢;clear Ue he MV hF3 s3;rcases List.eq_nil_or_concat ws with rfl|⟨v,x,rfl⟩
  ·refine bY ⟨_,rfl,q H4 l fs s4 Ho (by simpa[oM]using jJ) (eJ kQ)⟩
  rw[List.concat_eq_append]at *;have jG:(!decide (wz ((v++[x]).map Wt.row)=[]))=true:=by simp[wz]
  rw[jG];refine dw ⟨λσ' H'=>∃d,d<lW rows (v++[x])/\FbI t l j n O rows H d σ' H',λ_ _ h=>h,?_⟩;refine zK λkw Mt=>?_;rw[xO9]at Hm;obtain⟨xs,b,jY,jK,jW,kP,vY⟩:=xk2 Hm;have D8:=Ho.but vY K4 jY (λu z=>by cases z);have s5:=sB hwH s4 vY;have MO:upd H4 j (.lst xs) b=some (.tup (vN x.row)):=vY _ _ jW (λz=>by rw[z,jY]at jW;cases jW);refine⟨_,rfl,.inl ⟨rfl,_,cH.of jY⟩,j,_,.ref b,rfl,rfl,jY,by rw[Zn];simp,?_⟩;rw[show(xs++[V.ref b]).dropLast=xs by simp];have Hl:=kP;clear kP;generalize upd H4 j (.lst xs)=H5 at s5 Hl D8 MO vY ⊢;clear jY jK jW vY Hm Ho s4;refine⟨b,_,rfl,aZ.of MO,rfl,_,_,rfl,_,_,rfl,_,_,rfl,_,_,rfl,rfl,?_⟩;obtain⟨y,R,C,m⟩:=x;refine iM (σ':=[some (.ref t),some (.ref l),some (.ref j),some (.int (y:Nat)),some (.int (R:Nat)),some (.int (C:Nat)),some (.int ((2^m:Nat):Int)),v7,Y,Z]) rfl ?_;have hx:=aT _ (ZN _ (XG.mpr rfl));have Dt:∀x∈v,Em rows x:=λx h=>aT x (Xn _ h);rw[JZ]at jJ;rw[JY]at kQ;rw[JX]at Mt;obtain⟨hy,Hh,qz⟩:y<rows.length+2/\Tr.dep (T rows y)<=m/\m<=12:=hx;refine⟨λU H6=>U=[some (.ref t),some (.ref l),some (.ref j),some (.int (y:Nat)),some (.int (R:Nat)),some (.int (C:Nat)),some (.int ((2^m:Nat):Int)),v7,Y,Z]/\bc H6 j (v.map Wt.row)/\bc H6 l (fs++if y=1 then[[R,C,2^m,2^m]]else[])/\aI H H6,?_,?_⟩
  ·refine⟨_,rfl,rfl,_,rfl,?_⟩;refine cw (λhc=>?_) (λhc=>?_)
   ·have y1:y=1:=by have:=V.int.inj (ZG hc);lia
    have G5:∃xs,H5 l=some (.lst xs):=let ⟨bs,h,_⟩:=D8;⟨_,h⟩;obtain⟨xs5,LC⟩:=G5;refine⟨_,rfl,.inl ⟨rfl,_,cH.of LC⟩,_,rfl,_,rfl,_,rfl,_,rfl,(by show 4<=sizeLine;decide),λk hk=>?_⟩;obtain⟨xs6,M,g2,g3,g4⟩:=SS (r:=[R,C,2^m,2^m]) D8 hk;refine⟨l,xs6,_,rfl,rfl,c9 M hk,by rw[g2];exact pN (by lia),rfl,?_,?_,sB G9 s5 g4⟩
    ·exact Hl.but g4 (Xc K4) M (λu z=>by cases z)
    ·rw[Zx y1];exact g3
   ·have y1:y≠1:=λz=>hc (Zt (by rw[z];rfl));rw[Zl y1,Yo];exact⟨rfl,Hl,D8,s5⟩
  ·clear Hl D8 s5 MO;rintro U H6 ⟨rfl,hW6,M1,s6⟩;refine⟨_,rfl,_,_,rfl,rfl,_,rfl,?_⟩;refine cw (λhc=>?_) (λhc=>?_)
   ·have y2:¬y<2:=by have:=ZG hc;lia
    have y1:y≠1:=by lia
    rw[Zl y1,Yo]at M1;obtain⟨D,G,L,I,J,rfl,jF⟩:=pM ok hy y2;have eT:T rows (D+2)=.nd (T rows G) (T rows L) (T rows I) (T rows J):=lK ok jF;obtain⟨d,rfl⟩:∃d,m=d+1:=by
     cases m with
     |zero=>rw[eT]at Hh;rcases n8 Hh with z|z<;>cases z
     |succ d=>exact⟨d,rfl⟩
    have e2:((2^(d+1):Nat):Int)/2=((2^d:Nat):Int):=by rw[YH];exact Ih
    have L7:2^d<=4096:=zo (eJ qz);refine⟨_,rfl,_,_,rfl,rfl,⟨by decide,by decide⟩,?_⟩;refine iM (σ':=[some (.ref t),some (.ref l),some (.ref j),some (.int ((D+2:Nat):Int)),some (.int (R:Nat)),some (.int (C:Nat)),some (.int ((2^(d+1):Nat):Int)),some (.int ((2^d:Nat):Int)),Y,Z]) (Z9 (λz:Int=>[some (V.ref t),some (.ref l),some (.ref j),some (.int ((D+2:Nat):Int)),some (.int (R:Nat)),some (.int (C:Nat)),some (.int ((2^(d+1):Nat):Int)),some (.int z),Y,Z]) e2) ?_;obtain⟨bs,Dm,jV,jE⟩:=id hR;have vQ:bs[D]?=some (bs[D]'(i5 jV hy)):=Zd (i5 jV hy);have wG:=jE D _ _ vQ jF;generalize bs[D]'(i5 jV hy)=ra at vQ wG;obtain⟨g,w4⟩:∃g:Nat->Wt,g=λi=>⟨[G,L,I,J].getD i 0,R+2^d*(i/2),C+2^d*(i%2),d⟩:=⟨_,rfl⟩;refine⟨_,rfl,t,_,2,.ref rp,rfl,rfl,aZ.of (s6 _ _ ht),rfl,_,rfl,_,_,rfl,rfl,rp,_,((D:Nat):Int),.ref ra,rfl,Z9 V.int Iz,aZ.of (s6 _ _ Dm),uw (by rw[Zf,vQ];rfl),ra,rfl,⟨_,aZ.of (s6 _ _ wG)⟩,S8 (K:=K) (xs:=vN [G,L,I,J]) (λi U W=>bc W j ((v++(List.range i).map g).map Wt.row)/\bc W l fs/\aI H W/\i<=4/\∃Y Z,U=[some (.ref t),some (.ref l),some (.ref j),some (.int ((D+2:Nat):Int)),some (.int (R:Nat)),some (.int (C:Nat)),some (.int ((2^(d+1):Nat):Int)),some (.int ((2^d:Nat):Int)),Y,Z])
     (λi U W ⟨_,_,s7,_⟩=>s7 _ _ wG) ⟨by simpa using hW6,M1,s6,by decide,Y,Z,rfl⟩ ?_ ?_⟩
    ·rintro i z U W p hz ⟨Hk,M0,s7,yF,w8,w9,rfl⟩ vE;obtain⟨mm,G2,rfl⟩:=wg hz;have hi:i<4:=(cz G2).1;have Df:upd W p (.tup [V.int (i:Nat),V.int (mm:Nat)]) p=some (.tup [V.int (i:Nat),V.int (mm:Nat)]):=bu;have s8:=s7.trans (bQ (o:=.tup [V.int (i:Nat),V.int (mm:Nat)]) vE);have MU:=Hk.same (bQ (o:=.tup [V.int (i:Nat),V.int (mm:Nat)]) vE);have hF8:=M0.same (bQ (o:=.tup [V.int (i:Nat),V.int (mm:Nat)]) vE);generalize upd W p (.tup [V.int (i:Nat),V.int (mm:Nat)])=H8 at Df s8 MU hF8 ⊢;refine⟨p,_,rfl,aZ.of Df,rfl,_,_,rfl,_,_,rfl,rfl,?_⟩;refine zK λkf DK=>?_;refine iM (σ':=[some (.ref t),some (.ref l),some (.ref j),some (.int ((D+2:Nat):Int)),some (.int (R:Nat)),some (.int (C:Nat)),some (.int ((2^(d+1):Nat):Int)),some (.int ((2^d:Nat):Int)),some (.int (i:Nat)),some (.int (mm:Nat))]) rfl ?_;have hl8:∃xs,H8 j=some (.lst xs):=let ⟨bs,h,_⟩:=MU;⟨_,h⟩;obtain⟨xs8,LB⟩:=hl8;have tS:-(2^64)<((2^d:Nat):Int)/\((2^d:Nat):Int)<2^64:=by
      generalize 2^d=S at L7 ⊢;lia
     refine⟨_,rfl,.inl ⟨rfl,_,cH.of LB⟩,_,rfl,_,rfl,_,rfl,_,rfl,_,_,rfl,rfl,⟨by decide,by decide⟩,_,_,rfl,rfl,.inl tS,_,_,rfl,rfl,?_⟩;refine⟨_,rfl,_,rfl,_,rfl,_,_,rfl,rfl,by decide,_,_,rfl,rfl,.inl tS,_,_,rfl,rfl,_,rfl,(by show 4<=sizeLine;decide),λk hk=>?_⟩;have er:[V.int (mm:Nat),V.int ((R:Int)+((2^d:Nat):Int)*((i:Int)/2)),V.int ((C:Int)+((2^d:Nat):Int)*((i:Int)%2)),V.int ((2^d:Nat):Int)]=vN (g i).row:=by
      have em:[G,L,I,J].getD i 0=mm:=by rw[ZA,G2];rfl
      rw[w4];show _=vN [[G,L,I,J].getD i 0,R+2^d*(i/2),C+2^d*(i%2),2^d];rw[em];show _=[V.int (mm:Nat),V.int ((R+2^d*(i/2):Nat):Int),V.int ((C+2^d*(i%2):Nat):Int),V.int ((2^d:Nat):Int)];rw[YQ,YQ,Xx,Xx,Vp,Vq]
      rfl
     have hlw:(v++(List.range i).map g).length<=2010:=by
      have:=Pf rows v;rw[Zn,Zh,YW];lia
     obtain⟨xs9,M,g2,g3,g4⟩:=SS (r:=(g i).row) MU hk;rw[<- er]at g3 g4;refine⟨j,xs9,_,rfl,rfl,c9 M hk,by rw[g2,Zh];exact pN (by lia),?_⟩;refine DK _ _ ⟨?_,hF8.but g4 K4 M (λu z=>by cases z),sB hwH s8 g4,kn hi,some (.int (i:Nat)),some (.int (mm:Nat)),rfl⟩;have ek:((v++(List.range (i+1)).map g).map Wt.row)=(v++(List.range i).map g).map Wt.row++[(g i).row]:=by
      rw[Xa];simp only[ZY,Yg,ZC,VN]
     rw[ek];exact g3
    ·rintro U W ⟨Hk,M0,s7,_,w8,w9,rfl⟩;have e4:(List.range (vN [G,L,I,J]).length).map g=[g 0,g 1,g 2,g 3]:=rfl;rw[e4]at Hk;have N:∀i a,[G,L,I,J][i]?=some a->a<rows.length+2/\Tr.dep (T rows a)<=d:=λi a h=>by
      have h1:=(ok D _ jF).2 a (Zv h);refine⟨nW h1 hy,?_⟩;have h4:=(cz h).1;have:=nI (x:=i) h4 (by rw[eT]at Hh;exact Hh);rw[<- eT,<- yn ok jF h4 h]at this;exact this
     refine Mt _ _ ⟨lW rows (v++[g 0,g 1,g 2,g 3]),?_,v++[g 0,g 1,g 2,g 3],fs,_,_,_,_,_,_,_,rfl,Hk,M0,?_,?_,?_,rfl,s7⟩
     ·rw[JX,w4];show lW rows v+(kl (T rows G)+(kl (T rows L)+(kl (T rows I)+(kl (T rows J)+0))))<lW rows v+(kl (T rows (D+2))+0);rw[eT];show _<lW rows v+(1+kl (T rows G)+kl (T rows L)+kl (T rows I)+kl (T rows J)+0);lia
     ·intro x hx;rcases ZX.mp hx with z|z
      ·exact Dt x z
      ·rw[w4]at z;have:x=⟨G,R+2^d*0,C+2^d*0,d⟩\/x=⟨L,R+2^d*0,C+2^d*1,d⟩\/x=⟨I,R+2^d*1,C+2^d*0,d⟩\/x=⟨J,R+2^d*1,C+2^d*1,d⟩:=by simpa using z
       rcases this with rfl|rfl|rfl|rfl
       ·exact⟨(N 0 G rfl).1,(N 0 G rfl).2,by show d<=12;exact eJ qz⟩
       ·exact⟨(N 1 L rfl).1,(N 1 L rfl).2,by show d<=12;exact eJ qz⟩
       ·exact⟨(N 2 I rfl).1,(N 2 I rfl).2,by show d<=12;exact eJ qz⟩
       ·exact⟨(N 3 J rfl).1,(N 3 J rfl).2,by show d<=12;exact eJ qz⟩
     ·rw[JZ];have e5:oM rows [g 0,g 1,g 2,g 3]=oM rows [⟨D+2,R,C,d+1⟩]:=by
       rw[w4];show gN d (R+2^d*0) (C+2^d*0) (T rows G)++(gN d (R+2^d*0) (C+2^d*1) (T rows L)++(gN d (R+2^d*1) (C+2^d*0) (T rows I)++(gN d (R+2^d*1) (C+2^d*1) (T rows J)++[])))=gN (d+1) R C (T rows (D+2))++[];rw[eT];simp only[Uv,V8,VP,Yo]
       rfl
      rw[e5];exact jJ
     ·rw[JY];have e6:oh rows [g 0,g 1,g 2,g 3]=oh rows [⟨D+2,R,C,d+1⟩]:=by
       rw[w4];show bK (T rows G)+(bK (T rows L)+(bK (T rows I)+(bK (T rows J)+0)))=bK (T rows (D+2))+0;rw[eT];show _=bK (T rows G)+bK (T rows L)+bK (T rows I)+bK (T rows J)+0;lia
      rw[e6];exact kQ
   ·have y2:y=0\/y=1:=by
     have:¬(1:Int)<(y:Int):=λz=>hc (Zt z);lia
    have eq1:(if y=1 then[[R,C,2^m,2^m]]else[])=oM rows [⟨y,R,C,m⟩]:=by
     show _=gN m R C (T rows y)++[];rcases y2 with rfl|rfl
     ·rw[l7,Zl (by decide)];cases m<;>rfl
     ·rw[l5,Zx rfl];cases m<;>rfl
    refine Mt _ _ ⟨lW rows v,?_,v,fs++(if y=1 then[[R,C,2^m,2^m]]else[]),_,_,_,_,_,_,_,rfl,hW6,M1,Dt,?_,?_,rfl,s6⟩
    ·have:0<kl (T rows y):=by cases T rows y<;>(show 0<_;unfold kl;lia)
     show lW rows v<lW rows v+(kl (T rows y)+0);lia
    ·rw[eq1];refine List.Perm.trans ?_ jJ;rw[Yg];exact Wn _ List.perm_append_comm
    ·have h1:(if y=1 then[[R,C,2^m,2^m]]else[]).length<=oh rows [⟨y,R,C,m⟩]:=by
      have:=JW (T rows y);show _<=bK (T rows y)+0;split
      ·show 1<=_;lia
      ·exact Zz _
     rw[Zn];lia
end Pr
namespace Qf
open Tr
theorem Br:∀(m:Nat)(t:Tr)(R C:Nat)(r:Row),r∈gN m R C t->∃a b S,r=[a,b,S,S]/\S<=2^m
 |m,.z,R,C,r,h=>by cases m<;>cases h
 |m,.o,R,C,r,h=>by
  have:r=[R,C,2^m,2^m]:=by cases m<;>simpa[gN]using h
  exact⟨_,_,_,this,Ze _⟩
 |0,.nd a b c d,R,C,r,h=>by cases h
 |m+1,.nd a b c d,R,C,r,h=>by
  have h:r∈gN m R C a++(gN m R (C+2^m) b++(gN m (R+2^m) C c++gN m (R+2^m) (C+2^m) d)):=h;rw[ZX,ZX,ZX]at h;have key:∃a b S,r=[a,b,S,S]/\S<=2^m:=by
   rcases h with h|h|h|h
   ·exact Br m _ _ _ r h
   ·exact Br m _ _ _ r h
   ·exact Br m _ _ _ r h
   ·exact Br m _ _ _ r h
  obtain⟨x,y,S,e,f⟩:=key;exact⟨x,y,S,e,ZI f (XU (by decide) (Xp _))⟩
theorem JV{n r c:Nat}:(df n r c<=r+1/\df n r c<=c+1/\(r:Int)+df n r c<=((2^n:Nat):Int)/\(c:Int)+df n r c<=((2^n:Nat):Int))/\(df n r c=r+1\/df n r c=c+1\/(r:Int)+df n r c=((2^n:Nat):Int)\/(c:Int)+df n r c=((2^n:Nat):Int)):=by
 obtain⟨h1,d,b,a,h⟩:=L2.Oy (r:Int) (c:Int) (((2^n:Nat):Int)-1-r) (((2^n:Nat):Int)-1-c);unfold df;generalize L2.least [(r:Int),(c:Int),((2^n:Nat):Int)-1-r,((2^n:Nat):Int)-1-c] 3=m at *;generalize ((2^n:Nat):Int)=S at *;refine⟨⟨QW h1,QW d,Qt b,Qt a⟩,?_⟩;rcases h with h|h|h|h
 ·exact .inl (QV h)
 ·exact .inr (.inl (QV h))
 ·exact .inr (.inr (.inl (Qs h)))
 ·exact .inr (.inr (.inr (Qs h)))
end Qf
namespace Pr
open PySem L2 Qf
theorem Sa(g:Bx->Int):∀l:List Row,(l.map λr=>g (iV r)).sum=e_ g l
 |[]=>rfl
 |r::l=>by
  rw[ZC,X1,Sa g l]
  rfl
abbrev U7:List ar:=["_law_told","_law_row","_law_column","_law_far","_law_place","_law_side","_law_ahead_here","_law_many"]
abbrev sJ:List ar:=["_law_told","_law_row","_law_column","_law_far","_law_place"]
theorem nA:aF U7 sJ (bJ Ca):=cZ
inductive AG(vs:List V)(H:Hp)(Q:VK):Prop
 |mk(t:af)(n tp r c:Nat)(far:Int)(x:V)(rows:List Row)(e0:vs=[.ref t,.int (r:Nat),.int (c:Nat),.int far,x])(e1:g7 H t n tp rows)(e2:bK (T rows tp)<=2000)(e3:r<2^n)(e4:c<2^n)
  (e5:(x=.cu/\far=df n r c/\∀e∈ck (T rows tp),e.2=false->df n r c<de n r c e.1)\/∃pq R D,x=.ref pq/\H pq=some (.tup [.int (R:Nat),.int (D:Nat)])/\R<2^n/\D<2^n/\far=dst r c R D/\(cO (T rows tp) (eB R D 0 n)).1=.z/\∀e∈ck (T rows tp),e.2=false->¬kF n r c e.1<kC r c R D)
  (e6:∀H',aI H H'->Q (.bl true) H')
def AH:Sp:=λa H Q _=>AG a H Q
inductive AhI(t:af)(n tp r c:Nat)(far:Int)(x:V)(rows:List Row)(H:Hp)(σ:St)(H1:Hp):Prop
 |mk(la:af)(bs:List Bx)(e:σ=[some (.ref t),some (.int (r:Nat)),some (.int (c:Nat)),some (.int far),some x,some (.int ((2^n:Nat):Int)),some (.ref la),none])(s:aI H H1)(b:mO H1 la bs)(l:bs.length<=100)(z:∀e∈ck (T rows tp),e.2=false->shr bs (d_ n 0 0 e.1)=0)
theorem xV2{f fL fA fH fF:af}{fd lQ ja n6 qP:ak}(F:a_ K "_law_shut_right" "_law_shut_right" Ca f fd)(B:eF mg)(C:rf mg)(wP:mg "sum"=none)
  (hL:mg "_law_leaf"=some (.ref fL)) (FL:a_ K "_law_leaf" "_law_leaf" xa fL lQ) (bL:Binds K lQ fK []) (GL:aE P w K mg base aS 1 fL lQ fK rS)
  (hA:mg "_law_ahead"=some (.ref fA)) (FA:a_ K "_law_ahead" "_law_ahead" Fw fA ja) (bA:Binds K ja sO []) (GA:aE P w K mg base aS 1 fA ja sO Bf)
  (hH:mg "_law_share"=some (.ref fH)) (FH:a_ K "_law_share" "_law_share" Cb fH n6) (bH:Binds K n6 zM []) (GH:aE P w K mg base aS 2 fH n6 zM AJ)
  (hF:mg "_law_full_boxes"=some (.ref fF)) (FF:a_ K "_law_full_boxes" "_law_full_boxes" Fv fF qP) (bF:Binds K qP ["_law_told"] []) (GF:aE P w K mg base aS 1 fF qP ["_law_told"] A3):
  aE P w K mg base aS 3 f fd sJ AH:=by
 refine F.ok nA (λvs H Q E h=>?_) (λbO A outer s H vs Q E L h=>?_)
 ·obtain⟨t,n,v,r,c,d,x,rows,rfl,_⟩:=h
  rfl
 ·obtain⟨t,n,v,r,c,d,x,rows,rfl,kK,kH,k9,kB,X,q⟩:=h;have Y:bf 1 _:=L.mono (by decide);refine aQ ⟨_,⟨cg 5 nA.nd (aO jl aK (cb cJ (pv 0) aK))⟩,?_⟩;refine aQ ⟨_,⟨Bs (dE (c_ xJ4 (pv 4) Pa (cD _))
   (gG.go (.cons ⟨cg 6 nA.nd (@jk _ _ _ _ (aW.go (.cons ⟨@fo _ _ _ _ _ (aW.go (.cons ⟨aO c6 (pv 1) (pv 3)⟩ (.cons ⟨aO c6 (pv 2) (pv 3)⟩ (.cons ⟨aO c7 (aO gJ aK (pv 3)) aK⟩ (.cons ⟨aO c7 (aO gJ aK (pv 3)) aK⟩ .nil rfl) rfl) rfl) rfl))⟩ .nil rfl)))⟩
    (.one ⟨dE (PW.pt (Ga (c_ Ic (bw.go ⟨cB (oy rfl) (by rfl) B.min ZV (aG (pv 1) (aG (pv 2) aP))⟩) (pv 3) (cD _)) (Gr (c_ iD (bw.go ⟨aO c7 (bw.go ⟨cB (m7 rfl) (by rfl) B.max ZM (aG (pv 1) (aG (pv 2) aP))⟩) (pv 3)⟩) (pv 5) (cD _))))) (cR (cF j_)) dG⟩)))
   (gG.go (.cons ⟨cg 6 nA.nd (bZ GA Y hA FA.kp bA (aG (pv 1) (aG (pv 2) (aG (pv 3) (aG (pv 4) aP)))))⟩
    (.cons ⟨dE (PW.pt (iW (c_ BU (bw.go ⟨cB (m7 rfl) (by rfl) B.max ZM (aW.go (.cons ⟨cB BK (by rfl) C.abs XH (aG (aO c6 (cb cJ (pv 4) aK) (pv 1)) aP)⟩ (.cons ⟨cB BK (by rfl) C.abs XH (aG (aO c6 (cb cJ (pv 4) aK) (pv 2)) aP)⟩ .nil rfl) rfl))⟩) (pv 3) (cD _))
     (iW (c_ iD (bw.go ⟨cB (xc2 rfl) (by rfl) B.min ZV (aG (pv 4) aP)⟩) aK (cD _)) (mZ (c_ Ic (bw.go ⟨cB (xb4 rfl) (by rfl) B.max ZM (aG (pv 4) aP)⟩) (pv 5) (cD _)))))) (cR (cF j_)) dG⟩
    (.one ⟨dE (c_ BU (bw.go ⟨cb cJ (bw.go ⟨bZ GL Y hL FL.kp bL (aW.go (.cons ⟨pv 0⟩ (.cons ⟨cb cJ (pv 4) aK⟩ (.cons ⟨cb cJ (pv 4) aK⟩ .nil rfl) rfl) rfl))⟩) aK⟩) aK (cD _)) (cR (cF j_)) dG⟩)))))⟩,?_⟩
  refine aQ ⟨_,⟨cg 7 nA.nd (cB (Jt rfl) (by rfl) wP Vl (aG (rz U7 (bJ Ca) rfl rfl rfl nA.nd (ux (bw.go ⟨bZ GF Y hF FF.kp bF (aG (pv 0) aP)⟩)) (λcl C fp aH aJ=>bZ GH L hH FH.kp bH (aG (pv 7) (aG (pv 0) aP)))) aP))⟩,?_⟩;refine gj ⟨_,⟨cF (jn nG (pv 7) (bw.go ⟨bZ GH L hH FH.kp bH (aW.go (.cons ⟨pv 6⟩ (.cons ⟨fo (aW.go (.cons ⟨aK⟩ (.cons ⟨aK⟩ (.cons ⟨pv 5⟩ (.cons ⟨pv 5⟩ .nil rfl) rfl) rfl) rfl))⟩ .nil rfl) rfl))⟩) (cD _))⟩,?_⟩;obtain⟨⟨rp,ht,hR⟩,cn,wF⟩:=id kK;have hn:=cn.size;have vP:Tr.dep (T rows v)<=n:=zt cn;have qR:(1:Int)*2^((n:Nat):Int).toNat=((2^n:Nat):Int):=by rw[WX,ZD];simp
  have hSm:=zo hn;refine⟨_,rfl,t,_,0,.int (n:Nat),rfl,rfl,aZ.of ht,rfl,_,_,rfl,rfl,⟨mw,qj hn,by decide⟩,?_⟩;refine iM (σ':=[some (.ref t),some (.int (r:Nat)),some (.int (c:Nat)),some (.int d),some x,some (.int ((2^n:Nat):Int)),none,none]) (Z9 (λz:Int=>[some (V.ref t),some (.int (r:Nat)),some (.int (c:Nat)),some (.int d),some x,some (.int z),none,none]) qR) ?_;refine⟨AhI t n v r c d x rows H,?_,?_⟩
  ·rcases X with⟨rfl,xX,xY⟩|⟨l,R,D,rfl,W,MY,vB,xX,Z,xY⟩
   ·refine⟨_,rfl,rfl,_,rfl,dw ?_⟩;refine⟨_,rfl,_,rfl,_,_,rfl,rfl,_,rfl,_,rfl,_,_,rfl,rfl,?_⟩;refine⟨_,rfl,_,_,rfl,rfl,.inl ⟨by decide,by decide⟩,_,_,rfl,rfl,_,rfl,_,_,rfl,rfl,.inl ⟨by decide,by decide⟩,_,_,rfl,rfl,(by show 4<=sizeLine;decide),λm hka=>⟨(by show 1<=sizeLine;decide),λg p=>?_⟩⟩;obtain⟨⟨g1,g2,g3,g4⟩,g5⟩:=JV (n:=n) (r:=r) (c:=c);rw[<- xX]at g1 g2 g3 g4 g5;have j:aI H (upd (upd H m (.tup (k_ (gh r c d)))) g (.lst [.ref m])):=(bQ hka).trans (bQ p);have wZ:mO (upd (upd H m (.tup (k_ (gh r c d)))) g (.lst [.ref m])) g [gh r c d]:=⟨[m],bu,rfl,λi a b N e2=>by
     match i,N,e2 with
     |0,N,e2=>cases N;cases e2;exact c9 bu p
     |i+1,N,_=>cases N⟩
    have U:AhI t n v r c d .cu rows H [some (V.ref t),some (.int (r:Nat)),some (.int (c:Nat)),some (.int d),some .cu,some (.int ((2^n:Nat):Int)),some (.ref g),none] (upd (upd H m (.tup (k_ (gh r c d)))) g (.lst [.ref m])):=by
     refine⟨g,_,rfl,j,wZ,by show 1<=100;decide,λe J O=>?_⟩;obtain⟨h4,hl⟩:=pL n _ e vP J;have h5:=xY e J O;by_cases y:shr [gh r c d] (d_ n 0 0 e.1)=0
     ·exact y
     ·have:=(ID h4 hl k9 kB).mpr y;lia
    refine⟨_,rfl,_,rfl,_,_,rfl,_,rfl,_,_,rfl,rfl,_,rfl,?_⟩;refine cw (λhc=>?_) (λhc=>?_)
    ·have tR:d<=(if(c:Int)<r then(c:Int)else r):=ZG hc;have Dx:decide ((if(c:Int)>r then(c:Int)else r)+d<((2^n:Nat):Int))=false:=Zo λz=>by
      split at tR<;>split at z<;>lia
     refine⟨_,rfl,_,rfl,_,_,rfl,_,rfl,_,_,rfl,rfl,_,rfl,_,_,rfl,rfl,_,rfl,?_⟩;rw[Dx];exact bY U
    ·exact bY U
   ·refine⟨_,rfl,rfl,_,rfl,bY ?_⟩;subst xX;refine⟨_,rfl,_,rfl,_,rfl,_,rfl,l,r,c,dst r c R D,R,D,rfl,W,λH1 g j p=>?_⟩;have u:=j _ _ W;have Dx:(!decide (V.int (dr (fZ ((R:Int)-r)) (fZ ((D:Int)-c)))=V.int (dst r c R D)))=false:=by
     rw[Zt (show V.int (dr (fZ ((R:Int)-r)) (fZ ((D:Int)-c)))=V.int (dst r c R D)from rfl)]
     rfl
    refine⟨_,rfl,l,_,0,.int R,rfl,rfl,aZ.of u,rfl,_,rfl,_,_,rfl,rfl,_,rfl,_,rfl,l,_,1,.int D,rfl,rfl,aZ.of u,rfl,_,rfl,_,_,rfl,rfl,_,rfl,_,_,rfl,_,rfl,rfl,_,rfl,?_⟩;refine(λ(go:(if(!decide (V.int (dr (fZ ((R:Int)-r)) (fZ ((D:Int)-c)))=V.int (dst r c R D)))=true then _ else _))=>go) ?_;rw[Dx];refine bY ?_;have Ml:decide (least [(R:Int),(D:Int)] 1<0)=false:=Zo λz=>by
     have e:least [(R:Int),(D:Int)] 1=if(D:Int)<R then(D:Int)else R:=rfl
     rw[e]at z;split at z<;>lia
    refine⟨_,rfl,l,[(R:Int),(D:Int)],rfl,u,by simp,_,_,rfl,rfl,_,rfl,?_⟩;refine(λ(go:(if decide (least [(R:Int),(D:Int)] 1<0)=true then _ else _))=>go) ?_;rw[Ml];refine bY ?_;have MK:decide (((2^n:Nat):Int)<=best [(R:Int),(D:Int)] 1)=false:=Zo λz=>by
     have e:best [(R:Int),(D:Int)] 1=if(D:Int)>R then(D:Int)else R:=rfl
     rw[e]at z;split at z<;>lia
    refine⟨_,rfl,l,[(R:Int),(D:Int)],rfl,u,by simp,_,rfl,_,_,rfl,rfl,_,rfl,?_⟩;refine(λ(go:(if decide (((2^n:Nat):Int)<=best [(R:Int),(D:Int)] 1)=true then _ else _))=>go) ?_;rw[MK];refine bY ?_;refine⟨_,rfl,_,rfl,l,_,0,.int R,rfl,rfl,aZ.of u,rfl,_,rfl,l,_,1,.int D,rfl,rfl,aZ.of u,rfl,t,n,v,R,D,rows,rfl,sr kK j.b_,hn,λH2 p2 y G hy hT jK=>?_⟩;have Lz:y=0:=by
     rw[Z]at hT;exact t6 (b:=false) cn.iL hy hT
    subst Lz;refine⟨p2,_,1,.int ((0:Nat):Int),rfl,rfl,aZ.of jK,rfl,rfl,_,rfl,?_⟩;refine bY ?_;refine⟨g,_,rfl,j.trans G,p.same G,by show 3<=100;decide,λe J O=>?_⟩;obtain⟨h4,hl⟩:=pL n _ e vP J;have h5:=xY e J O;have hwd:u7 r c (dst r c R D) R D=if fZ ((R:Int)-r)<dst r c R D then gm 1 ((D:Int)-c+dst r c R D)else(D:Int)-c+dst r c R D:=rfl
    have LP:=xb0 (ad:=e.1) rfl hwd h4 hl k9 kB;by_cases y:shr (ym r c (dst r c R D) R D (u7 r c (dst r c R D) R D)) (d_ n 0 0 e.1)=0
    ·exact y
    ·exact absurd (LP.mpr y) h5
  ·rintro σ H1 ⟨g,bs,rfl,j,p,jV,LQ⟩;refine⟨_,rfl,t,n,v,rows,rfl,sr kK j.b_,kH,λH2 lf fs G Mz jJ hfl=>?_⟩;have hfm:∀r∈fs,∃a b S,r=[a,b,S,S]/\S<=2^n:=λr L=>Br n _ 0 0 r (jJ.mem_iff.mp L);obtain⟨as,kU,v0,vA⟩:=Mz;refine⟨lf,rfl,⟨_,cH.of kU⟩,λD hD=>uC hD (λi y H2=>∃r,fs[i]?=some r/\y=.int (shr bs (iV r))) (wq (K:=K) kU) (by rw[Zh,v0];exact pN (Rc hfl)) (λi y H1 H2 _ _ h=>h) ?_ ?_⟩
   ·intro i x H3 M X I Q' q';rw[Zf]at X;obtain⟨a,ha,rfl⟩:=Zj.mp X;have vM:i<fs.length:=by rw[<- v0];exact(cz ha).1
    have hb:=Zd vM;obtain⟨a0,b0,S,er,hS⟩:=hfm _ (Yz vM);have Hj:=I _ _ (vA i a _ ha hb);rw[er]at Hj;refine⟨_,rfl,_,rfl,g,a,bs,iV [a0,b0,S,S],rfl,p.same (G.trans I),jV,Hj,?_,?_,λH4 s4=>q' _ _ s4 ⟨_,hb,by rw[er]⟩⟩
    ·show(0:Int)<=(S:Nat);exact mw
    ·show((S:Nat):Int)<=4096;lia
   ·intro ys H3 I Hq vS Lv;have ey:ys=(fs.map λr=>shr bs (iV r)).map V.int:=by
     refine Xu λi=>?_;rw[Zf,Zf];by_cases M:i<ys.length
     ·obtain⟨a,h1,O⟩:=Lv i _ (Zd M);rw[Zd M,h1,O]
      rfl
     ·rw[Yr (iE M),Yr (by rw[Zh]at vS;exact Qr v0 vS M)]
      rfl
    rw[ey]at Hq;refine⟨D,_,rfl,Hq,?_⟩;rw[Sa (λb=>shr bs b),xc7 _ jJ,xk0 vP LQ];have E2:=(j.trans G).trans I;refine⟨_,rfl,_,rfl,_,rfl,_,rfl,(by show 4<=sizeLine;decide),λk hk=>⟨g,k,bs,⟨0,0,((2^n:Nat):Int),((2^n:Nat):Int)⟩,rfl,p.same ((G.trans I).trans (bQ hk)),jV,bu,?_,?_,λH6 s6=>?_⟩⟩
    ·show(0:Int)<=((2^n:Nat):Int);exact mw
    ·show((2^n:Nat):Int)<=4096;lia
    refine⟨rfl,?_⟩;rw[Zt rfl];exact q H6 ((E2.trans (bQ hk)).trans s6)
end Pr
namespace Qf
def wy(n:Nat)(b:Row):Prop:=∃r c h w,b=[r,c,h,w]/\1<=h/\1<=w/\r+h<=2^n/\c+w<=2^n
def HV(b:Row):Prop:=∃r c h w,b=[r,c,h,w]/\((h<=9/\w<=9)\/∃s i j,h=2^s/\w=2^s/\r=i*2^s/\c=j*2^s)
def EG(n:Nat)(bs:List Row):Prop:=(∀b∈bs,wy n b)/\((n<4/\bs.length<=64)\/(bs.length<=5/\∀b∈bs,HV b))
theorem Bq(k:Nat):(1:Int)*2^((k:Int)).toNat=((2^k:Nat):Int):=by
 rw[ZD,WX];push_cast;rfl
theorem zj{n:Nat}(h:n<=12):2^n<=4096/\0<2^n:=⟨by
 have:=XU (n:=2) (by decide) h;simpa using this,XB (by decide)⟩
end Qf
namespace Pr
open PySem L2 Qf
theorem fv:aF ["_law_pot_here","_law_n","_law_most","_law_side","_law_size","_law_row","_law_column","_law_high","_law_wide"] ["_law_pot_here","_law_n","_law_most"] (bJ tF):=cZ
inductive vq(vs:List V)(H:Hp)(Q:VK):Prop
 |mk(p:af)(n:Nat)(e0:vs=[.ref p,.int (n:Nat),.int 9])(e1:aV H p)(e2:n<=12)(e3:∀(H':Hp)(t:af)(b:Row),cf p H H'->aV H' p->H' t=some (.tup (vN b))->wy n b->HV b->Q (.ref t) H')
def HU:Sp:=λa H Q _=>vq a H Q
theorem xP0{f O:af}{fd D:ak}(F:a_ K "_law_box" "_law_box" tF f fd)(B:eF mg)(k:mg "_law_digit"=some (.ref O))(e:a_ K "_law_digit" "_law_digit" uo O D)(g:Binds K D ["_law_pot_here","_law_many"] []):
  aE P w K mg base aS 2 f fd ["_law_pot_here","_law_n","_law_most"] HU:=by
 have l:aE P w K mg base aS 1 O D ["_law_pot_here","_law_many"] wm:=BG e;refine F.ok fv (λvs H Q E h=>?_) (λbO A M s H vs Q E b h=>?_)
 ·obtain⟨p,n,rfl,_⟩:=h
  rfl
 ·obtain⟨p,n,rfl,hp,a,q⟩:=h;refine aQ ⟨_,⟨cg 3 fv.nd (aO jl aK (pv 1))⟩,?_⟩;refine aQ ⟨_,⟨dE (c_ nG (bZ l b k e.kp g (aG (pv 0) (aG aK aP))) aK (cD _))
   (gG.go (.cons ⟨cg 4 fv.nd (bZ l b k e.kp g (aG (pv 0) (aG (aO c7 (pv 1) aK) aP)))⟩
    (.cons ⟨cg 5 fv.nd (aO gJ (bZ l b k e.kp g (aG (pv 0) (aG (aO jl aK (aO c6 (pv 1) (pv 4))) aP))) (aO jl aK (pv 4)))⟩
    (.cons ⟨cg 6 fv.nd (aO gJ (bZ l b k e.kp g (aG (pv 0) (aG (aO jl aK (aO c6 (pv 1) (pv 4))) aP))) (aO jl aK (pv 4)))⟩
    (.one ⟨cF (fo (aW.go (.cons ⟨pv 5⟩ (.cons ⟨pv 6⟩ (.cons ⟨aO jl aK (pv 4)⟩ (.cons ⟨aO jl aK (pv 4)⟩ .nil rfl) rfl) rfl) rfl)))⟩))))) dG⟩,?_⟩
  refine aQ ⟨_,⟨cg 5 fv.nd (bZ l b k e.kp g (aG (pv 0) (aG (pv 3) aP)))⟩,?_⟩;refine aQ ⟨_,⟨cg 6 fv.nd (bZ l b k e.kp g (aG (pv 0) (aG (pv 3) aP)))⟩,?_⟩;refine aQ ⟨_,⟨cg 7 fv.nd (aO c7 aK (bZ l b k e.kp g (aG (pv 0) (aG (cB (oy rfl) (by rfl) B.min ZV (aG (pv 2) (aG (aO c6 (pv 3) (pv 5)) aP))) aP))))⟩,?_⟩;refine aQ ⟨_,⟨cg 8 fv.nd (aO c7 aK (bZ l b k e.kp g (aG (pv 0) (aG (cB (oy rfl) (by rfl) B.min ZV (aG (pv 2) (aG (aO c6 (pv 3) (pv 6)) aP))) aP))))⟩,?_⟩;refine gj ⟨_,⟨cF (fo (aW.go (.cons ⟨pv 5⟩ (.cons ⟨pv 6⟩ (.cons ⟨pv 7⟩ (.cons ⟨pv 8⟩ .nil rfl) rfl) rfl) rfl)))⟩,?_⟩;obtain⟨p1,W⟩:=zj a;refine⟨_,rfl,_,_,rfl,rfl,⟨mw,qj a,by decide⟩,?_⟩;refine⟨_,rfl,p,2,rfl,hp,by decide,by decide,λd H1 hd X Z=>⟨rfl,_,rfl,?_⟩⟩;refine cw (λhc=>?_) (λhc=>?_)
  ·refine⟨_,rfl,_,rfl,_,_,rfl,rfl,p,n+1,rfl,Z,by lia,by lia,λz H2 u S R=>?_⟩;have L:z<=n:=by exact sT u
   obtain⟨s1,s2⟩:=zj (ZI L a);obtain⟨m1,m2⟩:=zj (ZI (Nat.sub_le n z) a);have Y:(1:Int)*2^((n:Int)-(z:Int)).toNat=((2^(n-z):Nat):Int):=by
    rw[<- Bq (n-z)];congr 3;lia
   have ez:=Bq z;have my:2^(n-z)*2^z=2^n:=by rw[<- Vx];congr 1;lia
   refine⟨_,rfl,_,rfl,_,rfl,_,_,rfl,rfl,_,_,rfl,rfl,⟨Qg u,Qd a,by decide⟩,p,2^(n-z),Z9 (λx=>[V.ref p,V.int x]) Y,R,m2,tw m1,λi H3 T G N=>?_⟩;refine⟨_,rfl,_,_,rfl,rfl,⟨mw,EN u a,by decide⟩,_,_,rfl,rfl,.inl ⟨by lia,by lia⟩,?_⟩;refine⟨_,rfl,_,rfl,_,rfl,_,_,rfl,rfl,_,_,rfl,rfl,⟨Qg u,Qd a,by decide⟩,p,2^(n-z),Z9 (λx=>[V.ref p,V.int x]) Y,N,m2,tw m1,λj H4 hj J I=>?_⟩;refine⟨_,rfl,_,_,rfl,rfl,⟨mw,EN u a,by decide⟩,_,_,rfl,rfl,.inl ⟨by lia,by lia⟩,?_⟩;refine⟨_,rfl,_,rfl,_,rfl,_,_,rfl,rfl,⟨mw,EN u a,by decide⟩,_,rfl,_,_,rfl,rfl,⟨mw,EN u a,by decide⟩,(by show 4<=sizeLine;decide),λt v=>?_⟩;have C:∀i,i<2^(n-z)->i*2^z+2^z<=2^n:=λi T=>by
    rw[<- my,<- XX];exact Xr _ T
   refine q _ t [i*2^z,j*2^z,2^z,2^z] ((((X.trans S).trans G).trans J).trans (cf.of (bQ v))) (I.same (bQ v)) ?_ ⟨_,_,_,_,rfl,s2,s2,C i T,C j hj⟩ ⟨_,_,_,_,rfl,.inr ⟨z,i,j,rfl,rfl,rfl,rfl⟩⟩;rw[bu];show some (HO.tup [V.int ((i:Int)*(1*2^((z:Int)).toNat)),V.int ((j:Int)*(1*2^((z:Int)).toNat)),V.int (1*2^((z:Int)).toNat),V.int (1*2^((z:Int)).toNat)])=some (HO.tup [V.int ((i*2^z:Nat):Int),V.int ((j*2^z:Nat):Int),V.int ((2^z:Nat):Int),V.int ((2^z:Nat):Int)]);rw[ez];push_cast
   rfl
  ·have es:=Bq n;have uM:[V.ref p,V.int ((1:Int)*2^((n:Int)).toNat)]=[V.ref p,V.int ((2^n:Nat):Int)]:=by rw[es]
   refine⟨_,rfl,_,rfl,p,2^n,uM,Z,W,tw p1,λr H2 kN S R=>?_⟩;refine⟨_,rfl,_,rfl,p,2^n,uM,R,W,tw p1,λc H3 y G N=>?_⟩;have m:∀r:Nat,r<2^n->[V.ref p,V.int (if(1:Int)*2^((n:Int)).toNat-(r:Int)<9 then(1:Int)*2^((n:Int)).toNat-(r:Int)else 9)]=[V.ref p,V.int ((min 9 (2^n-r):Nat):Int)]:=λr b=>by
    rw[es];congr 3;split<;>lia
   refine⟨_,rfl,_,rfl,_,rfl,_,rfl,_,_,rfl,rfl,_,_,rfl,p,min 9 (2^n-r),m r kN,N,QS kN,Rn,λh H4 U J I=>?_⟩;refine⟨_,_,rfl,rfl,?_⟩;refine⟨_,rfl,_,rfl,_,rfl,_,rfl,_,_,rfl,rfl,_,_,rfl,p,min 9 (2^n-c),m c y,I,QS y,Rn,λw' H5 hw b5 vY=>?_⟩;refine⟨_,_,rfl,rfl,?_⟩;refine⟨_,rfl,_,rfl,_,rfl,_,rfl,(by show 4<=sizeLine;decide),λt v=>?_⟩;refine q _ t [r,c,1+h,1+w'] (((((X.trans S).trans G).trans J).trans b5).trans (cf.of (bQ v))) (vY.same (bQ v)) ?_ ⟨_,_,_,_,rfl,jo,jo,Qo U,Qo hw⟩ ⟨_,_,_,_,rfl,.inl ⟨QO U,QO hw⟩⟩;rw[bu]
   rfl
end Pr
namespace Qf
open Tr
def oo(r c s:Nat)(b:Row):Bool:=decide (b.getD 0 0<r+s/\r<b.getD 0 0+b.getD 2 0/\c<b.getD 1 0+b.getD 3 0/\b.getD 1 0<c+s)
def hasB(r c s:Nat)(b:Row):Bool:=decide (b.getD 0 0<=r/\r+s<=b.getD 0 0+b.getD 2 0/\b.getD 1 0<=c/\c+s<=b.getD 1 0+b.getD 3 0)
def mk(a b c d:Tr):Tr:=if a=z/\b=z/\c=z/\d=z then z else if a=o/\b=o/\c=o/\d=o then o else .nd a b c d
def met(a:List Row)(r c s:Nat):List Row:=a.filter (oo r c s)
def bt:Nat->List Row->Nat->Nat->Tr
 |0,a,r,c=>if met a r c 1=[]then z else if(met a r c 1).any (hasB r c 1)then o else z
 |k+1,a,r,c=>if met a r c (2^(k+1))=[]then z else if(met a r c (2^(k+1))).any (hasB r c (2^(k+1)))then o else
   mk (bt k (met a r c (2^(k+1))) r c) (bt k (met a r c (2^(k+1))) r (c+2^k)) (bt k (met a r c (2^(k+1))) (r+2^k) c) (bt k (met a r c (2^(k+1))) (r+2^k) (c+2^k))
theorem xP1{a b c d:Tr}(f:Red a)(hb:Red b)(hc:Red c)(e:Red d):Red (mk a b c d):=by
 unfold mk;split
 ·trivial
 ·split
  ·trivial
  ·exact⟨by assumption,by assumption,f,hb,hc,e⟩
theorem BY:∀(k:Nat)(a:List Row)(r c:Nat),Red (bt k a r c)
 |0,a,r,c=>by
  unfold bt;split
  ·trivial
  ·split<;>trivial
 |k+1,a,r,c=>by
  unfold bt;split
  ·trivial
  ·split
   ·trivial
   ·exact xP1 (BY k _ _ _) (BY k _ _ _) (BY k _ _ _) (BY k _ _ _)
theorem xP2{a b c d:Tr}{k:Nat}(g:dep a<=k)(hb:dep b<=k)(hc:dep c<=k)(f:dep d<=k):dep (mk a b c d)<=k+1:=by
 unfold mk;split
 ·show 0<=_;exact sX
 ·split
  ·show 0<=_;exact sX
  ·show 1+mx [dep a,dep b,dep c,dep d]<=k+1;have:=PR (l:=[dep a,dep b,dep c,dep d]) (b:=k) (by
    intro x e;have:x=dep a\/x=dep b\/x=dep c\/x=dep d:=by simpa using e
    rcases this with rfl|rfl|rfl|rfl<;>assumption)
   lia
theorem BX:∀(k:Nat)(a:List Row)(r c:Nat),dep (bt k a r c)<=k
 |0,a,r,c=>by
  unfold bt;split
  ·exact Ze 0
  ·split<;>exact Ze 0
 |k+1,a,r,c=>by
  unfold bt;split
  ·exact Zz _
  ·split
   ·exact Zz _
   ·exact xP2 (BX k _ _ _) (BX k _ _ _) (BX k _ _ _) (BX k _ _ _)
def iu:Tr->Nat
 |.nd a b c d=>1+iu a+iu b+iu c+iu d
 |_=>0
theorem za:∀(t:Tr)(e:List Tr),(post t e).length<=e.length+iu t
 |.z,e=>Ze _
 |.o,e=>Ze _
 |.nd a b c d,e=>by
  unfold post;split
  ·exact Y5 _ _
  ·have h1:=za a e;have h:=za b (post a e);have g:=za c (post b (post a e));have f:=za d (post c (post b (post a e)));rw[Zn];show _+1<=e.length+(1+iu a+iu b+iu c+iu d);lia
theorem Ox(a b c d:Tr):iu (mk a b c d)<=1+iu a+iu b+iu c+iu d:=by
 unfold mk;split
 ·exact Zz _
 ·split
  ·exact Zz _
  ·exact Ze _
def cnt(b:Row):Nat->Nat->Nat->Nat
 |0,_,_=>0
 |k+1,r,c=>if oo r c (2^(k+1)) b=true/\hasB r c (2^(k+1)) b=false then 1+cnt b k r c+cnt b k r (c+2^k)+cnt b k (r+2^k) c+cnt b k (r+2^k) (c+2^k)else 0
def gu(a:List Row)(k r c:Nat):Nat:=(a.map λb=>cnt b k r c).sum
theorem qO3{p:Row->Bool}(a:List Row)(k r c:Nat):gu (a.filter p) k r c<=gu a k r c:=by
 induction a with
 |nil=>exact Ze _
 |cons b bs d=>
  unfold gu at d ⊢;rw[Yy];split
  ·simp only[ZC,X1];exact iY d
  ·simp only[ZC,X1];lia
theorem qX5{a:List Row}{k r c:Nat}(d:∀b∈a,oo r c (2^(k+1)) b=true/\hasB r c (2^(k+1)) b=false):
  gu a (k+1) r c=a.length+gu a k r c+gu a k r (c+2^k)+gu a k (r+2^k) c+gu a k (r+2^k) (c+2^k):=by
 induction a with
 |nil=>rfl
 |cons b bs g=>
  have h1:=g λx f=>d x (Zk _ f);have e:cnt b (k+1) r c=1+cnt b k r c+cnt b k r (c+2^k)+cnt b k (r+2^k) c+cnt b k (r+2^k) (c+2^k):=by
   show(if _ then _ else _)=_;rw[Zx (d b ZE)]
  unfold gu at h1 ⊢;simp only[ZC,X1,Z4,e,h1];lia
theorem BW:∀(k:Nat)(a:List Row)(r c:Nat),iu (bt k a r c)<=gu a k r c
 |0,a,r,c=>by
  unfold bt;split
  ·exact Zz _
  ·split<;>exact Zz _
 |k+1,a,r,c=>by
  unfold bt;split
  ·exact Zz _
  ·rename_i e;split
   ·exact Zz _
   ·rename_i f;refine ZI (Ox _ _ _ _) ?_;have h1:=BW k (met a r c (2^(k+1))) r c;have l:=BW k (met a r c (2^(k+1))) r (c+2^k);have j:=BW k (met a r c (2^(k+1))) (r+2^k) c;have h:=BW k (met a r c (2^(k+1))) (r+2^k) (c+2^k);have d:gu (met a r c (2^(k+1))) (k+1) r c<=gu a (k+1) r c:=qO3 _ _ _ _;have g:∀b∈met a r c (2^(k+1)),oo r c (2^(k+1)) b=true/\hasB r c (2^(k+1)) b=false:=λb hb=>by
     refine⟨(Y9.mp hb).2,?_⟩;cases hh:hasB r c (2^(k+1)) b with
     |false=>rfl
     |true=>exact absurd (WC.mpr ⟨b,hb,hh⟩) f
    rw[qX5 g]at d;have i:0<(met a r c (2^(k+1))).length:=X6.mpr e;lia
def sz:Nat->Nat
 |0=>0
 |k+1=>4*sz k+1
theorem zC:∀(k:Nat)(a:List Row)(r c:Nat),iu (bt k a r c)<=sz k
 |0,a,r,c=>by
  unfold bt;split
  ·exact Zz _
  ·split<;>exact Zz _
 |k+1,a,r,c=>by
  unfold bt;split
  ·exact Zz _
  ·split
   ·exact Zz _
   ·refine ZI (Ox _ _ _ _) ?_;have h1:=zC k (met a r c (2^(k+1))) r c;have e:=zC k (met a r c (2^(k+1))) r (c+2^k);have d:=zC k (met a r c (2^(k+1))) (r+2^k) c;have b:=zC k (met a r c (2^(k+1))) (r+2^k) (c+2^k);show _<=4*sz k+1;lia
def fq(a h j:Nat):Nat->Nat->Nat
 |0,x=>0
 |k+1,x=>if j=k+1 then(if a<x+2^(k+1)/\x<a+h then 1 else 0)else fq a h j k x+fq a h j k (x+2^k)
def mT(a h c w:Nat):Nat->Nat->Nat->Nat->Nat
 |0,_,_,_=>0
 |j+1,k,x,y=>mT a h c w j k x y+fq a h (j+1) k x*fq c w (j+1) k y
theorem SR(a h c w:Nat):∀(j k x y:Nat),j<=k->mT a h c w j (k+1) x y=mT a h c w j k x y+mT a h c w j k x (y+2^k)+mT a h c w j k (x+2^k) y+mT a h c w j k (x+2^k) (y+2^k)
 |0,k,x,y,_=>rfl
 |j+1,k,x,y,e=>by
  have d:=SR a h c w j k x y (eJ e);have b:∀a h x,fq a h (j+1) (k+1) x=fq a h (j+1) k x+fq a h (j+1) k (x+2^k):=λa h x=>by
   show(if j+1=k+1 then _ else _)=_;rw[Zl (by lia)]
  show mT a h c w j (k+1) x y+fq a h (j+1) (k+1) x*fq c w (j+1) (k+1) y=_;rw[d,b,b];show _=(mT a h c w j k x y+fq a h (j+1) k x*fq c w (j+1) k y)+(mT a h c w j k x (y+2^k)+fq a h (j+1) k x*fq c w (j+1) k (y+2^k))+(mT a h c w j k (x+2^k) y+fq a h (j+1) k (x+2^k)*fq c w (j+1) k y)+(mT a h c w j k (x+2^k) (y+2^k)+fq a h (j+1) k (x+2^k)*fq c w (j+1) k (y+2^k));generalize fq a h (j+1) k x=p,fq a h (j+1) k (x+2^k)=p',fq c w (j+1) k y=q,fq c w (j+1) k (y+2^k)=f;rw[V7,Ws,Ws];lia
theorem Bp(a c h w:Nat):∀(k x y:Nat),cnt [a,c,h,w] k x y<=mT a h c w k k x y
 |0,x,y=>Ze _
 |k+1,x,y=>by
  show(if oo x y (2^(k+1)) [a,c,h,w]=true/\_ then _ else _)<=mT a h c w k (k+1) x y+fq a h (k+1) (k+1) x*fq c w (k+1) (k+1) y;split
  ·rename_i e;have m:a<x+2^(k+1)/\x<a+h/\y<c+w/\c<y+2^(k+1):=ZG e.1;have b:fq a h (k+1) (k+1) x=1:=by
    show(if k+1=k+1 then(if _ then 1 else 0)else _)=1;rw[Zx rfl,Zx ⟨m.1,m.2.1⟩]
   have d:fq c w (k+1) (k+1) y=1:=by
    show(if k+1=k+1 then(if _ then 1 else 0)else _)=1;rw[Zx rfl,Zx ⟨m.2.2.2,m.2.2.1⟩]
   rw[SR a h c w k k x y (Ze _),b,d];have h1:=Bp a c h w k x y;have i:=Bp a c h w k x (y+2^k);have g:=Bp a c h w k (x+2^k) y;have f:=Bp a c h w k (x+2^k) (y+2^k);lia
  ·exact Zz _
theorem mm{e d u p t A:Nat}(h1:e<=min (u+p) t-max u A)(c:d<=min (u+p+p) t-max (u+p) A):e+d<=min (u+(p+p)) t-max u A:=by
 rw[<- Vt];by_cases a:t<=u+p
 ·rw[Nat.min_eq_right a]at h1;rw[Nat.min_eq_right (ZI a (Y5 _ _))]at c ⊢;have:=Nat.le_max_left (u+p) A;lia
 ·rw[Uz (Nat.le_of_not_le a)]at h1;by_cases b:A<=u+p
  ·rw[Nat.max_eq_left b]at c;lia
  ·have f:=Nat.le_of_not_le b;rw[Nat.max_eq_right f]at c;rw[Nat.max_eq_right (ZI (Y5 _ _) f)]at h1 ⊢;lia
theorem Kj(a h j:Nat)(b:1<=h):∀(i u:Nat),fq a h (j+1) (j+1+i) (u*2^(j+1))<=min (u+2^i) ((a+h-1)/2^(j+1)+1)-max u (a/2^(j+1))
 |0,u=>by
  have c:0<2^(j+1):=XB (by decide);show(if j+1=j+1 then(if _ then 1 else 0)else _)<=_;rw[Zx rfl];split
  ·rename_i m;have h1:a/2^(j+1)<=u:=by
    have:a/2^(j+1)<u+1:=(Nat.div_lt_iff_lt_mul c).mpr (by rw[XX];exact m.1);exact sT this
   have d:u<=(a+h-1)/2^(j+1):=(Nat.le_div_iff_mul_le c).mpr (by lia);rw[Nat.pow_zero];lia
  ·exact Zz _
 |i+1,u=>by
  have e:fq a h (j+1) (j+1+(i+1)) (u*2^(j+1))=fq a h (j+1) (j+1+i) (u*2^(j+1))+fq a h (j+1) (j+1+i) (u*2^(j+1)+2^(j+1+i)):=by
   show(if j+1=j+1+i+1 then _ else _)=_;rw[Zl (by lia)]
   rfl
  have g:u*2^(j+1)+2^(j+1+i)=(u+2^i)*2^(j+1):=by rw[V7,Vx 2 (j+1) i,Wd (2^i)]
  have h1:=Kj a h j b i u;have d:=Kj a h j b i (u+2^i);have f:2^(i+1)=2^i+2^i:=by rw[YH];lia
  rw[e,g,f];exact mm h1 d
def lim:Nat->Nat
 |1=>6
 |2=>4
 |3=>3
 |_=>2
theorem Pe{a h k j:Nat}(c:1<=h)(g:h<=9)(e:j+1<=k):fq a h (j+1) k 0<=lim (j+1):=by
 obtain⟨i,rfl⟩:∃i,k=j+1+i:=⟨k-(j+1),xt e⟩;have h1:=Kj a h j c i 0;rw[Nat.zero_mul]at h1;have d:0<2^(j+1):=XB (by decide);have m:(a+h-1)/2^(j+1)<=a/2^(j+1)+8/2^(j+1)+1:=by
  have:=Nat.add_div (a:=a) (b:=8) d;have l:(a+h-1)/2^(j+1)<=(a+8)/2^(j+1):=Nat.div_le_div_right (by lia);split at this<;>lia
 have f:8/2^(j+1)+2<=lim (j+1):=by
  match j with
  |0=>decide
  |1=>decide
  |2=>decide
  |j+3=>
   have:2^(j+3+1)>=16:=by
    have:=XU (n:=2) (by decide) (show 4<=j+3+1 by lia);simpa using this
   rw[Nat.div_eq_of_lt (by lia)];exact Ze 2
 lia
def tD:Nat->Nat
 |0=>0
 |j+1=>tD j+lim (j+1)*lim (j+1)
theorem R_{a h c w k:Nat}(h1:1<=h)(f:h<=9)(e:1<=w)(d:w<=9):∀j,j<=k->mT a h c w j k 0 0<=tD j
 |0,_=>Ze _
 |j+1,b=>Nat.add_le_add (R_ h1 f e d j (eJ b)) (Nat.mul_le_mul (Pe h1 f b) (Pe e d b))
theorem SQ:∀{j k:Nat},j<=k->tD j<=tD k
 |j,0,h=>by rw[show j=0 from Iu h];exact Ze _
 |j,k+1,h=>by
  by_cases e:j=k+1
  ·rw[e];exact Ze _
  ·exact ZI (SQ (show j<=k from ER h e)) (Y5 _ _)
theorem BN(s i j:Nat):∀(k u v:Nat),cnt [i*2^s,j*2^s,2^s,2^s] k (u*2^k) (v*2^k)<=k
 |0,u,v=>Ze _
 |k+1,u,v=>by
  show(if oo (u*2^(k+1)) (v*2^(k+1)) (2^(k+1)) [i*2^s,j*2^s,2^s,2^s]=true/\hasB (u*2^(k+1)) (v*2^(k+1)) (2^(k+1)) [i*2^s,j*2^s,2^s,2^s]=false then _ else _)<=_;split
  ·rename_i r;have m:i*2^s<u*2^(k+1)+2^(k+1)/\u*2^(k+1)<i*2^s+2^s/\v*2^(k+1)<j*2^s+2^s/\j*2^s<v*2^(k+1)+2^(k+1):=ZG r.1;have K:¬(i*2^s<=u*2^(k+1)/\u*2^(k+1)+2^(k+1)<=i*2^s+2^s/\j*2^s<=v*2^(k+1)/\v*2^(k+1)+2^(k+1)<=j*2^s+2^s):=YA r.2;have D:∀{x y m:Nat},0<m->x*m<y*m+m->x*m<=y*m:=λ{x y m} r h=>by
    have:x<y+1:=V3 (a:=m) (by rw[XX];exact h);exact Xr _ (sT this)
   have B:s<=k:=by
    by_cases z:s<=k
    ·exact z
    ·exfalso;apply K;obtain⟨d,rfl⟩:∃d,s=k+1+d:=⟨s-(k+1),by lia⟩;have H:0<2^(k+1):=XB (by decide);have A:2^(k+1+d)=2^d*2^(k+1):=by rw[Vx,Wd]
     have e:∀i,i*2^(k+1+d)=i*2^d*2^(k+1):=λi=>by rw[A,Xi]
     have I:∀i,i*2^(k+1+d)+2^(k+1+d)=(i*2^d+2^d)*2^(k+1):=λi=>by rw[V7,<- A,<- e]
     have f:∀u i,i*2^(k+1+d)<u*2^(k+1)+2^(k+1)->i*2^(k+1+d)<=u*2^(k+1):=λu i h=>by
      rw[e]at h ⊢;exact D H h
     have t:∀u i,u*2^(k+1)<i*2^(k+1+d)+2^(k+1+d)->u*2^(k+1)+2^(k+1)<=i*2^(k+1+d)+2^(k+1+d):=λu i h=>by
      rw[I]at h ⊢;rw[<- XX];exact Xr _ (V3 h)
     exact⟨f u i m.1,t u i m.2.1,f v j m.2.2.2,t v j m.2.2.1⟩
   obtain⟨d,rfl⟩:∃d,k=s+d:=⟨k-s,xt B⟩;have E:2^(s+d)=2^d*2^s:=by rw[Vx,Wd]
   have p:∀u,u*2^(s+d+1)=(2*u)*2^(s+d):=λu=>by rw[YH,Wd (2^(s+d)) 2,<- Xi,Wd u 2]
   have l:∀u,u*2^(s+d+1)+2^(s+d)=(2*u+1)*2^(s+d):=λu=>by rw[p];exact(XX _ _).symm
   have b:∀u i,i*2^s+2^s<=(2*u+1)*2^(s+d)\/(2*u+1)*2^(s+d)<=i*2^s:=λu i=>by
    rw[E,<- Xi,<- XX];rcases Nat.lt_or_ge i ((2*u+1)*2^d)with z|z
    ·exact .inl (Xr _ z)
    ·exact .inr (Xr _ z)
   have q0:∀x y,¬(x<i*2^s+2^s)\/¬(i*2^s<x+2^(s+d))\/¬(y<j*2^s+2^s)\/¬(j*2^s<y+2^(s+d))->cnt [i*2^s,j*2^s,2^s,2^s] (s+d) x y=0:=λx y w=>by
    cases hsd:s+d with
    |zero=>rfl
    |succ q=>
     rw[hsd]at w;show(if oo x y (2^(q+1)) [i*2^s,j*2^s,2^s,2^s]=true/\_ then _ else _)=0;rw[Zl];rintro⟨h1,_⟩;have m:i*2^s<x+2^(q+1)/\x<i*2^s+2^s/\y<j*2^s+2^s/\j*2^s<y+2^(q+1):=ZG h1;rcases w with z|z|z|z
     ·exact z m.2.1
     ·exact z m.1
     ·exact z m.2.2.1
     ·exact z m.2.2.2
   have N:=BN s i j (s+d) (2*u) (2*v);have M:=BN s i j (s+d) (2*u) (2*v+1);have O:=BN s i j (s+d) (2*u+1) (2*v);have L:=BN s i j (s+d) (2*u+1) (2*v+1);rw[l,l,p,p];have n:∀u:Nat,(2*u)*2^(s+d)+2^(s+d)=(2*u+1)*2^(s+d):=λu=>(XX _ _).symm;rcases b u i with g|g
   ·have G:=q0 ((2*u+1)*2^(s+d)) ((2*v)*2^(s+d)) (.inl (fO g));have F:=q0 ((2*u+1)*2^(s+d)) ((2*v+1)*2^(s+d)) (.inl (fO g));rcases b v j with c|c
    ·have C:=q0 ((2*u)*2^(s+d)) ((2*v+1)*2^(s+d)) (.inr (.inr (.inl (fO c))));lia
    ·have J:=q0 ((2*u)*2^(s+d)) ((2*v)*2^(s+d)) (.inr (.inr (.inr (by rw[n];exact fO c))));lia
   ·have J:=q0 ((2*u)*2^(s+d)) ((2*v)*2^(s+d)) (.inr (.inl (by rw[n];exact fO g)));have C:=q0 ((2*u)*2^(s+d)) ((2*v+1)*2^(s+d)) (.inr (.inl (by rw[n];exact fO g)));rcases b v j with c|c
    ·have F:=q0 ((2*u+1)*2^(s+d)) ((2*v+1)*2^(s+d)) (.inr (.inr (.inl (fO c))));lia
    ·have G:=q0 ((2*u+1)*2^(s+d)) ((2*v)*2^(s+d)) (.inr (.inr (.inr (by rw[n];exact fO c))));lia
  ·exact Zz _
theorem SO{n:Nat}{bs:List Row}(v:n<=12)(h:EG n bs):iu (bt n bs 0 0)<=485:=by
 rcases h.2 with⟨u,_⟩|⟨D,t⟩
 ·refine ZI (zC n bs 0 0) ?_
  match n,u with
  |0,_|1,_|2,_|3,_=>decide
 ·refine ZI (BW n bs 0 0) ?_;have a:∀b∈bs,cnt b n 0 0<=97:=λb hb=>by
   obtain⟨r,c,g,w,rfl,h1,m,_⟩:=h.1 b hb;obtain⟨G,F,y,C,e,k⟩:=t _ hb;simp only[Xb,UC]at e;obtain⟨rfl,rfl,rfl,rfl⟩:=e;rcases k with⟨p,q⟩|⟨s,i,j,rfl,rfl,rfl,rfl⟩
   ·refine ZI (Bp r c g w n 0 0) (ZI (R_ h1 p m q n (Ze _)) (ZI (SQ v) (by decide)))
   ·have:=BN s i j n 0 0;rw[Nat.zero_mul]at this;lia
  unfold gu;have d:∀l:List Row,(∀b∈l,cnt b n 0 0<=97)->(l.map λb=>cnt b n 0 0).sum<=l.length*97:=λl f=>by
   induction l with
   |nil=>exact Zz _
   |cons b l B=>
    have h1:=f b ZE;have E:=B λx A=>f x (Zk _ A);rw[ZC,X1,Z4,XX];lia
  have:=d bs a;lia
theorem kp0{b d e c:Tr}{L a:List Tr}(h:a=post c (post e (post d (post b L))))(z:[0,0,0,0]=[name a b,name a d,name a e,name a c].map λx:Nat=>(x:Int)):a=L/\mk b d e c=.z/\name a b=0:=by
 simp only[ZC,VN,Xb,UC]at z;have g:=uB (L:=a) (t:=b) (by lia);have i:=uB (L:=a) (t:=d) (by lia);have j:=uB (L:=a) (t:=e) (by lia);have f:=uB (L:=a) (t:=c) (by lia);subst g i j f;exact⟨h,rfl,rfl⟩
theorem kp1{b d e c:Tr}{L a:List Tr}(h:a=post c (post e (post d (post b L))))(z:[1,1,1,1]=[name a b,name a d,name a e,name a c].map λx:Nat=>(x:Int)):a=L/\mk b d e c=.o/\name a b=1:=by
 simp only[ZC,VN,Xb,UC]at z;have g:=uz (L:=a) (t:=b) (by lia);have i:=uz (L:=a) (t:=d) (by lia);have j:=uz (L:=a) (t:=e) (by lia);have f:=uz (L:=a) (t:=c) (by lia);subst g i j f;exact⟨h,rfl,rfl⟩
theorem kpn{c d e b:Tr}{a:List Tr}(hc:¬(decide ([0,0,0,0]=[name a c,name a d,name a e,name a b].map λx:Nat=>(x:Int))||decide ([1,1,1,1]=[name a c,name a d,name a e,name a b].map λx:Nat=>(x:Int)))=true):mk c d e b=.nd c d e b:=by
 unfold mk;rw[Zl,Zl]
 ·rintro⟨rfl,rfl,rfl,rfl⟩;exact hc (by rw[VD];exact .inr (Zt rfl))
 ·rintro⟨rfl,rfl,rfl,rfl⟩;exact hc (by rw[VD];exact .inl (Zt rfl))
theorem kpi{b c d a:Tr}{L f:List Tr}(n:Ord L)(h:f=post a (post d (post c (post b L))))(k:Tr.nd b c d a∈f):Tr.nd b c d a∈L/\f=L:=by
 have g:Tr.nd b c d a∈L:=by
  by_cases j:Tr.nd b c d a∈L
  ·exact j
  ·exact absurd (h▸k) (Tr.iN j)
 obtain⟨i,p,l⟩:=ZH.mp g;have e:=λs m=>(Tr.eh n (i:=i) (t:=.nd b c d a) (by rw[Zd p,l]) (s:=s) m).1;exact⟨g,by rw[h,By (e b (by simp[Tr.kids])),By (e c (by simp[Tr.kids])),By (e d (by simp[Tr.kids])),By (e a (by simp[Tr.kids]))]⟩
theorem kpx{a b c d:Tr}{L e:List Tr}(f:e=post d (post c (post b (post a L))))(g:Tr.nd a b c d∉e):post (.nd a b c d) L=e++[.nd a b c d]:=by
 have i:Tr.nd a b c d∉L:=λz=>g (by
  rw[f];obtain⟨m,h1⟩:=Tr.cC a L;obtain⟨p,k⟩:=Tr.cC b (Tr.post a L);obtain⟨l,j⟩:=Tr.cC c (Tr.post b (Tr.post a L));obtain⟨n,h⟩:=Tr.cC d (Tr.post c (Tr.post b (Tr.post a L)));rw[h,j,k,h1];simp[z])
 rw[f];show(if Tr.nd a b c d∈L then L else _)=_;rw[Zl i]
end Qf
namespace Pr
open PySem L2 Qf
theorem xP3{e f g d:Tr}{c:List Tr}(j:Tr.Ord c)(i:∀s∈Tr.kids (.nd e f g d),Tr.In c s)(l:¬[Tr.name c e,Tr.name c f,Tr.name c g,Tr.name c d]∈Tr.rowsOf c):
  putK (tK (Tr.rowsOf c)) (fe [Tr.name c e,Tr.name c f,Tr.name c g,Tr.name c d]) (.int (((tK (Tr.rowsOf c)).length:Int)+2))=tK (Tr.rowsOf (c++[.nd e f g d])):=by
 have h:=Tx j i;rw[show(Tr.kids (.nd e f g d)).map (Tr.name c)=[Tr.name c e,Tr.name c f,Tr.name c g,Tr.name c d]from rfl]at h;have m:(tK (Tr.rowsOf c)).length=c.length:=by unfold tK;rw[E9,Tr.br]
 have h1:=xh2 (key:=fe) (k:=2) (λa b=>Kp) l;rw[h,m];unfold tK;rw[<- h1,Tr.br];congr 2;lia
structure gf(p D:af)(H:Hp)(ok:Row->Prop)(i:Nat)(xs:List V)(H2:Hp):Prop where
 but:cf p H H2
 Gs:aV H2 p
 at_:H2 D=some (.lst xs)
 len:xs.length<=i
 aN:∃(cs:List af)(bs:List Row),xs=cs.map V.ref/\cs.length=bs.length/\(∀b∈bs,ok b)/\∀(j:Nat) c b,cs[j]?=some c->bs[j]?=some b->H2 c=some (.tup (vN b))
theorem gf.start{p D:af}{H:Hp}{ok:Row->Prop}(d:aV H p)(a:H D=none):gf p D H ok 0 [] (upd H D (.lst [])):=
 ⟨cf.of (bQ a),d.same (bQ a),bu,Ze _,[],[],rfl,rfl,λb hb=>(nomatch hb),λj c b e=>by simp at e⟩
theorem gf.kept{p D:af}{H d a:Hp}{ok:Row->Prop}{i:Nat}{xs:List V}(g:gf p D H ok i xs d)(v:p≠D)(b:cf p d a)(t:aV a p):gf p D H ok (i+1) xs a:=by
 obtain⟨A,h,u,m,w,bs,e,s,l,k⟩:=g;refine⟨A.trans b,t,b _ _ u (Xc v),uJ m,w,bs,e,s,l,λj c r q n=>?_⟩;have:=k j c r q n;refine b _ _ this λz=>?_;obtain⟨x,y,f,_⟩:=h;rw[z,f]at this;cases this
theorem gf.more{p D t:af}{H A a:Hp}{ok:Row->Prop}{i:Nat}{xs:List V}{r:Row}(g:gf p D H ok i xs A)(M:H D=none)(F:p≠D)(b:cf p A a)(C:aV a p)(w:a t=some (.tup (vN r)))(J:ok r):
  a D=some (.lst xs)/\gf p D H ok (i+1) (xs++[.ref t]) (upd a D (.lst (xs++[.ref t]))):=by
 have k:=g.kept F b C;obtain⟨P,Q,E,R,l,bs,rfl,m,L,v⟩:=k;have K:=g.len;refine⟨E,λc o e n=>?_,?_,bu,by rw[Zn];show(l.map V.ref).length+1<=_;exact CW K,l++[t],bs++[r],xh3 l t,by rw[Zn,Zn,m];rfl,?_,?_⟩
 ·rw[cN (dI e M)];exact P c o e n
 ·obtain⟨x,y,e,I⟩:=C;exact⟨x,y,by rw[cN F];exact e,I⟩
 ·intro z h;rcases ZX.mp h with h|h
  ·exact L z h
  ·have:z=r:=by simpa using h
   rw[this];exact J
 ·intro j c q d f;have B:∀{c:af}{u:List V},a c=some (.tup u)->c≠D:=λ{c u} e z=>by rw[z,E]at e;cases e
  by_cases s:j<l.length
  ·rw[Zw s]at d;rw[Zw (nN s m)]at f;have:=v j c q d f;rw[cN (B this)];exact this
  ·rw[ZF (iE s)]at d;rw[ZF (Il m s)]at f;have G:j-l.length=0:=by
    have:=(cz d).1;simp at this;exact this
   rw[G]at d;rw[<- m,G]at f;have O:c=t:=by simpa using d.symm
   have N:q=r:=by simpa using f.symm
   rw[O,N,cN (B w)];exact w
theorem gf.rows{p D:af}{H c:Hp}{ok:Row->Prop}{i:Nat}{xs:List V}(g:gf p D H ok i xs c):∃bs:List Row,bc c D bs/\(∀b∈bs,ok b)/\bs.length<=i:=by
 obtain⟨_,_,j,a,f,bs,rfl,d,e,h⟩:=g;exact⟨bs,⟨f,j,d,h⟩,e,by rw[Zh]at a;exact uK d a⟩
abbrev Ow:List ar:=["_law_pot_here","_law_n","_law_side"]
theorem iU:aF Ow ["_law_pot_here","_law_n"] (bJ Cd):=cZ
inductive o8(vs:List V)(H:Hp)(Q:VK):Prop
 |mk(p:af)(n:Nat)(e0:vs=[.ref p,.int (n:Nat)])(e1:aV H p)(e2:n<4)(e3:∀(H':Hp)(l:af)(bs:List Row),cf p H H'->aV H' p->H l=none->bc H' l bs->(∀b∈bs,wy n b)->bs.length<=64->Q (.ref l) H')
def Pd:Sp:=λa H Q _=>o8 a H Q
theorem xk4{f G:af}{X l:ak}(F:a_ K "_law_cells" "_law_cells" Cd f X)(B:eF mg)(hD:mg "_law_digit"=some (.ref G))(S:a_ K "_law_digit" "_law_digit" uo G l)(bD:Binds K l ["_law_pot_here","_law_many"] []):
  aE P w K mg base aS 2 f X ["_law_pot_here","_law_n"] Pd:=by
 have GD:aE P w K mg base aS 1 G l ["_law_pot_here","_law_many"] wm:=BG S;refine F.ok iU (λvs H Q E h=>?_) (λbO A u s H vs Q E hr h=>?_)
 ·obtain⟨p,n,rfl,_⟩:=h
  rfl
 ·obtain⟨p,n,rfl,U,hn,q⟩:=h;refine aQ ⟨_,⟨cg 2 iU.nd (aO jl aK (pv 1))⟩,?_⟩;refine gj ⟨_,⟨cF (Tg Ow (bJ Cd) rfl rfl rfl iU.nd (BM (by rfl) B.range (aG (aO gJ (pv 2) (pv 2)) aP))
   (λcl C fp Z aJ=>c_ nG (bZ GD hr hD S.kp bD (aG (pv 1) (aG aK aP))) aK (cD _))
   (λcl C fp Z aJ=>bw.go ⟨fo (aW.go (.cons ⟨aO rq (pv 0) (pv 3)⟩ (.cons ⟨aO wj (pv 0) (pv 3)⟩ (.cons ⟨aK⟩ (.cons ⟨aK⟩ .nil rfl) rfl) rfl) rfl))⟩))⟩,?_⟩
  obtain⟨p1,c⟩:=zj (show n<=12 by lia);have L:2^n<=8:=by
   have:=XU (n:=2) (by decide) (show n<=3 by lia);simpa using this
  have k:=Bq n;refine⟨_,rfl,_,_,rfl,rfl,⟨mw,by lia,by decide⟩,?_⟩;have y:(2^n*2^n:Nat)<=64:=by
   have:=Nat.mul_le_mul L L;lia
  have I:((1:Int)*2^((n:Int)).toNat)*(1*2^((n:Int)).toNat)=((2^n*2^n:Nat):Int):=by rw[k];push_cast;rfl
  have x:(((1:Int)*2^((n:Int)).toNat)*(1*2^((n:Int)).toNat)).toNat=2^n*2^n:=by rw[I,ZD]
  refine⟨_,rfl,_,rfl,_,_,rfl,rfl,.inl ⟨by lia,by lia⟩,_,rfl,by lia,by lia,λD j=>?_⟩;have W:p≠D:=by obtain⟨a,b,e,_⟩:=U;exact dI e j
  refine xb1 (gf p D H (wy n)) (by rw[x];exact ow (by lia)) (gf.start U j) (λi N v g=>⟨g.at_,g.len⟩) ?_ ?_
  ·intro i N v Y g os ho Q1 Q2 q1 q2;rw[x]at Y;obtain⟨o1,rfl⟩:=L2.Cy ho
   ·
    refine⟨_,rfl,p,2,rfl,g.Gs,by decide,by decide,λd O hd J R=>⟨rfl,_,rfl,?_⟩⟩;refine cw (λ_=>?_) (λ_=>q1 O (g.kept W J R));refine⟨_,rfl,_,rfl,_,_,rfl,rfl,⟨Qm c k,by lia⟩,_,rfl,_,rfl,_,_,rfl,rfl,(by show(0:Int)<1*2^((n:Int)).toNat;exact Qm c k),(by show 4<=sizeLine;decide),λt M=>?_⟩;have DU:wy n [i/2^n,i%2^n,1,1]:=by
     refine⟨_,_,_,_,rfl,Ze _,Ze _,?_,?_⟩
     ·exact(Nat.div_lt_iff_lt_mul c).mpr Y
     ·exact We _ c
    have e4:HO.tup [V.int ((0+(i:Int))/(1*2^((n:Int)).toNat)),V.int ((0+(i:Int))%(1*2^((n:Int)).toNat)),V.int 1,V.int 1]=HO.tup (vN [i/2^n,i%2^n,1,1]):=by
     rw[k,Wh];show HO.tup [V.int ((i:Int)/((2^n:Nat):Int)),V.int ((i:Int)%((2^n:Nat):Int)),V.int 1,V.int 1]=HO.tup [V.int ((i/2^n:Nat):Int),V.int ((i%2^n:Nat):Int),V.int 1,V.int 1];rw[Vp,Vq]
    show Q2 (.ref t) (upd O t (HO.tup [V.int ((0+(i:Int))/(1*2^((n:Int)).toNat)),V.int ((0+(i:Int))%(1*2^((n:Int)).toNat)),V.int 1,V.int 1]));rw[e4];have m:=g.more (t:=t) (r:=[i/2^n,i%2^n,1,1]) j W (J.trans (cf.of (bQ M))) (R.same (bQ M)) bu DU;exact q2 _ _ m.1 m.2
  ·intro N v g;obtain⟨bs,h1,h2,T⟩:=g.rows;exact q v D bs g.but g.Gs j h1 h2 (by rw[x]at T;exact nU T y)
abbrev Ov:List ar:=["_law_pot_here","_law_n"]
theorem mV:aF Ov ["_law_pot_here","_law_n"] (bJ Cc):=cZ
inductive o9(vs:List V)(H:Hp)(Q:VK):Prop
 |mk(p:af)(n:Nat)(e0:vs=[.ref p,.int (n:Nat)])(e1:aV H p)(e2:n<=12)(e3:∀(H':Hp)(l:af)(bs:List Row),cf p H H'->aV H' p->H l=none->bc H' l bs->EG n bs->Q (.ref l) H')
def Pc:Sp:=λa H Q _=>o9 a H Q
theorem xk5{f Y R X:af}{fd S W V:ak}(F:a_ K "_law_boxes" "_law_boxes" Cc f fd)(B:eF mg)(J:mg "_law_digit"=some (.ref Y))(u:a_ K "_law_digit" "_law_digit" uo Y S)(M:Binds K S ["_law_pot_here","_law_many"] [])
  (hC:mg "_law_cells"=some (.ref R)) (FC:a_ K "_law_cells" "_law_cells" Cd R W) (bC:Binds K W ["_law_pot_here","_law_n"] [])
  (hB:mg "_law_box"=some (.ref X)) (Z:a_ K "_law_box" "_law_box" tF X V) (bB:Binds K V ["_law_pot_here","_law_n","_law_most"] []):
  aE P w K mg base aS 3 f fd ["_law_pot_here","_law_n"] Pc:=by
 have GD:aE P w K mg base aS 1 Y S ["_law_pot_here","_law_many"] wm:=BG u;have GC:aE P w K mg base aS 2 R W ["_law_pot_here","_law_n"] Pd:=xk4 FC B J u M;have GB:aE P w K mg base aS 2 X V ["_law_pot_here","_law_n","_law_most"] HU:=xP0 Z B J u M;refine F.ok mV (λvs H Q E h=>?_) (λbO A T s H vs Q E O h=>?_)
 ·obtain⟨p,n,rfl,_⟩:=h
  rfl
 ·obtain⟨p,n,rfl,hp,hn,q⟩:=h;have jH:bf 1 _:=O.mono (by decide);refine aQ ⟨_,⟨dE (PW.pt (Ga (c_ iD (pv 1) aK (cD _)) (Gr (c_ nG (bZ GD jH J u.kp M (aG (pv 0) (aG aK aP))) aK (cD _)))))
   (cR (cF (bZ GC O hC FC.kp bC (aG (pv 0) (aG (pv 1) aP))))) dG⟩,?_⟩
  refine gj ⟨_,⟨cF (rz Ov (bJ Cc) rfl rfl rfl mV.nd (BM (by rfl) B.range (aG (bZ GD jH J u.kp M (aG (pv 0) (aG aK aP))) aP))
   (λcl C fp aH aJ=>bZ GB O hB Z.kp bB (aG (pv 1) (aG (pv 2) (aG aK aP)))))⟩,?_⟩
  have c:∀k,cf p H k->aV k p->EJ (P4 (uG (BS wm [] E0 (uG (eZ 0) (uG (tC (.int 6)) oR))) oR)) (BS HU [] E0 (uG (eZ 1) (uG (eZ 2) (uG (tC (.int 9)) oR)))) [some (.ref p),some (.int (n:Nat))] k Q:=λk j v=>by
   refine⟨_,rfl,p,6,rfl,v,by decide,by decide,λd y hd I L=>⟨_,rfl,by lia,by lia,λD x=>?_⟩⟩;have rB:p≠D:=by obtain⟨a,b,e,_⟩:=L;exact dI e x
   have M3:H D=none:=by
    cases e:H D with
    |none=>rfl
    |some o=>rw[(j.trans I) _ _ e (Xc rB)]at x;cases x
   refine Sf (gf p D y (λb=>wy n b/\HV b)) (by rw[ZD];exact ow (by lia)) (gf.start L x) (λi xs y g=>⟨g.at_,g.len⟩) ?_ ?_
   ·intro i xs H3 hi g Q2 q2;refine⟨_,rfl,_,rfl,p,n,rfl,g.Gs,hn,λH4 t b b4 kP ht h1 G=>?_⟩;have m:=g.more (t:=t) (r:=b) x rB b4 kP ht ⟨h1,G⟩;exact q2 _ _ m.1 m.2
   ·intro xs H3 g;obtain⟨bs,h1,G,h3⟩:=g.rows;rw[ZD]at h3;exact q H3 D bs ((j.trans I).trans g.but) g.Gs M3 h1 ⟨λb hb=>(G b hb).1,.inr ⟨by lia,λb hb=>(G b hb).2⟩⟩
  refine⟨_,rfl,_,_,rfl,rfl,_,rfl,?_⟩;refine cw (λhc=>?_) (λhc=>?_)
  ·have n4:n<4:=by have:=ZG hc;lia
   refine⟨_,rfl,p,2,rfl,hp,by decide,by decide,λd k hd j v=>⟨rfl,_,rfl,?_⟩⟩;refine cw (λ_=>?_) (λ_=>c k j v);refine⟨_,rfl,_,rfl,p,n,rfl,v,n4,λy l bs I L U hR hb j9=>q y l bs (j.trans I) L ?_ hR ⟨hb,.inl ⟨n4,j9⟩⟩⟩;cases e:H l with
   |none=>rfl
   |some o=>
    have N:l≠p:=by obtain⟨a,b,e2,_⟩:=v;exact(dI e2 U).symm
    rw[j _ _ e N]at U;cases U
  ·exact bY (c H (cf.refl p H) hp)
end Pr
namespace Qf
open Tr
theorem R9{m:Row->Bool}:∀(bs:List Nat)(a:List Row),bs.length=a.length ->
  ((List.range bs.length).filter (λi=>m (a.getD i []))).map (λi=>bs.getD i 0)=((bs.zip a).filter (λq=>m q.2)).map Prod.fst
 |[],[],_=>rfl
 |b::bs,r::a,h=>by
  have d:=R9 (m:=m) bs a (by simpa using h);rw[Z4,Vb,Yy,WU,Yy,List.filter_map];have e:((λi=>m ((r::a).getD i []))∘Nat.succ)=λi=>m (a.getD i []):=by funext i;rfl
  have c:((λi=>(b::bs).getD i 0)∘Nat.succ)=λi=>bs.getD i 0:=by funext i;rfl
  rw[e];show List.map _ (if m r=true then _ else _)=List.map _ (if m r=true then _ else _);split
  ·rw[ZC,Yq,c,d,ZC];rfl
  ·rw[Yq,c,d]
theorem Ki{m:Row->Bool}:∀(bs:List Nat)(a:List Row),bs.length=a.length->((bs.zip a).filter (λq=>m q.2)).map Prod.snd=a.filter m
 |[],[],_=>rfl
 |b::bs,r::a,h=>by
  have c:=Ki (m:=m) bs a (by simpa using h);rw[WU,Yy,Yy];show List.map _ (if m r=true then _ else _)=_;split
  ·rw[ZC,c]
  ·exact c
end Qf
namespace Pr
open PySem L2 Qf
theorem bc.filter{H f:Hp}{p D:af}{a:List Row}{bs:List af}(m:Row->Bool)(d:bs.length=a.length)(u:∀(i:Nat) b r,bs[i]?=some b->a[i]?=some r->H b=some (.tup (vN r)))(s:aI H f)
  (k:f D=some (.lst (((List.range bs.length).filter (λi=>m (a.getD i []))).map (λi=>V.ref (bs.getD i 0))))):bc f D (a.filter m):=by
 have e:((List.range bs.length).filter (λi=>m (a.getD i []))).map (λi=>V.ref (bs.getD i 0))=(((bs.zip a).filter (λq=>m q.2)).map Prod.fst).map V.ref:=by
  rw[<- R9 bs a d,Yq];rfl
 rw[e]at k;refine⟨_,k,by rw[<- Ki bs a d,Zh,Zh],λi b r l c=>?_⟩;rw[<- Ki bs a d]at c;rw[Zf]at l c;obtain⟨q,h,rfl⟩:=Zj.mp l;rw[h]at c;have t:q.2=r:=by simpa using c
 have w:=(Y9.mp (Zv h)).1;obtain⟨j,n,v⟩:=ZH.mp w;rw[List.length_zip]at n;have g:(bs.zip a)[j]?=some q:=by rw[Zd (by rw[List.length_zip];exact n),v]
 rw[List.getElem?_zip_eq_some]at g;rw[<- t];exact s _ _ (u j q.1 q.2 g.1 g.2)
abbrev mW:List ar:=["_law_box_here","_law_row","_law_column","_law_side"]
theorem xy0:aF mW mW (bJ zI):=cZ
theorem xV3:aF mW mW (bJ nY):=cZ
inductive o6(m:Nat->Nat->Nat->Row->Bool)(vs:List V)(H:Hp)(Q:VK):Prop
 |mk(b:af)(bx:Row)(r c s:Nat)(e0:vs=[.ref b,.int (r:Nat),.int (c:Nat),.int (s:Nat)])(e1:H b=some (.tup (vN bx)))(e2:bx.length=4)(e3:Q (.bl (m r c s bx)) H)
def Gb(m:Nat->Nat->Nat->Row->Bool):Sp:=λa H Q _=>o6 m a H Q
theorem xk6{f:af}{j:ak}(F:a_ K "_law_meets" "_law_meets" zI f j):aE P w K mg base aS 1 f j mW (Gb oo):=by
 refine F.ok xy0 (λn H Q E h=>?_) (λp A i s H n Q E t h=>?_)
 ·obtain⟨b,bx,r,c,s,rfl,_⟩:=h
  rfl
 ·obtain⟨b,bx,r,c,s,rfl,hb,m,q⟩:=h;obtain⟨x,y,d,g,rfl⟩:=zg m;refine aQ ⟨_,⟨dE (iW (c_ om (aO c7 (pv 1) (pv 3)) (cb cJ (pv 0) aK) (cD _))
   (mZ (c_ om (aO c7 (cb cJ (pv 0) aK) (cb cJ (pv 0) aK)) (pv 1) (cD _)))).pt (cR (cF j_)) dG⟩,?_⟩
  refine gj ⟨_,⟨cF (nK (jn iD (pv 2) (aO c7 (cb cJ (pv 0) aK) (cb cJ (pv 0) aK)) (cD _)) (rn (jn iD (cb cJ (pv 0) aK) (aO c7 (pv 2) (pv 3)) (cD _))))⟩,?_⟩;have k:oo r c s [x,y,d,g]=decide (x<r+s/\r<x+d/\c<y+g/\y<c+s):=rfl;rw[k]at q;refine⟨_,rfl,_,rfl,_,_,rfl,rfl,_,rfl,b,_,0,.int (x:Nat),rfl,rfl,aZ.of hb,rfl,_,_,rfl,rfl,_,rfl,?_⟩;refine cw (λa=>?_) (λa=>?_)
  ·have:=ZG a;rw[Zo (by lia)]at q;exact dw q
  ·have h1:=YA (Ye.mpr a);refine⟨_,rfl,b,_,0,.int (x:Nat),rfl,rfl,aZ.of hb,rfl,_,rfl,b,_,2,.int (d:Nat),rfl,rfl,aZ.of hb,rfl,_,_,rfl,rfl,_,rfl,_,_,rfl,rfl,_,rfl,?_⟩;refine cw (λa=>?_) (λa=>?_)
   ·have:=ZG a;rw[Zo (by lia)]at q;exact q
   ·have u:=YA (Ye.mpr a);refine⟨_,rfl,_,rfl,b,_,1,.int (y:Nat),rfl,rfl,aZ.of hb,rfl,_,rfl,b,_,3,.int (g:Nat),rfl,rfl,aZ.of hb,rfl,_,_,rfl,rfl,_,_,rfl,rfl,_,rfl,?_⟩;refine cw (λa=>?_) (λa=>?_)
    ·have l:=ZG a;refine⟨_,rfl,b,_,1,.int (y:Nat),rfl,rfl,aZ.of hb,rfl,_,rfl,_,rfl,_,_,rfl,rfl,_,_,rfl,rfl,?_⟩;have e:decide ((y:Int)<(c:Int)+(s:Int))=decide (x<r+s/\r<x+d/\c<y+g/\y<c+s):=by
      congr 1;exact propext ⟨λz=>⟨by lia,by lia,by lia,P_ z⟩,λz=>by lia⟩
     show Q (.bl (decide ((y:Int)<(c:Int)+(s:Int)))) H;rw[e];exact q
    ·have l:=YA (Ye.mpr a);rw[Zo (by lia)]at q;exact q
theorem xP4{f:af}{j:ak}(F:a_ K "_law_has" "_law_has" nY f j):aE P w K mg base aS 1 f j mW (Gb hasB):=by
 refine F.ok xV3 (λn H Q E h=>?_) (λp A i s H n Q E t h=>?_)
 ·obtain⟨b,bx,r,c,s,rfl,_⟩:=h
  rfl
 ·obtain⟨b,bx,r,c,s,rfl,hb,m,q⟩:=h;obtain⟨x,y,g,d,rfl⟩:=zg m;refine aQ ⟨_,⟨dE (iW (c_ iD (pv 1) (cb cJ (pv 0) aK) (cD _))
   (mZ (c_ iD (aO c7 (cb cJ (pv 0) aK) (cb cJ (pv 0) aK)) (aO c7 (pv 1) (pv 3)) (cD _)))).pt (cR (cF j_)) dG⟩,?_⟩
  refine gj ⟨_,⟨cF (nK (jn om (cb cJ (pv 0) aK) (pv 2) (cD _)) (rn (jn om (aO c7 (pv 2) (pv 3)) (aO c7 (cb cJ (pv 0) aK) (cb cJ (pv 0) aK)) (cD _))))⟩,?_⟩;have k:hasB r c s [x,y,g,d]=decide (x<=r/\r+s<=x+g/\y<=c/\c+s<=y+d):=rfl;rw[k]at q;refine⟨_,rfl,_,rfl,b,_,0,.int (x:Nat),rfl,rfl,aZ.of hb,rfl,_,_,rfl,rfl,_,rfl,?_⟩;refine cw (λa=>?_) (λa=>?_)
  ·have:=ZG a;rw[Zo (by lia)]at q;exact dw q
  ·have h1:=YA (Ye.mpr a);refine⟨_,rfl,b,_,0,.int (x:Nat),rfl,rfl,aZ.of hb,rfl,_,rfl,b,_,2,.int (g:Nat),rfl,rfl,aZ.of hb,rfl,_,_,rfl,rfl,_,rfl,_,rfl,_,_,rfl,rfl,_,_,rfl,rfl,_,rfl,?_⟩;refine cw (λa=>?_) (λa=>?_)
   ·have:=ZG a;rw[Zo (by lia)]at q;exact q
   ·have u:=YA (Ye.mpr a);refine⟨_,rfl,b,_,1,.int (y:Nat),rfl,rfl,aZ.of hb,rfl,_,rfl,_,_,rfl,rfl,_,rfl,?_⟩;refine cw (λa=>?_) (λa=>?_)
    ·have l:=ZG a;refine⟨_,rfl,_,rfl,_,_,rfl,rfl,_,rfl,b,_,1,.int (y:Nat),rfl,rfl,aZ.of hb,rfl,_,rfl,b,_,3,.int (d:Nat),rfl,rfl,aZ.of hb,rfl,_,_,rfl,rfl,_,_,rfl,rfl,?_⟩;have e:decide ((c:Int)+(s:Int)<=(y:Int)+(d:Int))=decide (x<=r/\r+s<=x+g/\y<=c/\c+s<=y+d):=by
      congr 1;exact propext ⟨λz=>⟨by lia,by lia,by lia,by lia⟩,λz=>by lia⟩
     show Q (.bl (decide ((c:Int)+(s:Int)<=(y:Int)+(d:Int)))) H;rw[e];exact q
    ·have l:=YA (Ye.mpr a);rw[Zo (by lia)]at q;exact q
end Pr
namespace Qf
open Tr
def qt(k:Nat)(m:List Row)(r c i:Nat):Tr:=bt k m (r+2^k*(i/2)) (c+2^k*(i%2))
def qL(k:Nat)(m:List Row)(r c:Nat)(L:List Tr):Nat->List Tr
 |0=>L
 |i+1=>post (qt k m r c i) (qL k m r c L i)
theorem BV{k:Nat}{m:List Row}{r c:Nat}{L:List Tr}(h:Ord L):∀i,Ord (qL k m r c L i)
 |0=>h
 |i+1=>(cq _ _ (BV h i)).1
theorem zB{k:Nat}{m:List Row}{r c:Nat}{L:List Tr}(h:Ord L){j:Nat}:∀i,j<i->In (qL k m r c L i) (qt k m r c j)
 |i+1,a=>by
  by_cases e:j=i
  ·rw[e];exact(cq _ _ (BV h i)).2
  ·exact(zB h i (xq a e)).post _
theorem xy1{k:Nat}{m:List Row}{r c:Nat}{L:List Tr}(h:Ord L){i:Nat}{t:Tr}(a:In (qL k m r c L i) t):name (qL k m r c L (i+1)) t=name (qL k m r c L i) t:=by
 obtain⟨s,e⟩:=cC (qt k m r c i) (qL k m r c L i);show name (post _ _) t=_;rw[e];exact fJ a (BV h i)
theorem IC{k:Nat}{m:List Row}{r c:Nat}{L:List Tr}:∀i,(qL k m r c L i).length<=L.length+i*sz k
 |0=>by show L.length<=_;exact jo
 |i+1=>by
  have h1:=IC (k:=k) (m:=m) (r:=r) (c:=c) (L:=L) i;have a:=za (qt k m r c i) (qL k m r c L i);have b:=zC k m (r+2^k*(i/2)) (c+2^k*(i%2));show(post _ _).length<=_;rw[XX];unfold qt at a;unfold qt;lia
def names(k:Nat)(m:List Row)(r c:Nat)(L:List Tr)(i:Nat):List Nat:=(List.range i).map λj=>name (qL k m r c L i) (qt k m r c j)
theorem qX8{k:Nat}{m:List Row}{r c:Nat}{L:List Tr}(h:Ord L)(i:Nat):names k m r c L (i+1)=names k m r c L i++[name (post (qt k m r c i) (qL k m r c L i)) (qt k m r c i)]:=by
 unfold names;rw[Xa,ZY];congr 1;exact YF λj a=>xy1 h (zB h i (YJ.mp a))
theorem xV4(k:Nat)(a:List Row)(r c:Nat)(h1:met a r c (2^(k+1))≠[])(b:(met a r c (2^(k+1))).any (hasB r c (2^(k+1)))=false):
  bt (k+1) a r c=mk (qt k (met a r c (2^(k+1))) r c 0) (qt k (met a r c (2^(k+1))) r c 1) (qt k (met a r c (2^(k+1))) r c 2) (qt k (met a r c (2^(k+1))) r c 3):=by
 unfold bt;rw[Zl h1,Zl (by rw[b];decide)];unfold qt;simp
theorem xy2{a:List Row}{r c s:Nat}:(met a r c s).length<=a.length:=Wm _ _
theorem xy3{a:List Row}{r c:Nat}(h:met a r c 1≠[]):(met a r c 1).any (hasB r c 1)=true:=by
 obtain⟨b,hb⟩:=List.exists_mem_of_ne_nil _ h;refine WC.mpr ⟨b,hb,?_⟩;have m:b.getD 0 0<r+1/\r<b.getD 0 0+b.getD 2 0/\c<b.getD 1 0+b.getD 3 0/\b.getD 1 0<c+1:=ZG (Y9.mp hb).2;exact Zt ⟨by lia,by lia,by lia,by lia⟩
theorem Pw:∀{k n:Nat},k<=n->sz k<=sz n
 |k,0,h=>by rw[show k=0 from Iu h];exact Ze _
 |k,n+1,h=>by
  by_cases e:k=n+1
  ·rw[e];exact Ze _
  ·have:=Pw (show k<=n from ER h e);show _<=4*sz n+1;lia
end Qf
namespace L2
open PySem
theorem xd3{H:Hp}{n:Nat}{te:TE}{σ:St}{Fin:Hp->Prop}{D:af}(f:Nat->List V->Hp->Prop)(hsz:n<sizeLine)(i0:f 0 [] (upd H D (.lst [])))(r:∀i a c,f i a c->c D=some (.lst a)/\a.length<=i)
  (step:∀i a c,i<n->f i a c->∀q:VK,(∀v e,e D=some (.lst a)->f (i+1) (a++[v]) (upd e D (.lst (a++[v])))->q v e)->te (some (.int (0+(i:Int)))::σ) c q)
  (fin:∀a c,f n a c->Fin c):
  ∃W:Nat->Nat->List V->Hp->Prop,(∃m,W 0 m [] (upd H D (.lst []))) /\
   ∀i m a c,W i m a c->c D=some (.lst a)/\a.length<sizeLine/\(((mM 0 n).stop i c/\Fin c)\/((mM 0 n).go i c/\∀y e,(mM 0 n).iI i c y e->∀k:St,k.length=1 ->
    di 0 y (k++σ) e λl A=>zE l A λb p=>if b=true then te l p λv j=>j D=some (.lst a)/\∃d,d<m/\W (i+1) d (a++[v]) (upd j D (.lst (a++[v])))else ∃d,d<m/\W (i+1) d a p)):=by
 obtain⟨W,B,w⟩:=Sf (te:=te) (σ:=σ) f hsz i0 r step fin;refine⟨W,B,λi m a c h=>?_⟩;obtain⟨h1,u,t⟩:=w i m a c h;refine⟨h1,u,t.imp id λ⟨g,y⟩=>⟨g,λx e C k s=>?_⟩⟩;obtain⟨o,rfl⟩:=L2.Cy s
 ·
  show(if(true:Bool)=true then te (some x::σ) e (λv j=>j D=some (.lst a)/\∃d,d<m/\W (i+1) d (a++[v]) (upd j D (.lst (a++[v]))))else ∃d,d<m/\W (i+1) d a e);rw[Zx rfl];exact y x e C
end L2
namespace Qf
theorem xy4:∀{k:Nat}{a:List Row}{r c:Nat},met a r c (2^k)=[]->bt k a r c=.z
 |0,_,_,_,h=>Zx h
 |_+1,_,_,_,h=>Zx h
theorem xy5:∀{k:Nat}{a:List Row}{r c:Nat},met a r c (2^k)≠[]->(met a r c (2^k)).any (hasB r c (2^k))=true->bt k a r c=.o
 |0,_,_,_,h,g=>(Zl h).trans (Zx g)
 |_+1,_,_,_,h,g=>(Zl h).trans (Zx g)
end Qf
namespace Pr
open PySem L2 Qf
abbrev uD:List ar:=["_law_rows","_law_boxes_here","_law_row","_law_column","_law_side"]
abbrev sL:List ar:=["_law_rows","_law_boxes_here","_law_row","_law_column","_law_side","_law_met","_law_half","_law_quarters"]
theorem iK:aF sL uD (bJ uv):=cZ
inductive vk(k:Nat)(vs:List V)(H:Hp)(Q:VK):Prop
 |mk(e bp:af)(aD:List Row)(r c:Nat)(L:List Tr)(e0:vs=[.ref e,.ref bp,.int (r:Nat),.int (c:Nat),.int ((2^k:Nat):Int)])(e1:bc H bp aD)(e2:(∀b∈aD,b.length=4))(e3:aD.length<=900)(e4:bp≠e)(e5:Tr.Ord L)(e6:H e=some (.dT (tK (Tr.rowsOf L))))(e7:L.length+sz k<=6000000)(e8:∀H',cf e H H'->H' e=some (.dT (tK (Tr.rowsOf (Tr.post (bt k aD r c) L))))->Q (.int (Tr.name (Tr.post (bt k aD r c) L) (bt k aD r c):Nat)) H')
def EF(k:Nat):Sp:=λa H Q _=>vk k a H Q
theorem Pb{f fM fH:af}{fd tU n6:ak}(F:a_ K "_law_number" "_law_number" uv f fd)(B:eF mg)(hN:mg "_law_number"=some (.ref f))(bN:Binds K fd uD [])
  (hM:mg "_law_meets"=some (.ref fM)) (FM:a_ K "_law_meets" "_law_meets" zI fM tU) (bM:Binds K tU mW [])
  (hH:mg "_law_has"=some (.ref fH)) (FH:a_ K "_law_has" "_law_has" nY fH n6) (bH:Binds K n6 mW []){m:Nat}(hk:m<=12){sp':Sp}(GI:aE P w K mg base aS (m+1) f fd uD sp') (vD:∀j,m=j+1->sp'=EF j):aE P w K mg base aS (m+2) f fd uD (EF m):=by
 have GM:aE P w K mg base aS 1 fM tU mW (Gb oo):=xk6 FM;have GH:aE P w K mg base aS 1 fH n6 mW (Gb hasB):=xP4 FH;refine F.ok iK (λvs H Q E h=>?_) (λbO A outer s H vs Q E Y h=>?_)
 ·obtain⟨e,bp,n,r,c,L,rfl,_⟩:=h
  rfl
 ·obtain⟨e,bp,n,r,c,L,rfl,hB,h4,jV,wK,J,he,hLs,q⟩:=h;have jH:bf 1 _:=Y.mono CY;have hu:A.units+3+1<cLine:=by
   have h2:A.units+3+16*(m+1)+200<cLine:=Y.un;lia
  refine aQ ⟨_,⟨cg 5 iK.nd (Tg sL (bJ uv) rfl rfl rfl iK.nd (ux (pv 1))
   (λcl C fp aH aJ=>jm (bZ GM jH hM FM.kp bM (aG (pv 0) (aG (pv 3) (aG (pv 4) (aG (pv 5) aP)))))) (λcl C fp aH aJ=>pv 0))⟩,?_⟩
  refine aQ ⟨_,⟨dE (PW.pt (iW (c_ (KO Y) (pv 5) (jk aP) (cD _)) (mZ (jm (cB (Te rfl) (by rfl) B.any PyProof.Rows.boot_any (aG (rz sL (bJ uv) rfl rfl rfl iK.nd (ux (pv 5))
   (λcl C fp aH aJ=>bZ GH jH hH FH.kp bH (aG (pv 0) (aG (pv 3) (aG (pv 4) (aG (pv 5) aP)))))) aP))))))
   (cR (cF (ki JD (by rfl) B.int YX (aG (jn (Cg Y) (pv 5) (jk aP) (cD _)) aP)))) dG⟩,?_⟩
  refine aQ ⟨_,⟨cg 6 iK.nd (aO rq (pv 4) aK)⟩,?_⟩;refine aQ ⟨_,⟨T8 (i0:=7) sL (bJ uv) rfl rfl rfl iK.nd rfl rfl (BM (by rfl) B.range (aG aK aP)) (λcl C fp aH aJ=>bw.go ⟨bZ GI Y hN F.kp bN (aW.go (.cons ⟨pv 1⟩ (.cons ⟨pv 6⟩
   (.cons ⟨aO c7 (pv 3) (aO gJ (pv 7) (aO rq (pv 0) aK))⟩ (.cons ⟨aO c7 (pv 4) (aO gJ (pv 7) (aO wj (pv 0) aK))⟩ (.cons ⟨pv 7⟩ .nil rfl) rfl) rfl) rfl) rfl))⟩)⟩,?_⟩
  refine aQ ⟨_,⟨dE (c_ (xN1 Y) (pv 7) (bw.go ⟨fo (aW.go (.cons ⟨jk (aW.go (.cons pP (.cons pP (.cons pP (.cons pP .nil rfl) rfl) rfl) rfl))⟩ (.cons ⟨jk (aW.go (.cons pP (.cons pP (.cons pP (.cons pP .nil rfl) rfl) rfl) rfl))⟩ .nil rfl) rfl))⟩) (by first|rfl|decide|with_unfolding_all rfl))
   (cR (cF (cb oq (pv 7) aK))) dG⟩,?_⟩
  refine aQ ⟨_,⟨dE (JU (q11 hu (ki (oO K rfl) (by rfl) B.tuple Yh (aG (pv 7) aP)) (pv 0)))
   (cR (UP hu (pv 0) (ki (oO K rfl) (by rfl) B.tuple Yh (aG (pv 7) aP)) (aO c7 (cB q73 (by rfl) B.len YN (aG (pv 0) aP)) aK) (by rfl))) dG⟩,?_⟩
  refine gj ⟨_,⟨cF (xs1 hu (pv 0) (ki (oO K rfl) (by rfl) B.tuple Yh (aG (pv 7) aP)) (λ_ _=>rfl))⟩,?_⟩;obtain⟨bs,hb,j9,jE⟩:=id hB;have jT:(bs.map V.ref).length=bs.length:=Zh ..;refine⟨_,rfl,bp,rfl,⟨_,cH.of hb⟩,λD hD=>JH hD (λi=>oo r c (2^m) (n.getD i [])) (λi=>.ref (bs.getD i 0)) (wq (K:=K) hb) (by rw[jT];exact ow (by lia)) ?_ ?_⟩
  ·intro j x H2 hj N s2 os ho Q1 Q2 q1 q2;rw[Zf]at N;obtain⟨b,yW,rfl⟩:=Zj.mp N;have Z:j<n.length:=by rw[jT]at hj;exact nN hj j9
   have hg:n[j]?=some (n.getD j []):=by rw[ZA,Zd Z];rfl
   have eb:bs.getD j 0=b:=by rw[ZA,yW];rfl
   rw[eb]at q2;obtain⟨o1,rfl⟩:=L2.Cy ho
   ·
    refine⟨_,rfl,_,rfl,_,rfl,_,rfl,b,n.getD j [],r,c,2^m,rfl,s2 _ _ (jE j b _ yW hg),h4 _ (Zv hg),_,rfl,?_⟩;refine cw (λT=>⟨_,rfl,q2 T H2 (aI.refl _)⟩) (λT=>q1 (Ye.mpr T) H2 (aI.refl _))
  ·intro H2 s2 vR;rw[jT]at vR;have D0:bc H2 D (met n r c (2^m)):=bc.filter (p:=bp) (oo r c (2^m)) j9 jE s2 vR;have wD:(met n r c (2^m)).length<=900:=ZI xy2 jV;have Mn:∀b∈met n r c (2^m),b.length=4:=λb hb=>h4 b (Y9.mp hb).1;have wI:=s2 _ _ he;have U_:D≠e:=(dI he hD).symm;refine⟨_,rfl,(by show 0<=sizeLine;decide),λl hl=>?_⟩;refine⟨_,_,BP (D0.same (bQ hl)),.lst bu .nil,zp _,rfl,BQ _,_,rfl,?_⟩;rw[Kd];have S3:aI H (upd H2 l (.lst [])):=s2.trans (bQ hl);have wN:=D0.same (bQ (o:=.lst []) hl);have DQ:=c9 (u:=.lst []) wI hl;generalize upd H2 l (.lst [])=H3 at S3 wN DQ;cases Dy:met n r c (2^m)with
   |nil=>
    have hT:bt m n r c=.z:=xy4 Dy;rw[hT]at q;rw[Dy]at wN;refine dw (dw ?_);refine⟨_,rfl,(by show 0<=sizeLine;decide),λl2 R=>?_⟩;refine⟨_,_,BP (wN.same (bQ R)),.lst bu .nil,zp _,rfl,BQ _,.inr ⟨_,rfl,?_⟩⟩;exact q _ (cf.of (S3.trans (bQ R))) (c9 DQ R)
   |cons b0 ml=>
    have jG:met n r c (2^m)≠[]:=by rw[Dy];exact λz=>nomatch z
    rw[<- Dy];clear Dy;have zX:(met n r c (2^m)).isEmpty=false:=by
     cases hq:met n r c (2^m)with
     |nil=>exact absurd hq jG
     |cons _ _=>rfl
    rw[zX];refine bY ?_;obtain⟨ms,Mj,Dz,uO⟩:=id wN;have qy:(ms.map V.ref).length=(met n r c (2^m)).length:=by rw[Zh,Dz]
    refine⟨_,rfl,D,rfl,⟨_,cH.of Mj⟩,λD2 hDD=>uC hDD (λi y _=>y=.bl (hasB r c (2^m) ((met n r c (2^m)).getD i []))) (wq (K:=K) Mj) (by rw[qy];exact ow (xw wD)) (λ_ _ _ _ _ _ h=>h) ?_ ?_⟩
    ·intro j x H4 hj N W Q' hq;rw[Zf]at N;obtain⟨b,yW,rfl⟩:=Zj.mp N;have Z:j<(met n r c (2^m)).length:=by rw[qy]at hj;exact hj
     have hg:(met n r c (2^m))[j]?=some ((met n r c (2^m)).getD j []):=by rw[ZA,Zd Z];rfl
     exact⟨_,rfl,_,rfl,_,rfl,_,rfl,b,_,r,c,2^m,rfl,W _ _ (uO j b _ yW hg),Mn _ (Zv hg),hq _ _ (aI.refl _) rfl⟩
    ·intro ys H4 W jZ kA vC;have ey:ys=((met n r c (2^m)).map (hasB r c (2^m))).map V.bl:=by
      refine wo (by rw[kA,qy,Zh,Zh]) λj x N=>?_;have Z:j<(met n r c (2^m)).length:=by
       have:=(cz N).1;rw[kA,qy]at this;exact this
      rw[vC j x N,Zf,Zf,Zd Z,ZA,Zd Z]
      rfl
     subst ey;refine⟨D2,_,rfl,jZ,_,rfl,?_⟩;have Ei:((met n r c (2^m)).map (hasB r c (2^m))).any id=(met n r c (2^m)).any (hasB r c (2^m)):=by rw[List.any_map];rfl
     rw[Ei];have S4:=S3.trans W;have D3:=wN.same W;have Hf:=W _ _ DQ;cases hh:(met n r c (2^m)).any (hasB r c (2^m))with
     |true=>
      have hT:bt m n r c=.o:=xy5 jG hh;rw[hT]at q;refine dw ?_;refine⟨_,rfl,(by show 0<=sizeLine;decide),λl2 R=>?_⟩;refine⟨_,_,BP (D3.same (bQ R)),.lst bu .nil,zp _,rfl,BQ _,.inr ⟨_,rfl,?_⟩⟩;rw[Kd,zX];exact q _ (cf.of (S4.trans (bQ R))) (c9 Hf R)
     |false=>
      obtain⟨k,rfl⟩:∃k,m=k+1:=by
       rcases m with _|k
       ·simp only[Nat.pow_zero]at jG hh;rw[xy3 jG]at hh;cases hh
       ·exact⟨k,rfl⟩
      cases vD k rfl;refine bY ?_;have hT:=xV4 k n r c jG hh;obtain⟨p1,p2⟩:=zj (show k<=12 from eJ hk);obtain⟨p3,p4⟩:=zj hk;have Eh:(((2^(k+1):Nat):Int))/2=((2^k:Nat):Int):=by
       rw[YH];exact Ih
      clear zX Mj Dz uO qy jZ kA vC Ei D0 wN vR S3 W jT;generalize met n r c (2^(k+1))=m at hT D3 wD Mn jG hh;refine⟨_,rfl,_,_,rfl,rfl,⟨by decide,by decide⟩,?_⟩;refine⟨_,rfl,by decide,by decide,λI wO=>?_⟩;have xf:I≠e:=(dI Hf wO).symm;refine xd3 (λi xs G=>cf e H4 G/\G I=some (.lst xs)/\xs=vN (names k m r c L i)/\G e=some (.dT (tK (Tr.rowsOf (qL k m r c L i))))) (by decide) ⟨cf.of (bQ wO),bu,rfl,c9 Hf wO⟩ (λi xs G h=>⟨h.2.1,by rw[h.2.2.1,nJ];simp[names]⟩) ?_ ?_
      ·rintro i xs G hi ⟨b5,M,rfl,Ac⟩ Q2 q2;have IK:[V.ref e,V.ref D,V.int ((r:Int)+((2^(k+1):Nat):Int)/2*((0+(i:Int))/2)),V.int ((c:Int)+((2^(k+1):Nat):Int)/2*((0+(i:Int))%2)),V.int (((2^(k+1):Nat):Int)/2)]=[V.ref e,V.ref D,V.int ((r+2^k*(i/2):Nat):Int),V.int ((c+2^k*(i%2):Nat):Int),V.int ((2^k:Nat):Int)]:=by
        rw[Eh,Wh,YQ,Xx,Vp,YQ,Xx,Vq]
        rfl
       refine⟨_,rfl,_,rfl,_,rfl,_,rfl,_,rfl,_,_,rfl,rfl,⟨by decide,by decide⟩,_,_,rfl,rfl,.inl ⟨by lia,by lia⟩,_,_,rfl,rfl,_,rfl,_,rfl,_,rfl,_,_,rfl,rfl,(by show(0:Int)<2;decide),_,_,rfl,rfl,.inl ⟨by lia,by lia⟩,_,_,rfl,rfl,_,rfl,
        e,D,m,r+2^k*(i/2),c+2^k*(i%2),qL k m r c L i,IK,D3.but b5 U_ Hf (λu z=>by cases z),Mn,wD,U_,BV J i,Ac,?_,λO b6 Ab=>?_⟩
       ·have h1:=IC (k:=k) (m:=m) (r:=r) (c:=c) (L:=L) i;have h2:sz (k+1)=4*sz k+1:=rfl;have h3:i*sz k<=3*sz k:=Xr _ (by lia);lia
       ·refine q2 _ _ (b6 _ _ M xf) ⟨?_,bu,?_,?_⟩
        ·intro b o z nb;rw[cN (dI z wO)];exact b6 _ _ (b5 _ _ z nb) nb
        ·rw[qX8 J];unfold vN;rw[ZY]
         rfl
        ·rw[cN (Xc xf)];exact Ab
      ·rintro xs G ⟨b5,M,rfl,Ac⟩;have M:G I=some (.lst (vN (names k m r c L 4))):=M;have Ac:G e=some (.dT (tK (Tr.rowsOf (qL k m r c L 4)))):=Ac;have O4:=BV (k:=k) (m:=m) (r:=r) (c:=c) J 4;have Lp:=zB (k:=k) (m:=m) (r:=r) (c:=c) J (j:=0) 4 (by decide);have S:=zB (k:=k) (m:=m) (r:=r) (c:=c) J (j:=1) 4 (by decide);have Ln:=zB (k:=k) (m:=m) (r:=r) (c:=c) J (j:=2) 4 (by decide);have Lk:=zB (k:=k) (m:=m) (r:=r) (c:=c) J (j:=3) 4 (by decide);have zV:=IC (k:=k) (m:=m) (r:=r) (c:=c) (L:=L) 4;have hs4:sz (k+1)=4*sz k+1:=rfl;have e4:qL k m r c L 4=Tr.post (qt k m r c 3) (Tr.post (qt k m r c 2) (Tr.post (qt k m r c 1) (Tr.post (qt k m r c 0) L))):=rfl;have en:names k m r c L 4=[Tr.name (qL k m r c L 4) (qt k m r c 0),Tr.name (qL k m r c L 4) (qt k m r c 1),Tr.name (qL k m r c L 4) (qt k m r c 2),Tr.name (qL k m r c L 4) (qt k m r c 3)]:=rfl;rw[en]at M;rw[hT]at q;generalize qL k m r c L 4=g at Ac O4 Lp S Ln Lk zV e4 M;generalize qt k m r c 0=t0,qt k m r c 1=t1,qt k m r c 2=t2,qt k m r c 3=v at Lp S Ln Lk e4 M q;have B5:cf e H G:=(cf.of S4).trans b5;refine⟨_,rfl,(by show 4<=sizeLine;decide),λa ha=>⟨(by show 4<=sizeLine;decide),λb gW=>⟨(by show 2<=sizeLine;decide),λt ht=>?_⟩⟩⟩;have S6:aI G (upd (upd (upd G a (.lst [.int 0,.int 0,.int 0,.int 0])) b (.lst [.int 1,.int 1,.int 1,.int 1])) t (.tup [.ref a,.ref b])):=((bQ ha).trans (bQ gW)).trans (bQ ht);have da:bz (upd (upd (upd G a (.lst [.int 0,.int 0,.int 0,.int 0])) b (.lst [.int 1,.int 1,.int 1,.int 1])) t (.tup [.ref a,.ref b])) (.ref a) (dL [0,0,0,0]):=.lst (c9 (c9 bu gW) ht) (aR.ints [0,0,0,0]);have db:bz (upd (upd (upd G a (.lst [.int 0,.int 0,.int 0,.int 0])) b (.lst [.int 1,.int 1,.int 1,.int 1])) t (.tup [.ref a,.ref b])) (.ref b) (dL [1,1,1,1]):=.lst (c9 bu ht) (aR.ints [1,1,1,1]);have X:=S6 _ _ M;have Ab:=S6 _ _ Ac;have ht6:upd (upd (upd G a (.lst [.int 0,.int 0,.int 0,.int 0])) b (.lst [.int 1,.int 1,.int 1,.int 1])) t (.tup [.ref a,.ref b]) t=some (.tup [.ref a,.ref b]):=bu;generalize upd (upd (upd G a (.lst [.int 0,.int 0,.int 0,.int 0])) b (.lst [.int 1,.int 1,.int 1,.int 1])) t (.tup [.ref a,.ref b])=O at S6 da db X Ab ht6 ⊢;refine⟨t,[.ref a,.ref b],[dL [0,0,0,0],dL [1,1,1,1]],dL ([Tr.name g t0,Tr.name g t1,Tr.name g t2,Tr.name g v].map λx:Nat=>(x:Int)),rfl,ht6,.cons da (.cons db .nil),.lst (X.trans (Z9 (λz=>some (HO.lst z)) (um _))) (aR.ints _),FY _,(by simp[PyData.canLayAll0,FY]),ZI (Sv _) (by decide),?_⟩;rw[Wk,Wk,List.any_nil,KL,KL,Bool.or_false];have B6:cf e H O:=B5.trans (cf.of S6);refine⟨_,rfl,?_⟩;have hk:∀s∈Tr.kids (.nd t0 t1 t2 v),Tr.In g s:=λs hs=>by
        have:s=t0\/s=t1\/s=t2\/s=v:=by simpa[Tr.kids]using hs
        rcases this with rfl|rfl|rfl|rfl<;>assumption
       refine cw (λT=>?_) (λT=>?_)
       ·rcases VD _ _▸T with z|z
        ·obtain⟨eL,em,e0⟩:=kp0 e4 (ZG z);rw[em]at q;have q':=q O B6 (show O e=some (.dT (tK (Tr.rowsOf L)))from eL▸Ab);exact⟨_,rfl,I,_,0,.int (Tr.name g t0:Nat),rfl,rfl,cH.of X,rfl,by rw[e0];exact q'⟩
        ·obtain⟨eL,em,e0⟩:=kp1 e4 (ZG z);rw[em]at q;have q':=q O B6 (show O e=some (.dT (tK (Tr.rowsOf L)))from eL▸Ab);exact⟨_,rfl,I,_,0,.int (Tr.name g t0:Nat),rfl,rfl,cH.of X,rfl,by rw[e0];exact q'⟩
       ·have G3:=kpn T;rw[G3]at q;have uN:(Tr.kids (.nd t0 t1 t2 v)).map (Tr.name g)=[Tr.name g t0,Tr.name g t1,Tr.name g t2,Tr.name g v]:=rfl;have jP:=xu7 O4 hk;rw[uN]at jP;refine⟨_,rfl,I,_,rfl,.inl ⟨cH.of X,λu hu=>?_⟩⟩;have S7:=bQ (o:=.tup (vN [Tr.name g t0,Tr.name g t1,Tr.name g t2,Tr.name g v])) hu;have Aa:=S7 _ _ Ab;have hu7:upd O u (.tup (vN [Tr.name g t0,Tr.name g t1,Tr.name g t2,Tr.name g v])) u=some (.tup ((fe [Tr.name g t0,Tr.name g t1,Tr.name g t2,Tr.name g v]).map kV)):=by rw[bu,wc]
        have wX:=S7 _ _ X;have B7:=B6.trans (cf.of (e:=e) S7);generalize upd O u (.tup (vN [Tr.name g t0,Tr.name g t1,Tr.name g t2,Tr.name g v]))=H7 at S7 Aa hu7 wX B7 ⊢;refine⟨_,rfl,e,_,rfl,eR.t Aa hu7,_,rfl,?_⟩;rw[OQ];by_cases hm:[Tr.name g t0,Tr.name g t1,Tr.name g t2,Tr.name g v]∈Tr.rowsOf g
        ·rw[Zx hm];refine bY ?_;have yX:=jP.mp hm;obtain⟨yK,eL⟩:=kpi J e4 yX;rw[By (.inr (.inr yK))]at q;rw[<- eL]at q yK;refine⟨_,rfl,_,rfl,I,_,rfl,.inl ⟨cH.of wX,λu2 U=>⟨e,_,rfl,OP O4 yK (c9 Aa U) bu,?_⟩⟩⟩;exact q _ (B7.trans (cf.of (bQ U))) (c9 Aa U)
        ·rw[Zl hm];refine dw ?_;have yX:Tr.nd t0 t1 t2 v∉g:=λz=>hm (jP.mpr z);have ep:=kpx e4 yX;have O5:=(Tr.cq (.nd t0 t1 t2 v) L J).1;rw[ep]at q O5;have er:=Tx O4 hk;rw[uN]at er;have jA:(tK (Tr.rowsOf g)).length=g.length:=by unfold tK;rw[E9,Tr.br]
         refine⟨_,rfl,e,_,rfl,Aa,_,_,rfl,rfl,_,rfl,_,rfl,I,_,rfl,.inl ⟨cH.of wX,λu2 U=>?_⟩⟩;have he8:=c9 (u:=.tup (vN [Tr.name g t0,Tr.name g t1,Tr.name g t2,Tr.name g v])) Aa U;refine⟨e,_,rfl,jg.t he8 (by rw[bu,wc]) (by rw[jA];exact Xf (show g.length<=6000000 by lia) (by decide)),?_⟩;have Nm:=xP3 O4 hk hm;rw[Nm];have MG:upd (upd H7 u2 (.tup (vN [Tr.name g t0,Tr.name g t1,Tr.name g t2,Tr.name g v]))) e (.dT (tK (Tr.rowsOf (g++[.nd t0 t1 t2 v])))) I=some (.lst (vN [Tr.name g t0,Tr.name g t1,Tr.name g t2,Tr.name g v])):=by
          rw[cN xf];exact c9 wX U
         have ME:upd (upd H7 u2 (.tup (vN [Tr.name g t0,Tr.name g t1,Tr.name g t2,Tr.name g v]))) e (.dT (tK (Tr.rowsOf (g++[.nd t0 t1 t2 v])))) e=some (.dT (tK (Tr.rowsOf (g++[.nd t0 t1 t2 v])))):=bu;have B8:cf e H (upd (upd H7 u2 (.tup (vN [Tr.name g t0,Tr.name g t1,Tr.name g t2,Tr.name g v]))) e (.dT (tK (Tr.rowsOf (g++[.nd t0 t1 t2 v]))))):=(B7.trans (cf.of (bQ U))).trans cf.upd;generalize upd (upd H7 u2 (.tup (vN [Tr.name g t0,Tr.name g t1,Tr.name g t2,Tr.name g v]))) e (.dT (tK (Tr.rowsOf (g++[.nd t0 t1 t2 v]))))=H8 at MG ME B8 ⊢;have Hv:∀s,Tr.In g s->Tr.name (g++[.nd t0 t1 t2 v]) s=Tr.name g s:=λs hs=>Tr.fJ hs O4;refine⟨_,rfl,_,rfl,I,_,rfl,.inl ⟨cH.of MG,λu3 LL=>⟨e,_,rfl,OP (a:=t0) (b:=t1) (c:=t2) (d:=v) O5 (by simp) (c9 ME LL) (by rw[bu,Hv t0 Lp,Hv t1 S,Hv t2 Ln,Hv v Lk]),?_⟩⟩⟩;exact q _ (B8.trans (cf.of (bQ LL))) (c9 ME LL)
theorem Ou{f p s:af}{g q r:ak}(F:a_ K "_law_number" "_law_number" uv f g)(B:eF mg)(d:mg "_law_number"=some (.ref f))(n:Binds K g uD [])
  (m:mg "_law_meets"=some (.ref p)) (b:a_ K "_law_meets" "_law_meets" zI p q) (a:Binds K q mW [])
  (l:mg "_law_has"=some (.ref s)) (i:a_ K "_law_has" "_law_has" nY s r) (c:Binds K r mW []):∀k,k<=12->aE P w K mg base aS (k+2) f g uD (EF k)
 |0,h=>Pb F B d n m b a l i c h (sp':=λ_ _ _ _=>False) ⟨λ_ _ _ _ h=>h.elim,λ_ _ _ _ _ _ _ _ _ _ _ _ _ h=>h.elim⟩ (λj e=>nomatch e)
 |k+1,h=>Pb F B d n m b a l i c h (Ou F B d n m b a l i c k (eJ h)) (λj e=>by cases e;rfl)
def n9(n:Nat)(a:List Row):Nat:=Tr.name (Tr.post (bt n a 0 0) []) (bt n a 0 0)
def nF(n:Nat)(a:List Row):List Row:=Tr.rowsOf (Tr.post (bt n a 0 0) [])
theorem xy6{n:Nat}{a:List Row}(b:n<=12):Canon n (n9 n a) (nF n a):=qW1 b (BY n a 0 0) (BX n a 0 0)
theorem xV5{n:Nat}{a:List Row}(b:n<=12)(h:EG n a):(nF n a).length<=485:=by
 unfold nF;rw[Tr.br];have h1:=za (bt n a 0 0) [];have c:=SO b h;simp at h1;exact nU h1 c
theorem b_T{n:Nat}{a:List Row}:T (nF n a) (n9 n a)=bt n a 0 0:=by
 obtain⟨c,b⟩:=Tr.cq (bt n a 0 0) [] Tr.fy;exact we c _ b
abbrev K8:List ar:=["_law_n","_law_boxes_here","_law_rows","_law_top"]
theorem pD:aF K8 ["_law_n","_law_boxes_here"] (bJ Fx):=cZ
inductive vt(vs:List V)(H:Hp)(Q:VK):Prop
 |mk(bp:af)(n:Nat)(aD:List Row)(e0:vs=[.int (n:Nat),.ref bp])(e1:bc H bp aD)(e2:EG n aD)(e3:n<=12)(e4:∀(H':Hp)(t:af),aI H H'->g7 H' t n (n9 n aD) (nF n aD)->Q (.ref t) H')
def Pu:Sp:=λa H Q _=>vt a H Q
theorem xP7{f y N fH:af}{fd x Z T:ak}(F:a_ K "_law_shape" "_law_shape" Fx f fd)(B:eF mg)(Y:mg "_law_number"=some (.ref y))(FN:a_ K "_law_number" "_law_number" uv y x)(R:Binds K x uD [])
  (hM:mg "_law_meets"=some (.ref N)) (FM:a_ K "_law_meets" "_law_meets" zI N Z) (bM:Binds K Z mW [])
  (hH:mg "_law_has"=some (.ref fH)) (FH:a_ K "_law_has" "_law_has" nY fH T) (bH:Binds K T mW []):aE P w K mg base aS 15 f fd ["_law_n","_law_boxes_here"] Pu:=by
 have GN:∀k,k<=12->aE P w K mg base aS (k+2) y x uD (EF k):=Ou FN B Y R hM FM bM hH FH bH;refine F.ok pD (λvs H Q E h=>?_) (λbO A v s H vs Q E hr h=>?_)
 ·obtain⟨g,n,a,rfl,_⟩:=h
  rfl
 ·obtain⟨g,n,a,rfl,U,D,d,q⟩:=h;have I:bf (n+2) _:=hr.mono (Rp d);refine aQ ⟨_,⟨cg 2 pD.nd xf0⟩,?_⟩;refine aQ ⟨_,⟨cg 3 pD.nd (R0 (GN n d) I (by rfl) Y FN.kp R .nil P0 (aW.go (.cons ⟨pv 2⟩ (.cons ⟨pv 1⟩ (.cons pP (.cons pP (.cons ⟨aO jl aK (pv 0)⟩ .nil rfl) rfl) rfl) rfl) rfl)))⟩,?_⟩;refine gj ⟨_,⟨cF (fo (aW.go (.cons ⟨pv 0⟩ (.cons ⟨pv 3⟩ (.cons ⟨ki (qH6 rfl) (by rfl) B.tuple Yh (aG (pv 2) aP)⟩ .nil rfl) rfl) rfl)))⟩,?_⟩;intro e j;have K5:g≠e:=by obtain⟨bs,hb,_⟩:=U;exact dI hb j
  have h4:∀b∈a,b.length=4:=λb hb=>by
   obtain⟨r,c,h,w',rfl,_⟩:=D.1 b hb
   rfl
  have jV:a.length<=900:=by
   rcases D.2 with⟨_,h⟩|⟨h,_⟩<;>lia
  have J:sz n<=6000000:=ZI (Pw d) (by decide);have IK:[V.ref e,V.ref g,V.int 0,V.int 0,V.int (1*2^((n:Int)).toNat)]=[V.ref e,V.ref g,V.int ((0:Nat):Int),V.int ((0:Nat):Int),V.int ((2^n:Nat):Int)]:=by rw[Bq];rfl
  refine⟨_,rfl,_,rfl,_,rfl,_,_,rfl,rfl,⟨mw,qj d,by decide⟩,e,g,a,0,0,[],IK,U.same (bQ j),h4,jV,K5,Tr.fy,bu,by simpa using J,λH1 b1 G=>?_⟩;have S1:aI H H1:=λb o z=>b1 _ _ (c9 z j) (dI z j);refine⟨_,rfl,_,rfl,_,rfl,e,_,rfl,G,λl bs X ML MK=>⟨(by show 3<=sizeLine;decide),λt u=>?_⟩⟩;refine q _ t ((S1.trans (bQ X)).trans (bQ u)) ⟨⟨l,bu,bs,c9 bu u,?_,?_⟩,xy6 d,?_⟩
  ·rw[ML];unfold tK;rw[E9]
   rfl
  ·intro i b r e1 O;have M:=(cz O).1;have C:(tK (nF n a)).length=(nF n a).length:=by unfold tK;rw[E9]
   have W:(tK (nF n a))[i]?=some ((tK (nF n a))[i]'(uL M C)):=Zd (uL M C);have L:((tK (nF n a))[i]'(uL M C)).1=fe r:=by
    have m:=W;unfold tK ft at m;rw[Zf]at m;obtain⟨p,hp,ep⟩:=Zj.mp m;rw[List.getElem?_zipIdx]at hp;obtain⟨r',S,rfl⟩:=Zj.mp hp;rw[O]at S;cases S;exact(Z9 Prod.fst ep).symm
   have:=MK i b _ e1 W;rw[L,wc]at this;exact c9 (c9 this X) u
  ·exact ZI (xV5 d D) (by decide)
end Pr
namespace L2
open PySem PySem.Spec PyProof.Rows
structure uX(P:ah)(w:aj)(K:PySem.W.Frag)(xe:af)(tg:av)(J:It)(fp:List af)(it:af)(tn:Nat->ao->Prop):Prop where
 mem:it∈fp
 obj:∀i h,tn i h->∀b∈fp,∃o,h.get? b=some o/\∀v,o.data≠.cell v
 keep:∀i h h',tn i h->(∀b∈fp,∀o,h.get? b=some o->h'.get? b=some o)->tn i h'
 item:∀(X:Cx),X.prog=P->X.w=w->X.K=K->∀(i:Nat)(j8:List (af×az))(s:ae)(σ:St)(H:Hp)(E:aa->ae->Prop),Inv X j8 σ H s->(∀b∈fp,eQ X j8 H b)->tn i s.heap->J.go i H ->
  ag (ai P w) X.A (pyNext (.ref it)) (λr s1=>∃u,r=some u /\
   ag (ai P w) X.A (letOwnedTupleGo tg (.ref it) u) (λ_ s2=>∃x H',Inv X j8 σ H' s2/\RelV x u/\J.iI i H x H'/\tn (i+1) s2.heap/\∀b∈fp,H' b=none) E s1) E s
 done:∀(X:Cx),X.prog=P->X.w=w->X.K=K->X.A.handled=some (.ref xe)->∀(i:Nat)(j8:List (af×az))(s:ae)(σ:St)(H:Hp)(E:aa->ae->Prop)(C:af),Inv X j8 σ H s->H xe=some (.ext (ExcAt xe C))->(∀b∈fp,eQ X j8 H b)->tn i s.heap->J.stop i H ->
  ag (ai P w) X.A (pyNext (.ref it)) (λr s1=>r=none/\Inv X j8 σ H s1) E s
 self:∀(A:aq)(i:Nat)(s:ae)(Q:aa->ae->Prop)(E:aa->ae->Prop),tn i s.heap->Q (.ref it) s->ag (ai P w) A (pyIter (.ref it)) Q E s
def NJ(X:Cx)(xe:af)(e:List (af×az))(σ:St)(h:av)(R:It->Hp->Prop)(i:aa)(g:ae):Prop:=
 ∃(f:af)(c:List af)(d:Nat->ao->Prop)(J:It)(a:Hp),i=.ref f/\Inv X e σ a g/\uX X.prog X.w X.K xe h J c f d/\d 0 g.heap/\(∀b∈c,eQ X e a b)/\R J a
def PIH(X:Cx)(xe:af)(c iter:av)(e:TI):Prop:=
 ∀(b:List (af×az))(s:ae)(a:St)(H:Hp)(R:It->Hp->Prop),Inv X b a H s->e a H R ->
  ag (ai X.prog X.w) X.A (eval iter X.env) (λv d=>ag (ai X.prog X.w) X.A (pyIter v) (NJ X xe b a c R) X.xe d) X.xe s
section
variable{x C:af}
theorem qz2{it l:af}{i:Nat}{items:Array aa}{Q:Option aa->ae->Prop}(h:A.handled=some (.ref x))(H:ExcAt x C s.heap)(m:it≠x)(f:IsTupIter s.heap it l i)(v:IsTup s.heap l items)(F:items[i]?=none)
  (G:∀c,(∀b o,b≠it->s.heap.get? b=some o->c.get? b=some o)->Q none {s with heap:=c}):ag (ai prog w) A (pyNext (.ref it)) Q E s:=by
 obtain⟨o,a,k,d⟩:=id f;obtain⟨L,J,_,K,D⟩:=v;obtain⟨y,r,I,j,B,n⟩:=id H;have g:s.TypeIs (.ref it) "tuple_iterator":=⟨o,a,k⟩;unfold pyNext;refine Za (Xj (Z0 (name:=Str.ofString "__next__") g slot_tupleiter_next ?_));refine Z3 slot_tupleiter_next g entry_tupleiter_next ?_ (args_tupleiter_next _);show ag _ _ (field (.ref it) 0 >>= _) _ _ s;refine Za (Yj a d (x:=.ref l) rfl ?_);show ag _ _ (if(Value.ref l==Value.none)=true then _ else _) _ _ s;rw[Zl (show ¬((Value.ref l==Value.none)=true)from λz=>Bool.noConfusion z)];show ag _ _ (field (.ref it) 1 >>= _) _ _ s;refine Za (Yj a d (x:=.int i 0) rfl ?_);show ag _ _ (seqItems? (.ref l) >>= _) _ _ s;refine Za (Xo J D ?_);simp only[ZD,F];refine Za (Y4 (Za (YD a d (by simp) ?_)));show ag _ _ (newExc (.type "StopIteration") [] >>= λe=>raiseNew e) _ _ _;refine SF (A:=A.in1) (x:=x) (C:=C) h ⟨y,r,(Zq _ _ m).trans I,j,B,n⟩ λc e u t=>?_;refine Za (Xg (T:= "StopIteration") (b:=true) t W6 ?_);exact Zc (G _ λb ob p q=>u b ob ((Zq _ _ (Xc p)).trans q))
theorem R8{it t:af}{a:Array aa}(ne:t≠it):∀(n i:Nat)(s:ae)(Q:List aa->ae->Prop),IsTupIter s.heap it t i->IsTup s.heap t a->i+n<=a.size ->
  (∀b,IsTupIter b it t (i+n)->Heap.SameBut it s.heap b->Q ((a.toList.drop i).take n) {s with heap:=b})->ag (ai prog w) A (draw (.ref it) n) Q E s
 |0,i,s,Q,d,_,_,c=>by
  show ag _ _ (pure []) Q E s;exact Zc (by simpa using c s.heap d (XT ..))
 |n+1,i,s,Q,d,h,e,c=>by
  have g:i<a.size:=by exact Q3 e
  show ag _ _ (pyNext (.ref it) >>= _) Q E s;refine Za (next_tuple_item d h (x:=a[i]) (by simp[g]) λq m f=>?_);refine Za (ZP (R8 ne n (i+1) _ _ m (let ⟨o,h1,h2⟩:=h;⟨o,f.extBut _ _ ne h1,h2⟩) (Ik e) λp l k=>Zc ?_));have j:a.toList.drop i=a[i]::a.toList.drop (i+1):=by simp[XJ,g]
  have:=c p (by rw[show i+(n+1)=i+1+n from Im];exact l) (f.trans k);rw[j,List.take_succ_cons]at this;exact this
theorem qy4{t:af}{a:Array aa}{Q:List aa->ae->Prop}(m:A.handled=some (.ref x))(k:ExcAt x C s.heap)(d:IsTup s.heap t a)
  (v:∀i,Heap.ExtBut s.heap.objs.size s.heap i->Q a.toList {s with heap:=i}):ag (ai prog w) A (unpackItems (.ref t) a.size none) Q E s:=by
 have j:t≠s.heap.objs.size:=by obtain⟨o,h,_⟩:=d;exact Zp (Zi h)
 have c:s.heap.objs.size≠x:=by obtain⟨o,_,h,_⟩:=k;exact Xc (Zp (Zi h))
 have y:s.TypeIs (.ref t) "tuple":=let ⟨o,h1,h2,_⟩:=d;⟨o,h1,h2⟩;unfold unpackItems;refine Za ?_;unfold notIterableAtAll;refine Za (VB y F.slot_tuple_iter.lookup ?_);refine Zc ?_;simp only[Zr,Z5];refine Za (ZP (YK d ?_));have l:IsTup (s.heap.push {cls:=.type "tuple_iterator",data:=.fields #[.ref t,.int 0 0]}) t a:=let ⟨o,h1,h2⟩:=d;⟨o,Zb _ h1,h2⟩;refine Za (ZP (R8 j a.size 0 _ _ ⟨_,Zg _ rfl,rfl,rfl⟩ l (by lia) λg u f=>?_));have r:List.take a.size (List.drop 0 a.toList)=a.toList:=by
  rw[List.drop_zero];exact Yn (by simp)
 rw[r];rw[Zl (by simp)];have B:IsTup g t a:=let ⟨o,h1,h2⟩:=l;⟨o,f.extBut _ _ j h1,h2⟩;have q:ExcAt x C g:=let ⟨o,xs,h1,h2⟩:=k;⟨o,xs,f.extBut _ _ (Xc c) (Zb _ h1),h2⟩;refine Za (ZP (qz2 (s:={s with heap:=g}) m q c u B (by simp) λp n=>?_));simp only[Option.isSome_none,Zr,Z5];refine Zc (v p λb o hb e=>n b o hb (f.extBut b o hb (Zb _ e)))
end
section
variable{X:Cx}{pos:aC}
def xV6(K:PySem.W.Frag)(xe:af)(n:Nat)(t:qX):TG:=λv a H Q=>(∃C,H xe=some (.ext (ExcAt xe C)))/\hZ K n t v a H Q
theorem xy7{xe:af}{c:List av}{k:Nat}{t:qX}{n:Nat}(l:X.A.handled=some (.ref xe))(h:Er X c t)
  (D:(assignEach c X.env).length=n:=by rfl) (y:(assignEach c X.env).findIdx? (·.1)=none:=by rfl):PG X (.Tuple c k pos) (xV6 X.K xe n t):=by
 intro i s j H v u Q I r d;obtain⟨⟨C,f⟩,a,w,A,x,B,d⟩:=d;subst A;cases r;obtain⟨p,g,q,F⟩:=I.tuple x;rw[assign_Tuple];refine Za (Uk ?_);unfold unpack;rw[show(assignEach c X.env).length=p.toArray.size by simp[D,<- B,g.length],y];refine Za (ZP (qy4 l (I.aT xe _ f).1 q λm f=>?_));have E:Inv X i j H {s with heap:=m}:=I.kept (t':=s.toks) λb o e=>f b o (Zp (Zi e)) e;exact h i _ j H w _ Q E (by simpa using g) d
theorem qX9{P:ah}{w:aj}{K:PySem.W.Frag}{xe:af}{x:ar}{px:aC}(it:af)(lo:Int)(n:Nat):uX P w K xe (.Name x px) (t_ lo n) [it] it (λi h=>IsRangeIter h it (lo+(i:Nat)*(-1)) ((n:Int)-(i:Nat)) (-1)) where
 mem:=by simp
 obj:=(Jw (P:=P) (w:=w) (K:=K) (x:=x) (px:=px) it lo n).obj
 keep:=(Jw (P:=P) (w:=w) (K:=K) (x:=x) (px:=px) it lo n).keep
 item:=by
  intro X f j l i J s M H E I d c m;subst f j l;obtain⟨a,g,L,p,q,k⟩:=d it (by simp);have N:i<n:=m;refine wpAny_pyNext_range_item c (by lia) λr D B=>?_;have G:lo+((i+1:Nat):Int)*(-1)=lo+(i:Int)*(-1)+(-1):=by lia
  have F:(n:Int)-((i+1:Nat):Int)=(n:Int)-(i:Int)-1:=by lia
  have t:IsRangeIter r it (lo+((i+1:Nat):Int)*(-1)) ((n:Int)-((i+1:Nat):Int)) (-1):=by rw[G,F];exact D
  refine⟨_,rfl,EL (n:= "range_iterator") t rfl rfl (by decide) ⟨.int (lo-i),H,I.turned (λb o hb e=>B.extBut b o hb e) a g p q k,⟨s.toks,by rw[show lo+(i:Int)*(-1)=lo-i from Ra]⟩,⟨rfl,rfl⟩,t,λb hb=>(d b hb).1⟩⟩
 done:=by
  intro X f j l v i J s M H E C I u d c m;subst f j l;obtain⟨a,g,L,p,q,k⟩:=d it (by simp);have A:it≠xe:=λz=>by rw[z,u]at a;cases a
  exact qy6 (C:=C) v (I.aT xe _ u).1 A c (by have:n<=i:=m;exact Iy this) λr y=>⟨rfl,I.turned (t':=s.toks) (λb o hb e=>y b o hb e) a g p q k⟩
 self:=λ_ _ _ _ _ c h=>W0 c h
theorem xk8{a b c:av}{ta:TA}{p pos px:aC}{x:ar}{xe:af}(G:Gl X "range")(L:X.mg "range"=none)(E:PA X [a,b,c] ta)
  (hs:starEach [a,b,c] X.env=[(false,eval a X.env),(false,eval b X.env),(false,eval c X.env)]:=by rfl) (n:starEach [b,c] X.env=[(false,eval b X.env),(false,eval c X.env)]:=by rfl):
  PIH X xe (.Name x px) (.Call (.Name "range" p) [a,b,c] [] pos) (PL ta):=by
 intro m s u H R I h;refine Call_ (uq I G L boot_range (Y8 (bo (E pos m s u H _ I h) λN d ⟨O,l,M,B,A⟩=>?_) (by rw[hs,n]) (by rw[n];rfl)));obtain⟨i,j,e,⟨w,J,v,y⟩,q⟩:=A;subst e;cases B with
 |cons r f=>
  cases f with
  |cons K f=>
   cases f with
   |cons F f=>
    cases f;obtain⟨t,rfl⟩:=r;obtain⟨t',rfl⟩:=K;obtain⟨g,rfl⟩:=F;refine call_range_3 (by decide) ?_ (Or.inl (W1 (by lia)));refine VR (IsRange.new ..) ?_ ?_
    ·exact RD w J v y
    ·have k:Inv X m u l {d with heap:=d.heap.push {cls:=.type "range",data:=.fields #[.int i t,.int j t',.int (-1) g]}}:=M.kept (t':=d.toks) λb o e=>Zb _ e;refine⟨(d.heap.push {cls:=.type "range",data:=.fields #[.int i t,.int j t',.int (-1) g]}).objs.size,[(d.heap.push {cls:=.type "range",data:=.fields #[.int i t,.int j t',.int (-1) g]}).objs.size],_,_,l,rfl,
      k.kept (t':=d.toks) λb o e=>Zb _ e,qX9 _ i (i-j).toNat,?_,λb hb=>?_,q⟩
     ·have D:i+((0:Nat):Int)*(-1)=i:=by simp
      have C:(((i-j).toNat:Nat):Int)-((0:Nat):Int)=Builtin.Range.rangeSize i j (-1):=by rw[JS];simp
      show IsRangeIter _ _ (i+((0:Nat):Int)*(-1)) ((((i-j).toNat:Nat):Int)-((0:Nat):Int)) (-1);rw[D,C];exact Zg _ rfl
     ·have e:b=(d.heap.push {cls:=.type "range",data:=.fields #[.int i t,.int j t',.int (-1) g]}).objs.size:=by simpa using hb
      subst e;exact k.i9 (Ze _) (k.aT.fresh (Ze _))
def xV7(xe:af)(j:TI)(g:TG)(tb:TS):TS:=λD a H=>j a H λJ e=>∃W:Nat->Nat->St->Hp->Prop,(∃m,W 0 m a e)/\∀i m a H,W i m a H ->
 ((∃C,H xe=some (.ext (ExcAt xe C)))/\J.stop i H/\D.nx a H)\/(J.go i H/\∃N:St->Hp->Prop,(∀b c,N b c->∃d,d<m/\W (i+1) d b c)/\∀x c,J.iI i H x c->g x a c λh f=>tb {D with nx:=N,ct:=N,bk:=D.nx} h f)
theorem xy8{M:av}{xe:af}{iter:av}{q:List aB}{wi:TI}{g:TG}{tb:TS}(F:PassesOwn (ai X.prog X.w) X.A X.env X.xe)(hh:X.A.handled=some (.ref xe))(hi:PIH X xe M iter wi)(hg:PG X M g)(hb:ir X q tb)
  (hs:∀x,foldedSetIterable iter X.env x=pure x:=by intro _;rfl):PS X (.For M iter q [] pos) (xV7 xe wi g tb):=by
 intro w s Z H D I h;refine wpAny_For (bo (hi w s Z H _ I h) λv s1 h1=>bo h1 λzR s2 h2=>?_) hs;obtain⟨it,A,S,J,H2,e,I2,T,cm,U,W,⟨m0,w0⟩,y⟩:=h2;subst e;have O:∀{p:Hp},(∀b∈A,p b=none)->∀b∈A,eQ X w p b:=λhn b hb=>⟨hn b hb,(U b hb).2⟩;refine codeAny_forLoop_any (λn Y=>∃i a p,Inv X w a p Y/\S i Y.heap/\(∀b∈A,p b=none)/\W i n a p) ?_ m0 ⟨0,Z,H2,I2,cm,λb hb=>(U b hb).1,w0⟩;rintro n R ⟨i,B,K,V,gQ,uT,w3⟩;rcases y i n B K w3 with⟨⟨C,LD⟩,G,qn⟩|⟨go,N,hN,step⟩
 ·refine YC F (bo (T.done X rfl rfl rfl hh i w R B K X.xe C V LD (O uT) gQ G) λr s4 ⟨L,I4⟩=>?_);subst L;exact Wi ⟨B,K,I4,qn⟩
 ·refine YC F (bo (T.item X rfl rfl rfl i w R B K X.xe V (O uT) gQ go) λr s4 ⟨u,L,h4⟩=>?_);subst L;refine YC F (bo h4 λ_ s5 ⟨x,H5,I5,r5,y5,Q,Ee⟩=>?_);have Ey:=I5.pinned (O Ee) (T.obj _ _ Q);refine YC F (bo (hg _ s5 B H5 x u _ Ey r5 (step x H5 y5)) λ_ s6 ⟨EB,H6,I6,q6⟩=>?_);refine YC F (bo (hb _ s6 EB H6 _ I6 q6) λf P t=>?_);have j:∀{l:St}{k:Hp},Inv X (w++yZ A s5.heap) l k P->N l k->∃m,m<n/\∃i a p,Inv X w a p P/\S i P.heap/\(∀b∈A,p b=none)/\W i m a p:=λ{l k} c E=>by
   obtain⟨m',hm,w7⟩:=hN l k E;refine⟨m',hm,i+1,l,k,c.cS,T.keep _ _ _ Q λb hb o e=>(c.pin (b,o) (ZN _ (ZN _ (zA hb e)))).1,λb hb=>?_,w7⟩;obtain⟨o,e,d⟩:=T.obj _ _ Q b hb;exact(c.pin (b,o) (ZN _ (ZN _ (zA hb e)))).2.1
  cases f with
  |next=>obtain⟨l,k,c,E⟩:=t;exact j c E
  |cont=>obtain⟨l,k,c,E⟩:=t;exact j c E
  |brk=>obtain⟨l,k,c,t⟩:=t;exact⟨l,k,c.cS,t⟩
  |ret v=>obtain⟨x7,l,k,c,r7,t⟩:=t;exact⟨x7,l,k,c.cS,r7,t⟩
end
theorem xd5{xe C:af}{lo:Int}{n:Nat}{g:TG}{tb:TS}{D:Ends}{σ:St}{H:Hp}(Pv:Nat->St->Hp->Prop)(l:∀i σ H,Pv i σ H->H xe=some (.ext (ExcAt xe C)))(h0:Pv 0 σ H)
  (hs:∀i σ H,i<n->Pv i σ H->g (.int (lo-i)) σ H λd f=>tb {D with nx:=Pv (i+1),ct:=Pv (i+1),bk:=D.nx} d f) (j:∀σ H,Pv n σ H->D.nx σ H):
  ∃W:Nat->Nat->St->Hp->Prop,(∃m,W 0 m σ H)/\∀i m σ H,W i m σ H ->
   ((∃C,H xe=some (.ext (ExcAt xe C)))/\(t_ lo n).stop i H/\D.nx σ H)\/((t_ lo n).go i H/\∃N:St->Hp->Prop,(∀a b,N a b->∃h,h<m/\W (i+1) h a b)/\∀x b,(t_ lo n).iI i H x b->g x σ b λd f=>tb {D with nx:=N,ct:=N,bk:=D.nx} d f):=by
 refine⟨λi m σ H=>m=n-i/\i<=n/\Pv i σ H,⟨n,by simp,Zz _,h0⟩,?_⟩;rintro i m σ H ⟨rfl,q,p⟩;by_cases c:i<n
 ·refine .inr ⟨c,Pv (i+1),λa b k=>⟨n-(i+1),nQ c,rfl,c,k⟩,λx b y=>?_⟩;obtain⟨e,y⟩:=y;subst e y;exact hs i σ _ c p
 ·have e:i=n:=by exact mn q c
  subst e;exact .inl ⟨⟨C,l _ _ _ p⟩,Ze _,j σ H p⟩
end L2
namespace Pr
open PySem L2 Qf
inductive vm(xe:af)(vs:List V)(H:Hp)(Q:VK):Prop
 |mk(t C:af)(n tp r c:Nat)(rows:List Row)(e0:vs=[.ref t,.int (r:Nat),.int (c:Nat)])(e1:H xe=some (.ext (ExcAt xe C)))(e2:g7 H t n tp rows)(e3:n<=12)
  (e4:∀(H':Hp)(p:af)(y:Nat),aI H H'->y<rows.length+2->T rows y=(cO (T rows tp) (eB r c 0 n)).1->H' p=some (.tup [.str (txt (cO (T rows tp) (eB r c 0 n)).2),.int (y:Nat)])->Q (.ref p) H')
def Pt(xe:af):Eo:=λa H Q=>vm xe a H Q
theorem xP9{f xe:af}{v:ak}(F:a_ K "_law_leaf" "_law_leaf" xa f v)(B:eF mg):nr P w K mg base 1 xe f v fK (Pt xe):=by
 refine F.okH dN (λS H Q h=>?_) (λV A b s H S Q m h=>?_)
 ·obtain⟨t,C,n,l,r,c,rows,rfl,_⟩:=h
  rfl
 ·obtain⟨t,C,n,l,r,c,rows,rfl,x,N,X,q⟩:=h;obtain⟨⟨R,M,O⟩,k,W⟩:=id N;have ok:=k.iL;refine aQ ⟨_,⟨mY (pv 0) (xy7 m.hd (dz (c8 3 dN.nd) (dz (c8 4 dN.nd) (dz (c8 5 dN.nd) lM))))⟩,?_⟩;refine aQ ⟨_,⟨cg 6 dN.nd se⟩,?_⟩;refine aQ ⟨_,⟨xy8 Yx m.hd (xk8 (by rfl) B.range (aG (aO c6 (pv 3) aK) (aG (EK FZ aK) (aG (EK FZ aK) aP)))) (c8 7 dN.nd)
   (gG.go (.one ⟨dE (c_ zG (pv 4) aK (cD _)) (gG.go (.cons ⟨cg 8 dN.nd (aO c7 (aO gJ aK (aO Cj (aO F_ (pv 1) (pv 7)) aK)) (aO Cj (aO F_ (pv 2) (pv 7)) aK))⟩
    (.cons ⟨cg 4 dN.nd (cb cJ (bw.go ⟨cb cJ (pv 5) (aO c6 (pv 4) aK)⟩) (pv 8))⟩
    (.one ⟨cg 6 dN.nd (aO JK (pv 6) (bw.go ⟨cb O6 se (pv 8)⟩))⟩)))) dG⟩))⟩,?_⟩
  refine gj ⟨_,⟨cF (fo (aW.go (.cons ⟨pv 6⟩ (.cons ⟨pv 4⟩ .nil rfl) rfl)))⟩,?_⟩;refine⟨_,rfl,⟨C,x⟩,t,_,rfl,aZ.of M,rfl,_,_,rfl,_,_,rfl,_,_,rfl,rfl,?_⟩;refine⟨_,rfl,_,_,rfl,rfl,_,rfl,_,rfl,(n:Int)-1,-1,rfl,⟨by lia,by lia,by lia,by lia⟩,?_⟩;have U:((n:Int)-1-(-1)).toNat=n:=by lia
  rw[U];have j:(eB r c 0 n).length=n:=Kb r c 0 n;have I:=KC r c 0 n;have E:∀i,i<n->(eB r c 0 n)[i]?=some (qd r c (n-1-i)):=λi a=>OA a;generalize eB r c 0 n=D at q j I E;refine xd5 (xe:=xe) (C:=C) (lo:=(n:Int)-1) (n:=n) (NL t R n l r c rows D H) (λi u p z=>by obtain⟨_,_,_,e,_⟩:=z;rw[e];exact x) ?_ ?_ ?_
  ·refine⟨l,none,none,rfl,?_,k.oA,?_⟩
   ·rw[Ww,ze,<- Pl];rfl
   ·rw[Ww,ze]
  ·rintro i u p a ⟨y,J,G,rfl,rfl,g,d⟩;exact Pk (K:=K) ok O k.size j a (E i a) g d λ_ _ z=>z
  ·rintro u p ⟨y,J,G,rfl,rfl,g,d⟩;have e:D.take n=D:=Yn (nV j);rw[e];refine⟨_,rfl,_,rfl,(by show 2<=sizeLine;decide),λL T=>q _ L y (bQ T) g (d.trans (by rw[e])) bu⟩
end Pr
namespace L2
open PySem PySem.Spec PyProof.Rows PySem.W
section
variable{X:Cx}{j8:List (af×az)}{σ lV:St}{H:Hp}{s:ae}
def uk(X:Cx)(j8:List (af×az))(lV:St)(E:XK):Cx:={X with
 pn:=X.pn++j8
 xe:=λe c=>∃(x:af)(cls:aa)(B:ao)(a:Hp),e=.ref x/\Inv X j8 lV a c/\Over B X.stack x cls .none c.heap /\
  (∀b o,X.aH.heap.get? b=some o->b∉dA X.stack->∃ob,B.get? b=some ob)/\(∀b o,a b=some o->∃ob,B.get? b=some ob)/\(∀p∈X.pn++j8,∃ob,B.get? p.1=some ob)/\a x=none/\E cls none a}
theorem Inv.va(I:Inv X j8 σ H s)(E:XK):Inv (uk X j8 lV E) [] σ H s:=
 ⟨⟨I.ok.mod,I.ok.kind,I.ok.glob,I.ok.blt,I.ok.above,I.ok.inj,I.ok.has,I.ok.tX,I.ok.hd,I.ok.frames,I.ok.rO,I.ok.Ah,I.ok.bs,I.ok.oH,I.ok.iX,I.ok.ky,I.ok.dP,I.ok.qM⟩,I.os,I.bare,I.base,I.loc,I.cell,I.free,I.cV,
  λp a=>I.pin p (by simpa[uk]using a),I.aT,I.len⟩
theorem Inv.dX{E:XK}{a:List (af×az)}(I:Inv (uk X j8 lV E) a σ H s):Inv X j8 σ H s:=
 ⟨⟨I.ok.mod,I.ok.kind,I.ok.glob,I.ok.blt,I.ok.above,I.ok.inj,I.ok.has,I.ok.tX,I.ok.hd,I.ok.frames,I.ok.rO,I.ok.Ah,I.ok.bs,I.ok.oH,I.ok.iX,I.ok.ky,I.ok.dP,I.ok.qM⟩,I.os,I.bare,I.base,I.loc,I.cell,I.free,I.cV,
  λp b=>I.pin p (Xn _ b),I.aT,I.len⟩
def xQ0(lV:St)(sp:Sp)(a:List V)(E:XK)(t:TA):TE:=λσ H Q=>σ=lV/\BS sp a E t σ H Q
theorem xk9{E:XK}{k:Nat}{f:af}{D:ak}{ps:List ar}{sp:Sp}{l:List V}{j:List aa}{x:ar}{p c:aC}{e:av}{i:List av}{t:TA}(S:X.ex=[])
  (F:aE X.prog X.w X.K X.mg X.base (yv X.prog X.w) k f D ps sp) (P:bf k X.A) (hg:Gl (uk X j8 lV E) x) (hm:X.mg x=some (.ref f)) (J:PySem.W.keepIn X.K (.ref f)=true) (hb:Binds X.K D ps j) (O:Vals l j)
  (Y:PA (uk X j8 lV E) (e::i) t) (kI:(x==("__debug__":ar))=false:=by decide) (K:starEach (e::i) X.env=(false,eval e X.env)::starEach i X.env:=by rfl) (jF:(backTo c (starEach i X.env)).any (·.1)=false:=by rfl):
  PE (uk X j8 lV E) (.Call (.Name x p) (e::i) [] c) (xQ0 lV sp l E t):=by
 intro v s σ H Q I h;obtain⟨rfl,h⟩:=h;refine XD (zi I hg hm ?_ kI);refine VU (h₀:=X.base) I.ok.mod.oz J (bo (Y c v s σ H _ I h) λg G ⟨C,H1,a,r,q⟩=>⟨a.hJ,?_⟩) K jF;have y:Vals (C++l) (g++j):=r.append O;have hl:(g++j).length=ps.length:=by rw[<- y.length];exact F.len _ _ _ _ q
 refine VT (XO (F.run X.A X.stack G H1 ⟨g,[]⟩ (g++j) (C++l) Q E P a.yd (hb G g a.hJ hl) y q) λL s' d=>?_);cases L with
 |error e=>
  obtain⟨x,m,A,rfl,Z,gW,⟨B,U,HK,M,w,T,hx⟩,hE⟩:=d;have I':Inv (uk X j8 σ E) v σ A s':=a.uV Z U HK gW (λb z=>absurd z (by simp));have n:∀b,b≠X.env.locals->b∉X.fs->b∉dA X.stack:=λb h1 h2 h3=>by
   rcases Zu.mp (a.dX.fb b h3)with z|z
   ·exact h1 z
   ·exact h2 z
  refine⟨x,m,B,A,rfl,I'.dX,M,λb o z hb=>?_,T,λp hp=>?_,hx,hE⟩
  ·obtain⟨N,R⟩:=a.dX.base.there b o z (by rw[S];simp);exact w b N R hb
  ·obtain⟨z1,_,z3,z4,_⟩:=a.dX.pin p hp;exact w p.1 p.2 z1 (n p.1 z3 z4)
 |ok W=>
  cases W with
  |ret u=>exact a.after d
  |next=>exact False.elim d
  |brk=>exact False.elim d
  |cont=>exact False.elim d
def xV8(X:Cx)(F:aa)(th:af->TS)(D:Ends)(σ:St):XK:=λa _ b=>∃C,a=.ref C/\exmOne X.K a F=some true/\∀x,b x=none->th x D σ (upd b x (.ext (ExcAt x C)))
def xV9(X:Cx)(F:aa)(tb:St->XK->TS)(th:af->TS):TS:=λD σ H=>tb σ (xV8 X F th D σ) D σ H
theorem xy9{d:List aB}{W:aB}{Y:List aB}{y:ar}{np L6 K:aC}{FA:af}{tb:St->XK->TS}{th:af->TS}(V:X.ex=[])(p:X.stack=X.env::X.outer)(hfr:X.env.frame=some X.env.locals)
  (hg:Gl X y) (hm:X.mg y=some (.ref FA)) (hb:∀j8 lV E,ir (uk X j8 lV E) d (tb lV E)) (hh:∀x,ir (Hr X x) (W::Y) (th x))
  (hd:(y==("__debug__":ar))=false:=by decide):PS X (.Try d [.ExceptHandler (some (.Name y np)) none (W::Y) L6] [] [] K) (xV9 X (.ref FA) tb th):=by
 intro j8 s σ H D I h;refine wpAny_Try_except ?_;refine Yv (hb j8 σ _ [] s σ H D (I.va _) h) (λf j t=>?_) (λe j hx=>?_)
 ·cases f with
  |next=>
   obtain⟨a,b,c,q⟩:=t;exact Wi ⟨a,b,c.dX,q⟩
  |brk=>
   obtain⟨a,b,c,q⟩:=t;exact⟨a,b,c.dX,q⟩
  |cont=>
   obtain⟨a,b,c,q⟩:=t;exact⟨a,b,c.dX,q⟩
  |ret u=>
   obtain⟨v,a,b,c,r,q⟩:=t;exact⟨v,a,b,c.dX,r,q⟩
 ·obtain⟨x,cls,B,b,rfl,c,T,S,U,P,GK,C,rfl,MC,N⟩:=hx;have l:=T;rw[p]at l;have Nb:X.A.frames=some (X.env::X.outer):=by rw[<- p];exact I.ok.frames
  refine q26 Nb hfr l λh4 k F=>?_;refine JI k λZ n Q=>?_;have G:Inv X j8 σ b {j with heap:=Z}:=c.uj (tk:=j.toks) V T.stays n.stays (F.trans Q) S U P;obtain⟨ob,A,_,_,_,ho,GZ,yR,_,R,_⟩:=id n.uH;refine wpAny_handleBy_cons (codeAny_handlers_test ?_) (by intro q;cases q);refine zi (X:=Hr X x) (G.EV x) hg hm ?_ hd;have LT:Looks (ai X.prog X.w) Z (typeOf (.ref x)) (.ref C):=ExcAt.type ⟨ob,A,ho,GZ,yR,R⟩;refine(exm_one (M:=ai X.prog X.w) G.hJ LT MC).here ?_;refine codeAny_handlers_suite ?_;refine JI n λh6 m O=>?_;have I6:Inv X j8 σ b {j with heap:=h6}:=G.uj (tk:=j.toks) V n.stays m.stays O S U P;have J:Inv X j8 σ (upd b x (.ext (ExcAt x C))) {j with heap:=h6}:=I6.yi p hfr GK (by rw[p];exact m) S P;refine Yv (hh x j8 _ _ _ _ (J.EV x) (N x GK)) (λf s8 w=>?_) λ_ _ z=>z.elim;cases f with
  |next=>
   obtain⟨L,g,i,q⟩:=w;exact⟨_,g,i.Gx I.ok.hd,q⟩
  |brk=>
   obtain⟨L,g,i,q⟩:=w;exact⟨_,g,i.Gx I.ok.hd,q⟩
  |cont=>
   obtain⟨L,g,i,q⟩:=w;exact⟨_,g,i.Gx I.ok.hd,q⟩
  |ret u=>
   obtain⟨v,L,g,i,r,q⟩:=w;exact⟨v,_,g,i.Gx I.ok.hd,r,q⟩
end
end L2
namespace Qf
open Tr
theorem xl0(r c:Nat):dst r c r c<=0:=dh.mpr ⟨sV,sV,sV,sV⟩
theorem xl1{r c a b:Nat}(h:dst r c a b=0):a=r/\b=c:=by
 obtain⟨h1,e,d,f⟩:=dh.mp (Int.le_of_eq h);lia
end Qf
namespace Pr
open PySem L2 Qf
structure yr(H:Hp)(n r c:Nat)(t:Tr)(p l:af)(fr:Int)(x:V):Prop where
 at_:H p=some (.tup [.int (fr-1),x,.ref l])
 lv:H l=some (.lst (vT (rl n r c (ck t) fr)))
 few:(1<=fr/\fr<=r+1/\fr<=c+1)/\(r:Int)+fr<=((2^n:Nat):Int)/\(c:Int)+fr<=((2^n:Nat):Int)
 full:∀e∈ck t,de n r c e.1<fr->e.2=true
 shut:(x=.cu/\fr=df n r c/\∀e∈ck t,e.2=false->df n r c<de n r c e.1)\/∃pq R D,x=.ref pq/\H pq=some (.tup [.int (R:Nat),.int (D:Nat)])/\R<2^n/\D<2^n/\fr=dst r c R D/\(cO t (eB R D 0 n)).1=.z/\∀e∈ck t,e.2=false->¬kF n r c e.1<kC r c R D
theorem E4{n r c:Nat}{e:List Nat×Bool}(h1:e.2=false)(a:de n r c e.1<=df n r c):ji n r c e=true:=by
 unfold ji;rw[h1,Zt a]
 rfl
theorem R7{n r c:Nat}{e:List Nat×Bool}(h:ji n r c e=true):e.2=false/\de n r c e.1<=df n r c:=by
 unfold ji at h;obtain⟨h1,a⟩:=(Vz).mp h;exact⟨by simpa using h1,ZG a⟩
theorem xz0{H:Hp}{n r c:Nat}{t:Tr}{p l:af}(m:r<2^n)(hc:c<2^n)(b:∀e∈ck t,ji n r c e=false)(h1:H p=some (.tup [.int (df n r c-1),.cu,.ref l]))(j:H l=some (.lst (vT (rl n r c (ck t) (df n r c))))):yr H n r c t p l (df n r c) .cu:=by
 obtain⟨⟨i,k,f,g⟩,q⟩:=JV (n:=n) (r:=r) (c:=c);refine⟨h1,j,⟨⟨by lia,i,k⟩,f,g⟩,λe a h=>?_,.inl ⟨rfl,rfl,λe a d=>?_⟩⟩
 ·cases z:e.2 with
  |true=>rfl
  |false=>have:=b e a;rw[E4 z (xC h)]at this;cases this
 ·by_cases z:de n r c e.1<=df n r c
  ·have:=b e a;rw[E4 d z]at this;cases this
  ·exact nO z
theorem xz1{H:Hp}{n r c:Nat}{t:Tr}{p l g:af}{a:List Nat×Bool}(m:Tr.dep t<=n)(x:r<2^n)(hc:c<2^n)(k:a∈ck t)(B:ji n r c a=true)(v:∀e∈ck t,ji n r c e=true->¬kF n r c e.1<kF n r c a.1)(h0:de n r c a.1≠0)
  (h1:H p=some (.tup [.int (de n r c a.1-1),.ref g,.ref l])) (L:H g=some (.tup [.int (zO n r c a.1),.int (zP n r c a.1)])) (E:H l=some (.lst (vT (rl n r c (ck t) (de n r c a.1))))):yr H n r c t p l (de n r c a.1) (.ref g):=by
 obtain⟨⟨N,F,M,I⟩,S⟩:=JV (n:=n) (r:=r) (c:=c);obtain⟨A,d⟩:=R7 B;obtain⟨J,i⟩:=pL n _ _ m k;obtain⟨⟨R,D,j,u,q,f⟩,_⟩:=Kx J i x hc;obtain⟨s,y,k3⟩:=Sr f;have T:0<=de n r c a.1:=by
  rw[s];obtain⟨U,Q,_⟩:=dh.mp (Wx (dst r c R D));lia
 have G:∀e:List Nat×Bool,kF n r c e.1<kF n r c a.1->de n r c e.1<=de n r c a.1:=λe z=>by
  unfold kF at z;rw[Bu]at z;lia
 refine⟨h1,E,⟨⟨by lia,Q_ d N,Q_ d F⟩,Qv d M,Qv d I⟩,λe h C=>?_,.inr ⟨g,R,D,rfl,by rw[L,y,k3],u,q,s,?_,λe h O z=>?_⟩⟩
 ·cases z:e.2 with
  |true=>rfl
  |false=>exact absurd (show kF n r c e.1<kF n r c a.1 by unfold kF;rw[Bu];exact .inl C) (v e h (E4 z (by lia)))
 ·rw[(J9 (b:=a.2) m u q k j).2,A]
  rfl
 ·rw[<- f]at z;exact v e h (E4 O (Xl (G e z) d)) z
abbrev nRi:List ar:=["_law_told","_law_row","_law_column","_law_some","_law_far","_law_place","_law_leaves"]
theorem pj:aF nRi fK (bJ Ft):=cZ
inductive AM(vs:List V)(H:Hp)(Q:VK):Prop
 |mk(t:af)(n tp r c:Nat)(rows:List Row)(e0:vs=[.ref t,.int (r:Nat),.int (c:Nat)])(e1:g7 H t n tp rows)(e2:bK (T rows tp)<=2000)(e3:r<2^n)(e4:c<2^n)(e5:∀H',aI H H'->Q (.bl true) H')
def AN:Sp:=λa H Q _=>AM a H Q
theorem xW0{f fI N fD fS C:af}{fd Ni O Y W:ak}(F:a_ K "_law_right" "_law_right" Ft f fd)(B:eF mg)(EC:NK K mg C)(hm:PySem.W.exmOne K (.ref C) (.ref C)=some true)
  (hI:mg "inside"=some (.ref fI)) (FI:a_ K "inside" "inside" zh fI Ni) (bI:Binds K Ni ["shape","row","column"] []) (GI:aE P w K mg base (yv P w) 19 fI Ni ["shape","row","column"] (AY C))
  (hL:mg "_law_leaf"=some (.ref N)) (X:a_ K "_law_leaf" "_law_leaf" xa N O) (bL:Binds K O fK []) (GL:aE P w K mg base aS 1 N O fK rS)
  (hD:mg "_law_deep_right"=some (.ref fD)) (FD:a_ K "_law_deep_right" "_law_deep_right" Fu fD Y) (bD:Binds K Y sN []) (GD:aE P w K mg base aS 2 fD Y sN A7)
  (hS:mg "_law_shut_right"=some (.ref fS)) (FS:a_ K "_law_shut_right" "_law_shut_right" Ca fS W) (bS:Binds K W sJ []) (GS:aE P w K mg base aS 3 fS W sJ AH):
  aE P w K mg base aS 20 f fd fK AN:=by
 refine F.ok pj (λvs H Q E h=>?_) (λbO A outer s H vs Q E L h=>?_)
 ·obtain⟨t,n,i,r,c,rows,rfl,_⟩:=h
  rfl
 ·obtain⟨t,n,i,r,c,rows,rfl,u,kH,j,g,q⟩:=h;have jH:bf 1 _:=L.mono (by decide);have kN:bf 2 _:=L.mono (by decide);have yP:bf 3 _:=L.mono (by decide);have Z:∀x,nr P w K mg base 1 x N O fK (Pt x):=λx=>xP9 X B;refine aQ ⟨_,⟨Bs (xy9 (FA:=C) (tb:=λlV E=>_) (th:=λx=>_) rfl rfl rfl (by rfl) EC.at_
   (λj8 lV E=>cR (cg 3 pj.nd (xk9 rfl GI L (by rfl) hI FI.kp bI .nil (aG (pv 0) (aG (pv 1) (aG (pv 2) aP))))))
   (λx=>cR (cF (jn nG (bw.go ⟨cb cJ (bw.go ⟨xf5 (Z x) (jH.EV x) (by rfl) hL X.kp bL (aG (pv 0) (aG (pv 1) (aG (pv 2) aP)))⟩) aK⟩) aK (cD _)))))⟩,?_⟩
  refine aQ ⟨_,⟨dE (PW.pt (iW (c_ nG (bw.go ⟨cb cJ (bw.go ⟨bZ GL jH hL X.kp bL (aG (pv 0) (aG (pv 1) (aG (pv 2) aP)))⟩) aK⟩) aK (cD _)) (iW (md (jm (bw.go ⟨cB sv (by rfl) B.tG Z7 (aW.go (.cons ⟨pv 3⟩ (.cons ⟨si (v:=.ty "tuple") (by rfl) B.tuple Yh rfl⟩ .nil rfl) rfl))⟩))) (mZ (c_ BU (bw.go ⟨cB sC (by rfl) B.len YN (aG (pv 3) aP)⟩) aK (cD _)))))) (cR (cF j_)) dG⟩,?_⟩;refine aQ ⟨_,⟨mY (pv 3) (l_ rfl (dz (c8 4 pj.nd) (dz (c8 5 pj.nd) (dz (c8 6 pj.nd) lM))))⟩,?_⟩;refine aQ ⟨_,⟨dE (PW.pt (iW (md (jm (bw.go ⟨cB sv (by rfl) B.tG Z7 (aW.go (.cons ⟨pv 4⟩ (.cons ⟨si (v:=.ty "int") (by rfl) B.int YX rfl⟩ .nil rfl) rfl))⟩))) (iW (c_ iD (pv 4) aK (cD _)) (mZ (md (jm (bw.go ⟨cB sv (by rfl) B.tG Z7 (aW.go (.cons ⟨pv 6⟩ (.cons ⟨si (v:=.ty "list") (by rfl) B.list W8 rfl⟩ .nil rfl) rfl))⟩))))))) (cR (cF j_)) dG⟩,?_⟩;refine gj ⟨_,⟨cF (nK (bw.go ⟨bZ GD kN hD FD.kp bD (aW.go (.cons ⟨pv 0⟩ (.cons ⟨pv 1⟩ (.cons ⟨pv 2⟩ (.cons ⟨pv 4⟩ (.cons ⟨pv 6⟩ .nil rfl) rfl) rfl) rfl) rfl))⟩) (rn (bw.go ⟨bZ GS yP hS FS.kp bS (aW.go (.cons ⟨pv 0⟩ (.cons ⟨pv 1⟩ (.cons ⟨pv 2⟩ (.cons ⟨aO c7 (pv 4) aK⟩ (.cons ⟨pv 5⟩ .nil rfl) rfl) rfl) rfl) rfl))⟩)))⟩,?_⟩;obtain⟨⟨rp,ht,hR⟩,M,wF⟩:=id u;have hn:=M.size;have I:Tr.dep (T rows i)<=n:=zt M;refine⟨λσ k=>∃p l d x,σ=[some (.ref t),some (.int (r:Nat)),some (.int (c:Nat)),some (.ref p),none,none,none]/\aI H k/\yr k n r c (T rows i) p l d x,?_,?_⟩
  ·refine⟨rfl,_,rfl,_,rfl,_,rfl,t,n,i,r,c,rows,rfl,u,kH,j,g,λwH k p l e _ h1 h2=>?_,λe0 yH wQ n5=>⟨λh0 k e=>⟨C,rfl,hm,λxe LD=>?_⟩,λh0 k p pq l e _ h1 h2 h3=>?_⟩⟩
   ·exact⟨p,l,_,_,rfl,e,xz0 j g wH h1 h2⟩
   ·obtain⟨hf,_⟩:=R7 wQ;obtain⟨h4,hl⟩:=pL n _ _ I yH;obtain⟨_,a,b,vA,hz⟩:=IE h4 hl j g;obtain⟨rfl,rfl⟩:=xl1 (hz.trans h0);have U:=(J9 (b:=e0.2) I j g yH vA).2;have m:aI H (upd k xe (.ext (ExcAt xe C))):=e.trans (bQ LD);refine⟨_,rfl,_,rfl,_,rfl,t,C,n,i,a,b,rows,rfl,bu,sr u m.b_,hn,λH2 p2 y J hy G jK=>?_⟩;rw[U,hf]at G;have Lz:y=0:=t6 (b:=false) M.iL hy G;subst Lz;refine⟨p2,_,1,.int ((0:Nat):Int),rfl,rfl,aZ.of jK,rfl,rfl,?_⟩;exact q H2 (m.trans J)
   ·exact⟨p,l,_,_,rfl,e,xz1 I j g yH wQ n5 h0 h1 h2 h3⟩
  ·rintro σ k ⟨p,l,d,x,rfl,e,ok⟩;obtain⟨hp,Mq,kQ,m_,Dk⟩:=ok;refine⟨_,rfl,_,rfl,_,rfl,t,n,i,r,c,rows,rfl,sr u e.b_,hn,λH2 p2 y m hy G jK=>?_⟩;obtain⟨b0,wZ,kZ,wL⟩:=xv5 I j g;have kJ:b0=true:=by
    obtain⟨h4,hl⟩:=pL n _ _ I wZ;have h5:=(IE h4 hl j g).1 r c wL;have h6:=xl0 r c;exact m_ _ wZ (Int.lt_of_le_of_lt (Xl h5 h6) (by lia))
   rw[kZ,kJ]at G;have Ly:y=1:=t6 (b:=true) M.iL hy G;subst Ly;refine⟨p2,_,1,.int ((1:Nat):Int),rfl,rfl,aZ.of jK,rfl,rfl,_,rfl,?_⟩;refine bY ?_;have S:=m _ _ hp;have jT:=m _ _ Mq;refine⟨_,rfl,_,_,_,_,true,rfl,rfl,.inl (.tup S),rfl,_,rfl,bY ?_⟩;refine⟨_,rfl,p,_,rfl,.inr (aZ.of S),rfl,_,rfl,bY ?_⟩;refine⟨_,rfl,p,_,rfl,aZ.of S,rfl,_,_,rfl,_,_,rfl,_,_,rfl,rfl,?_⟩;refine iM (σ':=[some (.ref t),some (.int (r:Nat)),some (.int (c:Nat)),some (.ref p),some (.int (d-1)),some x,some (.ref l)]) rfl ?_;refine⟨_,rfl,_,_,_,_,true,rfl,rfl,.inl (.int _),rfl,_,rfl,bY ?_⟩;have Mi:decide (d-1<0)=false:=Zo (by lia);refine⟨_,rfl,_,_,rfl,rfl,_,rfl,?_⟩;rw[Mi];refine bY ?_;refine⟨_,rfl,_,_,_,_,true,rfl,rfl,.inl (.lst jT),rfl,_,rfl,bY ?_⟩;have Bi:=e.trans m;refine⟨_,rfl,_,rfl,_,rfl,_,rfl,_,rfl,t,l,n,i,r,c,d,rows,rfl,sr u Bi.b_,kH,kQ,jT,m_,λH3 J=>⟨_,rfl,dw ?_⟩⟩;have E2:=Bi.trans J;have efr:V.int (d-1+1)=V.int d:=Z9 V.int (by lia);refine⟨_,rfl,_,rfl,_,rfl,_,rfl,_,_,rfl,rfl,_,rfl,t,n,i,r,c,d,x,rows,?_,sr u E2.b_,kH,j,g,?_,λH4 s4=>q H4 (E2.trans s4)⟩
   ·show[V.ref t,V.int (r:Nat),V.int (c:Nat),V.int (d-1+1),x]=_;rw[efr]
   ·rcases Dk with z|⟨pq,R,D,z1,z2,z3⟩
    ·exact .inl z
    ·exact .inr ⟨pq,R,D,z1,J _ _ (m _ _ z2),z3⟩
end Pr
namespace Qf
open Tr
theorem R6(rows:List Row):(fY rows).length=rows.length:=by simp[fY]
theorem xz2{rows:List Row}(ok:fw rows):∀x,x<rows.length+2->bK (T (fY rows) (ex x))=bK (T rows x):=by
 intro x
 induction x using Nat.strongRecOn with
 |ind x f=>
  intro i;by_cases z:x<2
  ·match x,z with
   |0,_=>rw[l7,show ex 0=1 from rfl,l5];rfl
   |1,_=>rw[l5,show ex 1=0 from rfl,l7];rfl
  ·obtain⟨p,a,b,c,d,rfl,g⟩:=pM ok i z;have h:=(ok p _ g).2;have n:=(cz g).1;have m:=h a (by simp);have k:=h b (by simp);have l:=h c (by simp);have q:=h d (by simp);have j:(fY rows)[p]?=some [ex a,ex b,ex c,ex d]:=by unfold fY;rw[Zf,g];rfl
   have e:ex (p+2)=p+2:=Zl z;rw[e,lK ok g,lK (KJ ok) j];show bK _+bK _+bK _+bK _=bK _+bK _+bK _+bK _;rw[f a (by lia) (by lia),f b (by lia) (by lia),f c (by lia) (by lia),f d (by lia) (by lia)]
end Qf
namespace Pr
open PySem L2 Qf
abbrev U9:List ar:=["_law_told","_law_n","_law_top","_law_rows","_law_some"]
abbrev CJ:List ar:=["_law_row","_law_told","_law_n","_law_top","_law_rows","_law_some"]
theorem xQ1:CJ.Nodup:=by decide +kernel
theorem pz:aF U9 ["_law_told"] (bJ Ck):=cZ
inductive A4(vs:List V)(H:Hp)(Q:VK):Prop
 |mk(t:af)(n tp:Nat)(rows:List Row)(e0:vs=[.ref t])(e1:g7 H t n tp rows)(e2:∀H' t',aI H H'->g7 H' t' n (ex tp) (fY rows)->Q (.ref t') H')
def A5:Sp:=λa H Q _=>A4 a H Q
theorem Pq(m:Nat):∃i:Int,(if(2:Int)<(m:Int)then 2 else(m:Int))=i/\qW [V.int 1,V.int 0,V.int (m:Nat)] i=some (.int (ex m:Nat)):=by
 by_cases h:m<2
 ·match m,h with
  |0,_=>exact⟨0,rfl,rfl⟩
  |1,_=>exact⟨1,rfl,rfl⟩
 ·refine⟨2,by split<;>lia,?_⟩;show some (V.int (m:Nat))=_;unfold ex;rw[Zl h]
theorem xW1{f:af}{fd:ak}(F:a_ K "_law_exchanged" "_law_exchanged" Ck f fd)(B:eF mg):aE P w K mg base aS 1 f fd ["_law_told"] A5:=by
 refine F.ok pz (λvs H Q E h=>?_) (λbO A S s H vs Q E hr h=>?_)
 ·obtain⟨t,n,M,rows,rfl,_⟩:=h
  rfl
 ·obtain⟨t,n,M,rows,rfl,hS,q⟩:=h;obtain⟨⟨rp,ht,jO⟩,cn,wF⟩:=id hS;obtain⟨bs,hp,j9,jE⟩:=id jO;have ok:=cn.iL;have R:(bs.map V.ref).length=rows.length:=by rw[Zh];exact j9
  refine aQ ⟨_,⟨mY (pv 0) (l_ rfl (dz (c8 1 pz.nd) (dz (c8 2 pz.nd) (dz (c8 3 pz.nd) lM))))⟩,?_⟩;refine aQ ⟨_,⟨T8 (i0:=4) U9 (bJ Ck) rfl rfl rfl pz.nd rfl rfl (Gu K rfl (pv 3)) (λcl C fp aH aJ=>bw.go ⟨ki (oO K rfl) (by rfl) B.tuple Yh (aG (rz CJ _ rfl rfl rfl xQ1 (Gu K rfl (pv 0))
    (λcl2 C2 fp2 s2 H2=>bw.go ⟨cb (zQ K rfl) (bw.go ⟨jk (aG aK (aG aK (aG (pv 0) aP)))⟩) (bw.go ⟨cB (oy rfl) (by rfl) B.min ZV (aG (pv 0) (aG aK aP))⟩)⟩) (hfr:=by rfl)) aP)⟩)⟩,?_⟩
  refine gj ⟨_,⟨cF (fo (aW.go (.cons ⟨pv 1⟩ (.cons ⟨cb (zQ K rfl) (bw.go ⟨jk (aG aK (aG aK (aG (pv 2) aP)))⟩) (bw.go ⟨cB (oy rfl) (by rfl) B.min ZV (aG (pv 2) (aG aK aP))⟩)⟩ (.cons ⟨ki (oO K rfl) (by rfl) B.tuple Yh (aG (pv 4) aP)⟩ .nil rfl) rfl) rfl)))⟩,?_⟩;refine⟨_,rfl,t,_,rfl,aZ.of ht,rfl,_,_,rfl,_,_,rfl,_,_,rfl,rfl,?_⟩;refine iM (σ':=[some (.ref t),some (.int (n:Nat)),some (.int (M:Nat)),some (.ref rp),none]) rfl ?_;refine⟨_,rfl,rp,rfl,⟨_,aZ.of hp⟩,λD hD=>JM hD (λ_=>true) (λi z H1=>∃b r,z=.ref b/\rows[i]?=some r/\H1 b=some (.tup (vN (r.map ex)))) (zq (K:=K) hp) (by rw[R];exact pN (by lia)) ?_ ?_ ?_⟩
  ·rintro i z H1 H2 tk ⟨b,r,rfl,h1,h2⟩;exact⟨b,r,rfl,h1,tk _ _ h2⟩
  ·intro j x H3 hj c N os ho Q1 Q' _ T;have hq:=T rfl;have vL:j<rows.length:=by rw[<- R];exact hj
   rw[Zf]at c;obtain⟨b,hb,rfl⟩:=Zj.mp c;have J:rows[j]?=some rows[j]:=by simp[vL]
   have W:=N _ _ (jE j b _ hb J);have Y:=ok j _ J;generalize rows[j]=r at J W Y;obtain⟨o1,rfl⟩:=L2.Cy ho
   ·
    refine⟨_,rfl,b,rfl,⟨_,aZ.of W⟩,λD2 vR=>uC vR (λi z _=>∃m:Nat,r[i]?=some m/\z=.int (ex m:Nat)) (zq (K:=K) W) (by rw[nJ,Y.1];decide) (λ_ _ _ _ _ _ h=>h) ?_ ?_⟩
    ·intro i x H4 hi c Z Q2 Dr;obtain⟨m,U,rfl⟩:=wg c;obtain⟨X,u,g⟩:=Pq m;refine⟨_,rfl,(by show 3<=sizeLine;decide),λk p=>⟨_,rfl,_,_,rfl,k,_,X,.int (ex m:Nat),rfl,Z9 V.int u,cH.of bu,g,Dr _ _ (bQ p) ⟨m,U,rfl⟩⟩⟩
    ·intro v H4 Z jZ a L;have ey:v=vN (r.map ex):=by
      refine wo (by rw[a,nJ,nJ,Zh]) λi x c=>?_;obtain⟨m,U,rfl⟩:=L i x c;exact PK (by rw[Zf,U];rfl)
     refine⟨D2,v,rfl,.inl ⟨cH.of jZ,λl jQ=>hq _ _ (Z.trans (bQ jQ)) ⟨l,r,rfl,J,?_⟩⟩⟩;rw[bu,ey]
  ·intro v H3 N wE a qw;have ef:(List.range (bs.map V.ref).length).filter (λ_=>true)=List.range (bs.map V.ref).length:=VJ.mpr λ_ _=>rfl;rw[ef]at a qw;rw[YW]at a;have L:∀(i:Nat) z,v[i]?=some z->∃b r,z=.ref b/\rows[i]?=some r/\H3 b=some (.tup (vN (r.map ex))):=λi z e=>qw i z i e (Xy (by rw[<- a];exact(cz e).1));have I:∀zs:List V,(∀z∈zs,∃b:af,z=.ref b)->∃d:List af,zs=d.map V.ref:=λzs=>by
    induction zs with
    |nil=>exact λ_=>⟨[],rfl⟩
    |cons z zs ih=>
     intro h;obtain⟨b,rfl⟩:=h z ZE;obtain⟨d,rfl⟩:=ih λy hy=>h y (Zk _ hy);exact⟨b::d,rfl⟩
   obtain⟨d,rfl⟩:=I v λz hz=>by
    obtain⟨i,hi,e⟩:=ZH.mp hz;obtain⟨b,_,G,_⟩:=L i z (by simp[hi,e]);exact⟨b,G⟩
   have wY:d.length=rows.length:=by rw[Zh]at a;rw[a,R]
   obtain⟨X,u,g⟩:=Pq M;refine⟨_,rfl,_,rfl,(by show 3<=sizeLine;decide),λk p=>⟨_,rfl,_,_,rfl,k,_,X,.int (ex M:Nat),rfl,Z9 V.int u,cH.of bu,g,?_⟩⟩;refine⟨_,rfl,D,_,rfl,.inl ⟨cH.of (c9 wE p),λl hl=>⟨(by show 3<=sizeLine;decide),λt2 O=>?_⟩⟩⟩;refine q _ t2 (((N.trans (bQ p)).trans (bQ hl)).trans (bQ O)) ⟨⟨l,bu,d,c9 bu O,by rw[wY,R6],λi b r u G=>?_⟩,q49 cn,by rw[R6];exact wF⟩;obtain⟨b',r',g,e4,e5⟩:=L i (.ref b) (by rw[Zf,u];rfl);cases g;have:r=r'.map ex:=by
    unfold fY at G;rw[Zf,e4]at G;exact(ZT G).symm
   rw[this];exact c9 (c9 (c9 e5 p) hl) O
theorem E3(v M:Int)(h:0<=M):0<=(if M<(if 0>v then 0 else v)then M else(if 0>v then 0 else v))/\(if M<(if 0>v then 0 else v)then M else(if 0>v then 0 else v))<=M:=by
 split<;>split at *<;>lia
abbrev nNr:List ar:=["_law_pot_here","_law_boxes_here","_law_n","_law_row","_law_column","_law_box_here"]
abbrev sM:List ar:=["_law_pot_here","_law_boxes_here","_law_n"]
theorem nB:aF nNr sM (bJ EH):=cZ
inductive AO(vs:List V)(H:Hp)(Q:VK):Prop
 |mk(p bp:af)(n:Nat)(aD:List Row)(e0:vs=[.ref p,.ref bp,.int (n:Nat)])(e1:aV H p)(e2:bc H bp aD)(e3:bp≠p)(e4:(∀b∈aD,wy n b))(e5:aD.length<=900)(e6:n<=12)(e7:∀(H':Hp)(q:af)(r c:Nat),cf p H H'->aV H' p->r<2^n->c<2^n->H' q=some (.tup (vN [r,c]))->Q (.ref q) H')
def AQ:Sp:=λa H Q _=>AO a H Q
theorem xW2{f fD:af}{fd fh:ak}(F:a_ K "_law_near_box" "_law_near_box" EH f fd)(B:eF mg)(C:mg "_law_digit"=some (.ref fD))(k:a_ K "_law_digit" "_law_digit" uo fD fh)(G:Binds K fh ["_law_pot_here","_law_many"] []):
  aE P w K mg base aS 2 f fd sM AQ:=by
 have D:aE P w K mg base aS 1 fD fh ["_law_pot_here","_law_many"] wm:=BG k;refine F.ok nB (λvs H Q E h=>?_) (λbO A outer s H vs Q E i h=>?_)
 ·obtain⟨p,I,n,aD,rfl,_⟩:=h
  rfl
 ·obtain⟨p,I,n,aD,rfl,hp,hR,vQ,jX,jV,hn,q⟩:=h;refine aQ ⟨_,⟨cg 3 nB.nd (bw.go ⟨bZ D i C k.kp G (aG (pv 0) (aG (aO jl aK (pv 2)) aP))⟩)⟩,?_⟩;refine aQ ⟨_,⟨cg 4 nB.nd (bw.go ⟨bZ D i C k.kp G (aG (pv 0) (aG (aO jl aK (pv 2)) aP))⟩)⟩,?_⟩;refine aQ ⟨_,⟨dE (PW.pt (Ga (c_ (Cg i) (pv 1) (jk aP) (cD _)) (Gr (c_ zG (bw.go ⟨bZ D i C k.kp G (aG (pv 0) (aG aK aP))⟩) aK (cD _)))))
   (gG.go (.cons ⟨cg 5 nB.nd (bw.go ⟨cb oq (pv 1) (bw.go ⟨bZ D i C k.kp G (aW.go (.cons ⟨pv 0⟩ (.cons ⟨cB sC (by rfl) B.len YN (aG (pv 1) aP)⟩ .nil rfl) rfl))⟩)⟩)⟩
   (.cons ⟨cg 3 nB.nd (bw.go ⟨cB (oy rfl) (by rfl) B.min ZV (aW.go (.cons ⟨cB (m7 rfl) (by rfl) B.max ZM (aW.go (.cons ⟨aO c6 (bw.go ⟨aO c7 (bw.go ⟨cb cJ (pv 5) aK⟩) (bw.go ⟨cb oq (bw.go ⟨jk (aW.go (.cons ⟨aK⟩ (.cons ⟨cb cJ (pv 5) aK⟩ .nil rfl) rfl))⟩) (bw.go ⟨bZ D i C k.kp G (aG (pv 0) (aG aK aP))⟩)⟩)⟩) (bw.go ⟨bZ D i C k.kp G (aG (pv 0) (aG aK aP))⟩)⟩ (.cons ⟨aK⟩ .nil rfl) rfl))⟩ (.cons ⟨aO c6 (aO jl aK (pv 2)) aK⟩ .nil rfl) rfl))⟩)⟩
   (.one ⟨cg 4 nB.nd (bw.go ⟨cB (oy rfl) (by rfl) B.min ZV (aW.go (.cons ⟨cB (m7 rfl) (by rfl) B.max ZM (aW.go (.cons ⟨aO c6 (bw.go ⟨aO c7 (bw.go ⟨cb cJ (pv 5) aK⟩) (bw.go ⟨cb oq (bw.go ⟨jk (aW.go (.cons ⟨aK⟩ (.cons ⟨cb cJ (pv 5) aK⟩ .nil rfl) rfl))⟩) (bw.go ⟨bZ D i C k.kp G (aG (pv 0) (aG aK aP))⟩)⟩)⟩) (bw.go ⟨bZ D i C k.kp G (aG (pv 0) (aG aK aP))⟩)⟩ (.cons ⟨aK⟩ .nil rfl) rfl))⟩ (.cons ⟨aO c6 (aO jl aK (pv 2)) aK⟩ .nil rfl) rfl))⟩)⟩)))) dG⟩,?_⟩
  refine gj ⟨_,⟨cF (fo (aW.go (.cons ⟨pv 3⟩ (.cons ⟨pv 4⟩ .nil rfl) rfl)))⟩,?_⟩;have h2n:=zo hn;have W:0<2^n:=XB (by decide);have qR:(1:Int)*2^((n:Nat):Int).toNat=((2^n:Nat):Int):=by rw[WX,ZD];simp
  have eD:∀p:af,[V.ref p,V.int ((1:Int)*2^((n:Nat):Int).toNat)]=[V.ref p,V.int ((2^n:Nat):Int)]:=λp=>by rw[qR]
  have LY:∀{e a:Hp},aV e p->cf p e a->gz e a:=λ{e a} h b=>by
   obtain⟨x,y,h1,_⟩:=h;exact b.b_ h1 (λu z=>by cases z)
  have yA:∀{e a:Hp},aV e p->aI e a->aV a p:=λ{e a} h s=>by
   obtain⟨x,y,h1,h2⟩:=h;exact⟨x,y,s _ _ h1,h2⟩
  have L5:∀{e a:Hp},bc e I aD->aV e p->cf p e a->bc a I aD:=λ{e a} hR h b=>by
   obtain⟨x,y,h1,_⟩:=h;exact hR.but b vQ h1 (λu z=>by cases z)
  have J:∀(O:Hp)(r c:Int)(g:af),cf p H O->aV O p->0<=r->r<=((2^n:Nat):Int)-1->0<=c->c<=((2^n:Nat):Int)-1->O g=none->Q (.ref g) (upd O g (.tup [.int r,.int c])):=λO r c g b oB r0 r1 c0 c1 t=>by
   refine q _ g r.toNat c.toNat (b.trans (cf.of (bQ t))) (yA oB (bQ t)) (by lia) (by lia) ?_;rw[bu];show some (HO.tup [.int r,.int c])=some (HO.tup [.int (r.toNat:Int),.int (c.toNat:Int)]);rw[show((r.toNat:Nat):Int)=r by lia,show((c.toNat:Nat):Int)=c by lia]
  refine⟨_,rfl,_,rfl,_,_,rfl,rfl,⟨by lia,by lia,by decide⟩,p,2^n,eD p,hp,W,by lia,λr e jH b1 jY=>?_⟩;refine⟨_,rfl,_,rfl,_,_,rfl,rfl,⟨by lia,by lia,by decide⟩,p,2^n,eD p,jY,W,by lia,λc a hc2 b2 jK=>?_⟩;dsimp only[di];refine O0 (σ':=[some (.ref p),some (.ref I),some (.int (n:Nat)),some (.int (r:Nat)),some (.int (c:Nat)),none]) rfl ?_;have B2:=b1.trans b2;have hR2:=L5 (L5 hR hp b1) jY b2;refine⟨_,rfl,(by show 0<=sizeLine;decide),λl hl=>?_⟩;have B3:cf p H (upd a l (.lst [])):=B2.trans (cf.of (bQ hl));have Z:=yA jK (bQ (o:=.lst []) hl);have wN:=hR2.same (bQ (o:=.lst []) hl);have DI:upd a l (.lst []) l=some (.lst []):=bu;generalize upd a l (.lst [])=H3 at B3 Z wN DI ⊢;refine⟨_,_,BP wN,.lst DI .nil,zp _,rfl,BQ _,_,rfl,?_⟩;rw[Kd];cases aD with
  |nil=>exact bY (bY ⟨_,rfl,_,rfl,(by show 2<=sizeLine;decide),λg t=>J H3 _ _ g B3 Z (by lia) (by lia) (by lia) (by lia) t⟩)
  |cons b0 yj=>
   refine dw ?_;refine⟨_,rfl,p,4,rfl,Z,by decide,by decide,λd4 H4 jZ b4 kP=>?_⟩;refine⟨_,_,rfl,rfl,_,rfl,?_⟩;have B4:=B3.trans b4;refine cw (λhc=>?_) (λhc=>⟨_,rfl,_,rfl,(by show 2<=sizeLine;decide),λg t=>J H4 _ _ g B4 kP (by lia) (by lia) (by lia) (by lia) t⟩);have D3:=L5 wN Z b4;obtain⟨as,ha,v0,jE⟩:=id D3;refine⟨_,rfl,_,rfl,_,rfl,I,_,rfl,.inl (cH.of ha),p,(as.map V.ref).length,rfl,kP,?_,?_,λj H5 hj b5 vY=>?_⟩
   ·rw[Zh,v0];exact Us _
   ·rw[Zh,v0];exact Xf jV (by decide)
   ·rw[Zh]at hj;have MS:as[j]?=some as[j]:=Zd hj;have yW:(b0::yj)[j]?=some ((b0::yj)[j]'(by rw[<- v0];exact hj)):=Zd _;have kJ:=jE j _ _ MS yW;obtain⟨x0,x1,m,M,eb,_⟩:=jX _ (Zv yW);rw[eb]at kJ;generalize as[j]=L at MS kJ;have t5:=LY kP b5;have x5:=t5 _ _ kJ;have B5:=B4.trans b5;have ha5:=b5 _ _ ha vQ;refine⟨I,_,(j:Int),.ref L,rfl,rfl,cH.of ha5,uw (by rw[Zf,MS];rfl),?_⟩;dsimp only[di];refine O0 (σ':=[some (.ref p),some (.ref I),some (.int (n:Nat)),some (.int (r:Nat)),some (.int (c:Nat)),some (.ref L)]) rfl ?_;refine⟨_,rfl,L,_,0,_,rfl,rfl,aZ.of x5,rfl,_,rfl,L,_,2,_,rfl,rfl,aZ.of x5,rfl,(by show 2<=sizeLine;decide),λU R=>?_⟩;have B6:=B5.trans (cf.of (bQ (o:=.lst [.int 0,.int (m:Nat)]) R));have wS:=yA vY (bQ (o:=.lst [.int 0,.int (m:Nat)]) R);have Y:=c9 (u:=.lst [.int 0,.int (m:Nat)]) x5 R;have DG:upd H5 U (.lst [.int 0,.int (m:Nat)]) U=some (.lst [.int 0,.int (m:Nat)]):=bu;have nl6:U≠p:=λz=>by
     obtain⟨u,v,h1,_⟩:=vY;rw[z]at R;rw[R]at h1;cases h1
    generalize upd H5 U (.lst [.int 0,.int (m:Nat)])=H6 at B6 wS Y DG ⊢;have T:∀(d x:Nat),d<2->qW [V.int 0,V.int (x:Nat)] (d:Int)=some (.int (if d=0 then 0 else(x:Int))):=λd x h=>by
     match d,h with
     |0,_=>rfl
     |1,_=>rfl
    refine⟨_,rfl,p,2,rfl,wS,by decide,by decide,λd7 H7 wX b7 vX=>?_⟩;refine⟨U,_,(d7:Int),_,rfl,rfl,cH.of (b7 _ _ DG nl6),T d7 m wX,_,_,rfl,rfl,?_⟩;refine⟨_,rfl,p,2,rfl,vX,by decide,by decide,λd8 H8 MG b8 Ds=>?_⟩;refine⟨_,_,rfl,rfl,_,_,rfl,_,rfl,_,_,rfl,rfl,⟨by lia,by lia,by decide⟩,_,_,rfl,rfl,_,_,rfl,?_⟩;have t7:=LY wS b7;have t8:=LY vX b8;have N:=t8 _ _ (t7 _ _ Y);have B8:=(B6.trans b7).trans b8;rw[qR];generalize hz1:(((x0:Nat):Int)+(if d7=0 then 0 else(m:Int))-((d8:Nat):Int))=z1;refine⟨_,rfl,L,_,1,_,rfl,rfl,aZ.of N,rfl,_,rfl,L,_,3,_,rfl,rfl,aZ.of N,rfl,(by show 2<=sizeLine;decide),λX G4=>?_⟩;have B9:=B8.trans (cf.of (bQ (o:=.lst [.int 0,.int (M:Nat)]) G4));have GY:=yA Ds (bQ (o:=.lst [.int 0,.int (M:Nat)]) G4);have DF:upd H8 X (.lst [.int 0,.int (M:Nat)]) X=some (.lst [.int 0,.int (M:Nat)]):=bu;have nl9:X≠p:=λz=>by
     obtain⟨u,v,h1,_⟩:=Ds;rw[z]at G4;rw[G4]at h1;cases h1
    generalize upd H8 X (.lst [.int 0,.int (M:Nat)])=H9 at B9 GY DF ⊢;refine⟨_,rfl,p,2,rfl,GY,by decide,by decide,λda Ha kY S hpa=>?_⟩;refine⟨X,_,(da:Int),_,rfl,rfl,cH.of (S _ _ DF nl9),T da M kY,_,_,rfl,rfl,?_⟩;refine⟨_,rfl,p,2,rfl,hpa,by decide,by decide,λdb Hb kI bb wR=>?_⟩;refine⟨_,_,rfl,rfl,_,_,rfl,_,rfl,_,_,rfl,rfl,⟨by lia,by lia,by decide⟩,_,_,rfl,rfl,_,_,rfl,?_⟩;rw[qR];have hM:(0:Int)<=((2^n:Nat):Int)-1:=by lia
    refine⟨_,rfl,_,rfl,(by show 2<=sizeLine;decide),λg t=>J Hb _ _ g ((B9.trans S).trans bb) wR (E3 _ _ hM).1 (E3 _ _ hM).2 (E3 _ _ hM).1 (E3 _ _ hM).2 t⟩
end Pr
namespace Qf
open Tr
theorem Bo:∀t:Tr,bK t=3*iu t+1
 |.z=>rfl
 |.o=>rfl
 |.nd a b c d=>by
  show bK a+bK b+bK c+bK d=3*(1+iu a+iu b+iu c+iu d)+1;rw[Bo a,Bo b,Bo c,Bo d];lia
end Qf
namespace Pr
open PySem L2 Qf
abbrev K6:List ar:=["_law_script","_law_k","_law_pot_here","_law_n","_law_boxes_here","_law_told","_law_turn","_law_row","_law_column"]
theorem eU:aF K6 ["_law_script"] (bJ i6):=cZ
def ED(K:PySem.W.Frag):Sp:=λd H Q _=>∃(a:af)(b:List Int),d=[.ref a]/\cH K H a (b.map V.int)/\b.length<=63/\∀c,Q (.bl true) c
theorem xQ3{f fP fD fX fT fA fU fB:af}{fd yc fh Ng ya ja Nh mG:ak}(F:a_ K "law" "law" i6 f fd)(B:eF mg)(C:rf mg)
  (hP:mg "_law_pot"=some (.ref fP)) (FP:a_ K "_law_pot" "_law_pot" tE fP yc) (bP:Binds K yc ["_law_script","_law_k"] [])
  (hD:mg "_law_digit"=some (.ref fD)) (FD:a_ K "_law_digit" "_law_digit" uo fD fh) (bD:Binds K fh ["_law_pot_here","_law_many"] [])
  (hX:mg "_law_boxes"=some (.ref fX)) (FX:a_ K "_law_boxes" "_law_boxes" Cc fX Ng) (bX:Binds K Ng ["_law_pot_here","_law_n"] []) (GX:aE P w K mg base aS 3 fX Ng ["_law_pot_here","_law_n"] Pc)
  (hT:mg "_law_shape"=some (.ref fT)) (FT:a_ K "_law_shape" "_law_shape" Fx fT ya) (bT:Binds K ya ["_law_n","_law_boxes_here"] []) (GT:aE P w K mg base aS 15 fT ya ["_law_n","_law_boxes_here"] Pu)
  (hA:mg "_law_near_box"=some (.ref fA)) (FA:a_ K "_law_near_box" "_law_near_box" EH fA ja) (bA:Binds K ja sM []) (GA:aE P w K mg base aS 2 fA ja sM AQ)
  (hU:mg "_law_right"=some (.ref fU)) (FU:a_ K "_law_right" "_law_right" Ft fU Nh) (bU:Binds K Nh fK []) (GU:aE P w K mg base aS 20 fU Nh fK AN)
  (hB:mg "_law_exchanged"=some (.ref fB)) (FB:a_ K "_law_exchanged" "_law_exchanged" Ck fB mG) (bB:Binds K mG ["_law_told"] []) (GB:aE P w K mg base aS 1 fB mG ["_law_told"] A5):
  aE P w K mg base aS 21 f fd ["_law_script"] (ED K):=by
 have GP:aE P w K mg base aS 1 fP yc ["_law_script","_law_k"] (PB K):=xO0 FP B C;have GD:aE P w K mg base aS 1 fD fh ["_law_pot_here","_law_many"] wm:=BG FD;refine F.ok eU (λvs H Q E h=>?_) (λbO A outer s H vs Q E U h=>?_)
 ·obtain⟨a,ns,rfl,_⟩:=h
  rfl
 ·obtain⟨a,ns,rfl,Y,j9,q⟩:=h;have jH:bf 1 _:=U.mono (by decide);have kN:bf 2 _:=U.mono (by decide);have yP:bf 3 _:=U.mono (by decide);have LV:bf 15 _:=U.mono (by decide);refine aQ ⟨_,⟨pO Yx rfl (BM (by rfl) B.range (aG (cB (m7 rfl) (by rfl) B.max ZM (aG aK (aG (cB (oy rfl) (by rfl) B.min ZV (aG (cB sC (by rfl) B.len YN (aG (pv 0) aP)) (aG aK aP))) aP))) aP)) (c8 1 eU.nd)
    (gG.go (.cons ⟨cg 2 eU.nd (bZ GP jH hP FP.kp bP (aG (pv 0) (aG (pv 1) aP)))⟩
    (.cons ⟨cg 3 eU.nd (aO c7 aK (bw.go ⟨bZ GD jH hD FD.kp bD (aG (pv 2) (aG aK aP))⟩))⟩
    (.cons ⟨cg 4 eU.nd (bZ GX yP hX FX.kp bX (aG (pv 2) (aG (pv 3) aP)))⟩
    (.cons ⟨cg 5 eU.nd (bZ GT LV hT FT.kp bT (aG (pv 3) (aG (pv 4) aP)))⟩
    (.cons ⟨Bs (dE (c_ nG (bw.go ⟨bZ GD jH hD FD.kp bD (aG (pv 2) (aG aK aP))⟩) aK (cD _)) (gG.go (.one ⟨cg 5 eU.nd (bZ GB jH hB FB.kp bB (aG (pv 5) aP))⟩)) dG)⟩
    (.one ⟨pO Yx rfl (BM (by rfl) B.range (aG aK aP)) (c8 6 eU.nd)
     (gG.go (.cons ⟨mY (bw.go ⟨bZ GA kN hA FA.kp bA (aG (pv 2) (aG (pv 4) (aG (pv 3) aP)))⟩) (l_ rfl (dz (c8 7 eU.nd) (dz (c8 8 eU.nd) lM)))⟩
     (.one ⟨dE (md (jm (bw.go ⟨bZ GU U hU FU.kp bU (aG (pv 5) (aG (pv 7) (aG (pv 8) aP)))⟩))) (cR (cF j_)) dG⟩)))⟩)))))))⟩,?_⟩
  refine gj ⟨_,⟨cF j_⟩,?_⟩;refine⟨_,rfl,a,_,rfl,.inl Y,_,_,rfl,_,_,rfl,_,rfl,?_,?_,Tv (λi v N=>(i:Int)<=3/\aI H N/\Ex8 (λv1 v2 v3 L J m k D=>[some (.ref a),v1,v2,v3,L,J,m,k,D]) v) ⟨by decide,aI.refl _,none,none,none,none,none,none,none,none,rfl⟩ ?_ ?_⟩
  ·split<;>(try split)<;>lia
  ·split<;>(try split)<;>lia
  ·rintro i v N hi ⟨i1,s2,v1,v2,v3,L,J,m,k,D,rfl⟩;have iO:(i:Int)<3:=by
    revert hi;split<;>(try split)<;>lia
   dsimp only[di];refine iM (σ':=[some (.ref a),some (.int (0+(i:Int))),v2,v3,L,J,m,k,D]) rfl ?_;refine zK λko hko=>?_;refine⟨_,rfl,_,rfl,a,_,ns,rfl,s2.seq Y,j9,by lia,by lia,λH3 p s3 vE jW=>?_⟩;refine⟨_,rfl,p,9,rfl,jW,by decide,by decide,λd H4 hd b4 kP=>?_⟩;refine⟨_,_,rfl,rfl,?_⟩;obtain⟨n,jG⟩:∃n,n=4+d:=⟨_,rfl⟩;refine iM (σ':=[some (.ref a),some (.int (0+(i:Int))),some (.ref p),some (.int (n:Nat)),L,J,m,k,D]) (Z9 (λz:Int=>[some (V.ref a),some (V.int (0+(i:Int))),some (V.ref p),some (V.int z),L,J,m,k,D]) (show(4:Int)+(d:Int)=(n:Int) by lia)) ?_;refine⟨_,rfl,_,rfl,p,n,rfl,kP,sQ hd jG,λH5 l g b5 vY hl Z yL=>?_⟩;have vG:l≠p:=λz=>by
    obtain⟨x,y,h1,_⟩:=kP;rw[z,h1]at hl;cases hl
   have jV:g.length<=900:=by rcases yL.2 with⟨_,h⟩|⟨h,_⟩<;>lia
   refine⟨_,rfl,_,rfl,l,n,g,rfl,Z,yL,sQ hd jG,λH6 t s6 Rz=>?_⟩;have kQ:=SO (sQ hd jG) yL;have eT:T (nF n g) (n9 n g)=bt n g 0 0:=b_T;have O:bK (T (nF n g) (n9 n g))<=2000:=by rw[eT,Bo];lia
   generalize n9 n g=tp,nF n g=rows at Rz eT O;have wS:=vY.same s6;have hR6:=Z.same s6;have B6:cf p N H6:=λb o e X=>s6 _ _ (b5 _ _ (b4 _ _ (s3 _ _ e) X) X);have b_:∀{Ha Hb:Hp},aV Ha p->cf p Ha Hb->gz Ha Hb:=λ{Ha Hb} h b=>by
    obtain⟨x,y,h1,_⟩:=h;exact b.b_ h1 (λu z=>by cases z)
   refine⟨λv I=>∃G W jz,v=[some (.ref a),some (.int (0+(i:Int))),some (.ref p),some (.int (n:Nat)),some (.ref l),some (.ref G),m,k,D]/\cf p H6 I/\aV I p/\g7 I G n W jz/\bK (T jz W)<=2000,?_,?_⟩
   ·refine⟨_,rfl,p,2,rfl,wS,by decide,by decide,λd I hd b7 M=>⟨rfl,_,rfl,?_⟩⟩;have S:g7 I t n tp rows:=sr Rz (b_ wS b7);refine cw (λhc=>?_) (λhc=>?_)
    ·refine⟨_,rfl,t,n,tp,rows,rfl,S,λR G s8 sh8=>?_⟩;exact⟨G,_,_,rfl,b7.trans (cf.of s8),M.same s8,sh8,by rw[xz2 S.2.1.iL tp S.2.1.oA];exact O⟩
    ·exact⟨t,tp,rows,rfl,b7,M,S,O⟩
   ·clear eT O;rintro v I ⟨G,W,jz,rfl,b67,M,S,O⟩;have hR7:bc I l g:=by
     obtain⟨x,y,h1,_⟩:=wS;exact hR6.but b67 vG h1 (λu z=>by cases z)
    have B7:cf p N I:=B6.trans b67;refine⟨5,rfl,by decide,by decide,Tv (lo:=0) (n:=5) (λj v R=>cf p I R/\aV R p/\Ex3 (λm k D=>[some (.ref a),some (.int (0+(i:Int))),some (.ref p),some (.int (n:Nat)),some (.ref l),some (.ref G),m,k,D]) v) ⟨cf.refl _ _,M,m,k,D,rfl⟩ ?_ ?_⟩
    ·rintro j v R hj ⟨b8,Ds,w6,w7,w8,rfl⟩;have hR8:bc R l g:=by
      obtain⟨x,y,h1,_⟩:=M;exact hR7.but b8 vG h1 (λu z=>by cases z)
     dsimp only[di];refine iM (σ':=[some (.ref a),some (.int (0+(i:Int))),some (.ref p),some (.int (n:Nat)),some (.ref l),some (.ref G),some (.int (0+(j:Int))),w7,w8]) rfl ?_;refine zK λkj hkj=>?_;refine⟨_,rfl,_,rfl,_,rfl,p,l,n,g,rfl,Ds,hR8,vG,yL.1,jV,sQ hd jG,λH9 q9 r c b9 GY k9 kB hq9=>?_⟩;refine⟨q9,_,rfl,aZ.of hq9,rfl,_,_,rfl,_,_,rfl,rfl,?_⟩;refine iM (σ':=[some (.ref a),some (.int (0+(i:Int))),some (.ref p),some (.int (n:Nat)),some (.ref l),some (.ref G),some (.int (0+(j:Int))),some (.int (r:Nat)),some (.int (c:Nat))]) rfl ?_;have b79:cf p I H9:=b8.trans b9;have sh9:g7 H9 G n W jz:=sr S (b_ M b79);refine⟨_,rfl,_,rfl,_,rfl,G,n,W,r,c,jz,rfl,sh9,O,k9,kB,λHc sc=>⟨_,rfl,bY ?_⟩⟩;exact hkj _ _ ⟨b79.trans (cf.of sc),GY.same sc,_,_,_,rfl⟩
    ·rintro v R ⟨b8,Ds,w6,w7,w8,rfl⟩;refine hko _ _ ⟨by lia,λb o e=>?_,_,_,_,_,_,_,_,_,rfl⟩;have e2:=s2 b o e;have X:b≠p:=dI e2 vE;exact b8 _ _ (B7 _ _ e2 X) X
  ·rintro v N ⟨_,s2,v1,v2,v3,L,J,m,k,D,rfl⟩;exact q N
def cY(K:PySem.W.Frag)(x:ar)(st:aB):Prop:=∃(f:af)(a:ak),PySem.W.nsIn K mainGlobals x=some (some (.ref f))/\a_ K x x st f a
theorem Nu{K:PySem.W.Frag}{x:ar}{st:aB}{f:af}{i d:Option af}{h:Array (Option aa)}{g kV j e b ct:aa}(a:PySem.W.nsIn K mainGlobals x=some (some (.ref f)))
  (l:K.lookup f=some ⟨g,i,.func (PySem.W.fnOf x x (sj st) (ou st) (bJ st) .none kV j e d b ct),h⟩) (c:PySem.W.codeIn K b x=true) (k:PySem.W.keepIn K (.ref f)=true):cY K x st:=⟨f,_,a,O1 l c k⟩
def dO(K:PySem.W.Frag)(x:ar):Prop:=PySem.W.nsIn K mainGlobals x=some none
theorem mP{α:Type}{P:List α->Prop}(h:∀a:α,P [a]):∀b:List α,b.length=1->P b
 |[a],_=>h a
theorem jr{α:Type}{P:List α->Prop}(h:∀a b:α,P [a,b]):∀c:List α,c.length=2->P c
 |[a,b],_=>h a b
theorem rh{α:Type}{P:List α->Prop}(h:∀a b c:α,P [a,b,c]):∀d:List α,d.length=3->P d
 |[a,b,c],_=>h a b c
theorem ES{α:Type}{P:List α->Prop}(h:∀a b c d:α,P [a,b,c,d]):∀e:List α,e.length=4->P e
 |[a,b,c,d],_=>h a b c d
theorem IL{α:Type}{P:List α->Prop}(h:∀a b c d e:α,P [a,b,c,d,e]):∀f:List α,f.length=5->P f
 |[a,b,c,d,e],_=>h a b c d e
theorem xQ4{l:PySem.W.OpenLaw}{w:aj}{K:PySem.W.Frag}{h:ao}{mg:ar->Option aa}{fa fL F:af}(X:K.In h)(G:h.Ns mainGlobals mg)(G9:mg "law"=some (.ref fa)){odL D:Option af}{slL:Array (Option aa)}{ocL H c UU Nx q:aa}{t0 t1 t2 t3:Tok}
  (aL:PySem.W.nsIn K mainGlobals "law"=some (some (.ref fL))) (lL:K.lookup fL=some ⟨ocL,odL,.func (PySem.W.fnOf "law" "law" (sj i6) (ou i6) (bJ i6) .none H c UU D Nx q),slL⟩) (cL:PySem.W.codeIn K Nx "law"=true) (kL:PySem.W.keepIn K (.ref fL)=true)
  (g0:PySem.W.nsIn K mainGlobals "FIRST"=some (some (.int 2 t0))) (g1:PySem.W.nsIn K mainGlobals "FULL"=some (some (.int 1 t1))) (g2:PySem.W.nsIn K mainGlobals "GREATEST_SIZE"=some (some (.int 12 t2))) (g3:PySem.W.nsIn K mainGlobals "MOST_LEAVES"=some (some (.int 2000 t3)))
  (d0:cY K "is_whole" zJ) (d1:cY K "is_plain" FQ) (d2:cY K "depths_of" Cq) (d3:cY K "end_rows" r9) (d4:cY K "places_as_ended" Gm) (d5:cY K "is_size" Cp) (d6:cY K "is_number" BD) (d7:cY K "is_row" pF) (d8:cY K "are_rows" Cn) (d9:cY K "is_telling" Fb) (d10:cY K "is_shape" Cf) (d11:cY K "want_shape" Ce) (d12:cY K "is_address" Co) (d13:cY K "is_cell" EI) (d14:cY K "want_floor" FO) (d15:cY K "want_address" FK) (d16:cY K "want_cell" Fo) (d17:cY K "side_of" zD) (d18:cY K "box_at" FJ) (d19:cY K "box_of" Fz) (d20:cY K "count_leaves" BC) (d21:cY K "gather_leaves" E_) (d22:cY K "want_leaves" Fy) (d23:cY K "want_coarse" Gk) (d24:cY K "leaves_of" Fn) (d25:cY K "least_far" Fm) (d26:cY K "seen_leaves" Cm) (d27:cY K "inside" zh) (d28:cY K "_law_pot" tE) (d29:cY K "_law_digit" uo) (d30:cY K "_law_cells" Cd) (d31:cY K "_law_box" tF) (d32:cY K "_law_boxes" Cc) (d33:cY K "_law_meets" zI) (d34:cY K "_law_has" nY) (d35:cY K "_law_number" uv) (d36:cY K "_law_shape" Fx) (d37:cY K "_law_leaf" xa) (d38:cY K "_law_near_box" EH) (d39:cY K "_law_square" Gj) (d40:cY K "_law_common" BB) (d41:cY K "_law_ahead" Fw) (d42:cY K "_law_share" Cb) (d43:cY K "_law_exchanged" Ck) (d44:cY K "_law_full_boxes" Fv) (d45:cY K "_law_deep_right" Fu) (d46:cY K "_law_shut_right" Ca) (d47:cY K "_law_right" Ft)
  (z0:dO K "isinstance") (z1:dO K "int") (z2:dO K "bool") (z3:dO K "tuple") (z4:dO K "list") (z5:dO K "set") (z6:dO K "len") (z7:dO K "all") (z8:dO K "any") (z9:dO K "enumerate") (HS:dO K "range") (HR:dO K "max") (HQ:dO K "min") (HP:dO K "abs") (HN:dO K "repr") (HM:dO K "str") (HL:dO K "sum") (HJ:dO K "sorted")
  (IF:PySem.W.nsIn K mainGlobals "NotFull"=some (some (.ref F)))
  (IB:PySem.W.excIn K F Ny "ValueError.__new__"=true)
  (xm:PySem.W.exmOne K (.ref F) (.ref F)=some true):
  ∃fd:ak,(∀(s:ae)(v:aa),BindsTo s fd ⟨[v],[]⟩ [("_law_script",v)])/\∀a:ao,K.In a->a.Ns mainGlobals mg->aE l.prog w K mg a aS 21 fa fd ["_law_script"] (ED K):=by
 have e:=G9.symm.trans (Zm X G aL);cases e;have b:∀{x:ar},dO K x->mg x=none:=λz=>PySem.W.mg_none_of X G z;have B:eF mg:=⟨b z0,b z1,b z2,b z3,b z4,b z5,b z6,b z7,b z8,b z9,b HS,b HR,b HQ⟩;have C:rf mg:=⟨b HP,b HN,b HM⟩;have T:uY mg:=⟨⟨t0,Zm X G g0⟩,⟨t1,Zm X G g1⟩,⟨t2,Zm X G g2⟩⟩;have FL:=O1 (st:=i6) lL cL kL;obtain⟨f0,fd0,a0,J⟩:=d0;have h0:=Zm X G a0;have b0:=J.binds (ps:=["thing"]) λ_ _ _ _ _ _=>mP λ_=>rfl;obtain⟨f1,fd1,a1,F1⟩:=d1;have h1:=Zm X G a1;have b1:=F1.binds (ps:=["row"]) λ_ _ _ _ _ _=>mP λ_=>rfl;obtain⟨f2,fd2,a2,F2⟩:=d2;have h2:=Zm X G a2;have b2:=F2.binds (ps:=["rows"]) λ_ _ _ _ _ _=>mP λ_=>rfl;obtain⟨f3,fd3,a3,F3⟩:=d3;have h3:=Zm X G a3;have b3:=F3.binds (ps:=["rows","number","ended"]) λ_ _ _ _ _ _=>rh λ_ _ _=>rfl;obtain⟨f4,fd4,a4,F4⟩:=d4;have h4:=Zm X G a4;have b4:=F4.binds (ps:=["rows","top"]) λ_ _ _ _ _ _=>jr λ_ _=>rfl;obtain⟨f5,fd5,a5,L⟩:=d5;have h5:=Zm X G a5;have b5:=L.binds (ps:=["thing"]) λ_ _ _ _ _ _=>mP λ_=>rfl;obtain⟨f6,fd6,a6,N⟩:=d6;have h6:=Zm X G a6;have b6:=N.binds (ps:=["thing","many"]) λ_ _ _ _ _ _=>jr λ_ _=>rfl;obtain⟨f7,fd7,a7,F7⟩:=d7;have h7:=Zm X G a7;have b7:=F7.binds (ps:=["thing","before"]) λ_ _ _ _ _ _=>jr λ_ _=>rfl;obtain⟨f8,fd8,a8,F8⟩:=d8;have h8:=Zm X G a8;have b8:=F8.binds (ps:=["thing"]) λ_ _ _ _ _ _=>mP λ_=>rfl;obtain⟨f9,fd9,a9,F9⟩:=d9;have h9:=Zm X G a9;have b9:=F9.binds (ps:=["thing"]) λ_ _ _ _ _ _=>mP λ_=>rfl;obtain⟨f10,fd10,NG,Oe⟩:=d10;have h10:=Zm X G NG;have b10:=Oe.binds (ps:=["thing"]) λ_ _ _ _ _ _=>mP λ_=>rfl;obtain⟨f11,fd11,W,O⟩:=d11;have E:=Zm X G W;have j:=O.binds (ps:=["shape"]) λ_ _ _ _ _ _=>mP λ_=>rfl;obtain⟨f12,fd12,a12,Od⟩:=d12;have h12:=Zm X G a12;have b12:=Od.binds (ps:=["n","thing"]) λ_ _ _ _ _ _=>jr λ_ _=>rfl;obtain⟨f13,fd13,a13,Oc⟩:=d13;have h13:=Zm X G a13;have b13:=Oc.binds (ps:=["n","row","column"]) λ_ _ _ _ _ _=>rh λ_ _ _=>rfl;obtain⟨f14,fd14,a14,Ob⟩:=d14;have h14:=Zm X G a14;have b14:=Ob.binds (ps:=["n"]) λ_ _ _ _ _ _=>mP λ_=>rfl;obtain⟨f15,fd15,a15,Oa⟩:=d15;have h15:=Zm X G a15;have b15:=Oa.binds (ps:=["n","address"]) λ_ _ _ _ _ _=>jr λ_ _=>rfl;obtain⟨f16,fd16,a16,N_⟩:=d16;have h16:=Zm X G a16;have b16:=N_.binds (ps:=["n","row","column"]) λ_ _ _ _ _ _=>rh λ_ _ _=>rfl;obtain⟨f17,fd17,a17,M⟩:=d17;have M8:=Zm X G a17;have U:=M.binds (ps:=["n"]) λ_ _ _ _ _ _=>mP λ_=>rfl;obtain⟨f18,fd18,a18,N9⟩:=d18;have h18:=Zm X G a18;have b18:=N9.binds (ps:=["n","address"]) λ_ _ _ _ _ _=>jr λ_ _=>rfl;obtain⟨f19,fd19,a19,N8⟩:=d19;have S:=Zm X G a19;have b19:=N8.binds (ps:=["n","address"]) λ_ _ _ _ _ _=>jr λ_ _=>rfl;obtain⟨f20,fd20,a20,N7⟩:=d20;have h20:=Zm X G a20;have b20:=N7.binds (ps:=["top","rows"]) λ_ _ _ _ _ _=>jr λ_ _=>rfl;obtain⟨f21,fd21,a21,N6⟩:=d21;have f:=Zm X G a21;have m:=N6.binds (ps:=["rows","number","address","leaves"]) λ_ _ _ _ _ _=>ES λ_ _ _ _=>rfl;obtain⟨f22,fd22,a22,N5⟩:=d22;have h22:=Zm X G a22;have b22:=N5.binds (ps:=["shape","most"]) λ_ _ _ _ _ _=>jr λ_ _=>rfl;obtain⟨f23,fd23,a23,N4⟩:=d23;have h23:=Zm X G a23;have b23:=N4.binds (ps:=["shape"]) λ_ _ _ _ _ _=>mP λ_=>rfl;obtain⟨f24,fd24,a24,N3⟩:=d24;have h24:=Zm X G a24;have b24:=N3.binds (ps:=["shape"]) λ_ _ _ _ _ _=>mP λ_=>rfl;obtain⟨f25,fd25,a25,N1⟩:=d25;have h25:=Zm X G a25;have b25:=N1.binds (ps:=["row","column","box"]) λ_ _ _ _ _ _=>rh λ_ _ _=>rfl;obtain⟨f26,fd26,a26,NZ⟩:=d26;have h26:=Zm X G a26;have b26:=NZ.binds (ps:=["shape","row","column"]) λ_ _ _ _ _ _=>rh λ_ _ _=>rfl;obtain⟨f27,fd27,a27,NY⟩:=d27;have h27:=Zm X G a27;have b27:=NY.binds (ps:=["shape","row","column"]) λ_ _ _ _ _ _=>rh λ_ _ _=>rfl;obtain⟨f28,fd28,V,r⟩:=d28;have h28:=Zm X G V;have b28:=r.binds (ps:=["_law_script","_law_k"]) λ_ _ _ _ _ _=>jr λ_ _=>rfl;obtain⟨f29,fd29,a29,P⟩:=d29;have M7:=Zm X G a29;have NB:=P.binds (ps:=["_law_pot_here","_law_many"]) λ_ _ _ _ _ _=>jr λ_ _=>rfl;obtain⟨f30,fd30,a30,p⟩:=d30;have h30:=Zm X G a30;have b30:=p.binds (ps:=["_law_pot_here","_law_n"]) λ_ _ _ _ _ _=>jr λ_ _=>rfl;obtain⟨f31,fd31,a31,n⟩:=d31;have h31:=Zm X G a31;have b31:=n.binds (ps:=["_law_pot_here","_law_n","_law_most"]) λ_ _ _ _ _ _=>rh λ_ _ _=>rfl;obtain⟨f32,fd32,a32,NX⟩:=d32;have h32:=Zm X G a32;have b32:=NX.binds (ps:=["_law_pot_here","_law_n"]) λ_ _ _ _ _ _=>jr λ_ _=>rfl;obtain⟨f33,fd33,a33,A⟩:=d33;have R:=Zm X G a33;have b33:=A.binds (ps:=["_law_box_here","_law_row","_law_column","_law_side"]) λ_ _ _ _ _ _=>ES λ_ _ _ _=>rfl;obtain⟨f34,fd34,a34,u⟩:=d34;have h34:=Zm X G a34;have b34:=u.binds (ps:=["_law_box_here","_law_row","_law_column","_law_side"]) λ_ _ _ _ _ _=>ES λ_ _ _ _=>rfl;obtain⟨f35,fd35,a35,k⟩:=d35;have h35:=Zm X G a35;have b35:=k.binds (ps:=["_law_rows","_law_boxes_here","_law_row","_law_column","_law_side"]) λ_ _ _ _ _ _=>IL λ_ _ _ _ _=>rfl;obtain⟨f36,fd36,a36,NW⟩:=d36;have h36:=Zm X G a36;have b36:=NW.binds (ps:=["_law_n","_law_boxes_here"]) λ_ _ _ _ _ _=>jr λ_ _=>rfl;obtain⟨f37,fd37,a37,g⟩:=d37;have M6:=Zm X G a37;have NA:=g.binds (ps:=["_law_told","_law_row","_law_column"]) λ_ _ _ _ _ _=>rh λ_ _ _=>rfl;obtain⟨f38,fd38,a38,NV⟩:=d38;have h38:=Zm X G a38;have b38:=NV.binds (ps:=["_law_pot_here","_law_boxes_here","_law_n"]) λ_ _ _ _ _ _=>rh λ_ _ _=>rfl;obtain⟨f39,fd39,a39,NU⟩:=d39;have h39:=Zm X G a39;have b39:=NU.binds (ps:=["_law_n","_law_address"]) λ_ _ _ _ _ _=>jr λ_ _=>rfl;obtain⟨f40,fd40,a40,Q⟩:=d40;have i:=Zm X G a40;have I:=Q.binds (ps:=["_law_box_here","_law_other"]) λ_ _ _ _ _ _=>jr λ_ _=>rfl;obtain⟨f41,fd41,a41,NT⟩:=d41;have h41:=Zm X G a41;have b41:=NT.binds (ps:=["_law_row","_law_column","_law_far","_law_place"]) λ_ _ _ _ _ _=>ES λ_ _ _ _=>rfl;obtain⟨f42,fd42,a42,NS⟩:=d42;have h42:=Zm X G a42;have b42:=NS.binds (ps:=["_law_ahead_here","_law_box_here"]) λ_ _ _ _ _ _=>jr λ_ _=>rfl;obtain⟨f43,fd43,a43,NR⟩:=d43;have h43:=Zm X G a43;have b43:=NR.binds (ps:=["_law_told"]) λ_ _ _ _ _ _=>mP λ_=>rfl;obtain⟨f44,fd44,a44,NQ⟩:=d44;have M5:=Zm X G a44;have b44:=NQ.binds (ps:=["_law_told"]) λ_ _ _ _ _ _=>mP λ_=>rfl;obtain⟨f45,fd45,a45,NP⟩:=d45;have h45:=Zm X G a45;have b45:=NP.binds (ps:=["_law_told","_law_row","_law_column","_law_far","_law_leaves"]) λ_ _ _ _ _ _=>IL λ_ _ _ _ _=>rfl;obtain⟨f46,fd46,a46,NO⟩:=d46;have h46:=Zm X G a46;have b46:=NO.binds (ps:=["_law_told","_law_row","_law_column","_law_far","_law_place"]) λ_ _ _ _ _ _=>IL λ_ _ _ _ _=>rfl;obtain⟨f47,fd47,a47,NN⟩:=d47;have h47:=Zm X G a47;have b47:=NN.binds (ps:=["_law_told","_law_row","_law_column"]) λ_ _ _ _ _ _=>rh λ_ _ _=>rfl;refine⟨PySem.W.fnOf "law" "law" (sj i6) (ou i6) (bJ i6) .none H c UU D Nx q,λs v=>.of_eq rfl,λa _ _=>?_⟩;have uS:aE l.prog w K mg a aS 2 _ _ _ _:=xt9 L B T h0 J b0;have Ed:aE l.prog w K mg a aS 2 _ _ _ _:=q60 N B T h0 J b0;have gPl:∀d,aE l.prog w K mg a aS (d+2) _ _ _ (Kq d):=λd=>q65 F4 B T h3 F3 b3 d;have M_:aE l.prog w K mg a aS 3 _ _ _ _:=xN0 F7 B h6 N b6 Ed;have Ec:aE l.prog w K mg a aS 4 _ _ _ _:=xu5 F8 B h7 F7 b7 M_;have Eb:aE l.prog w K mg a aS 5 _ _ _ _:=qW2 F9 B h5 L b5 uS h8 F8 b8 Ec h6 N b6 Ed h2 F2 b2;have x8:aE l.prog w K mg a aS 15 _ _ _ _:=xg5 Oe B T h9 F9 b9 Eb h1 F1 b1 h4 F4 b4 gPl;have uR:aE l.prog w K mg a aS 16 _ _ _ _:=xg6 O h10 Oe b10 x8;have wP:mg "sum"=none:=b HL;have LN:mg "sorted"=none:=b HJ;have DA:∃t,mg "MOST_LEAVES"=some (.int 2000 t):=⟨t3,Zm X G g3⟩;have gAd:aE l.prog w K mg a aS 2 _ _ _ _:=xu9 Od B C.str;have gWA:aE l.prog w K mg a aS 3 _ _ _ _:=xh6 Oa h12 Od b12 gAd;have gCl:aE l.prog w K mg a aS 2 _ _ _ _:=xv1 Oc B h0 J b0 M8 M U;have gBA:aE l.prog w K mg a aS 2 _ _ _ _:=xh7 N9 B M8 M U;have gWF:aE l.prog w K mg a aS 3 _ _ _ _:=xT6 Ob h5 L b5 uS;have gWC:aE l.prog w K mg a aS 3 _ _ _ _:=xT7 N_ h13 Oc b13 gCl;have Z:aE l.prog w K mg a aS 4 _ _ _ _:=xT8 N8 h14 Ob b14 gWF h15 Oa b15 gWA h18 N9 b18 gBA;have gGL:aE l.prog w K mg a aS 13 _ _ _ (vn 12):=xT3 N6 T C.str B.enum T.full f m 12;have Y:aE l.prog w K mg a aS 1 _ _ _ _:=xS9 N7 wP;have gWL:aE l.prog w K mg a aS 2 _ _ _ _:=xT0 N5 h20 N7 b20 Y;have gCs:aE l.prog w K mg a aS 3 _ _ _ _:=xT1 N4 DA h22 N5 b22 gWL;have gLO:aE l.prog w K mg a aS 17 _ _ _ _:=xT9 N3 E O j uR h23 N4 b23 gCs f N6 m gGL;have gLF:aE l.prog w K mg a aS 1 _ _ _ _:=xU0 N1 B;have gSL:aE l.prog w K mg a aS 18 _ _ _ _:=xU1 NZ E O j uR h16 N_ b16 gWC h24 N3 b24 gLO h25 N1 b25 gLF S N8 b19 Z;have EC:NK K mg F:=⟨Zm X G IF,IB⟩;have gIn:aE l.prog w K mg a (yv l.prog w) 19 _ _ _ _:=xU9 NY B EC M8 M U h26 NZ b26 gSL;have gBx:aE l.prog w K mg a aS 3 _ _ _ _:=xk5 NX B M7 P NB h30 p b30 h31 n b31;have gBS:aE l.prog w K mg a aS 15 _ _ _ _:=xP7 NW B h35 k b35 R A b33 h34 u b34;have gNr:aE l.prog w K mg a aS 2 _ _ _ _:=xW2 NV B M7 P NB;have Na:aE l.prog w K mg a aS 1 _ _ _ _:=xU2 g B;have gSq:aE l.prog w K mg a aS 1 _ _ _ _:=xU3 NU B;have y:aE l.prog w K mg a aS 1 _ _ _ _:=xU6 Q B;have gSh:aE l.prog w K mg a aS 2 _ _ _ _:=xU7 NS wP i Q I y;have gAh:aE l.prog w K mg a aS 1 _ _ _ _:=xU8 NT B C;have gEx:aE l.prog w K mg a aS 1 _ _ _ _:=xW1 NR B;have gFb:aE l.prog w K mg a aS 1 _ _ _ _:=xV1 NQ B;have gDp:aE l.prog w K mg a aS 2 _ _ _ _:=xV0 NP B LN M6 g NA Na h39 NU b39 gSq i Q I y;have gSt:aE l.prog w K mg a aS 3 _ _ _ _:=xV2 NO B C wP M6 g NA Na h41 NT b41 gAh h42 NS b42 gSh M5 NQ b44 gFb;have gRi:aE l.prog w K mg a aS 20 _ _ _ _:=xW0 NN B EC xm h27 NY b27 gIn M6 g NA Na h45 NP b45 gDp h46 NO b46 gSt;exact xQ3 FL B C h28 r b28 M7 P NB h32 NX b32 gBx h36 NW b36 gBS h38 NV b38 gNr h47 NN b47 gRi h43 NR b43 gEx
theorem walk{l:PySem.W.OpenLaw}{q:ah}{loose:List ar}{XP:(ar->Option aa)->ao->Prop}{YP:aj->ao->Prop}{d:DefRec}{K:Params->PySem.W.Frag}(v:l.most=some 63)(j:d.params.defaults=[])
  (m:∀(w:aj)(h:ao),YP w h->(K w.params).In h)
  (F:∀(w:aj)(c:ar->Option aa)(e:af)(h:ao),(K w.params).In h->h.Ns mainGlobals c->c d.name=some (.ref e) ->
   ∃g:ak,(∀(s:ae)(u:aa),BindsTo s g ⟨[u],[]⟩ [("_law_script",u)])/\∀b:ao,(K w.params).In b->b.Ns mainGlobals c->aE l.prog w (K w.params) c b aS 21 e g ["_law_script"] (ED (K w.params))):
  PySem.W.WalkO q loose XP YP l.row.toRowW d [] (λf p=>PySem.call f p):=
 L2.xr7 (n:=63) (k:=21) (x:= "_law_script") (CX:=λ_=>aS) (sp:=λw=>ED (K w.params)) v (by decide) j ⟨rfl,by decide,by decide,rfl⟩ m F (λ_ _ a i r _ t=>⟨a,i,rfl,t,r,λ_=>rfl⟩) λ_ _ _ _ _ z=>z
end Pr
open PySem PySem.W PyProof.Rows
set_option maxRecDepth 100000 in
set_option maxHeartbeats 0 in
theorem PySem.Challenge.cw_quarterfold_k56_whole_inside_on_great_fl_holds : PySem.Challenge.rw_quarterfold_k56_whole_inside_on_great_fl.Holds := by
 w_on;o_law
 refine holds_open (q:=Hd.q0) (loose:=[]) (Xt:=Hd.X0) (XP:=XL Hd.q0 []) (YP:=Hook.says (kHook Hd.K0 Hd.uW Hd.mJ)) (N:=Hd.N0) Hd.xQ5
  (Hook.of (kHook Hd.K0 Hd.uW Hd.mJ)) (Hook.keeps (kHook Hd.K0 Hd.uW Hd.mJ)) (λs e=>xl_of s (Vz.mp e).1) XL.keeps
  (by rfl) (by rfl) (by rfl) (λs e=>recFacts_of (Vz.mp e).2)
  (by rfl) (by first|assumption|decide +kernel) (by decide +kernel) ⟨rfl,rfl,rfl,rfl,rfl,by decide +kernel⟩ ?hw ?hc
 case hw=>w_witness2
 k_fill
 refine Pr.walk (l:=PySem.Challenge.rw_quarterfold_k56_whole_inside_on_great_fl) rfl rfl (λw h Y=>PySem.W.kIn_of Y) ?F
 case F=>
  intro w mg fa h KX G DB;refine' Pr.xQ4 KX G DB ?aL ?lL ?cL ?kL ?gc0 ?gc1 ?gc2 ?gc3 ?d0 ?d1 ?d2 ?d3 ?d4 ?d5 ?d6 ?d7 ?d8 ?d9 ?d10 ?d11 ?d12 ?d13 ?d14 ?d15 ?d16 ?d17 ?d18 ?d19 ?d20 ?d21 ?d22 ?d23 ?d24 ?d25 ?d26 ?d27 ?d28 ?d29 ?d30 ?d31 ?d32 ?d33 ?d34 ?d35 ?d36 ?d37 ?d38 ?d39 ?d40 ?d41 ?d42 ?d43 ?d44 ?d45 ?d46 ?d47 ?z0 ?z1 ?z2 ?z3 ?z4 ?z5 ?z6 ?z7 ?z8 ?z9 ?HS ?HR ?HQ ?HP ?HN ?HM ?HL ?HJ ?IF ?IB ?xm
  (case aL=>k_is);(case lL=>k_is);(case cL=>k_is);(case kL=>k_is)
  (case gc0=>k_is)
  (case gc1=>k_is)
  (case gc2=>k_is)
  (case gc3=>k_is)
  (case z0=>unfold Pr.dO;k_is)
  (case z1=>unfold Pr.dO;k_is)
  (case z2=>unfold Pr.dO;k_is)
  (case z3=>unfold Pr.dO;k_is)
  (case z4=>unfold Pr.dO;k_is)
  (case z5=>unfold Pr.dO;k_is)
  (case z6=>unfold Pr.dO;k_is)
  (case z7=>unfold Pr.dO;k_is)
  (case z8=>unfold Pr.dO;k_is)
  (case z9=>unfold Pr.dO;k_is)
  (case HS=>unfold Pr.dO;k_is)
  (case HR=>unfold Pr.dO;k_is)
  (case HQ=>unfold Pr.dO;k_is)
  (case HP=>unfold Pr.dO;k_is)
  (case HN=>unfold Pr.dO;k_is)
  (case HM=>unfold Pr.dO;k_is)
  (case HL=>unfold Pr.dO;k_is)
  (case HJ=>unfold Pr.dO;k_is)
  (case IF=>k_is)
  (case IB=>first|k_exc|k_is)
  (case xm=>kts_exm)
  all_goals (refine' Pr.Nu ?qa ?ql ?qc ?qk;(case qa=>k_is);(case ql=>k_is);(case qc=>k_is);(case qk=>k_is))