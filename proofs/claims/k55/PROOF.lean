import PyProof.Rows.All
import Wide.All
import OpenK.AllK
import Wide.FinOn
import Lean
import PyProof.EqAt
import PyProof.EqKinds
import PyProof.TupleCall
import Open.Row
import PySem.SetOps
import PyProof.SetRoads
import PyProof.Rows.SetFrom
import PyProof.FactsAll.subtypes_4
import PyProof.WalksMore
import OpenK.KOwn
import PyProof.NeData
import PyProof.ReprRoads
import PyProof.WalksEnum
import PyProof.EnumMake
import PyProof.Rows.EnumRows
import KE.KTryMore
import KE.KIntText
import KE.KDictList
import PyProof.ConsumeS
import PyProof.ListRange
import PyProof.ListMulRoad
import PyProof.CompUse
import PyProof.CompFree
import PyProof.DictUpdate
import PyProof.Rows.TupDisplay
import PyProof.DictWalks
import PyProof.TupleOfGen
import KE.BitLaws
import PyProof.Draws
import PyProof.StrLawsChain
import KE.KxText
import PyProof.MaxThree
import PyProof.Rows.SortRunsK
import PyProof.Rows.SortShellK
import PyProof.Rows.SortKeyStr
import PyProof.Rows.SortWalk
import PyProof.Rows.StrInSeq
import PyProof.P3Eq
import PyProof.DictKinds
import PyProof.StrOps
import PyProof.TupleKey
import PyProof.Rows.CallKwBuiltin
import PyProof.SetKind
import PySem.Challenge.RW_quarterfold_k55_inside_by_cells
set_option Elab.async false
set_option linter.all false
set_option maxRecDepth 100000
set_option maxHeartbeats 8000000
def Za:=@PySem.wpAny_bind
def Zb:=@PySem.Heap.get?_push_of_some
def Zc:=@PySem.wpAny_pure
def Zd:=@List.getElem?_eq_getElem
def Ze:=@Nat.le_refl
def Zf:=@List.length_map
def Zg:=@List.getElem?_map
def Zh:=@PySem.Heap.get?_push_size
def Zi:=@PySem.Heap.lt_size
def Zj:=@Option.map_eq_some_iff
def Zk:=@List.mem_cons_of_mem
def Zl:=@if_neg
def Zm:=@PyProof.Rows.wpS_bind
def Zn:=@List.mem_cons
def Zo:=@PySem.W.mg_of
def Zp:=@Nat.ne_of_lt
def Zq:=@Bool.false_ne_true
def Zr:=@Bool.false_eq_true
def Zs:=@PySem.Heap.get?_update_other
def Zt:=@if_pos
def Zu:=@decide_eq_false
def Zv:=@decide_eq_true
def Zw:=@List.getD_eq_getElem?_getD
def Zx:=@Nat.zero_le
def Zy:=@PyProof.Rows.wpS_pure
def Zz:=@List.mem_of_getElem?
def ZA:=@Int.toNat_natCast
def ZB:=@List.mem_cons_self
def ZC:=@List.length_append
def ZD:=@List.mem_iff_getElem
def ZE:=@List.map_cons
def ZF:=@List.getElem?_append_left
def ZG:=@Nat.le_trans
def ZH:=@of_decide_eq_true
def ZI:=@List.size_toArray
def ZJ:=@PySem.wpAny_newObj_type
def ZK:=@List.getElem?_append_right
def ZL:=@Array.length_toList
def ZM:=@Option.some.inj
def ZN:=@getElem?_pos
def ZO:=@Nat.lt_of_lt_of_le
def ZP:=@PySem.wpAny_ite_split
def ZQ:=@PySem.Heap.get?_update_self
def ZR:=@PyProof.Rows.KeyOrd.kle_trans
def ZS:=@PySem.Heap.size_push
def ZT:=@List.mem_append_right
def ZU:=@List.cons_lt_cons_iff
def ZV:=@List.length_cons
def ZW:=@PySem.Around.under_plainId
def ZX:=@PySem.wpAny_holding
def ZY:=@PySem.wpAny_setState_of
def ZZ:=@Nat.lt_succ_of_lt
def Z0:=@Bool.eq_false_iff
def Z1:=@PySem.Obj.data_mapFields
def Z2:=@if_false
def Z3:=@List.map_map
def Z4:=@PySem.wpAny_callSpecial?_slot
def Z5:=@PySem.wpAny_call_entry
def Z6:=@PyProof.Rows.KeyOrd.kle_of_klt
def Z7:=@List.mem_append
def Z8:=@PySem.codeAny_builtin
def Z9:=@List.map_append
def Yb:=@List.mem_range
def Yc:=@PySem.Heap.SameBut.update
def Yd:=@PyProof.Rows.F.plain_set_update_loop
def Ye:=@Array.toList_append
def Yg:=@List.mem_map
def Yh:=@congrArg
def Yi:=@PyProof.Rows.boot_min
def Yj:=@PyProof.Rows.boot_tuple
def Yk:=@Nat.lt_irrefl
def Yl:=@List.filterMap_cons
def Ym:=@PySem.wpAny_truthy_bool
def Yn:=@Array.getElem?_toList
def Yo:=@PyProof.Rows.boot_max
def Yp:=@PySem.wpAny_mono
def Yq:=@Nat.lt_succ_self
def Yr:=@List.getElem_mem
def Ys:=@List.append_assoc
def Yt:=@PySem.lookup_relabel_local
def Yu:=@PySem.F.plain_min_loop
def Yv:=@PyProof.Rows.boot_isinstance
def Yw:=@PySem.plainId_quiet
def Yx:=@Nat.le_add_right
def Yy:=@PySem.wpAny_field
def Yz:=@List.map_congr_left
def YA:=@List.length_range
def YB:=@of_decide_eq_false
def YC:=@Array.getElem?_eq_some_iff
def YD:=@List.pairwise_cons
def YE:=@List.mem_filter
def YF:=@PySem.W.kia_one
def YG:=@List.nodup_cons
def YH:=@List.exists_cons_of_length_eq_add_one
def YI:=@List.lookup_cons
def YJ:=@Nat.pow_succ
def YK:=@List.all_eq_true
def YL:=@List.take_of_length_le
def YM:=@PySem.wpAny_askSetting
def YN:=@PyProof.Rows.F.entry_set_update_loop
def YO:=@PySem.Obj.isFreed_of_fields
def YQ:=@Bool.not_true
def YR:=@PySem.wpAny_setField
def YS:=@PySem.boot_len
def YT:=@PySem.F.slot_dict_keyiterator_next
def YU:=@PyProof.Rows.KeyOrd.kle_refl
def YV:=@List.filter_cons
def YW:=@List.pairwise_append
def YX:=@decide_eq_decide
def YY:=@Nat.mul_le_mul_right
def YZ:=@List.append_nil
def Y0:=@PySem.PassesOwn.never
def Y1:=@List.cons.injEq
def Y2:=@Array.getElem?_eq_getElem
def Y3:=@List.take_append_drop
def Y4:=@List.getElem?_eq_none
def Y5:=@Nat.lt_of_le_of_lt
def Y6:=@PySem.wpAny_rule
def Y7:=@PySem.Paired.length
def Y8:=@Nat.mul_assoc
def Y9:=@forall_congr'
def Xa:=@PySem.F.slot_list_append
def Xb:=@PySem.F.type_list_append
def Xc:=@PyProof.Rows.wpS_forRange
def Xd:=@PySem.wpAny_typeNameOfWhole_keyiter
def Xe:=@List.lt_irrefl
def Xf:=@PySem.wpAny_pyIter_list
def Xg:=@PySem.F.plainAttrs_list
def Xh:=@Array.toList_push
def Xi:=@Bool.eq_iff_iff
def Xj:=@Nat.two_pow_pos
def Xk:=@Nat.mod_lt
def Xl:=@List.range_succ
def Xm:=@List.getElem?_range
def Xn:=@PyProof.Rows.callWith_type1
def Xo:=@Nat.mul_comm
def Xp:=@Nat.succ_mul
def Xq:=@Nat.le_succ
def Xr:=@Nat.pow_pos
def Xs:=@Nat.mod_eq_of_lt
def Xu:=@PySem.wpAny_pyIter_tuple
def Xv:=@PySem.wpAny_seqItems
def Xw:=@PySem.F.slot_tuple_iterator_next
def Xx:=@List.length_filter_le
def Xy:=@List.pairwise_iff_getElem
def Xz:=@PySem.wpAny_passesOwn
def XA:=@Nat.not_lt_zero
def XB:=@Nat.le_of_lt
def XC:=@Ne.symm
def XD:=@List.mem_append_left
def XE:=@Nat.ne_of_gt
def XF:=@if_true
def XG:=@PySem.codeAny_call_builtin
def XH:=@Nat.pow_le_pow_right
def XI:=@Array.toList_extract
def XJ:=@List.not_lt
def XM:=@PySem.wpAny_attempt
def XN:=@List.take_append_getElem
def XO:=@PySem.wpAny_typeNameOf_keyiter
def XQ:=@PyProof.Rows.wpS_modify
def XR:=@PyProof.Rows.slot_tuple_getitem
def XS:=@PySem.mem_of_lookup
def XT:=@List.filter_eq_self
def XU:=@List.getElem_of_mem
def XV:=@List.reverse_append
def XW:=@List.length_take
def XX:=@PySem.wpAny_isInstance
def XY:=@Int.emod_lt_of_pos
def XZ:=@PySem.wpAny_setField_rec
def X1:=@beq_iff_eq
def X4:=@List.mem_singleton
def X5:=@List.find?_cons
def X6:=@List.any_cons
def X7:=@PySem.F.slot_enumerate_next
def X8:=@PyProof.Rows.boot_int
def X9:=@PyProof.Rows.boot_all
def Wa:=@PySem.Obj.cls_mapFields
def Wb:=@Bool.not_eq_true'
def Wc:=@List.nodup_append
def Wd:=@PySem.Heap.SameBut.refl
def We:=@List.ext_getElem?
def Wf:=@Bool.false_and
def Wg:=@PySem.sizeLine_eq
def Wh:=@Nat.mul_add
def Wi:=@Array.toList_setIfInBounds
def Wj:=@PySem.wpAny_of_eq
def Wk:=@PySem.wpAny_fieldsOf
def Wl:=@Array.perm_iff_toList_perm
def Wm:=@Array.toList_reverse
def Wn:=@PySem.codeAny_mono
def Wo:=@PySem.wpAny_forIn_list
def Wp:=@List.not_mem_nil
def Wq:=@List.any_eq_true
def Wr:=@List.drop_eq_getElem_cons
def Ws:=@Int.toNat_of_nonneg
def Wt:=@Option.isSome_iff_exists
def Wu:=@PySem.AutoSeq1.wpAny_loadPart'
def Wv:=@List.sum_cons
def Ww:=@PyProof.Rows.wpS_mono
def Wx:=@PyProof.Rows.KeyOrd.klt_of_klt_of_kle
def Wy:=@PySem.wpAny_execs_nil
def Wz:=@List.length_nil
def WA:=@Int.emod_nonneg
def WB:=@List.foldl_cons
def WC:=@Int.natCast_mul
def WD:=@PySem.wpAny_updateSeq
def WE:=@PySem.W.of_hideAll
def WF:=@List.mem_filterMap
def WG:=@PySem.wpAny_Call_Name_kw
def WH:=@PySem.tupleKind_room_in1
def WI:=@List.filter_append
def WJ:=@Nat.lt_or_eq_of_le
def WK:=@PySem.wpAny_tupleItemsOf
def WL:=@List.zip_cons_cons
def WM:=@List.getElem?_replicate
def WN:=@List.pairwise_singleton
def WO:=@List.length_eq_zero_iff
def WP:=@Nat.lt_trans
def WQ:=@Bool.not_false
def WR:=@PySem.wpAny_storeSet_of
def WS:=@decide_eq_true_eq
def WT:=@PySem.wpAny_dictEntries
def WU:=@Array.getElem?_eq_none
def WV:=@List.range_succ_eq_map
def WW:=@List.take_succ_eq_append_getElem
def WX:=@List.reverse_perm
def WY:=@PySem.Heap.get?_push_ne
def WZ:=@PySem.F.entry_min_loop
def W0:=@PySem.wpAny_tryCatch
def W1:=@List.length_replicate
def W2:=@PySem.wpAny_isOneOf_keyiter
def W3:=@List.Perm.append_left
def W4:=@PyProof.Rows.KeyOrd.not_klt_of_kle
def W5:=@PySem.builtinLookup_eq_fast
def W6:=@Bool.and_eq_true
def W7:=@List.take_length
def W8:=@Int.natCast_ediv
def W9:=@Int.natCast_emod
def Va:=@List.le_antisymm
def Vb:=@PySem.Heap.size_update
def Vc:=@PyProof.Rows.wpS_get
def Vd:=@Array.mem_extract_iff_getElem
def Ve:=@PySem.wpAny_letGo
def Vf:=@Nat.pow_add
def Vg:=@Int.le_refl
def Vh:=@Nat.div_add_mod
def Vi:=@PySem.codeAny_of_tree
def Vj:=@Bool.or_eq_true
def Vk:=@and_congr_right
def Vl:=@Int.natCast_add
def Vm:=@Array.getElem?_setIfInBounds
def Vn:=@beq_eq_false_iff_ne
def Vo:=@PySem.W.hideAll_get
def Vp:=@List.length_pos_iff
def Vq:=@List.replicate_succ
def Vr:=@PySem.wpAny_setEntries_of
def Vs:=@PySem.wpAny_typeOf
def Vt:=@Nat.le_of_eq
def Vu:=@Nat.add_zero
def Vv:=@Nat.zero_add
def Vw:=@LawfulMonad.pure_bind
def Vx:=@Int.natCast_nonneg
def Vy:=@Int.fdiv_eq_ediv_of_nonneg
def Vz:=@List.nodup_nil
def VA:=@Bool.and_false
def VB:=@PySem.Code.quiet_builtin
def VC:=@PySem.wpAny_runValue
def VD:=@PySem.Walks.list
def VE:=@Nat.mul_le_mul
def VF:=@PySem.isSubtype_type
def VG:=@List.length_eraseIdx_of_lt
def VH:=@Array.getElem?_eq_none_iff
def VI:=@List.nodup_iff_pairwise_ne
def VJ:=@Nat.lt_of_mul_lt_mul_right
def VL:=@PySem.F.plain_extend_loop
def VM:=@List.any_eq_false
def VN:=@Option.isSome_map
def VO:=@Nat.add_mul
def VP:=@Array.getElem_mem
def VQ:=@PySem.Moved.trans
def VR:=@Nat.le_succ_of_le
def VS:=@Nat.lt_trichotomy
def VT:=@PySem.wpAny_pyIter_slot
def VU:=@List.Pairwise.imp
def VV:=@PySem.fits_of_scanBound
def VW:=@Prod.mk.injEq
def VX:=@List.lt_trans
def VY:=@Nat.le_of_not_lt
def VZ:=@beq_self_eq_true
def V0:=@Nat.div_eq_of_lt
def V1:=@PySem.putSet_of
def V2:=@Nat.succ_le_succ
def V3:=@PyProof.Rows.wpS_lift
def V4:=@Nat.le_of_not_le
def V5:=@Nat.succ.inj
def V6:=@List.map_nil
def V7:=@Nat.succ_pos
def V8:=@Nat.sub_self
def V9:=@bind_congr
def Ua:=@List.of_mem_zip
def Ub:=@List.forIn_cons
def Uc:=@Nat.le_antisymm
def Ud:=@and_true
def Ue:=@Int.one_mul
def Uf:=@List.take_zero
def Ug:=@List.drop_drop
def Uh:=@Nat.not_lt
def Ui:=@Prod.ext
def Uj:=@or_false
theorem gS_{α:Type}{l:List α}{i:Nat}{a:α}(h:l[i]?=some a):∃h:i<l.length,l[i]=a:=List.getElem?_eq_some_iff.mp h
namespace L2
open PySem
def qi2 (s:Stmt):Arguments:=match s with
 |.FunctionDef _ a _ _ _ _ _ _ _ _=>a
 |_=>{ posonlyargs:=[],args:=[],vararg:=none,kwonlyargs:=[],kw_defaults:=[],kwarg:=none,defaults:=[] }
def qf5 (s:Stmt):List Stmt:=match s with
 |.FunctionDef _ _ b _ _ _ _ _ _ _=>b
 |_=>[]
def qa3 (s:Stmt):Scope:=match s with
 |.FunctionDef _ _ _ _ _ _ sc _ _ _=>sc
 |_=>{ kind:=.function,names:=[],isGenerator:=false,isCoroutine:=false }
end L2
namespace Pr
open PySem
def top (i:Nat):Stmt:=PySem.Challenge.pw_quarterfold_k55_inside_by_cells.main.body.getD i (.Pass ⟨0,0,0,0⟩)
end Pr
namespace Hd
open PySem PySem.W
abbrev pw:Program:=PySem.Challenge.pw_quarterfold_k55_inside_by_cells
abbrev u0_:Value:=.str "quarterfold.floors" 348
abbrev u1_:Value:=.str "law_quarterfold_k55_inside_by_cells" 547
abbrev u2_:Value:=.str "quarterfold.tellings" 426
abbrev u3_:Value:=.str "quarterfold.rows" 303
abbrev u4_:Value:=.str "quarterfold.leaves" 471
def kh (P:Params) (x:Str):Int:=PySem.PyData.keyHash P x
def oF (n:Str) (st:Stmt) (m:Value) (c:Nat):Obj:=⟨.type "function",none,.func (fnOf n n (L2.qi2 st) (L2.qf5 st) (L2.qa3 st) .none .none .none m none (.ref c) .none),#[]⟩
def oT (n q:Str) (st:Stmt):Obj:=⟨.none,none,.func { fnOf n q (L2.qi2 st) (L2.qf5 st) (L2.qa3 st) .none .none .none .none none .none .none with globals:=0 },#[]⟩
def oC (n q:Str) (t1 t2 t3 l a r1 r2:Nat) (y z:Value) (r6 k t5:Nat):Obj:=⟨.type "code",none,.fields #[.str n t1,.str q t2,.str "/claim/cut.py" t3,.int l 0,.int a 0,.int 0 0,.int 0 0,.int 3 0,.ref r1,.bool true,.int 181 0,.ref r2,.none,y,z,.ref r6,.int k 0,.int l 0,.str "/claim/cut.py" t5],#[]⟩
abbrev e0_:PySem.Obj:=⟨.type "tuple",none,(.seq #[] 0),#[]⟩
abbrev e1_:PySem.Obj:=⟨.none,none,(.fields #[]),#[]⟩
abbrev e2_ (a:Array PySem.Value):PySem.Obj:=⟨.type "tuple",none,(.seq a 0),#[]⟩
abbrev e3_ (P:Params) (x:Str) (n:Tok) (v:Value):DictEntry:=⟨kh P x,.str x n,v⟩
def K0 (P:Params):Frag:=
(nat_lit 2,⟨.none,none,(.dict #[] 0),#[]⟩) ::
(nat_lit 3,⟨.type "dict",none,(.dict #[e3_ P "__name__" 165 (.str "law_quarterfold_k55_inside_by_cells" 547),e3_ P "__doc__" 166 .none,e3_ P "__package__" 167 .none,e3_ P "__loader__" 168 (.builtin "__main__.__loader__#opaque"),e3_ P "__spec__" 169 .none,e3_ P "__annotations__" 170 (.ref 6),e3_ P "__builtins__" 171 (.ref 4),e3_ P "__file__" 173 (.str "/claim/cut.py" 172),e3_ P "__cached__" 174 .none,e3_ P "FloorError" 206 (.ref 24),e3_ P "NoFloor" 222 (.ref 37),e3_ P "NoAddress" 238 (.ref 49),e3_ P "NoCell" 254 (.ref 61),e3_ P "NoShape" 270 (.ref 73),e3_ P "TooMany" 286 (.ref 85),e3_ P "NotFull" 302 (.ref 97),e3_ P "FULL" 306 (.int 1 305),e3_ P "FIRST" 308 (.int 2 307),e3_ P "is_whole" 315 (.ref 106),e3_ P "is_plain" 322 (.ref 113),e3_ P "depths_of" 328 (.ref 118),e3_ P "end_rows" 338 (.ref 125),e3_ P "places_as_ended" 347 (.ref 132),e3_ P "GREATEST_SIZE" 351 (.int 12 350),e3_ P "is_size" 358 (.ref 139),e3_ P "is_address" 364 (.ref 144),e3_ P "is_cell" 374 (.ref 151),e3_ P "want_floor" 381 (.ref 158),e3_ P "want_address" 389 (.ref 165),e3_ P "want_cell" 398 (.ref 172),e3_ P "side_of" 405 (.ref 179),e3_ P "box_at" 417 (.ref 186),e3_ P "box_of" 425 (.ref 193),e3_ P "is_number" 435 (.ref 200),e3_ P "is_row" 441 (.ref 205),e3_ P "are_rows" 447 (.ref 210),e3_ P "is_telling" 457 (.ref 217),e3_ P "is_shape" 463 (.ref 222),e3_ P "want_shape" 470 (.ref 229),e3_ P "MOST_LEAVES" 474 (.int 2000 473),e3_ P "count_leaves" 480 (.ref 234),e3_ P "gather_leaves" 492 (.ref 241),e3_ P "want_leaves" 500 (.ref 248),e3_ P "want_coarse" 507 (.ref 255),e3_ P "leaves_of" 517 (.ref 262),e3_ P "least_far" 534 (.ref 269),e3_ P "seen_leaves" 540 (.ref 274),e3_ P "inside" 546 (.ref 279),e3_ P "_law_pot" 557 (.ref 286),e3_ P "_law_digit" 566 (.ref 293),e3_ P "_law_cells" 572 (.ref 298),e3_ P "_law_box" 587 (.ref 305),e3_ P "_law_boxes" 593 (.ref 310),e3_ P "_law_meets" 603 (.ref 317),e3_ P "_law_has" 613 (.ref 324),e3_ P "_law_number" 619 (.ref 329),e3_ P "_law_shape" 629 (.ref 336),e3_ P "_law_leaf" 644 (.ref 343),e3_ P "_law_near_box" 656 (.ref 350),e3_ P "_law_exchanged" 662 (.ref 355),e3_ P "_law_cell_kind" 672 (.ref 362),e3_ P "_law_around" 678 (.ref 367),e3_ P "_law_due" 684 (.ref 372),e3_ P "_law_told" 693 (.ref 379),e3_ P "law" 710 (.ref 386)] 65),#[]⟩) ::
(nat_lit 15,(e2_ #[.type "ValueError"])) ::
(nat_lit 22,e0_) ::
(nat_lit 23,⟨.type "dict",none,(.dict #[e3_ P "__module__" 196 (.str "quarterfold.errors" 187),e3_ P "__firstlineno__" 200 (.int 2 199),e3_ P "__static_attributes__" 201 (.ref 22),e3_ P "__weakref__" 203 (.ref 25),e3_ P "__doc__" 204 .none] 3),#[]⟩) ::
(nat_lit 24,⟨.type "type",none,(.cls ⟨"FloorError",[.type "ValueError"],[.ref 24,.type "ValueError",.type "Exception",.type "BaseException",.type "object"],23, "FloorError",true,[],[.ref 37,.ref 49,.ref 61,.ref 73,.ref 85,.ref 97],false,none,false⟩),#[some (.ref 15),none,some (.str "FloorError" 189),some (.str "FloorError" 197),some (.builtin "ValueError.__new__"),some (.bool true)]⟩) ::
(nat_lit 25,⟨.type "getset_descriptor",none,(.fields #[.str "__weakref__" 202,.ref 24,.builtin "ExceptionGroup.__weakref__",.none]),#[]⟩) ::
(nat_lit 28,(e2_ #[.ref 24])) ::
(nat_lit 35,e0_) ::
(nat_lit 36,⟨.type "dict",none,(.dict #[e3_ P "__module__" 214 (.str "quarterfold.errors" 187),e3_ P "__firstlineno__" 218 (.int 4 217),e3_ P "__static_attributes__" 219 (.ref 35),e3_ P "__doc__" 220 .none] 2),#[]⟩) ::
(nat_lit 37,⟨.type "type",none,(.cls ⟨"NoFloor",[.ref 24],[.ref 37,.ref 24,.type "ValueError",.type "Exception",.type "BaseException",.type "object"],36, "NoFloor",true,[],[],false,none,false⟩),#[some (.ref 28),none,some (.str "NoFloor" 207),some (.str "NoFloor" 215),some (.builtin "ValueError.__new__"),some (.bool true)]⟩) ::
(nat_lit 40,(e2_ #[.ref 24])) ::
(nat_lit 47,e0_) ::
(nat_lit 48,⟨.type "dict",none,(.dict #[e3_ P "__module__" 230 (.str "quarterfold.errors" 187),e3_ P "__firstlineno__" 234 (.int 6 233),e3_ P "__static_attributes__" 235 (.ref 47),e3_ P "__doc__" 236 .none] 2),#[]⟩) ::
(nat_lit 49,⟨.type "type",none,(.cls ⟨"NoAddress",[.ref 24],[.ref 49,.ref 24,.type "ValueError",.type "Exception",.type "BaseException",.type "object"],48, "NoAddress",true,[],[],false,none,false⟩),#[some (.ref 40),none,some (.str "NoAddress" 223),some (.str "NoAddress" 231),some (.builtin "ValueError.__new__"),some (.bool true)]⟩) ::
(nat_lit 52,(e2_ #[.ref 24])) ::
(nat_lit 59,e0_) ::
(nat_lit 60,⟨.type "dict",none,(.dict #[e3_ P "__module__" 246 (.str "quarterfold.errors" 187),e3_ P "__firstlineno__" 250 (.int 8 249),e3_ P "__static_attributes__" 251 (.ref 59),e3_ P "__doc__" 252 .none] 2),#[]⟩) ::
(nat_lit 61,⟨.type "type",none,(.cls ⟨"NoCell",[.ref 24],[.ref 61,.ref 24,.type "ValueError",.type "Exception",.type "BaseException",.type "object"],60, "NoCell",true,[],[],false,none,false⟩),#[some (.ref 52),none,some (.str "NoCell" 239),some (.str "NoCell" 247),some (.builtin "ValueError.__new__"),some (.bool true)]⟩) ::
(nat_lit 64,(e2_ #[.ref 24])) ::
(nat_lit 71,e0_) ::
(nat_lit 72,⟨.type "dict",none,(.dict #[e3_ P "__module__" 262 (.str "quarterfold.errors" 187),e3_ P "__firstlineno__" 266 (.int 10 265),e3_ P "__static_attributes__" 267 (.ref 71),e3_ P "__doc__" 268 .none] 2),#[]⟩) ::
(nat_lit 73,⟨.type "type",none,(.cls ⟨"NoShape",[.ref 24],[.ref 73,.ref 24,.type "ValueError",.type "Exception",.type "BaseException",.type "object"],72, "NoShape",true,[],[],false,none,false⟩),#[some (.ref 64),none,some (.str "NoShape" 255),some (.str "NoShape" 263),some (.builtin "ValueError.__new__"),some (.bool true)]⟩) ::
(nat_lit 76,(e2_ #[.ref 24])) ::
(nat_lit 83,e0_) ::
(nat_lit 84,⟨.type "dict",none,(.dict #[e3_ P "__module__" 278 (.str "quarterfold.errors" 187),e3_ P "__firstlineno__" 282 (.int 12 281),e3_ P "__static_attributes__" 283 (.ref 83),e3_ P "__doc__" 284 .none] 2),#[]⟩) ::
(nat_lit 85,⟨.type "type",none,(.cls ⟨"TooMany",[.ref 24],[.ref 85,.ref 24,.type "ValueError",.type "Exception",.type "BaseException",.type "object"],84, "TooMany",true,[],[],false,none,false⟩),#[some (.ref 76),none,some (.str "TooMany" 271),some (.str "TooMany" 279),some (.builtin "ValueError.__new__"),some (.bool true)]⟩) ::
(nat_lit 88,(e2_ #[.ref 24])) ::
(nat_lit 95,e0_) ::
(nat_lit 96,⟨.type "dict",none,(.dict #[e3_ P "__module__" 294 (.str "quarterfold.errors" 187),e3_ P "__firstlineno__" 298 (.int 14 297),e3_ P "__static_attributes__" 299 (.ref 95),e3_ P "__doc__" 300 .none] 2),#[]⟩) ::
(nat_lit 97,⟨.type "type",none,(.cls ⟨"NotFull",[.ref 24],[.ref 97,.ref 24,.type "ValueError",.type "Exception",.type "BaseException",.type "object"],96, "NotFull",true,[],[],false,none,false⟩),#[some (.ref 88),none,some (.str "NotFull" 287),some (.str "NotFull" 295),some (.builtin "ValueError.__new__"),some (.bool true)]⟩) ::
(nat_lit 100,e0_) ::
(nat_lit 102,(e2_ #[.str "thing" 312])) ::
(nat_lit 103,e0_) ::
(nat_lit 105,oC "is_whole" "is_whole" 309 310 311 19 1 100 101 (.ref 102) (.ref 103) 104 313 314) ::
(nat_lit 106,oF "is_whole" (Pr.top 11) u3_ 105) ::
(nat_lit 107,e0_) ::
(nat_lit 109,(e2_ #[.str "row" 319])) ::
(nat_lit 110,e0_) ::
(nat_lit 112,oC "is_plain" "is_plain" 316 317 318 21 1 107 108 (.ref 109) (.ref 110) 111 320 321) ::
(nat_lit 113,oF "is_plain" (Pr.top 12) u3_ 112) ::
(nat_lit 114,e0_) ::
(nat_lit 117,oC "depths_of" "depths_of" 323 324 325 23 1 114 115 .none .none 116 326 327) ::
(nat_lit 118,oF "depths_of" (Pr.top 13) u3_ 117) ::
(nat_lit 119,e0_) ::
(nat_lit 121,(e2_ #[.str "rows" 332,.str "number" 333,.str "ended" 334,.str "quarter" 335])) ::
(nat_lit 122,e0_) ::
(nat_lit 124,oC "end_rows" "end_rows" 329 330 331 28 3 119 120 (.ref 121) (.ref 122) 123 336 337) ::
(nat_lit 125,oF "end_rows" (Pr.top 14) u3_ 124) ::
(nat_lit 126,e0_) ::
(nat_lit 128,(e2_ #[.str "rows" 342,.str "top" 343,.str "ended" 344])) ::
(nat_lit 129,e0_) ::
(nat_lit 131,oC "places_as_ended" "places_as_ended" 339 340 341 34 2 126 127 (.ref 128) (.ref 129) 130 345 346) ::
(nat_lit 132,oF "places_as_ended" (Pr.top 15) u3_ 131) ::
(nat_lit 133,e0_) ::
(nat_lit 135,(e2_ #[.str "thing" 355])) ::
(nat_lit 136,e0_) ::
(nat_lit 138,oC "is_size" "is_size" 352 353 354 40 1 133 134 (.ref 135) (.ref 136) 137 356 357) ::
(nat_lit 139,oF "is_size" (Pr.top 18) u0_ 138) ::
(nat_lit 140,e0_) ::
(nat_lit 143,oC "is_address" "is_address" 359 360 361 42 2 140 141 .none .none 142 362 363) ::
(nat_lit 144,oF "is_address" (Pr.top 19) u0_ 143) ::
(nat_lit 145,e0_) ::
(nat_lit 147,(e2_ #[.str "n" 368,.str "row" 369,.str "column" 370,.str "side" 371])) ::
(nat_lit 148,e0_) ::
(nat_lit 150,oC "is_cell" "is_cell" 365 366 367 44 3 145 146 (.ref 147) (.ref 148) 149 372 373) ::
(nat_lit 151,oF "is_cell" (Pr.top 20) u0_ 150) ::
(nat_lit 152,e0_) ::
(nat_lit 154,(e2_ #[.str "n" 378])) ::
(nat_lit 155,e0_) ::
(nat_lit 157,oC "want_floor" "want_floor" 375 376 377 47 1 152 153 (.ref 154) (.ref 155) 156 379 380) ::
(nat_lit 158,oF "want_floor" (Pr.top 21) u0_ 157) ::
(nat_lit 159,e0_) ::
(nat_lit 161,(e2_ #[.str "n" 385,.str "address" 386])) ::
(nat_lit 162,e0_) ::
(nat_lit 164,oC "want_address" "want_address" 382 383 384 50 2 159 160 (.ref 161) (.ref 162) 163 387 388) ::
(nat_lit 165,oF "want_address" (Pr.top 22) u0_ 164) ::
(nat_lit 166,e0_) ::
(nat_lit 168,(e2_ #[.str "n" 393,.str "row" 394,.str "column" 395])) ::
(nat_lit 169,e0_) ::
(nat_lit 171,oC "want_cell" "want_cell" 390 391 392 53 3 166 167 (.ref 168) (.ref 169) 170 396 397) ::
(nat_lit 172,oF "want_cell" (Pr.top 23) u0_ 171) ::
(nat_lit 173,e0_) ::
(nat_lit 175,(e2_ #[.str "n" 402])) ::
(nat_lit 176,e0_) ::
(nat_lit 178,oC "side_of" "side_of" 399 400 401 56 1 173 174 (.ref 175) (.ref 176) 177 403 404) ::
(nat_lit 179,oF "side_of" (Pr.top 24) u0_ 178) ::
(nat_lit 180,e0_) ::
(nat_lit 182,(e2_ #[.str "n" 409,.str "address" 410,.str "row" 411,.str "column" 412,.str "side" 413,.str "figure" 414])) ::
(nat_lit 183,e0_) ::
(nat_lit 185,oC "box_at" "box_at" 406 407 408 58 2 180 181 (.ref 182) (.ref 183) 184 415 416) ::
(nat_lit 186,oF "box_at" (Pr.top 25) u0_ 185) ::
(nat_lit 187,e0_) ::
(nat_lit 189,(e2_ #[.str "n" 421,.str "address" 422])) ::
(nat_lit 190,e0_) ::
(nat_lit 192,oC "box_of" "box_of" 418 419 420 66 2 187 188 (.ref 189) (.ref 190) 191 423 424) ::
(nat_lit 193,oF "box_of" (Pr.top 26) u0_ 192) ::
(nat_lit 194,e0_) ::
(nat_lit 196,(e2_ #[.str "thing" 431,.str "many" 432])) ::
(nat_lit 197,e0_) ::
(nat_lit 199,oC "is_number" "is_number" 428 429 430 71 2 194 195 (.ref 196) (.ref 197) 198 433 434) ::
(nat_lit 200,oF "is_number" (Pr.top 28) u2_ 199) ::
(nat_lit 201,e0_) ::
(nat_lit 204,oC "is_row" "is_row" 436 437 438 73 2 201 202 .none .none 203 439 440) ::
(nat_lit 205,oF "is_row" (Pr.top 29) u2_ 204) ::
(nat_lit 206,e0_) ::
(nat_lit 209,oC "are_rows" "are_rows" 442 443 444 77 1 206 207 .none .none 208 445 446) ::
(nat_lit 210,oF "are_rows" (Pr.top 30) u2_ 209) ::
(nat_lit 211,e0_) ::
(nat_lit 213,(e2_ #[.str "thing" 451,.str "n" 452,.str "top" 453,.str "rows" 454])) ::
(nat_lit 214,e0_) ::
(nat_lit 216,oC "is_telling" "is_telling" 448 449 450 79 1 211 212 (.ref 213) (.ref 214) 215 455 456) ::
(nat_lit 217,oF "is_telling" (Pr.top 31) u2_ 216) ::
(nat_lit 218,e0_) ::
(nat_lit 221,oC "is_shape" "is_shape" 458 459 460 86 1 218 219 .none .none 220 461 462) ::
(nat_lit 222,oF "is_shape" (Pr.top 32) u2_ 221) ::
(nat_lit 223,e0_) ::
(nat_lit 225,(e2_ #[.str "shape" 467])) ::
(nat_lit 226,e0_) ::
(nat_lit 228,oC "want_shape" "want_shape" 464 465 466 93 1 223 224 (.ref 225) (.ref 226) 227 468 469) ::
(nat_lit 229,oF "want_shape" (Pr.top 33) u2_ 228) ::
(nat_lit 230,e0_) ::
(nat_lit 233,oC "count_leaves" "count_leaves" 475 476 477 98 2 230 231 .none .none 232 478 479) ::
(nat_lit 234,oF "count_leaves" (Pr.top 36) u4_ 233) ::
(nat_lit 235,e0_) ::
(nat_lit 237,(e2_ #[.str "rows" 484,.str "number" 485,.str "address" 486,.str "leaves" 487,.str "at" 488,.str "quarter" 489])) ::
(nat_lit 238,e0_) ::
(nat_lit 240,oC "gather_leaves" "gather_leaves" 481 482 483 103 4 235 236 (.ref 237) (.ref 238) 239 490 491) ::
(nat_lit 241,oF "gather_leaves" (Pr.top 37) u4_ 240) ::
(nat_lit 242,e0_) ::
(nat_lit 244,(e2_ #[.str "shape" 496,.str "most" 497])) ::
(nat_lit 245,e0_) ::
(nat_lit 247,oC "want_leaves" "want_leaves" 493 494 495 109 2 242 243 (.ref 244) (.ref 245) 246 498 499) ::
(nat_lit 248,oF "want_leaves" (Pr.top 38) u4_ 247) ::
(nat_lit 249,e0_) ::
(nat_lit 251,(e2_ #[.str "shape" 504])) ::
(nat_lit 252,e0_) ::
(nat_lit 254,oC "want_coarse" "want_coarse" 501 502 503 112 1 249 250 (.ref 251) (.ref 252) 253 505 506) ::
(nat_lit 255,oF "want_coarse" (Pr.top 39) u4_ 254) ::
(nat_lit 256,e0_) ::
(nat_lit 258,(e2_ #[.str "shape" 511,.str "top" 512,.str "rows" 513,.str "leaves" 514])) ::
(nat_lit 259,e0_) ::
(nat_lit 261,oC "leaves_of" "leaves_of" 508 509 510 114 1 256 257 (.ref 258) (.ref 259) 260 515 516) ::
(nat_lit 262,oF "leaves_of" (Pr.top 40) u4_ 261) ::
(nat_lit 263,e0_) ::
(nat_lit 265,(e2_ #[.str "row" 523,.str "column" 524,.str "box" 525,.str "first_row" 526,.str "first_column" 527,.str "side" 528,.str "above" 529,.str "left" 530,.str "far" 531])) ::
(nat_lit 266,e0_) ::
(nat_lit 268,oC "least_far" "least_far" 520 521 522 122 3 263 264 (.ref 265) (.ref 266) 267 532 533) ::
(nat_lit 269,oF "least_far" (Pr.top 42) (.str "quarterfold.near" 518) 268) ::
(nat_lit 270,e0_) ::
(nat_lit 273,oC "seen_leaves" "seen_leaves" 535 536 537 128 3 270 271 .none .none 272 538 539) ::
(nat_lit 274,oF "seen_leaves" (Pr.top 43) (.str "quarterfold.near" 518) 273) ::
(nat_lit 275,e0_) ::
(nat_lit 278,oC "inside" "inside" 541 542 543 133 3 275 276 .none .none 277 544 545) ::
(nat_lit 279,oF "inside" (Pr.top 44) (.str "quarterfold.near" 518) 278) ::
(nat_lit 280,e0_) ::
(nat_lit 282,(e2_ #[.str "_law_script" 552,.str "_law_k" 553,.str "_law_cell" 554])) ::
(nat_lit 283,e0_) ::
(nat_lit 285,oC "_law_pot" "_law_pot" 549 550 551 143 2 280 281 (.ref 282) (.ref 283) 284 555 556) ::
(nat_lit 286,oF "_law_pot" (Pr.top 46) u1_ 285) ::
(nat_lit 287,e0_) ::
(nat_lit 289,(e2_ #[.str "_law_pot_here" 561,.str "_law_many" 562,.str "_law_digit_here" 563])) ::
(nat_lit 290,e0_) ::
(nat_lit 292,oC "_law_digit" "_law_digit" 558 559 560 148 2 287 288 (.ref 289) (.ref 290) 291 564 565) ::
(nat_lit 293,oF "_law_digit" (Pr.top 47) u1_ 292) ::
(nat_lit 294,e0_) ::
(nat_lit 297,oC "_law_cells" "_law_cells" 567 568 569 155 2 294 295 .none .none 296 570 571) ::
(nat_lit 298,oF "_law_cells" (Pr.top 48) u1_ 297) ::
(nat_lit 299,e0_) ::
(nat_lit 301,(e2_ #[.str "_law_pot_here" 576,.str "_law_n" 577,.str "_law_most" 578,.str "_law_side" 579,.str "_law_size" 580,.str "_law_row" 581,.str "_law_column" 582,.str "_law_high" 583,.str "_law_wide" 584])) ::
(nat_lit 302,e0_) ::
(nat_lit 304,oC "_law_box" "_law_box" 573 574 575 158 3 299 300 (.ref 301) (.ref 302) 303 585 586) ::
(nat_lit 305,oF "_law_box" (Pr.top 49) u1_ 304) ::
(nat_lit 306,e0_) ::
(nat_lit 309,oC "_law_boxes" "_law_boxes" 588 589 590 170 2 306 307 .none .none 308 591 592) ::
(nat_lit 310,oF "_law_boxes" (Pr.top 50) u1_ 309) ::
(nat_lit 311,e0_) ::
(nat_lit 313,(e2_ #[.str "_law_box_here" 597,.str "_law_row" 598,.str "_law_column" 599,.str "_law_side" 600])) ::
(nat_lit 314,e0_) ::
(nat_lit 316,oC "_law_meets" "_law_meets" 594 595 596 174 4 311 312 (.ref 313) (.ref 314) 315 601 602) ::
(nat_lit 317,oF "_law_meets" (Pr.top 51) u1_ 316) ::
(nat_lit 318,e0_) ::
(nat_lit 320,(e2_ #[.str "_law_box_here" 607,.str "_law_row" 608,.str "_law_column" 609,.str "_law_side" 610])) ::
(nat_lit 321,e0_) ::
(nat_lit 323,oC "_law_has" "_law_has" 604 605 606 178 4 318 319 (.ref 320) (.ref 321) 322 611 612) ::
(nat_lit 324,oF "_law_has" (Pr.top 52) u1_ 323) ::
(nat_lit 325,e0_) ::
(nat_lit 328,oC "_law_number" "_law_number" 614 615 616 182 5 325 326 .none .none 327 617 618) ::
(nat_lit 329,oF "_law_number" (Pr.top 53) u1_ 328) ::
(nat_lit 330,e0_) ::
(nat_lit 332,(e2_ #[.str "_law_n" 623,.str "_law_boxes_here" 624,.str "_law_rows" 625,.str "_law_top" 626])) ::
(nat_lit 333,e0_) ::
(nat_lit 335,oC "_law_shape" "_law_shape" 620 621 622 193 2 330 331 (.ref 332) (.ref 333) 334 627 628) ::
(nat_lit 336,oF "_law_shape" (Pr.top 54) u1_ 335) ::
(nat_lit 337,e0_) ::
(nat_lit 339,(e2_ #[.str "_law_told_here" 633,.str "_law_row" 634,.str "_law_column" 635,.str "_law_n" 636,.str "_law_number_here" 637,.str "_law_rows" 638,.str "_law_address" 639,.str "_law_k" 640,.str "_law_quarter" 641])) ::
(nat_lit 340,e0_) ::
(nat_lit 342,oC "_law_leaf" "_law_leaf" 630 631 632 197 3 337 338 (.ref 339) (.ref 340) 341 642 643) ::
(nat_lit 343,oF "_law_leaf" (Pr.top 55) u1_ 342) ::
(nat_lit 344,e0_) ::
(nat_lit 346,(e2_ #[.str "_law_pot_here" 648,.str "_law_boxes_here" 649,.str "_law_n" 650,.str "_law_row" 651,.str "_law_column" 652,.str "_law_box_here" 653])) ::
(nat_lit 347,e0_) ::
(nat_lit 349,oC "_law_near_box" "_law_near_box" 645 646 647 206 3 344 345 (.ref 346) (.ref 347) 348 654 655) ::
(nat_lit 350,oF "_law_near_box" (Pr.top 56) u1_ 349) ::
(nat_lit 351,e0_) ::
(nat_lit 354,oC "_law_exchanged" "_law_exchanged" 657 658 659 214 1 351 352 .none .none 353 660 661) ::
(nat_lit 355,oF "_law_exchanged" (Pr.top 57) u1_ 354) ::
(nat_lit 356,e0_) ::
(nat_lit 358,(e2_ #[.str "_law_told_here" 666,.str "_law_row" 667,.str "_law_column" 668,.str "_law_side" 669])) ::
(nat_lit 359,e0_) ::
(nat_lit 361,oC "_law_cell_kind" "_law_cell_kind" 663 664 665 218 3 356 357 (.ref 358) (.ref 359) 360 670 671) ::
(nat_lit 362,oF "_law_cell_kind" (Pr.top 58) u1_ 361) ::
(nat_lit 363,e0_) ::
(nat_lit 366,oC "_law_around" "_law_around" 673 674 675 223 3 363 364 .none .none 365 676 677) ::
(nat_lit 367,oF "_law_around" (Pr.top 59) u1_ 366) ::
(nat_lit 368,e0_) ::
(nat_lit 371,oC "_law_due" "_law_due" 679 680 681 226 3 368 369 .none .none 370 682 683) ::
(nat_lit 372,oF "_law_due" (Pr.top 60) u1_ 371) ::
(nat_lit 373,e0_) ::
(nat_lit 375,(e2_ #[.str "_law_told_here" 688,.str "_law_row" 689,.str "_law_column" 690])) ::
(nat_lit 376,e0_) ::
(nat_lit 378,oC "_law_told" "_law_told" 685 686 687 235 3 373 374 (.ref 375) (.ref 376) 377 691 692) ::
(nat_lit 379,oF "_law_told" (Pr.top 61) u1_ 378) ::
(nat_lit 380,e0_) ::
(nat_lit 382,(e2_ #[.str "_law_script" 697,.str "_law_k" 698,.str "_law_pot_here" 699,.str "_law_n" 700,.str "_law_boxes_here" 701,.str "_law_told_here" 702,.str "_law_turn" 703,.str "_law_row" 704,.str "_law_column" 705,.str "_law_due_here" 706,.str "_law_some" 707])) ::
(nat_lit 383,e0_) ::
(nat_lit 385,oC "law" "law" 694 695 696 240 1 380 381 (.ref 382) (.ref 383) 384 708 709) ::
(nat_lit 386,oF "law" (Pr.top 62) u1_ 385)::[]
def as0:List Addr:=[2,3,15,22,23,24,25,28,35,36,37,40,47,48,49,52,59,60,61,64,71,72,73,76,83,84,85,88,95,96,97,100,102,103,105,106,107,109,110,112,113,114,117,118,119,121,122,124,125,126,128,129,131,132,133,135,136,138,139,140,143,144,145,147,148,150,151,152,154,155,157,158,159,161,162,164,165,166,168,169,171,172,173,175,176,178,179,180,182,183,185,186,187,189,190,192,193,194,196,197,199,200,201,204,205,206,209,210,211,213,214,216,217,218,221,222,223,225,226,228,229,230,233,234,235,237,238,240,241,242,244,245,247,248,249,251,252,254,255,256,258,259,261,262,263,265,266,268,269,270,273,274,275,278,279,280,282,283,285,286,287,289,290,292,293,294,297,298,299,301,302,304,305,306,309,310,311,313,314,316,317,318,320,321,323,324,325,328,329,330,332,333,335,336,337,339,340,342,343,344,346,347,349,350,351,354,355,356,358,359,361,362,363,366,367,368,371,372,373,375,376,378,379,380,382,383,385,386]
def keep0:List Nat:=[1,2,3,4,5,6,7,9,10,11,12,13,14,15,17,18,19,20,21,22,23,24,25,26,28,29,30,31,32,33,35,36,37,38,39,40,42,43,44,46,47,48,49,50,51,52,53,54,55,56,57,58,59,60,61,62]
def N0:Nat:=5952
noncomputable def bx (P:Params) (a t l:Nat) (x:Str):List Obj:=[(e2_ #[.ref 24]),
⟨.type "builtin_function_or_method",none,(.fields #[.builtin "type.__prepare__",.type "type"]),#[]⟩,
⟨.type "dict",none,(.dict #[⟨kh P "__module__",.str "__module__" (t+7),.str "quarterfold.errors" 187⟩,⟨kh P "__qualname__",.str "__qualname__" (t+9),.str x (t+8)⟩,⟨kh P "__firstlineno__",.str "__firstlineno__" (t+11),.int l (t+10)⟩,⟨kh P "__static_attributes__",.str "__static_attributes__" (t+12),.ref (a+7)⟩] 4),#[]⟩,
e0_,
e1_,
⟨.type "code",none,(.fields #[.str x (t+2),.str x (t+3),.str "/claim/cut.py" (t+4),.int l 0,.int 0 0,.int 0 0,.int 0 0,.int 0 0,.ref (a+3),.bool false,.int 181 0,.ref (a+4),.none,.none,.none,.none,.int (t+5) 0,.int l 0,.str "/claim/cut.py" (t+6)]),#[]⟩,
⟨.type "frame",none,.plain,#[some (.ref (a+5)),some (.ref 3),some (.ref (a+2)),none,some (.str "quarterfold.errors" 187),none,some (.ref 0)]⟩,
e0_,
⟨.type "dict",none,(.dict #[⟨kh P "__module__",.str "__module__" (t+7),.str "quarterfold.errors" 187⟩,⟨kh P "__firstlineno__",.str "__firstlineno__" (t+11),.int l (t+10)⟩,⟨kh P "__static_attributes__",.str "__static_attributes__" (t+12),.ref (a+7)⟩,⟨kh P "__doc__",.str "__doc__" (t+13),.none⟩] 2),#[]⟩,
⟨.type "type",none,(.cls ⟨x,[.ref 24],[.ref (a+9),.ref 24,.type "ValueError",.type "Exception",.type "BaseException",.type "object"],(a+8),x,true,[],[],false,none,false⟩),#[some (.ref a),none,some (.str x t),some (.str x (t+8)),some (.builtin "ValueError.__new__"),some (.bool true)]⟩,
⟨.type "super",none,(.fields #[.ref (a+9),.ref (a+9),.ref (a+9)]),#[]⟩,
⟨.type "builtin_function_or_method",none,(.fields #[.builtin "object.__init_subclass__",.ref (a+9)]),#[]⟩]
noncomputable def ob (P:Params):List Obj:=[boot_o_0 P,boot_o_1 P,boot_o_2 P,⟨.type "dict",none,(.dict #[e3_ P "__name__" 165 (.str "quarterfold.leaves" 471),e3_ P "__doc__" 166 .none,e3_ P "__package__" 167 .none,e3_ P "__loader__" 168 (.builtin "__main__.__loader__#opaque"),e3_ P "__spec__" 169 .none,e3_ P "__annotations__" 170 (.ref 6),e3_ P "__builtins__" 171 (.ref 4),e3_ P "__file__" 173 (.str "/claim/cut.py" 172),e3_ P "__cached__" 174 .none,e3_ P "FloorError" 206 (.ref 24),e3_ P "NoFloor" 222 (.ref 37),e3_ P "NoAddress" 238 (.ref 49),e3_ P "NoCell" 254 (.ref 61),e3_ P "NoShape" 270 (.ref 73),e3_ P "TooMany" 286 (.ref 85),e3_ P "NotFull" 302 (.ref 97),e3_ P "FULL" 306 (.int 1 305),e3_ P "FIRST" 308 (.int 2 307),e3_ P "is_whole" 315 (.ref 106),e3_ P "is_plain" 322 (.ref 113),e3_ P "depths_of" 328 (.ref 118),e3_ P "end_rows" 338 (.ref 125),e3_ P "places_as_ended" 347 (.ref 132),e3_ P "GREATEST_SIZE" 351 (.int 12 350),e3_ P "is_size" 358 (.ref 139),e3_ P "is_address" 364 (.ref 144),e3_ P "is_cell" 374 (.ref 151),e3_ P "want_floor" 381 (.ref 158),e3_ P "want_address" 389 (.ref 165),e3_ P "want_cell" 398 (.ref 172),e3_ P "side_of" 405 (.ref 179),e3_ P "box_at" 417 (.ref 186),e3_ P "box_of" 425 (.ref 193),e3_ P "is_number" 435 (.ref 200),e3_ P "is_row" 441 (.ref 205),e3_ P "are_rows" 447 (.ref 210),e3_ P "is_telling" 457 (.ref 217),e3_ P "is_shape" 463 (.ref 222),e3_ P "want_shape" 470 (.ref 229),e3_ P "MOST_LEAVES" 474 (.int 2000 473),e3_ P "count_leaves" 480 (.ref 234),e3_ P "gather_leaves" 492 (.ref 241),e3_ P "want_leaves" 500 (.ref 248)] 43),#[]⟩,boot_o_4 P,boot_o_5 P,boot_o_6 P,boot_o_7 P,boot_o_8 P,boot_o_9 P,boot_o_10 P,e0_,⟨.none,none,(.fields #[.int 2 0,.int 0 0,.ref 20,.int 4 0,.int 0 0,.ref 33,.int 6 0,.int 0 0,.ref 45,.int 8 0,.int 0 0,.ref 57,.int 10 0,.int 0 0,.ref 69,.int 12 0,.int 0 0,.ref 81,.int 14 0,.int 0 0,.ref 93,.int 19 0,.int 0 0,.ref 105,.int 21 0,.int 0 0,.ref 112,.int 23 0,.int 0 0,.ref 117,.int 28 0,.int 0 0,.ref 124,.int 34 0,.int 0 0,.ref 131,.int 40 0,.int 0 0,.ref 138,.int 42 0,.int 0 0,.ref 143,.int 44 0,.int 0 0,.ref 150,.int 47 0,.int 0 0,.ref 157,.int 50 0,.int 0 0,.ref 164,.int 53 0,.int 0 0,.ref 171,.int 56 0,.int 0 0,.ref 178,.int 58 0,.int 0 0,.ref 185,.int 66 0,.int 0 0,.ref 192,.int 71 0,.int 0 0,.ref 199,.int 73 0,.int 0 0,.ref 204,.int 77 0,.int 0 0,.ref 209,.int 79 0,.int 0 0,.ref 216,.int 86 0,.int 0 0,.ref 221,.int 93 0,.int 0 0,.ref 228,.int 98 0,.int 0 0,.ref 233,.int 103 0,.int 0 0,.ref 240,.int 109 0,.int 0 0,.ref 247]),#[]⟩,⟨.type "code",none,(.fields #[.str "<module>" 182,.str "<module>" 183,.str "/claim/cut.py" 184,.int 1 0,.int 0 0,.int 0 0,.int 0 0,.int 0 0,.ref 11,.bool false,.int 181 0,.ref 12,.none,.none,.none,.none,.int 185 0,.int 1 0,.str "/claim/cut.py" 186]),#[]⟩,⟨.type "frame",none,.plain,#[some (.ref 13),some (.ref 3),some (.ref 3),none,some (.str "__main__" 164),none,some (.ref 0)]⟩,(e2_ #[.type "ValueError"]),⟨.type "builtin_function_or_method",none,(.fields #[.builtin "type.__prepare__",.type "type"]),#[]⟩,⟨.type "dict",none,(.dict #[e3_ P "__module__" 196 (.str "quarterfold.errors" 187),e3_ P "__qualname__" 198 (.str "FloorError" 197),e3_ P "__firstlineno__" 200 (.int 2 199),e3_ P "__static_attributes__" 201 (.ref 22)] 4),#[]⟩,e0_,e1_,⟨.type "code",none,(.fields #[.str "FloorError" 191,.str "FloorError" 192,.str "/claim/cut.py" 193,.int 2 0,.int 0 0,.int 0 0,.int 0 0,.int 0 0,.ref 18,.bool false,.int 181 0,.ref 19,.none,.none,.none,.none,.int 194 0,.int 2 0,.str "/claim/cut.py" 195]),#[]⟩,⟨.type "frame",none,.plain,#[some (.ref 20),some (.ref 3),some (.ref 17),none,some (.str "quarterfold.errors" 187),none,some (.ref 0)]⟩,e0_,⟨.type "dict",none,(.dict #[e3_ P "__module__" 196 (.str "quarterfold.errors" 187),e3_ P "__firstlineno__" 200 (.int 2 199),e3_ P "__static_attributes__" 201 (.ref 22),e3_ P "__weakref__" 203 (.ref 25),e3_ P "__doc__" 204 .none] 3),#[]⟩,⟨.type "type",none,(.cls ⟨"FloorError",[.type "ValueError"],[.ref 24,.type "ValueError",.type "Exception",.type "BaseException",.type "object"],23, "FloorError",true,[],[.ref 37,.ref 49,.ref 61,.ref 73,.ref 85,.ref 97],false,none,false⟩),#[some (.ref 15),none,some (.str "FloorError" 189),some (.str "FloorError" 197),some (.builtin "ValueError.__new__"),some (.bool true)]⟩,⟨.type "getset_descriptor",none,(.fields #[.str "__weakref__" 202,.ref 24,.builtin "ExceptionGroup.__weakref__",.none]),#[]⟩,⟨.type "super",none,(.fields #[.ref 24,.ref 24,.ref 24]),#[]⟩,⟨.type "builtin_function_or_method",none,(.fields #[.builtin "object.__init_subclass__",.ref 24]),#[]⟩]++(bx P 28 207 4 "NoFloor" ++ (bx P 40 223 6 "NoAddress" ++ (bx P 52 239 8 "NoCell" ++ (bx P 64 255 10 "NoShape" ++ (bx P 76 271 12 "TooMany" ++ (bx P 88 287 14 "NotFull" ++ ([e0_,e1_,(e2_ #[.str "thing" 312]),e0_,oT "is_whole" "is_whole" (Pr.top 11),oC "is_whole" "is_whole" 309 310 311 19 1 100 101 (.ref 102) (.ref 103) 104 313 314,oF "is_whole" (Pr.top 11) u3_ 105,e0_,e1_,(e2_ #[.str "row" 319]),e0_,oT "is_plain" "is_plain" (Pr.top 12),oC "is_plain" "is_plain" 316 317 318 21 1 107 108 (.ref 109) (.ref 110) 111 320 321,oF "is_plain" (Pr.top 12) u3_ 112,e0_,e1_,oT "depths_of" "depths_of" (Pr.top 13),oC "depths_of" "depths_of" 323 324 325 23 1 114 115 .none .none 116 326 327,oF "depths_of" (Pr.top 13) u3_ 117,e0_,e1_,(e2_ #[.str "rows" 332,.str "number" 333,.str "ended" 334,.str "quarter" 335]),e0_,oT "end_rows" "end_rows" (Pr.top 14),oC "end_rows" "end_rows" 329 330 331 28 3 119 120 (.ref 121) (.ref 122) 123 336 337,oF "end_rows" (Pr.top 14) u3_ 124,e0_,e1_,(e2_ #[.str "rows" 342,.str "top" 343,.str "ended" 344]),e0_,oT "places_as_ended" "places_as_ended" (Pr.top 15),oC "places_as_ended" "places_as_ended" 339 340 341 34 2 126 127 (.ref 128) (.ref 129) 130 345 346,oF "places_as_ended" (Pr.top 15) u3_ 131,e0_,e1_,(e2_ #[.str "thing" 355]),e0_,oT "is_size" "is_size" (Pr.top 18),oC "is_size" "is_size" 352 353 354 40 1 133 134 (.ref 135) (.ref 136) 137 356 357,oF "is_size" (Pr.top 18) u0_ 138,e0_,e1_,oT "is_address" "is_address" (Pr.top 19),oC "is_address" "is_address" 359 360 361 42 2 140 141 .none .none 142 362 363,oF "is_address" (Pr.top 19) u0_ 143,e0_,e1_,(e2_ #[.str "n" 368,.str "row" 369,.str "column" 370,.str "side" 371]),e0_,oT "is_cell" "is_cell" (Pr.top 20),oC "is_cell" "is_cell" 365 366 367 44 3 145 146 (.ref 147) (.ref 148) 149 372 373,oF "is_cell" (Pr.top 20) u0_ 150,e0_,e1_,(e2_ #[.str "n" 378]),e0_,oT "want_floor" "want_floor" (Pr.top 21),oC "want_floor" "want_floor" 375 376 377 47 1 152 153 (.ref 154) (.ref 155) 156 379 380,oF "want_floor" (Pr.top 21) u0_ 157,e0_,e1_,(e2_ #[.str "n" 385,.str "address" 386]),e0_,oT "want_address" "want_address" (Pr.top 22),oC "want_address" "want_address" 382 383 384 50 2 159 160 (.ref 161) (.ref 162) 163 387 388,oF "want_address" (Pr.top 22) u0_ 164,e0_,e1_,(e2_ #[.str "n" 393,.str "row" 394,.str "column" 395]),e0_,oT "want_cell" "want_cell" (Pr.top 23),oC "want_cell" "want_cell" 390 391 392 53 3 166 167 (.ref 168) (.ref 169) 170 396 397,oF "want_cell" (Pr.top 23) u0_ 171,e0_,e1_,(e2_ #[.str "n" 402]),e0_,oT "side_of" "side_of" (Pr.top 24),oC "side_of" "side_of" 399 400 401 56 1 173 174 (.ref 175) (.ref 176) 177 403 404,oF "side_of" (Pr.top 24) u0_ 178,e0_,e1_,(e2_ #[.str "n" 409,.str "address" 410,.str "row" 411,.str "column" 412,.str "side" 413,.str "figure" 414]),e0_,oT "box_at" "box_at" (Pr.top 25),oC "box_at" "box_at" 406 407 408 58 2 180 181 (.ref 182) (.ref 183) 184 415 416,oF "box_at" (Pr.top 25) u0_ 185,e0_,e1_,(e2_ #[.str "n" 421,.str "address" 422]),e0_,oT "box_of" "box_of" (Pr.top 26),oC "box_of" "box_of" 418 419 420 66 2 187 188 (.ref 189) (.ref 190) 191 423 424,oF "box_of" (Pr.top 26) u0_ 192,e0_,e1_,(e2_ #[.str "thing" 431,.str "many" 432]),e0_,oT "is_number" "is_number" (Pr.top 28),oC "is_number" "is_number" 428 429 430 71 2 194 195 (.ref 196) (.ref 197) 198 433 434,oF "is_number" (Pr.top 28) u2_ 199,e0_,e1_,oT "is_row" "is_row" (Pr.top 29),oC "is_row" "is_row" 436 437 438 73 2 201 202 .none .none 203 439 440,oF "is_row" (Pr.top 29) u2_ 204,e0_,e1_,oT "are_rows" "are_rows" (Pr.top 30),oC "are_rows" "are_rows" 442 443 444 77 1 206 207 .none .none 208 445 446,oF "are_rows" (Pr.top 30) u2_ 209,e0_,e1_,(e2_ #[.str "thing" 451,.str "n" 452,.str "top" 453,.str "rows" 454]),e0_,oT "is_telling" "is_telling" (Pr.top 31),oC "is_telling" "is_telling" 448 449 450 79 1 211 212 (.ref 213) (.ref 214) 215 455 456,oF "is_telling" (Pr.top 31) u2_ 216,e0_,e1_,oT "is_shape" "is_shape" (Pr.top 32),oC "is_shape" "is_shape" 458 459 460 86 1 218 219 .none .none 220 461 462,oF "is_shape" (Pr.top 32) u2_ 221,e0_,e1_,(e2_ #[.str "shape" 467]),e0_,oT "want_shape" "want_shape" (Pr.top 33),oC "want_shape" "want_shape" 464 465 466 93 1 223 224 (.ref 225) (.ref 226) 227 468 469,oF "want_shape" (Pr.top 33) u2_ 228,e0_,e1_,oT "count_leaves" "count_leaves" (Pr.top 36),oC "count_leaves" "count_leaves" 475 476 477 98 2 230 231 .none .none 232 478 479,oF "count_leaves" (Pr.top 36) u4_ 233,e0_,e1_,(e2_ #[.str "rows" 484,.str "number" 485,.str "address" 486,.str "leaves" 487,.str "at" 488,.str "quarter" 489]),e0_,oT "gather_leaves" "gather_leaves" (Pr.top 37),oC "gather_leaves" "gather_leaves" 481 482 483 103 4 235 236 (.ref 237) (.ref 238) 239 490 491,oF "gather_leaves" (Pr.top 37) u4_ 240,e0_,e1_,(e2_ #[.str "shape" 496,.str "most" 497]),e0_,oT "want_leaves" "want_leaves" (Pr.top 38),oC "want_leaves" "want_leaves" 493 494 495 109 2 242 243 (.ref 244) (.ref 245) 246 498 499,oF "want_leaves" (Pr.top 38) u4_ 247])))))))
noncomputable def hA (P:Params):Heap:=⟨⟨((((ob P).take 15).set 3 (boot_o_3 P)).set 12 (e1_))⟩,(boot_heap P).life⟩
noncomputable def h1 (P:Params):Heap:=⟨⟨((((ob P).take 114).set 3 (⟨.type "dict",none,(.dict #[e3_ P "__name__" 165 (.str "quarterfold.rows" 303),e3_ P "__doc__" 166 .none,e3_ P "__package__" 167 .none,e3_ P "__loader__" 168 (.builtin "__main__.__loader__#opaque"),e3_ P "__spec__" 169 .none,e3_ P "__annotations__" 170 (.ref 6),e3_ P "__builtins__" 171 (.ref 4),e3_ P "__file__" 173 (.str "/claim/cut.py" 172),e3_ P "__cached__" 174 .none,e3_ P "FloorError" 206 (.ref 24),e3_ P "NoFloor" 222 (.ref 37),e3_ P "NoAddress" 238 (.ref 49),e3_ P "NoCell" 254 (.ref 61),e3_ P "NoShape" 270 (.ref 73),e3_ P "TooMany" 286 (.ref 85),e3_ P "NotFull" 302 (.ref 97),e3_ P "FULL" 306 (.int 1 305),e3_ P "FIRST" 308 (.int 2 307),e3_ P "is_whole" 315 (.ref 106),e3_ P "is_plain" 322 (.ref 113)] 20),#[]⟩)).set 12 (⟨.none,none,(.fields #[.int 2 0,.int 0 0,.ref 20,.int 4 0,.int 0 0,.ref 33,.int 6 0,.int 0 0,.ref 45,.int 8 0,.int 0 0,.ref 57,.int 10 0,.int 0 0,.ref 69,.int 12 0,.int 0 0,.ref 81,.int 14 0,.int 0 0,.ref 93,.int 19 0,.int 0 0,.ref 105,.int 21 0,.int 0 0,.ref 112]),#[]⟩))⟩,(boot_heap P).life⟩
noncomputable def h2 (P:Params):Heap:=⟨⟨(ob P)⟩,(boot_heap P).life⟩
noncomputable def bd:List Stmt:=behindTheImports pw
noncomputable def ev:Env:={ scope:=pw.main.scope,locals:=mainNs,globals:=mainNs,cells:=[],code:=.ref 13,frame:=some 14 }
noncomputable def cE:Code:=.body bd ev
noncomputable abbrev sh (h:Params->Heap) (k:Nat) (w:World) (os:OsState):Shared:=⟨h w.params,Array.mk [],boot_drawn,k,os⟩
noncomputable abbrev fr:List Frame:=[topFrame ⟨0,0,0,0⟩]
theorem pre0 (w:World) (os:OsState):topGo treeTable pw w 11 (some (.ref 6)) 12 (sh boot_heap boot_toks w os) (topStub pw)=some (sh hA 187 w os,⟨denote treeTable cE,cE,⟨0,0,0,0⟩,fr⟩):=by kernel_rfl
theorem blk0 (w:World) (os:OsState):segRun treeTable pw w 11 (some (.ref 6)) 1 1 (sh hA 187 w os) (blockOf bd ev cE ⟨0,0,0,0⟩ fr)=some (.next,sh hA 187 w os,cE,⟨0,0,0,0⟩):=by kernel_rfl
theorem qs6 {tb:String->Option Builtin}{p:Program}{w:World}{n₀:Nat}{ann:Option Value}{env:Env}{q:Pos}{n N j:Nat}{s s' r:Shared}{l:List Stmt}{c:Code}{pos p':Pos}(h:segRun tb p w n₀ ann 1 n s (piecesOf (l.take j) env c pos [topFrame q])=some (.next,s',c,p'))
  (k:topRun tb p w n₀ ann N s' (restOf (l.drop j) env c p' [topFrame q])=some r):topRun tb p w n₀ ann (n+N) s (restOf l env c pos [topFrame q])=some r:=by
 have:=piece_app (l:=l.take j) (rest:=l.drop j) h k
 rwa [Y3] at this
theorem q82 {p q:Program}{loose:List Str}{Xt:Shared->Bool}{α:Type}{Yf:Shared->α}{Ya:World->α}{N:Nat}{g0:Bool}{H₀:Params->Heap}{gs₀:Array GenState}{d₀:Drawn}{k₀ m₀ M N2:Nat}{ann:Option Value}{Z:World->OsState->Shared}{T:Thread}
  (open_:∀w:World,(fencedOpening treeTable p w N).map (λs=>(s.heap,s.gens,s.drawn,s.toks))=some (H₀ w.params,gs₀,d₀,k₀))
  (size:∀w:World,((H₀ w.params).isNs mainGlobals&&gs₀.size==0,(H₀ w.params).objs.size,(H₀ w.params).nsMap mainGlobals "__annotations__")=(true,m₀,ann))
  (run:∀(w:World) (os:OsState) (r:Shared),topRun treeTable p w m₀ ann N2 (Z w os) T=some r->topRun treeTable p w m₀ ann M ⟨H₀ w.params,gs₀,d₀,k₀,os⟩ (topStub p)=some r) (le:Nat.ble M N=true)
  (fin:∀(w:World) (os:OsState),(topRun treeTable p w m₀ ann N2 (Z w os) T).map (λs=>(staticsOk (importedModules p.main.body) (H₀ w.params) s.heap&&namesBound p s.heap&&gensDone s&&laidKept (H₀ w.params) s.heap,openSeen q loose (importedModules p.main.body) Xt g0 s,Yf s))=some (true,openGood q loose,Ya w)):LeftO p q loose Xt Yf Ya N g0:=λw=>by
 obtain⟨⟨h,gs,d,k,os⟩,e,e'⟩:=Zj.mp (open_ w);obtain⟨rfl,rfl,rfl,rfl⟩:h=H₀ w.params/\gs=gs₀/\d=d₀/\k=k₀:=by simpa using e'
 obtain⟨z1,z2,z3⟩:_/\_/\_:=by simpa only [VW] using size w
 obtain⟨r,hr,e2⟩:=Zj.mp (fin w os);obtain⟨l1,l2,l3⟩:_/\_/\_:=by simpa only [VW] using e2
 have r1:=topRun_mono (N-M) _ _ _ _ (run w os r hr);rw[show M+(N-M)=N by have:=Nat.le_of_ble_eq_true le;lia] at r1;have t:topFrom treeTable p w N ⟨H₀ w.params,gs,d,k,os⟩=some r:=by
  unfold topFrom;dsimp only;rw[z1,z2,z3,r1];show (match staticsOk (importedModules p.main.body) (H₀ w.params) r.heap&&namesBound p r.heap&&gensDone r&&laidKept (H₀ w.params) r.heap with|true=>_|false=>_)=_;rw[l1]
 unfold openEnds;rw[e];show (topFrom treeTable p w N ⟨H₀ w.params,gs,d,k,os⟩).map _=_;rw[t];show some (_,_)=some (_,_);rw[l2,l3]
theorem seg1 (w:World) (os:OsState):segRun treeTable pw w 11 (some (.ref 6)) 1 1608 (sh hA 187 w os) (piecesOf (bd.take 13) ev cE ⟨0,0,0,0⟩ fr)=some (.next,sh h1 323 w os,cE,⟨21,0,22,50⟩):=by kernel_rfl
theorem seg2 (w:World) (os:OsState):segRun treeTable pw w 11 (some (.ref 6)) 1 713 (sh h1 323 w os) (piecesOf ((bd.drop 13).take 26) ev cE ⟨21,0,22,50⟩ fr)=some (.next,sh h2 501 w os,cE,⟨109,0,111,63⟩):=by kernel_rfl
theorem run0 (w:World) (os:OsState) (r:Shared) (h:topRun treeTable pw w 11 (some (.ref 6)) 753 (sh h2 501 w os) (restOf ((bd.drop 13).drop 26) ev cE ⟨109,0,111,63⟩ fr)=some r):topRun treeTable pw w 11 (some (.ref 6)) (12+(1+(1608+(713+753)))) (sh boot_heap boot_toks w os) (topStub pw)=some r:=go_top (pre0 w os) (piece_block (blk0 w os) (qs6 (seg1 w os) (qs6 (seg2 w os) h)))
theorem opn0:opening pw=plainProg pw.main.scope.names:=by kernel_rfl
theorem fen0 (s:Shared):fenceModules? pw s=some s:=by kernel_rfl
def q0:Program:={ pw with main:={ pw.main with body:=keep0.map Pr.top } }
theorem as_K:∀P,as0=(K0 P).map (·.1):=λ_=>by kernel_rfl
abbrev X0:Shared->Bool:=λs=>xlAt q0 [] s&&recOk (RowW.records (OpenRow.toRowW (OpenLaw.row PySem.Challenge.rw_quarterfold_k55_inside_by_cells))) s
set_option maxHeartbeats 0 in
theorem fin0 (w:World) (os:OsState):(topRun treeTable pw w 11 (some (.ref 6)) 753 (sh h2 501 w os) (restOf ((bd.drop 13).drop 26) ev cE ⟨109,0,111,63⟩ fr)).map (λs=>(staticsOk (importedModules pw.main.body) (boot_heap w.params) s.heap&&namesBound pw s.heap&&gensDone s&&laidKept (boot_heap w.params) s.heap,openSeen q0 [] (importedModules pw.main.body) X0 true s,Hook.obs (kHook Hd.K0 Hd.as0 Hd.as_K) s))=some (true,openGood q0 [],Hook.val (kHook Hd.K0 Hd.as0 Hd.as_K) w):=by kernel_rfl
theorem xy7:LeftO pw q0 [] X0 (Hook.obs (kHook Hd.K0 Hd.as0 Hd.as_K)) (Hook.val (kHook Hd.K0 Hd.as0 Hd.as_K)) N0:=q82 (boot_open opn0 rfl fen0) (λw=>by kernel_rfl) run0 (by rfl) fin0
end Hd
namespace L2
theorem os1 {α:Type}{l:List α}(h:l.length=1):∃a,l=[a]:=List.length_eq_one_iff.mp h
theorem os2 {α:Type}{l:List α}(h:l.length=2):∃a b,l=[a,b]:=by
 obtain⟨a,m,rfl⟩:=YH h;obtain⟨b,rfl⟩:=os1 (V5 h);exact⟨a,b,rfl⟩
theorem os3 {α:Type}{l:List α}(h:l.length=3):∃a b c,l=[a,b,c]:=by
 obtain⟨a,m,rfl⟩:=YH h;obtain⟨b,c,rfl⟩:=os2 (V5 h);exact⟨a,b,c,rfl⟩
theorem os4 {α:Type}{l:List α}(h:l.length=4):∃a b c d,l=[a,b,c,d]:=by
 obtain⟨a,m,rfl⟩:=YH h;obtain⟨b,c,d,rfl⟩:=os3 (V5 h);exact⟨a,b,c,d,rfl⟩
theorem os5 {α:Type}{l:List α}(h:l.length=5):∃a b c d e,l=[a,b,c,d,e]:=by
 obtain⟨a,m,rfl⟩:=YH h;obtain⟨b,c,d,e,rfl⟩:=os4 (V5 h);exact⟨a,b,c,d,e,rfl⟩
end L2
namespace L2
open PySem PySem.Spec PyProof.Rows
abbrev Key:=Sum Int Str
def qH9:Key->Value->Bool
 |.inl k,v=>Value.isInt k v
 |.inr x,v=>Value.isStrOf x v
def keyH (w:World):Key->Int
 |.inl k=>hashInt k
 |.inr x=>hashStr w x
theorem qd0:∀{k:Key}{v:Value},qH9 k v=true->(∃i t,k=Sum.inl i/\v=Value.int i t)\/(∃x t,k=Sum.inr x/\v=Value.str x t)
 |.inl i,v,h=>by
  obtain⟨t,e⟩:=Value.isInt_shape (k:=i) (v:=v) h;exact .inl ⟨i,t,rfl,e⟩
 |.inr x,v,h=>by
  obtain⟨t,e⟩:=Value.isStrOf_shape (x:=x) (v:=v) h;exact .inr ⟨x,t,rfl,e⟩
theorem qT5 (i:Int) (t:Tok):qH9 (.inl i) (.int i t)=true:=by simp[qH9,Value.isInt]
theorem qT6 (x:Str) (t:Tok):qH9 (.inr x) (.str x t)=true:=by simp[qH9,Value.isStrOf]
theorem xq7 (a b:Int):decide ((Sum.inl a:Key)=Sum.inl b)=(a==b):=by
 by_cases e:a=b
 ·subst e;simp
 ·have h:¬(Sum.inl a:Key)=Sum.inl b:=λq=>e (Sum.inl.inj q);rw[Zu h];exact (Vn.mpr e).symm
theorem xq8 (a b:Str):decide ((Sum.inr a:Key)=Sum.inr b)=decide (a=b):=by
 by_cases e:a=b
 ·subst e;simp
 ·have h:¬(Sum.inr a:Key)=Sum.inr b:=λq=>e (Sum.inr.inj q);rw[Zu h,Zu e]
theorem xq9 (a:Int) (b:Str):decide ((Sum.inl a:Key)=Sum.inr b)=false:=Zu (λq=>nomatch q)
theorem xr0 (a:Str) (b:Int):decide ((Sum.inr a:Key)=Sum.inl b)=false:=Zu (λq=>nomatch q)
def qd6 (prog:Program) (w:World):PySem.KeyKind prog w Key where
 is:=qH9
 hash:=keyH w
 inj:=λv a b ha hb=>by
  rcases qd0 ha with ⟨i,t,rfl,rfl⟩|⟨x,t,rfl,rfl⟩
  ·rcases qd0 hb with ⟨j,u,rfl,e⟩|⟨y,u,rfl,e⟩
   ·injection e with e1 _;rw[e1]
   ·exact nomatch e
  ·rcases qd0 hb with ⟨j,u,rfl,e⟩|⟨y,u,rfl,e⟩
   ·exact nomatch e
   ·injection e with e1 _;rw[e1]
 byValue:=λk v h=>by
  rcases qd0 h with ⟨i,t,rfl,rfl⟩|⟨x,t,rfl,rfl⟩<;>rfl
 pyHash:=λhv h=>by
  rcases qd0 hv with ⟨i,t,rfl,rfl⟩|⟨x,t,rfl,rfl⟩
  ·exact wpAny_pyHash_int h
  ·exact wpAny_pyHash_str h
 eqBool:=λhu hv h=>by
  rcases qd0 hu with ⟨i,t,rfl,rfl⟩|⟨x,t,rfl,rfl⟩
  ·rcases qd0 hv with ⟨j,u,rfl,rfl⟩|⟨y,u,rfl,rfl⟩
   ·rw[xq7] at h;exact wpAny_eqBool_int h
   ·rw[xq9] at h;exact SeqAt.EqAt.int_str i t y u _ _ _ _ h
  ·rcases qd0 hv with ⟨j,u,rfl,rfl⟩|⟨y,u,rfl,rfl⟩
   ·rw[xr0] at h;exact SeqAt.EqAt.str_int x t j u _ _ _ _ h
   ·rw[xq8] at h;exact wpAny_eqBool_str h
 «strs»:=λk x t v h=>by
  rcases qd0 h with ⟨i,u,rfl,e⟩|⟨y,u,rfl,e⟩
  ·exact nomatch e
  ·injection e with e1 _
   subst e1;cases v<;>rfl
theorem qI0 (prog:Program) (w:World) (i:Int) (t:Tok):(qd6 prog w).is (.inl i) (.int i t)=true:=qT5 i t
theorem qI1 (prog:Program) (w:World) (x:Str) (t:Tok):(qd6 prog w).is (.inr x) (.str x t)=true:=qT6 x t
inductive V where
 |non|bl (b:Bool)|int (i:Int)|str (x:Str)|byt (b:Array UInt8)|flt (b:UInt64)|ref (a:Addr)|ty (n:String)
 deriving DecidableEq
def RelV:V->Value->Prop
 |.non,u=>u=Value.none
 |.bl b,u=>u=Value.bool b
 |.int i,u=>∃t,u=Value.int i t
 |.str x,u=>∃t,u=Value.str x t
 |.byt b,u=>∃t,u=Value.bytes b t
 |.flt b,u=>∃t,u=Value.float b t
 |.ref a,u=>u=Value.ref a
 |.ty n,u=>u=Value.type n
abbrev Vals:List V->List Value->Prop:=Paired RelV
theorem Vals.length {xs:List V}{us:List Value}(r:Vals xs us):xs.length=us.length:=Y7 r
theorem Vals.get:∀{xs:List V}{us:List Value}{i:Nat}{x:V},Vals xs us->xs[i]?=some x->∃u,us[i]?=some u/\RelV x u
 |_,_,_,_,.nil,e=>by simp at e
 |_,_,0,_,.cons r _,e=>by simp at e;subst e;exact⟨_,rfl,r⟩
 |_,_,i+1,x,.cons _ t,e=>by
  obtain⟨u,h1,h2⟩:=Vals.get (i:=i) (x:=x) t (by simpa using e);exact⟨u,by simpa using h1,h2⟩
theorem Vals.set {x:V}{u:Value}(r:RelV x u):∀{xs:List V}{us:List Value}(i:Nat),Vals xs us->Vals (xs.set i x) (us.set i u)
 |_,_,_,.nil=>.nil
 |_,_,0,.cons _ t=>.cons r t
 |_,_,i+1,.cons q t=>.cons q (Vals.set r i t)
theorem Vals.append:∀{xs ys:List V}{us ws:List Value},Vals xs us->Vals ys ws->Vals (xs++ys) (us++ws)
 |_,_,_,_,.nil,s=>s
 |_,_,_,_,.cons r t,s=>.cons r (Vals.append t s)
theorem Vals.take:∀{xs:List V}{us:List Value}(n:Nat),Vals xs us->Vals (xs.take n) (us.take n)
 |_,_,0,_=>.nil
 |_,_,_+1,.nil=>.nil
 |_,_,n+1,.cons r t=>.cons r (Vals.take n t)
theorem Vals.drop:∀{xs:List V}{us:List Value}(n:Nat),Vals xs us->Vals (xs.drop n) (us.drop n)
 |_,_,0,r=>r
 |_,_,_+1,.nil=>.nil
 |_,_,n+1,.cons _ t=>Vals.drop n t
def RelO:Option V->Option Value->Prop
 |some v,some u=>RelV v u
 |none,none=>True
 |_,_=>False
def KV {κ:Type}:List (κ×V)->List (κ×Value)->Prop:=Paired λ(p:κ×V) (q:κ×Value)=>p.1=q.1/\RelV p.2 q.2
def kV:Key->V
 |.inl i=>.int i
 |.inr x=>.str x
inductive HO where
 |lst (xs:List V)
 |tup (xs:List V)
 |dK (kvs:List (Key×V))|dT (kvs:List (List Key×V))
 |set (S:Int->Bool) (n:Nat)
 |ins (C dx:Addr) (fs:List (Str×V))
 |own (x:Addr)
 |xd (fs:List (Str×V))
 |met (f x:Addr)
 |rng (lo hi:Int)
 |frz (o:Obj) (u:HO)
 |tbl (ps:Array Value)
 |ext (φ:Heap->Prop)
abbrev Hp:=Addr->Option HO
def upd (H:Hp) (a:Addr) (o:HO):Hp:=λb=>if b=a then some o else H b
theorem qa4 {H:Hp}{a:Addr}{o:HO}:upd H a o a=some o:=by unfold upd;rw[Zt rfl]
theorem qb1 {H:Hp}{a b:Addr}{o:HO}(h:b≠a):upd H a o b=H b:=by unfold upd;rw[Zl h]
theorem xj0 {H:Hp}{a:Addr}{o u:HO}:upd (upd H a o) a u=upd H a u:=by
 funext b;unfold upd;split<;>rfl
theorem xy8 {H:Hp}{a b:Addr}{o u:HO}(h:H a=some o) (h':H b=some u) (d:o≠u):a≠b:=by
 intro e;subst e;rw[h] at h';exact d (ZM h')
theorem qa5 {H:Hp}{a b:Addr}{o:HO}(h:H a=some o) (h':H b=none):a≠b:=by
 intro e;subst e;rw[h] at h';cases h'
def IsTupX (h:Heap) (a:Addr) (items:Array Value):Prop:=∃o,h.get? a=some o/\o.cls=.type "tuple" /\ ∃n:{n:Nat // o.dict=none},o.data=.seq items n.1
theorem IsTupX.is {h:Heap}{a:Addr}{items:Array Value}(x:IsTupX h a items):IsTup h a items:=let ⟨o,h1,h2,n,h3⟩:=x;⟨o,h1,h2,n.1,h3⟩
theorem IsTupX.new (h:Heap) (items:Array Value):IsTupX (h.push { cls:=.type "tuple",data:=.seq items }) h.objs.size items:=⟨_,Zh _ rfl,rfl,⟨_,rfl⟩,rfl⟩
instance {h:Heap}{a:Addr}{items:Array Value}:Coe (IsTupX h a items) (IsTup h a items):=⟨IsTupX.is⟩
instance {h:Heap}{a:Addr}{items:Array Value}:Coe (IsTupX h a items) (h.IsTuple a items):=⟨IsTupX.is⟩
section
variable (P:Program) (w:World)
def ObjOk (H:Hp) (h:Heap) (a:Addr):HO->Prop
 |.lst xs=>xs.length<=sizeLine/\∃(its:List Value) (n:Nat),Vals xs its/\h.get? a=some { cls:=.type "list",data:=.seq its.toArray n }
 |.tup xs=>xs.length<=sizeLine/\∃its:List Value,Vals xs its/\IsTupX h a its.toArray
 |.dK kvs=>kvs.length<=sizeLine/\(a==sysModules)=false/\∃vs,KV kvs vs/\h.DictOf (qd6 P w) a vs
 |.dT kvs=>kvs.length<=sizeLine/\(a==sysModules)=false/\∃xs:List (List Key×Addr×Value),
   Paired (λ(p:List Key×V) (q:List Key×Addr×Value)=>p.1=q.1/\H q.2.1=some (.tup (p.1.map kV))/\RelV p.2 q.2.2) kvs xs /\
   ∃o es ep,h.get? a=some o/\o.ExactDict/\o.data=.dict es ep/\es.toList=xs.map (entryOfKey (tupleKind (qd6 P w)))/\(xs.map (·.1)).Nodup
 |.set S n=>h.SetOf (intKind P w) a S n
 |.ins C dx fs=>H dx=some (.own a)/\fs.length<=1000/\dx≠a/\h.get? a=some (PySem.W.instObj C dx) /\
   ∃mA,h.Ns1 dx mA/\(∀f,RelO (fs.lookup f) (mA f))/\PySem.Within mA (fs.map (·.1))
 |.own _=>∃o,h.get? a=some o
 |.xd fs=>∃mA,h.Ns1 a mA/\∀f,RelO (fs.lookup f) (mA f)
 |.rng lo hi=>∃t u v,h.get? a=some { cls:=.type "range",data:=.fields #[.int lo t,.int hi u,.int 1 v] }
 |.frz o u=>h.get? a=some o/\ObjOk H h a u
 |.tbl ps=>h.get? a=some { cls:=.none,data:=.fields ps }
 |.met f x=>h.get? a=some (PySem.W.methodObj (.ref f) (.ref x))
 |.ext φ=>φ h/\(∃o,h.get? a=some o)/\∀h1 h2:Heap,φ h1->(∀o,h1.get? a=some o->h2.get? a=some o)->φ h2
def HOk (H:Hp) (h:Heap):Prop:=∀a o,H a=some o->ObjOk P w H h a o
end
section
variable {P:Program}{w:World}{H H':Hp}{h h':Heap}{a:Addr}{o:HO}
theorem ObjOk.lt (x:ObjOk P w H h a o):a<h.objs.size:=by
 cases o with
 |lst xs=>obtain⟨_,_,_,_,e⟩:=x;exact Zi e
 |tup xs=>obtain⟨_,_,_,p⟩:=x;exact (IsTupX.is p).lt
 |dK kvs=>obtain⟨_,_,_,_,o,_,_,e,_⟩:=x;exact Zi e
 |dT kvs=>obtain⟨_,_,_,_,o,_,_,e,_⟩:=x;exact Zi e
 |set S n=>obtain⟨o,_,_,_,e,_⟩:=x;exact Zi e
 |ins C dx fs=>obtain⟨_,_,_,e,_⟩:=x;exact Zi e
 |own y=>obtain⟨_,e⟩:=x;exact Zi e
 |xd fs=>obtain⟨_,⟨_,_,_,e,_⟩,_⟩:=x;exact Zi e
 |rng lo hi=>obtain⟨_,_,_,e⟩:=x;exact Zi e
 |frz ob u=>obtain⟨e,_⟩:=x;exact Zi e
 |tbl ps=>exact Zi (show h.get? a=some _ from x)
 |met f y=>exact Zi (show h.get? a=some _ from x)
 |ext φ=>obtain⟨_,⟨_,e⟩,_⟩:=x;exact Zi e
theorem Paired.mapP {α β:Type}{F G:α->β->Prop}:∀{l₁:List α}{l₂:List β},Paired F l₁ l₂->(∀a b,F a b->G a b)->Paired G l₁ l₂
 |_,_,.nil,_=>.nil
 |_,_,.cons r t,f=>.cons (f _ _ r) (Paired.mapP t f)
theorem ObjOk.stay (x:ObjOk P w H h a o) (k:∀b u,(b=a\/H b=some (.own a))->h.get? b=some u->h'.get? b=some u)
  (ho:∀b,H b=some (.own a)->H' b=some (.own a)) (ht:∀b xs,H b=some (.tup xs)->H' b=some (.tup xs)):ObjOk P w H' h' a o:=by
 induction o with
 |lst xs=>obtain⟨z,its,n,r,e⟩:=x;exact⟨z,its,n,r,k _ _ (.inl rfl) e⟩
 |tup xs=>obtain⟨z,its,r,ob,e,c⟩:=x;exact⟨z,its,r,ob,k _ _ (.inl rfl) e,c⟩
 |dK kvs=>obtain⟨z,y,vs,r,ob,es,ep,e,c⟩:=x;exact⟨z,y,vs,r,ob,es,ep,k _ _ (.inl rfl) e,c⟩
 |dT kvs=>
  obtain⟨z,y,xs,r,ob,es,ep,e,c⟩:=x;exact⟨z,y,xs,Paired.mapP r λp q z=>⟨z.1,ht _ _ z.2.1,z.2.2⟩,ob,es,ep,k _ _ (.inl rfl) e,c⟩
 |set S n=>obtain⟨ob,es,ep,t,e,c⟩:=x;exact⟨ob,es,ep,t,k _ _ (.inl rfl) e,c⟩
 |ins C dx fs=>
  obtain⟨d,z,ne,e,mA,⟨od,es,ep,e2,c⟩,r⟩:=x;exact⟨ho _ d,z,ne,k _ _ (.inl rfl) e,mA,⟨od,es,ep,k _ _ (.inr d) e2,c⟩,r⟩
 |own y=>obtain⟨ob,e⟩:=x;exact⟨ob,k _ _ (.inl rfl) e⟩
 |xd fs=>obtain⟨mA,⟨od,es,ep,e,c⟩,r⟩:=x;exact⟨mA,⟨od,es,ep,k _ _ (.inl rfl) e,c⟩,r⟩
 |rng lo hi=>obtain⟨t,u,v,e⟩:=x;exact⟨t,u,v,k _ _ (.inl rfl) e⟩
 |frz ob u ih=>obtain⟨e,q⟩:=x;exact⟨k _ _ (.inl rfl) e,ih q⟩
 |tbl ps=>
  have e:h.get? a=some { cls:=.none,data:=.fields ps }:=x;show h'.get? a=some { cls:=.none,data:=.fields ps };exact k a _ (.inl rfl) e
 |met f y=>
  have e:h.get? a=some (PySem.W.methodObj (.ref f) (.ref y)):=x;show h'.get? a=some (PySem.W.methodObj (.ref f) (.ref y));exact k a _ (.inl rfl) e
 |ext φ=>obtain⟨p,⟨o,e⟩,st⟩:=x;exact⟨st _ _ p λo q=>k _ _ (.inl rfl) q,⟨o,k _ _ (.inl rfl) e⟩,st⟩
theorem HOk.lt (x:HOk P w H h) (e:H a=some o):a<h.objs.size:=(x a o e).lt
theorem HOk.fresh (x:HOk P w H h) (e:h.objs.size<=a):H a=none:=by
 cases q:H a with
 |none=>rfl
 |some u=>exact absurd (ZO (x.lt q) e) (Yk _)
theorem HOk.kept (x:HOk P w H h) (k:∀b u,h.get? b=some u->h'.get? b=some u):HOk P w H h':=λa o e=>
 (x a o e).stay (λb u _ q=>k b u q) (λ_ q=>q) λ_ _ q=>q
theorem HOk.laid (x:HOk P w H h) (k:∀b u,h.get? b=some u->h'.get? b=some u) (hp:h.objs.size<=a) (new:ObjOk P w (upd H a o) h' a o):HOk P w (upd H a o) h':=λb u e=>by
 have hn:=x.fresh hp;by_cases hb:b=a
 ·subst hb;rw[qa4] at e;cases e;exact new
 ·rw[qb1 hb] at e;exact (x b u e).stay (λc v _ q=>k c v q) (λc q=>by rw[qb1 (qa5 q hn)];exact q) λc xs q=>by rw[qb1 (qa5 q hn)];exact q
end
def Rd (H:Hp) (a:Addr) (u:HO):Prop:=H a=some u\/∃o,H a=some (.frz o u)
theorem Rd.ok {P:Program}{w:World}{H:Hp}{h:Heap}{a:Addr}{u:HO}(r:Rd H a u) (x:HOk P w H h):ObjOk P w H h a u:=by
 rcases r with r|⟨o,r⟩
 ·exact x a u r
 ·obtain⟨_,q⟩:=x a _ r;exact q
def Mut:Option HO->Prop
 |some (.lst _)=>True
 |some (.dK _)=>True
 |some (.dT _)=>True
 |some (.set _ _)=>True
 |some (.ins _ _ _)=>True
 |some (.ext _)=>True
 |_=>False
section
variable {P:Program}{w:World}{H:Hp}{h h':Heap}{x e:Addr}{o':HO}
theorem HOk.write (ok:HOk P w H h) (mu:Mut (H x)) (he:e=x\/H e=some (.own x)) (k:∀b u,b≠e->h.get? b=some u->h'.get? b=some u) (heo:∃u,h'.get? e=some u)
  (new:ObjOk P w (upd H x o') h' x o'):HOk P w (upd H x o') h':=λb u q=>by
 have nown:∀c y,H c=some (.own y)->c≠x:=λc y r z=>by subst z;rw[r] at mu;exact mu
 have ntup:∀c xs,H c=some (.tup xs)->c≠x:=λc xs r z=>by subst z;rw[r] at mu;exact mu
 by_cases hb:b=x
 ·subst hb;rw[qa4] at q;cases q;exact new
 ·rw[qb1 hb] at q;by_cases w4:b=e
  ·have q':H b=some (.own x):=by
    rcases he with z|z
    ·exact absurd (w4.trans z) hb
    ·rw[w4];exact z
   rw[q] at q';cases q';obtain⟨v,hv⟩:=heo;exact⟨v,by rw[w4];exact hv⟩
  ·refine (ok b u q).stay (λc v hc r=>k c v ?_ r) (λc r=>by rw[qb1 (nown c b r)];exact r) λc xs r=>by rw[qb1 (ntup c xs r)];exact r
   rcases hc with rfl|hc
   ·exact w4
   ·rintro rfl;rcases he with z|z
    ·exact nown c b hc z
    ·rw[hc] at z;cases z;exact hb rfl
end
structure Un (fs ex:List Addr) (H H':Hp) (h h':Heap):Prop where
 keep:∀b o,h.get? b=some o->H b=none->b∉fs->b∉ex->h'.get? b=some o
 slot:∀b o,h.get? b=some o->H b=none->b∈fs->b∉ex->∃sl,h'.get? b=some { o with slots:=sl }
 free:∀b o,h.get? b=some o->H b=none->b∉ex->H' b=none
 there:∀b o,h.get? b=some o->b∉ex->∃o',h'.get? b=some o'
 tups:∀b xs,H b=some (.tup xs)->H' b=some (.tup xs)
 frzs:∀b o u,H b=some (.frz o u)->H' b=some (.frz o u)
 tbls:∀b ps,H b=some (.tbl ps)->∃more,H' b=some (.tbl (ps++more))
section
variable {fs fs' ex ex':List Addr}{H H1 H2:Hp}{h h1 h2 h':Heap}{a x e:Addr}{o:HO}
theorem Un.any (u:Un fs ex H H1 h h1){b:Addr}{ob:Obj}(q:h.get? b=some ob) (n:H b=none) (hx:b∉ex):∃sl,h1.get? b=some { ob with slots:=sl }:=by
 by_cases hb:b∈fs
 ·exact u.slot b ob q n hb hx
 ·exact⟨ob.slots,u.keep b ob q n hb hx⟩
theorem Un.kept (k:∀b u,h.get? b=some u->h'.get? b=some u):Un fs ex H H h h':=
 ⟨λb ob q _ _ _=>k b ob q,λb ob q _ _ _=>⟨ob.slots,k b ob q⟩,λ_ _ _ n _=>n,λb ob q _=>⟨ob,k b ob q⟩,λ_ _ q=>q,λ_ _ _ q=>q,λ_ ps q=>⟨#[],by rw[q];simp⟩⟩
theorem Un.refl:Un fs ex H H h h:=Un.kept λ_ _ q=>q
theorem Un.laid (k:∀b u,h.get? b=some u->h'.get? b=some u) (hp:h.objs.size<=a) (hn:H a=none):Un fs ex H (upd H a o) h h' where
 keep:=λb u q _ _ _=>k b u q
 slot:=λb u q _ _ _=>⟨u.slots,k b u q⟩
 free:=λb u q n _=>by rw[qb1 (Zp (ZO (Zi q) hp))];exact n
 there:=λb u q _=>⟨u,k b u q⟩
 tups:=λb xs q=>by rw[qb1 (qa5 q hn)];exact q
 frzs:=λb u xs q=>by rw[qb1 (qa5 q hn)];exact q
 tbls:=λb ps q=>⟨#[],by rw[qb1 (qa5 q hn),q];simp⟩
theorem Un.write (mu:Mut (H x)) (he:e=x\/H e=some (.own x)) (k:∀b u,b≠e->h.get? b=some u->h'.get? b=some u) (heo:∃u,h'.get? e=some u):Un fs ex H (upd H x o) h h':=by
 have hx:∀b,H b=none->b≠x:=λb n z=>by subst z;rw[n] at mu;exact mu
 have hb:∀b,H b=none->b≠e:=λb n z=>by
  subst z;rcases he with r|r
  ·exact hx b n r
  ·rw[n] at r;cases r
 have hm:∀b u,H b=some u->¬Mut (some u)->b≠x:=λb u q nm z=>by subst z;rw[q] at mu;exact nm mu
 refine⟨λb u q n _ _=>k b u (hb b n) q,λb u q n _ _=>⟨u.slots,k b u (hb b n) q⟩,λb u q n _=>by rw[qb1 (hx b n)];exact n,λb u q _=>?_,
  λb xs q=>by rw[qb1 (hm b _ q λz=>z)];exact q,λb u xs q=>by rw[qb1 (hm b _ q λz=>z)];exact q,λb ps q=>⟨#[],by rw[qb1 (hm b _ q λz=>z),q];simp⟩⟩
 by_cases w4:b=e
 ·subst w4;exact heo
 ·exact⟨u,k b u w4 q⟩
end
def trk (h:Heap) (H:Hp):List Addr:=(List.range h.objs.size).filter λa=>(H a).isSome
def hidT (h:Heap) (H:Hp):Heap:=PySem.W.hideAll h (trk h H)
theorem qT7 (h:Heap) (H:Hp):(hidT h H).objs.size=h.objs.size:=PySem.W.hideAll_size _ _
theorem q83 {h:Heap}{H:Hp}{b:Addr}{o:Obj}(e:h.get? b=some o) (n:H b=none):(hidT h H).get? b=some o:=
 Vo _ e λhm=>by
  have q:(H b).isSome=true:=(YE.mp hm).2;rw[n] at q;simp at q
theorem xj1 {h:Heap}{H:Hp}{b:Addr}{o:Obj}(e:(hidT h H).get? b=some o):h.get? b=some o/\H b=none:=by
 have e':h.get? b=some o:=WE (trk h H) e;refine⟨e',?_⟩;cases q:H b with
 |none=>rfl
 |some x=>
  have hm:b∈trk h H:=YE.mpr ⟨Yb.mpr (Zi e'),by simp[q]⟩;have z:(hidT h H).get? b=none:=PySem.W.hideAll_none (trk h H) hm;rw[z] at e;cases e
structure Mod (K:PySem.W.Frag) (mg:Str->Option Value) (base:Heap):Prop where
 kin:K.In base
 glob:base.Ns mainGlobals mg
 blt:∃mb,base.Ns builtinsNs mb/\∀x:Str,x ≠ "__name__" -> mb x=bootBuiltins x
 nolimit:base.NoLimit
structure Cx where
 prog:Program
 w:World
 K:PySem.W.Frag
 mg:Str->Option Value
 base:Heap
 A:Around
 N:List Str
 s₀:Shared
 H₀:Hp
 env:Env
 outer:List Env
 stack:List Env
 ex:List Addr
 fn:Str->Bool
 calm:Bool
 pn:List (Addr×Obj)
 xe:Value->Shared->Prop
def frs (l:List Env):List Addr:=l.filterMap (·.frame)
abbrev Cx.fs (X:Cx):List Addr:=frs X.outer
def Vis (sc:Scope) (x:Str):Prop:=sc.names.lookup x=some .local\/sc.names.lookup x=some .cell\/sc.names.lookup x=some .free
def Loc (sc:Scope) (x:Str):Prop:=sc.names.lookup x=some .local\/sc.names.lookup x=some .cell
def Look (env:Env) (h:Heap) (m:Str->Option Value) (x:Str) (u:Value):Prop:=
 (env.kindOf x=some .local/\m x=some u)\/((env.kindOf x=some .cell\/env.kindOf x=some .free)/\∃c,env.cells.lookup x=some c/\h.IsCell c (some u))
structure Cx.Ok (X:Cx):Prop where
 mod:Mod X.K X.mg X.base
 kind:X.env.scope.kind=.function
 glob:X.env.globals=mainGlobals
 blt:X.env.builtins=builtinsNs
 above:X.s₀.heap.objs.size<=X.env.locals
 inj:∀x y c,X.env.cells.lookup x=some c->X.env.cells.lookup y=some c->x=y
 has:∀x,(X.env.kindOf x=some .cell\/X.env.kindOf x=some .free)->∃c,X.env.cells.lookup x=some c
 cab:∀x c,X.fn x=true->X.env.cells.lookup x=some c->X.s₀.heap.objs.size<=c
 hd:X.calm=true->X.A.handled=none
 frames:X.A.frames=some X.stack
 stk:X.stack=X.outer\/(X.stack=X.env::X.outer/\X.env.frame=some X.env.locals)
 exf:∀b∈X.ex,b≠X.env.locals/\∀x c,X.env.cells.lookup x=some c->c≠b
 bs:∀b o,X.base.get? b=some o->X.s₀.heap.get? b=some o/\X.H₀ b=none
 bsz:X.base.objs.size<=X.s₀.heap.objs.size
 noex:∀b o,X.base.get? b=some o->b∉X.ex
 exfs:∀b∈X.ex,b∉X.fs
 funs:X.s₀.heap.FunFrames X.base X.outer
 frf:∀b∈X.fs,X.H₀ b=none
structure Inv (X:Cx) (j8:List (Addr×Obj)) (σ:List (Option V)) (H:Hp) (s:Shared):Prop where
 ok:X.Ok
 os:s.os=X.s₀.os
 bare:AllBare s.gens
 base:Un X.fs X.ex X.H₀ H X.s₀.heap s.heap
 loc:∃m,s.heap.Ns X.env.locals m/\∀(i:Nat) (x:Str) (v:V),X.N[i]?=some x->σ[i]?=some (some v)->Vis X.env.scope x->∃u,RelV v u/\Look X.env s.heap m x u
 cell:∀x c,X.env.cells.lookup x=some c->∃v,s.heap.IsCell c v
 free:H X.env.locals=none
 freeC:∀x c,X.env.cells.lookup x=some c->H c=none
 pin:∀p∈X.pn++j8,s.heap.get? p.1=some p.2/\H p.1=none/\p.1≠X.env.locals/\p.1∉X.fs/\∀v,p.2.data≠.cell v
 hok:HOk X.prog X.w H s.heap
 len:σ.length=X.N.length
section
variable {X:Cx}{j8:List (Addr×Obj)}{σ:List (Option V)}{H H':Hp}{s:Shared}{h':Heap}
theorem Cx.Ok.nofr (ok:X.Ok){b:Addr}{o:Obj}(e:X.base.get? b=some o):b∉X.fs:=λhb=>by
 have:=(ok.funs.mem hb).1;rw[e] at this;cases this
theorem Inv.bs (I:Inv X j8 σ H s):∀b o,X.base.get? b=some o->s.heap.get? b=some o/\H b=none:=λb o e=>
 ⟨I.base.keep b o (I.ok.bs b o e).1 (I.ok.bs b o e).2 (I.ok.nofr e) (I.ok.noex b o e),I.base.free b o (I.ok.bs b o e).1 (I.ok.bs b o e).2 (I.ok.noex b o e)⟩
theorem Inv.bk (I:Inv X j8 σ H s):∀b o,X.base.get? b=some o->s.heap.get? b=some o:=λb o e=>(I.bs b o e).1
theorem Inv.mod (I:Inv X j8 σ H s):Mod X.K X.mg X.base:=I.ok.mod
theorem Inv.kIn (I:Inv X j8 σ H s):X.K.In s.heap:=I.ok.mod.kin.keeps I.bk
theorem Inv.fr (I:Inv X j8 σ H s):∃m,Fr X.base X.env.locals s.heap m:=
 let ⟨m,hn,_⟩:=I.loc
 ⟨m,hn,I.bk,ZG I.ok.bsz I.ok.above⟩
theorem Inv.lt (I:Inv X j8 σ H s):X.env.locals<s.heap.objs.size:=let ⟨_,hn,_⟩:=I.loc;hn.lt
theorem Inv.sz (I:Inv X j8 σ H s):X.s₀.heap.objs.size<=s.heap.objs.size:=ZG I.ok.above (XB I.lt)
theorem Inv.nofs (I:Inv X j8 σ H s){a:Addr}(h:s.heap.objs.size<=a):a∉X.fs:=λhb=>by
 obtain⟨_,o,ho,_⟩:=I.ok.funs.mem hb;exact absurd (ZO (Zi ho) (ZG I.sz h)) (Yk _)
theorem Inv.cne (I:Inv X j8 σ H s):∀x c,X.env.cells.lookup x=some c->c≠X.env.locals:=λx c e z=>by
 obtain⟨v,o,ho,hd⟩:=I.cell x c e;obtain⟨m,⟨o',es,ep,ho',hd',_⟩,_⟩:=I.loc;rw[z,ho'] at ho;cases ho;rw[hd'] at hd;cases hd
theorem Inv.funs (I:Inv X j8 σ H s):s.heap.FunFrames X.base X.outer:=by
 have all:∀(l:List Env),(∀b∈frs l,b∈X.fs)->X.s₀.heap.FunFrames X.base l->s.heap.FunFrames X.base l:=by
  intro l
  induction l with
  |nil=>intro _ _;trivial
  |cons env r ih=>
   intro hs hl;obtain⟨hk,⟨L,o,hf,hn,ho,hd⟩,hr⟩:=hl;have hL:L∈X.fs:=hs L (by unfold frs;rw[Yl,hf];exact ZB);obtain⟨sl,e⟩:=I.base.slot L o ho (I.ok.frf L hL) hL λz=>I.ok.exfs L z hL;exact⟨hk,⟨L,_,hf,hn,e,hd⟩,ih (λb hb=>hs b (by unfold frs;rw[Yl,hf];exact Zk _ hb)) hr⟩
 exact all X.outer (λ_ hb=>hb) I.ok.funs
theorem Inv.stack (I:Inv X j8 σ H s):s.heap.FunFrames X.base X.stack:=by
 rcases I.ok.stk with e|⟨e,hf⟩
 ·rw[e];exact I.funs
 ·rw[e];obtain⟨m,hn,_⟩:=I.loc;refine .cons (by rw[I.ok.kind];decide) hf hn ?_ I.funs;exact Heap.get?_none_of_le (ZG I.ok.bsz I.ok.above)
theorem Inv.stkSub (I:Inv X j8 σ H s):∀b∈frs X.stack,b∈X.env.locals::X.fs:=λb hb=>by
 rcases I.ok.stk with e|⟨e,hf⟩
 ·rw[e] at hb;exact Zk _ hb
 ·rw[e] at hb;unfold frs at hb;rw[Yl,hf] at hb;exact hb
theorem Inv.stkFree (I:Inv X j8 σ H s):∀b∈frs X.stack,H b=none:=λb hb=>by
 rcases Zn.mp (I.stkSub b hb) with e|hb
 ·rw[e];exact I.free
 ·obtain⟨_,o,ho,_⟩:=I.ok.funs.mem hb;exact I.base.free b o ho (I.ok.frf b hb) λz=>I.ok.exfs b z hb
theorem Inv.step {g':Array GenState}{t':Nat}{d':Drawn}{ch:List Addr}(I:Inv X j8 σ H s)
  (vZ:∀b∈ch,(b∈X.ex\/X.s₀.heap.objs.size<=b)/\b≠X.env.locals/\(∀x c,X.env.cells.lookup x=some c->c≠b)/\∀p∈X.pn++j8,p.1≠b)
  (keep:∀b o,b≠X.env.locals->b∉X.fs->b∉ch->s.heap.get? b=some o->H b=none->h'.get? b=some o)
  (slot:∀b o,b≠X.env.locals->b∈X.fs->b∉ch->s.heap.get? b=some o->H b=none->∃sl,h'.get? b=some { o with slots:=sl }) (free:∀b o,b∉ch->s.heap.get? b=some o->H b=none->H' b=none)
  (there:∀b o,b∉ch->s.heap.get? b=some o->∃o',h'.get? b=some o')
  (tups:∀b xs,H b=some (.tup xs)->H' b=some (.tup xs)) (frzs:∀b o u,H b=some (.frz o u)->H' b=some (.frz o u)) (tbls:∀b ps,H b=some (.tbl ps)->∃more,H' b=some (.tbl (ps++more)))
  (ns:∀m,s.heap.Ns X.env.locals m->h'.Ns X.env.locals m) (hok:HOk X.prog X.w H' h') (hg:AllBare g') :
  Inv X j8 σ H' { s with heap:=h',gens:=g',drawn:=d',toks:=t' }:=by
 have neL:∀b o,X.s₀.heap.get? b=some o->b≠X.env.locals:=λb o e=>Zp (ZO (Zi e) I.ok.above);have neC:∀b o,X.s₀.heap.get? b=some o->b∉X.ex->b∉ch:=λb o e hx hb=>by
  rcases (vZ b hb).1 with z|z
  ·exact hx z
  ·exact absurd (ZO (Zi e) z) (Yk _)
 have cellK:∀x c,X.env.cells.lookup x=some c->∀v,s.heap.IsCell c v->h'.IsCell c v:=λx c e v ⟨o,ho,hd⟩=>by
  have nch:c∉ch:=λz=>(vZ c z).2.2.1 x c e rfl;by_cases hc:c∈X.fs
  ·obtain⟨sl,q⟩:=slot c o (I.cne x c e) hc nch ho (I.freeC x c e);exact⟨_,q,hd⟩
  ·exact⟨o,keep c o (I.cne x c e) hc nch ho (I.freeC x c e),hd⟩
 refine⟨I.ok,I.os,hg,⟨λb o e n hb hx=>?_,λb o e n hb hx=>?_,λb o e n hx=>?_,λb o e hx=>?_,λb xs e=>tups b xs (I.base.tups b xs e),λb o xs e=>frzs b o xs (I.base.frzs b o xs e),λb ps e=>?_⟩,?_,λx c e=>?_,?_,λx c e=>?_,λp hp=>?_,hok,I.len⟩
 ·exact keep b o (neL b o e) hb (neC b o e hx) (I.base.keep b o e n hb hx) (I.base.free b o e n hx)
 ·obtain⟨sl,e1⟩:=I.base.slot b o e n hb hx;obtain⟨sl',e2⟩:=slot b _ (neL b o e) hb (neC b o e hx) e1 (I.base.free b o e n hx);exact⟨sl',e2⟩
 ·obtain⟨o',e1⟩:=I.base.there b o e hx;exact free b o' (neC b o e hx) e1 (I.base.free b o e n hx)
 ·obtain⟨o',e1⟩:=I.base.there b o e hx;exact there b o' (neC b o e hx) e1
 ·obtain⟨m1,e1⟩:=I.base.tbls b ps e;obtain⟨m2,e2⟩:=tbls b _ e1;exact⟨m1++m2,by rw[e2,Array.append_assoc]⟩
 ·obtain⟨m,hn,hl⟩:=I.loc;refine⟨m,ns m hn,λi x v e1 e2 e3=>?_⟩;obtain⟨u,r,l⟩:=hl i x v e1 e2 e3;refine⟨u,r,?_⟩;rcases l with l|⟨k,c,e,z⟩
  ·exact .inl l
  ·exact .inr ⟨k,c,e,cellK x c e _ z⟩
 ·obtain⟨v,z⟩:=I.cell x c e;exact⟨v,cellK x c e v z⟩
 ·obtain⟨m,⟨o,_,_,ho,_⟩,_⟩:=I.loc;exact free _ o (λz=>(vZ _ z).2.1 rfl) ho I.free
 ·obtain⟨v,o,ho,hd⟩:=I.cell x c e;exact free c o (λz=>(vZ c z).2.2.1 x c e rfl) ho (I.freeC x c e)
 ·obtain⟨e,n,ne,nf,d⟩:=I.pin p hp;have nch:p.1∉ch:=λz=>(vZ p.1 z).2.2.2 p hp rfl;exact⟨keep p.1 p.2 ne nf nch e n,free p.1 p.2 nch e n,ne,nf,d⟩
theorem Inv.un {t':Nat}(I:Inv X j8 σ H s) (u:Un X.fs [] H H' s.heap h') (hok:HOk X.prog X.w H' h'):Inv X j8 σ H' { s with heap:=h',toks:=t' }:=by
 obtain⟨m,⟨o,es,ep,ho,r⟩,_⟩:=id I.loc;obtain⟨sl,hL⟩:=u.any ho I.free (by simp);exact I.step (g':=s.gens) (d':=s.drawn) (ch:=[]) (λ_ z=>nomatch z) (λb o _ hb _ e n=>u.keep b o e n hb (by simp)) (λb o _ hb _ e n=>u.slot b o e n hb (by simp)) (λb o _ e n=>u.free b o e n (by simp)) (λb o _ e=>u.there b o e (by simp)) u.tups u.frzs u.tbls (λm' hm=>by
  obtain⟨o',es',ep',ho',r'⟩:=hm;rw[ho] at ho';cases ho';exact⟨_,es',ep',hL,r'⟩) hok I.bare
theorem Inv.call {g':Array GenState}{t':Nat}{d':Drawn}{ch:List Addr}(I:Inv X j8 σ H s) (u:Un (frs X.stack) ch H H' s.heap h') (hok:HOk X.prog X.w H' h') (hg:AllBare g')
  (vZ:∀b∈ch,(b∈X.ex\/X.s₀.heap.objs.size<=b)/\b≠X.env.locals/\(∀x c,X.env.cells.lookup x=some c->c≠b)/\∀p∈X.pn++j8,p.1≠b) :
  Inv X j8 σ H' { s with heap:=h',gens:=g',drawn:=d',toks:=t' }:=by
 obtain⟨m,⟨o,es,ep,ho,r⟩,_⟩:=id I.loc;obtain⟨sl,hL⟩:=u.any ho I.free λz=>(vZ _ z).2.1 rfl;exact I.step (ch:=ch) vZ (λb o hL hb hc e n=>u.keep b o e n (λz=>(Zn.mp (I.stkSub b z)).elim hL hb) hc) (λb o _ _ hc e n=>u.any e n hc) (λb o hc e n=>u.free b o e n hc) (λb o hc e=>u.there b o e hc) u.tups u.frzs u.tbls (λm' hm=>by
  obtain⟨o',es',ep',ho',r'⟩:=hm;rw[ho] at ho';cases ho';exact⟨_,es',ep',hL,r'⟩) hok hg
theorem Inv.turned {t':Nat}{it:Addr}(I:Inv X j8 σ H s) (k:∀b o,b≠it->s.heap.get? b=some o->h'.get? b=some o) (hn:H it=none) (hL:it≠X.env.locals)
  (h1:it∈X.ex\/X.s₀.heap.objs.size<=it) (h2:∀x c,X.env.cells.lookup x=some c->c≠it) (h3:∀p∈X.pn++j8,p.1≠it):Inv X j8 σ H { s with heap:=h',toks:=t' }:=by
 have nit:∀b u,H b=some u->b≠it:=λb u e z=>by rw[z,hn] at e;cases e
 refine I.step (g':=s.gens) (d':=s.drawn) (ch:=[it]) (λb hb=>?_) (λb o _ _ hc e _=>k b o (λz=>hc (by simp[z])) e) (λb o _ _ hc e _=>⟨o.slots,k b o (λz=>hc (by simp[z])) e⟩) (λ_ _ _ _ n=>n)
  (λb o hc e=>⟨o,k b o (λz=>hc (by simp[z])) e⟩) (λ_ _ e=>e) (λ_ _ _ e=>e) (λb ps e=>⟨#[],by rw[e];simp⟩) (λm hm=>?_) (λb u e=>?_) I.bare
 ·have e:b=it:=by simpa using hb
  subst e;exact⟨h1,hL,h2,h3⟩
 ·obtain⟨o,es,ep,ho,r⟩:=hm;exact⟨o,es,ep,k _ o (XC hL) ho,r⟩
 ·refine (I.hok b u e).stay (λc v hc q=>k c v ?_ q) (λ_ q=>q) λ_ _ q=>q;rcases hc with z|z
  ·rw[z];exact nit b u e
  ·exact nit c _ z
theorem Inv.tok (I:Inv X j8 σ H s) (t:Nat):Inv X j8 σ H { s with toks:=t }:=I.un (h':=s.heap) (t':=t) Un.refl I.hok
theorem Inv.kept {t':Nat}(I:Inv X j8 σ H s) (k:∀b u,s.heap.get? b=some u->h'.get? b=some u):Inv X j8 σ H { s with heap:=h',toks:=t' }:=I.un (Un.kept k) (I.hok.kept k)
theorem Inv.laid {a:Addr}{o:HO}{t':Nat}(I:Inv X j8 σ H s) (k:∀b u,s.heap.get? b=some u->h'.get? b=some u) (hp:s.heap.objs.size<=a) (new:ObjOk X.prog X.w (upd H a o) h' a o) :
  Inv X j8 σ (upd H a o) { s with heap:=h',toks:=t' }:=I.un (Un.laid k hp (I.hok.fresh hp)) (I.hok.laid k hp new)
theorem Inv.write {x e:Addr}{o:HO}{t':Nat}(I:Inv X j8 σ H s) (mu:Mut (H x)) (he:e=x\/H e=some (.own x)) (k:∀b u,b≠e->s.heap.get? b=some u->h'.get? b=some u) (heo:∃u,h'.get? e=some u)
  (new:ObjOk X.prog X.w (upd H x o) h' x o):Inv X j8 σ (upd H x o) { s with heap:=h',toks:=t' }:=I.un (Un.write mu he k heo) (I.hok.write mu he k heo new)
theorem Inv.weak {σ':List (Option V)}(I:Inv X j8 σ H s) (hl:σ'.length=σ.length) (w:∀(i:Nat) v,σ'[i]?=some (some v)->σ[i]?=some (some v)):Inv X j8 σ' H s:=
 ⟨I.ok,I.os,I.bare,I.base,let ⟨m,hn,hl'⟩:=I.loc;⟨m,hn,λi x v e1 e2 e3=>hl' i x v e1 (w i v e2) e3⟩,I.cell,I.free,I.freeC,I.pin,I.hok,hl.trans I.len⟩
theorem Inv.pins_of {pins':List (Addr×Obj)}(I:Inv X j8 σ H s) (h:∀p∈pins',s.heap.get? p.1=some p.2/\H p.1=none/\p.1≠X.env.locals/\p.1∉X.fs/\∀v,p.2.data≠.cell v):Inv X pins' σ H s:=
 ⟨I.ok,I.os,I.bare,I.base,I.loc,I.cell,I.free,I.freeC,λp hp=>(Z7.mp hp).elim (λz=>I.pin p (XD _ z)) (h p),I.hok,I.len⟩
theorem qL1 {N:List Str}(hN:N.Nodup){i j:Nat}{x:Str}(a:N[i]?=some x) (b:N[j]?=some x):i=j:=by
 obtain⟨h1,e1⟩:=gS_ a;obtain⟨h2,e2⟩:=gS_ b;exact (List.getElem_inj hN).mp (e1.trans e2.symm)
theorem qT8 {M:Model}{A:Around}{E:Value->Shared->Prop}{i:Nat}{x:Str}{v:V}{u:Value}{Q:Unit->Shared->Prop}(I:Inv X j8 σ H s) (hN:X.N.Nodup) (hi:X.N[i]?=some x) (hx:Loc X.env.scope x) (r:RelV v u)
  (h:∀s',Inv X j8 (σ.set i (some v)) H s'->(∃a,Heap.SameBut a s.heap s'.heap/\(a=X.env.locals\/X.env.cells.lookup x=some a))->Q () s') (hf:X.fn x=true\/X.env.scope.names.lookup x=some .local:=by first|exact .inl rfl|exact .inr rfl|assumption):wpAny M A (storeName X.env x u) Q E s:=by
 obtain⟨m,hn,hl⟩:=id I.loc;have hcls:(X.env.scope.kind==.class||(X.env.scope.kind==.module&&X.env.locals != X.env.globals))=false:=by rw[I.ok.kind];rfl
 have hiσ:i<σ.length:=by rw[I.len];exact (gS_ hi).1
 have cne:=I.cne;have tracked:∀{a:Addr}{h':Heap},(∃o,s.heap.get? a=some o/\H a=none)->Heap.SameBut a s.heap h'->HOk X.prog X.w H h':=λ{a h'} ha hs b ob e=>by
  obtain⟨_,_,hfree⟩:=ha;refine (I.hok b ob e).stay (λc w' hc q=>(hs.2 c ?_).trans q) (λ_ q=>q) λ_ _ q=>q;rintro rfl;rcases hc with rfl|hc
  ·rw[hfree] at e;cases e
  ·rw[hfree] at hc;cases hc
 rcases hx with hk|hk
 ·refine wpAny_storeName_local hk hn (λh' hn' hs=>?_) hcls;obtain⟨oL,_,_,hoL,_⟩:=id hn;refine h _ ⟨I.ok,I.os,I.bare,⟨λb o e n hb hx=>?_,λb o e n hb hx=>?_,I.base.free,λb o e hx=>?_,I.base.tups,I.base.frzs,I.base.tbls⟩,⟨_,hn',λj y v' e1 e2 e3=>?_⟩,λy c e=>?_,I.free,I.freeC,λp hp=>?_,tracked ⟨oL,hoL,I.free⟩ hs,by simpa using I.len⟩ ⟨_,hs,.inl rfl⟩
  ·exact (hs.2 b (Zp (ZO (Zi e) I.ok.above))).trans (I.base.keep b o e n hb hx)
  ·obtain⟨sl,e1⟩:=I.base.slot b o e n hb hx;exact⟨sl,(hs.2 b (Zp (ZO (Zi e) I.ok.above))).trans e1⟩
  ·obtain⟨o',e1⟩:=I.base.there b o e hx;exact⟨o',(hs.2 b (Zp (ZO (Zi e) I.ok.above))).trans e1⟩
  ·by_cases hj:j=i
   ·subst hj;rw[hi] at e1;cases e1;rw[List.getElem?_set_self hiσ] at e2;cases e2;exact⟨u,r,.inl ⟨hk,by simp⟩⟩
   ·rw[List.getElem?_set_ne (XC hj)] at e2;obtain⟨u',r',q⟩:=hl j y v' e1 e2 e3;refine⟨u',r',?_⟩;rcases q with ⟨k,e⟩|⟨k,c,e,z⟩
    ·refine .inl ⟨k,?_⟩;have:y≠x:=λe=>hj (qL1 hN e1 (e▸hi));simp[this,e]
    ·exact .inr ⟨k,c,e,z.sameBut hs (cne y c e)⟩
  ·obtain⟨w',z⟩:=I.cell y c e;exact⟨w',z.sameBut hs (cne y c e)⟩
  ·obtain⟨e,n,ne,nf,d⟩:=I.pin p hp;exact⟨(hs.2 p.1 ne).trans e,n,ne,nf,d⟩
 ·have hfn:X.fn x=true:=by
   rcases hf with z|z
   ·exact z
   ·rw[z] at hk;cases hk
  obtain⟨c,hc⟩:=I.ok.has x (.inl hk);obtain⟨w',z⟩:=I.cell x c hc;refine wpAny_storeName_cell I.ok.kind hk hc z (λh' hc' hs=>?_);obtain⟨oc,hoc,hocd⟩:=id z;refine h { s with heap:=h' } ⟨I.ok,I.os,I.bare,⟨λb o e n hb hx=>?_,λb o e n hb hx=>?_,I.base.free,λb o e hx=>?_,I.base.tups,I.base.frzs,I.base.tbls⟩,⟨m,hn.sameBut hs (XC (cne x c hc)),λj y v' e1 e2 e3=>?_⟩,λy c' e=>?_,I.free,I.freeC,λp hp=>?_,tracked ⟨oc,hoc,I.freeC x c hc⟩ hs,by simpa using I.len⟩ ⟨c,hs,.inr hc⟩
  ·exact (hs.2 b (Zp (ZO (Zi e) (I.ok.cab x c hfn hc)))).trans (I.base.keep b o e n hb hx)
  ·obtain⟨sl,e1⟩:=I.base.slot b o e n hb hx;exact⟨sl,(hs.2 b (Zp (ZO (Zi e) (I.ok.cab x c hfn hc)))).trans e1⟩
  ·obtain⟨o',e1⟩:=I.base.there b o e hx;exact⟨o',(hs.2 b (Zp (ZO (Zi e) (I.ok.cab x c hfn hc)))).trans e1⟩
  ·by_cases hj:j=i
   ·subst hj;rw[hi] at e1;cases e1;rw[List.getElem?_set_self hiσ] at e2;cases e2;exact⟨u,r,.inr ⟨.inl hk,c,hc,hc'⟩⟩
   ·rw[List.getElem?_set_ne (XC hj)] at e2;obtain⟨u',r',q⟩:=hl j y v' e1 e2 e3;refine⟨u',r',?_⟩;rcases q with q|⟨k,c',e,z'⟩
    ·exact .inl q
    ·refine .inr ⟨k,c',e,z'.sameBut hs ?_⟩;rintro rfl;exact hj (qL1 hN e1 (I.ok.inj _ _ _ e hc▸hi))
  ·by_cases hcc:c'=c
   ·subst hcc;exact⟨_,hc'⟩
   ·obtain⟨w2,z2⟩:=I.cell y c' e;exact⟨w2,z2.sameBut hs hcc⟩
  ·obtain⟨e,n,ne,nf,d⟩:=I.pin p hp;refine⟨(hs.2 p.1 ?_).trans e,n,ne,nf,d⟩;intro q;rw[q,hoc] at e;have q':oc=p.2:=ZM e;exact d w' (by rw[<- q'];exact hocd)
theorem qr1 {M:Model}{A:Around}{E:Value->Shared->Prop}{i:Nat}{x:Str}{v:V}{u:Value}{Q:Unit->Shared->Prop}(I:Inv X j8 σ H s) (hN:X.N.Nodup) (hi:X.N[i]?=some x) (hx:Loc X.env.scope x) (r:RelV v u)
  (h:∀s',Inv X j8 (σ.set i (some v)) H s'->Q () s') (hf:X.fn x=true\/X.env.scope.names.lookup x=some .local:=by first|exact .inl rfl|exact .inr rfl|assumption):wpAny M A (storeName X.env x u) Q E s:=
 qT8 I hN hi hx r (λs' I' _=>h s' I') hf
theorem Inv.call' {s':Shared}{ch:List Addr}(I:Inv X j8 σ H s) (ho:s'.os=s.os) (u:Un (frs X.stack) ch H H' s.heap s'.heap) (hok:HOk X.prog X.w H' s'.heap) (hg:AllBare s'.gens)
  (vZ:∀b∈ch,(b∈X.ex\/X.s₀.heap.objs.size<=b)/\b≠X.env.locals/\(∀x c,X.env.cells.lookup x=some c->c≠b)/\∀p∈X.pn++j8,p.1≠b):Inv X j8 σ H' s':=by
 obtain⟨h',g',d',t',o'⟩:=s';have e:o'=s.os:=ho;subst e;exact I.call (g':=g') (t':=t') (d':=d') u hok hg vZ
end
abbrev XK:=Value->Option Addr->Hp->Prop
abbrev St:=List (Option V)
abbrev VK:=V->Hp->Prop
abbrev TE:=St->Hp->VK->Prop
abbrev TT:=St->Hp->(Bool->Hp->Prop)->Prop
abbrev TA:=St->Hp->(List V->Hp->Prop)->Prop
structure Ends where
 nx:St->Hp->Prop
 rt:VK
 bk:St->Hp->Prop:=λ_ _=>False
 ct:St->Hp->Prop:=λ_ _=>False
abbrev TS:=Ends->St->Hp->Prop
def EP (X:Cx) (j8:List (Addr×Obj)) (σ:St) (Q:VK) (u:Value) (s':Shared):Prop:=∃v H',Inv X j8 σ H' s'/\RelV v u/\Q v H'
def TP (X:Cx) (j8:List (Addr×Obj)) (σ:St) (Q:Bool->Hp->Prop) (b:Bool) (s':Shared):Prop:=∃H',Inv X j8 σ H' s'/\Q b H'
def AP (X:Cx) (j8:List (Addr×Obj)) (σ:St) (Q:List V->Hp->Prop) (us:List Value) (s':Shared):Prop:=∃vs H',Inv X j8 σ H' s'/\Vals vs us/\Q vs H'
def SP (X:Cx) (j8:List (Addr×Obj)) (D:Ends) (f:Flow) (s':Shared):Prop:=
 match f with
 |.next=>∃σ' H',Inv X j8 σ' H' s'/\D.nx σ' H'
 |.brk=>∃σ' H',Inv X j8 σ' H' s'/\D.bk σ' H'
 |.cont=>∃σ' H',Inv X j8 σ' H' s'/\D.ct σ' H'
 |.ret u=>∃v σ' H',Inv X j8 σ' H' s'/\RelV v u/\D.rt v H'
def PE (X:Cx) (e:Expr) (t:TE):Prop:=
 ∀(j8:List (Addr×Obj)) (s:Shared) (σ:St) (H:Hp) (Q:VK),Inv X j8 σ H s->t σ H Q->wpAny (model X.prog X.w) X.A (eval e X.env) (EP X j8 σ Q) X.xe s
def PT (X:Cx) (e:Expr) (t:TT):Prop:=
 ∀(j8:List (Addr×Obj)) (s:Shared) (σ:St) (H:Hp) (Q:Bool->Hp->Prop),Inv X j8 σ H s->t σ H Q->wpAny (model X.prog X.w) X.A (isTrue e X.env (eval e X.env)) (TP X j8 σ Q) X.xe s
def PW (X:Cx) (e:Expr) (t:TT):Prop:=
 ∀(whole:Sem Value) (j8:List (Addr×Obj)) (s:Shared) (σ:St) (H:Hp) (Q:Bool->Hp->Prop),Inv X j8 σ H s->t σ H Q->wpAny (model X.prog X.w) X.A (isTrue e X.env whole) (TP X j8 σ Q) X.xe s
theorem PW.pt {X:Cx}{e:Expr}{t:TT}(h:PW X e t):PT X e t:=h _
def PA (X:Cx) (es:List Expr) (t:TA):Prop:=
 ∀(pos:Pos) (j8:List (Addr×Obj)) (s:Shared) (σ:St) (H:Hp) (Q:List V->Hp->Prop),Inv X j8 σ H s->t σ H Q->wpAny (model X.prog X.w) X.A (spliced (backTo pos (starEach es X.env))) (AP X j8 σ Q) X.xe s
def PS (X:Cx) (st:Stmt) (t:TS):Prop:=
 ∀(j8:List (Addr×Obj)) (s:Shared) (σ:St) (H:Hp) (D:Ends),Inv X j8 σ H s->t D σ H->wpAny (model X.prog X.w) X.A (exec st X.env) (SP X j8 D) X.xe s
def PSs (X:Cx) (st:List Stmt) (t:TS):Prop:=
 ∀(j8:List (Addr×Obj)) (s:Shared) (σ:St) (H:Hp) (D:Ends),Inv X j8 σ H s->t D σ H->wpAny (model X.prog X.w) X.A (execs st X.env) (SP X j8 D) X.xe s
theorem thn {α:Type}{t:Sem α}{Q Q':α->Shared->Prop}{M:Model}{A:Around}{E:Value->Shared->Prop}{s:Shared}(h:wpAny M A t Q E s) (hQ:∀a s,Q a s->Q' a s):wpAny M A t Q' E s:=Yp h hQ λ_ _ x=>x
section
variable {X:Cx}
inductive tVar_ (i:Nat) (σ:St) (H:Hp) (Q:VK):Prop
 |mk (v:_) (e0:σ[i]?=some (some v)) (e1:Q v H)
def tVar (i:Nat):TE:=λσ H Q=>tVar_ i σ H Q
def tC (v:V):TE:=λ_ H Q=>Q v H
theorem xr1 {i:Nat}{x:Str}{pos:Pos}(hN:X.N[i]?=some x) (hv:Vis X.env.scope x) (hd:(x==("__debug__" : Str))=false:=by decide) (kU:(x==("__classdict__" : Str))=false:=by decide):PE X (.Name x pos) (tVar i):=by
 intro j8 s σ H Q I h;obtain⟨v,e,h⟩:=h;obtain⟨m,hn,hl⟩:=I.loc;obtain⟨u,r,l⟩:=hl i x v hN e hv;have fin:EP X j8 σ Q u s:=⟨v,H,I,r,h⟩;rcases l with ⟨hk,hm⟩|⟨hk,c,hc,jA⟩
 ·exact wpAny_Name (wpAny_loadName_local I.ok.kind hk hn hm fin) hd
 ·rcases hk with hk|hk
  ·exact wpAny_Name (wpAny_loadName_cell I.ok.kind hk hc jA fin) hd
  ·exact wpAny_Name (wpAny_loadName_free I.ok.kind hk hc jA fin kU) hd
theorem qa2 {i j pos}:PE X (.Constant (.int i) j pos) (tC (.int i)):=λ_ _ _ H _ I h=>wpAny_Constant_int ⟨.int i,H,I.tok _,⟨_,rfl⟩,h⟩
theorem qs7 {b j pos}:PE X (.Constant (.bool b) j pos) (tC (.bl b)):=λ_ _ _ H _ I h=>Constant_bool ⟨.bl b,H,I,rfl,h⟩
theorem qB5 {j pos}:PE X (.Constant .none j pos) (tC .non):=λ_ _ _ H _ I h=>Constant_none ⟨.non,H,I,rfl,h⟩
theorem qw6 {x j pos}:PE X (.Constant (.str x) j pos) (tC (.str x)):=λ_ _ _ H _ I h=>Calls.Constant_str ⟨.str x,H,I.tok _,⟨_,rfl⟩,h⟩
def Gl (X:Cx) (x:Str):Prop:=X.env.kindOf x=some .globalImplicit
theorem qy1 {E:Value->Shared->Prop}{j8:List (Addr×Obj)}{s:Shared}{σ:St}{H:Hp}{x:Str}{u:Value}{pos:Pos}{Q:Value->Shared->Prop}(I:Inv X j8 σ H s) (hg:Gl X x) (hm:X.mg x=some u) (h:Q u s)
  (hd:(x==("__debug__" : Str))=false:=by decide):wpAny (model X.prog X.w) X.A (eval (.Name x pos) X.env) Q E s:=
 Calls.Name_function_global I.ok.kind hg (Calls.loadGlobal_global (by rw[I.ok.glob];exact I.mod.glob.keeps I.bk) hm h) hd
theorem qs8 {E:Value->Shared->Prop}{j8:List (Addr×Obj)}{s:Shared}{σ:St}{H:Hp}{x:Str}{u:Value}{pos:Pos}{Q:Value->Shared->Prop}(I:Inv X j8 σ H s) (hg:Gl X x) (hm:X.mg x=none) (hv:bootBuiltins x=some u) (h:Q u s)
  (hn:x ≠ "__name__":=by decide) (hd:(x==("__debug__" : Str))=false:=by decide):wpAny (model X.prog X.w) X.A (eval (.Name x pos) X.env) Q E s:=by
 obtain⟨mb,h1,h2⟩:=I.mod.blt;exact Calls.Name_function_global I.ok.kind hg (Calls.loadGlobal_builtin (by rw[I.ok.glob];exact I.mod.glob.keeps I.bk) hm (by rw[I.ok.blt];exact h1.keeps I.bk) ((h2 x hn).trans hv) h) hd
theorem qd9 {x:Str}{v:V}{u:Value}{pos:Pos}(hg:Gl X x) (hm:X.mg x=some u) (r:RelV v u) (hd:(x==("__debug__" : Str))=false:=by decide):PE X (.Name x pos) (tC v):=
 λ_ _ _ H _ I h=>qy1 I hg hm ⟨v,H,I,r,h⟩ hd
theorem qo8 {x:Str}{v:V}{u:Value}{pos:Pos}(hg:Gl X x) (hm:X.mg x=none) (hv:bootBuiltins x=some u) (r:RelV v u) (hn:x ≠ "__name__":=by decide) (hd:(x==("__debug__" : Str))=false:=by decide):PE X (.Name x pos) (tC v):=
 λ_ _ _ H _ I h=>qs8 I hg hm hv ⟨v,H,I,r,h⟩ hn hd
variable {a b:Expr}{ta tb:TE}{pos:Pos}
def PC (X:Cx) (op:CmpOp) (a b:Expr) (t:TE):Prop:=
 ∀(j8:List (Addr×Obj)) (s:Shared) (σ:St) (H:Hp) (Q:VK),Inv X j8 σ H s->t σ H Q ->
  wpAny (model X.prog X.w) X.A (eval a X.env) (λv s₁=>wpAny (model X.prog X.w) X.A (eval b X.env) (λu s₂=>wpAny (model X.prog X.w) X.A (compareOp op v u) (EP X j8 σ Q) X.xe s₂) X.xe s₁) X.xe s
inductive tB_ (Q:Bool->Hp->Prop) (x:V) (H1:Hp):Prop
 |mk (c:_) (e0:x=.bl c) (e1:Q c H1)
def tB (t:TE):TT:=λσ H Q=>t σ H λx H1=>tB_ Q x H1
theorem qT9 {op:CmpOp}{t:TE}(h:PC X op a b t) (h1:behindInMarks op b=false:=by first|exact nobehind _ (by decide) (by decide)|rfl):PT X (.Compare a [op] [b] pos) (tB t):=by
 intro j8 s σ H Q I hw;refine wpAny_isTrue_Compare1 (thn (h j8 s σ H _ I hw) λv s1 h1=>thn h1 λu s2 h2=>thn h2 λc s3 ⟨x,H1,I1,r1,q1⟩=>?_) h1;obtain⟨d,rfl,q⟩:=q1;cases r1;exact Ym ⟨H1,I1,q⟩
theorem qf6 {e:Expr}{t:TE}(h:PE X e t) (he:∀whole,isTrue e X.env whole=(do let v <- whole;standAt e.pos;holding [v] (truthy v)):=by intro _;rfl):PT X e (tB t):=by
 intro j8 s σ H Q I hw;refine isTrue_plain (thn (h j8 s σ H _ I hw) λv s1 ⟨x,H1,I1,r1,q1⟩=>?_) (he _);obtain⟨d,rfl,q⟩:=q1;cases r1;exact Ym ⟨H1,I1,q⟩
variable {tA tB':TT}{rest:List Expr}
def tAnd (t u:TT):TT:=λσ H Q=>t σ H λc H1=>if c=true then u σ H1 Q else Q false H1
def tOr (t u:TT):TT:=λσ H Q=>t σ H λc H1=>if c=true then Q true H1 else u σ H1 Q
def tNot (t:TT):TT:=λσ H Q=>t σ H λc H1=>Q (!c) H1
theorem qI2 (ha:PT X a tA):PW X (.BoolOp .And [a] pos) tA:=by
 intro wh j8 s σ H Q I h;refine isTrue_and (thn (ha j8 s σ H Q I h) λc s1 e=>?_);cases c with
 |true=>exact isTrue_and_nil e
 |false=>exact e
theorem ql2 (ha:PT X a tA):PW X (.BoolOp .Or [a] pos) tA:=by
 intro wh j8 s σ H Q I h;refine isTrue_or (thn (ha j8 s σ H Q I h) λc s1 e=>?_);cases c with
 |false=>exact isTrue_or_nil e
 |true=>exact e
theorem qU0 (ha:PT X a tA) (hb:PW X (.BoolOp .And (b::rest) pos) tB'):PW X (.BoolOp .And (a::b::rest) pos) (tAnd tA tB'):=by
 intro wh j8 s σ H Q I h;refine isTrue_and (thn (ha j8 s σ H _ I h) λc s1 ⟨H1,I1,q1⟩=>?_);cases c with
 |true=>exact hb wh j8 s1 σ H1 Q I1 q1
 |false=>exact⟨H1,I1,q1⟩
theorem qs9 (ha:PT X a tA) (hb:PW X (.BoolOp .Or (b::rest) pos) tB'):PW X (.BoolOp .Or (a::b::rest) pos) (tOr tA tB'):=by
 intro wh j8 s σ H Q I h;refine isTrue_or (thn (ha j8 s σ H _ I h) λc s1 ⟨H1,I1,q1⟩=>?_);cases c with
 |true=>exact⟨H1,I1,q1⟩
 |false=>exact hb wh j8 s1 σ H1 Q I1 q1
theorem qi9 (ha:PT X a tA):PT X (.UnaryOp .Not a pos) (tNot tA):=by
 intro j8 s σ H Q I h;exact isTrue_not (ha j8 s σ H (λc H1=>Q (!c) H1) I h)
def xy9 (ta tb:TE):TE:=λσ H Q=>ta σ H λx H1=>∃c,x=.bl c/\if c=true then tb σ H1 Q else Q (.bl false) H1
def xz0 (ta:TE):TE:=λσ H Q=>ta σ H λx H1=>∃c,x=.bl c/\Q (.bl (!c)) H1
theorem qm5 {op}{t:TE}(h:PE X a t):PE X (.BoolOp op [a] pos) t:=λj8 s σ H Q I hw=>BoolOp_one (h j8 s σ H Q I hw)
theorem qi6 (ha:PE X a ta) (hb:PE X (.BoolOp .And (b::rest) pos) tb):PE X (.BoolOp .And (a::b::rest) pos) (xy9 ta tb):=by
 intro j8 s σ H Q I h;refine BoolOp_and (thn (ha j8 s σ H _ I h) λv s1 ⟨x,H1,I1,r1,q1⟩=>?_);obtain⟨c,rfl,q1⟩:=q1;cases r1;refine Ym ?_;cases c with
 |true=>exact hb j8 s1 σ H1 Q I1 q1
 |false=>exact⟨.bl false,H1,I1,rfl,q1⟩
theorem xr2 (ha:PE X a ta):PE X (.UnaryOp .Not a pos) (xz0 ta):=by
 intro j8 s σ H Q I h;refine UnaryOp_ (thn (ha j8 s σ H _ I h) λv s1 ⟨x,H1,I1,r1,q1⟩=>?_);obtain⟨c,rfl,q1⟩:=q1;cases r1;exact not_of (Ym ⟨.bl (!c),H1,I1,rfl,q1⟩)
end
def SqL (K:PySem.W.Frag) (H:Hp) (a:Addr) (xs:List V):Prop:=
 Rd H a (.lst xs) \/
  ∃(o:Obj) (its:Array Value) (n:Nat),K.lookup a=some o/\o.cls=.type "list" /\ o.dict=none/\o.data=.seq its n/\its.size<=sizeLine/\Vals xs its.toList
def SqT (K:PySem.W.Frag) (H:Hp) (a:Addr) (xs:List V):Prop:=
 Rd H a (.tup xs) \/
  ∃(o:Obj) (its:Array Value) (n:Nat),K.lookup a=some o/\o.cls=.type "tuple" /\ o.data=.seq its n/\its.size<=sizeLine/\Vals xs its.toList
def absV:Value->Option V
 |.none=>some .non
 |.bool b=>some (.bl b)
 |.int i _=>some (.int i)
 |.str x _=>some (.str x)
 |.bytes b _=>some (.byt b)
 |.float b _=>some (.flt b)
 |.ref a=>some (.ref a)
 |.type n=>some (.ty n)
 |_=>none
theorem RelV.abs {x:V}{u:Value}(r:RelV x u):absV u=some x:=by
 cases x with
 |non=>cases r;rfl
 |bl _=>cases r;rfl
 |int _=>obtain⟨t,rfl⟩:=r;rfl
 |str _=>obtain⟨t,rfl⟩:=r;rfl
 |byt _=>obtain⟨t,rfl⟩:=r;rfl
 |flt _=>obtain⟨t,rfl⟩:=r;rfl
 |ref _=>cases r;rfl
 |ty _=>cases r;rfl
theorem RelV.inj {x y:V}{u:Value}(r:RelV x u) (q:RelV y u):x=y:=ZM (r.abs.symm.trans q.abs)
theorem Vals.inj:∀{xs ys:List V}{us:List Value},Vals xs us->Vals ys us->xs=ys
 |_,_,_,.nil,.nil=>rfl
 |_,_,_,.cons r t,.cons r' t'=>by rw[r.inj r',Vals.inj t t']
section
variable {X:Cx}{j8:List (Addr×Obj)}{σ:St}{H:Hp}{s:Shared}{a:Addr}{xs ys:List V}
theorem SqL.of {K:PySem.W.Frag}(h:H a=some (.lst xs)):SqL K H a xs:=.inl (.inl h)
theorem SqT.of {K:PySem.W.Frag}(h:H a=some (.tup xs)):SqT K H a xs:=.inl (.inl h)
theorem Inv.list (I:Inv X j8 σ H s) (h:SqL X.K H a xs):∃its:List Value,Vals xs its/\PlainL s.heap a its.toArray/\xs.length<=sizeLine:=by
 rcases h with h|⟨o,its,n,hk,hc,hd,hs,hz,r⟩
 ·obtain⟨z,its,n,r,e⟩:=h.ok I.hok;exact⟨its,r,⟨_,n,e,rfl,rfl,rfl⟩,z⟩
 ·refine⟨its.toList,r,⟨o,n,I.kIn a o hk,hc,hd,by simpa using hs⟩,?_⟩;have e:=r.length;simp only[ZL] at e;lia
theorem Inv.tuple (I:Inv X j8 σ H s) (h:SqT X.K H a xs):∃its:List Value,Vals xs its/\IsTup s.heap a its.toArray/\xs.length<=sizeLine:=by
 rcases h with h|⟨o,its,n,hk,hc,hs,hz,r⟩
 ·obtain⟨z,its,r,p⟩:=h.ok I.hok;exact⟨its,r,p,z⟩
 ·refine⟨its.toList,r,⟨o,I.kIn a o hk,hc,n,by simpa using hs⟩,?_⟩;have e:=r.length;simp only[ZL] at e;lia
theorem Inv.list_inj (I:Inv X j8 σ H s) (h:SqL X.K H a xs) (h':SqL X.K H a ys):xs=ys:=by
 obtain⟨its,r,⟨o,n,e,_,_,d⟩,_⟩:=I.list h;obtain⟨its',r',⟨o',n',e',_,_,d'⟩,_⟩:=I.list h';rw[e] at e';cases e';rw[d] at d';injection d' with d1 _
 have:its=its':=by simpa using Yh Array.toList d1
 subst this;exact r.inj r'
theorem Inv.tuple_inj (I:Inv X j8 σ H s) (h:SqT X.K H a xs) (h':SqT X.K H a ys):xs=ys:=by
 obtain⟨its,r,⟨o,e,_,n,d⟩,_⟩:=I.tuple h;obtain⟨its',r',⟨o',e',_,n',d'⟩,_⟩:=I.tuple h';rw[e] at e';cases e';rw[d] at d';injection d' with d1 _
 have:its=its':=by simpa using Yh Array.toList d1
 subst this;exact r.inj r'
end
abbrev Cx.wish (X:Cx) (E:Value->Shared->Prop):Cx:={ X with xe:=E }
abbrev Cx.nox (X:Cx):Cx:=X.wish λ_ _=>False
theorem Cx.Ok.wish {X:Cx}(ok:X.Ok) (E:Value->Shared->Prop):(X.wish E).Ok:=
 ⟨ok.mod,ok.kind,ok.glob,ok.blt,ok.above,ok.inj,ok.has,ok.cab,ok.hd,ok.frames,ok.stk,ok.exf,ok.bs,ok.bsz,ok.noex,ok.exfs,ok.funs,ok.frf⟩
theorem Cx.Ok.unwish {X:Cx}{E:Value->Shared->Prop}(ok:(X.wish E).Ok):X.Ok:=
 ⟨ok.mod,ok.kind,ok.glob,ok.blt,ok.above,ok.inj,ok.has,ok.cab,ok.hd,ok.frames,ok.stk,ok.exf,ok.bs,ok.bsz,ok.noex,ok.exfs,ok.funs,ok.frf⟩
section
variable {X:Cx}{j8:List (Addr×Obj)}{σ:St}{H:Hp}{s:Shared}{E:Value->Shared->Prop}
theorem Inv.wish (I:Inv X j8 σ H s) (E:Value->Shared->Prop):Inv (X.wish E) j8 σ H s:=⟨I.ok.wish E,I.os,I.bare,I.base,I.loc,I.cell,I.free,I.freeC,I.pin,I.hok,I.len⟩
theorem Inv.unwish (I:Inv (X.wish E) j8 σ H s):Inv X j8 σ H s:=⟨I.ok.unwish,I.os,I.bare,I.base,I.loc,I.cell,I.free,I.freeC,I.pin,I.hok,I.len⟩
theorem SP.unwish {D:Ends}{f:Flow}{s':Shared}(h:SP (X.wish E) j8 D f s'):SP X j8 D f s':=by
 cases f with
 |next=>obtain⟨σ',H',I,q⟩:=h;exact⟨σ',H',I.unwish,q⟩
 |brk=>obtain⟨σ',H',I,q⟩:=h;exact⟨σ',H',I.unwish,q⟩
 |cont=>obtain⟨σ',H',I,q⟩:=h;exact⟨σ',H',I.unwish,q⟩
 |ret u=>obtain⟨v,σ',H',I,r,q⟩:=h;exact⟨v,σ',H',I.unwish,r,q⟩
theorem PSs.nox {st:List Stmt}{t:TS}(h:PSs X.nox st t):PSs X st t:=λj8 s σ H D I hw=>
 Yp (h j8 s σ H D (I.wish _) hw) (λ_ _ q=>q.unwish) λ_ _ z=>False.elim z
end
section
variable {X:Cx}{st:Stmt}{rest:List Stmt}{t u:TS}{e:Expr}{te:TE}{pos:Pos}
def xz1:TS:=λD σ H=>D.nx σ H
def tSeq (t u:TS):TS:=λD σ H=>t { D with nx:=u D } σ H
theorem qb8:PSs X [] xz1:=λ_ _ σ H _ I h=>Wy ⟨σ,H,I,h⟩
theorem qb3 (h1:PS X st t) (h2:PSs X rest u):PSs X (st::rest) (tSeq t u):=by
 intro j8 s σ H D I h;refine wpAny_execs_cons (thn (h1 j8 s σ H { D with nx:=u D } I h) λf s1 q=>?_);cases f with
 |next=>
  obtain⟨σ',H',I',q⟩:=q;exact h2 j8 s1 σ' H' D I' q
 |ret v=>exact q
 |brk=>exact q
 |cont=>exact q
theorem qa8 (h1:PS X st t):PSs X [st] t:=by
 intro j8 s σ H D I h;refine wpAny_execs_cons (thn (h1 j8 s σ H D I h) λf s1 q=>?_);cases f with
 |next=>exact Wy q
 |ret v=>exact q
 |brk=>exact q
 |cont=>exact q
theorem Inv.quiet {j8:List (Addr×Obj)}{σ:St}{H:Hp}{s:Shared}(I:Inv X j8 σ H s):interactive X.env=false:=by simp[interactive,I.ok.kind]
def xz2 (te:TE):TS:=λD σ H=>te σ H λ_ H1=>D.nx σ H1
theorem qd7 (he:PE X e te) (hs:swapsWith e none pos.line X.env=pure false:=by rfl):PS X (.Expr e pos) (xz2 te):=by
 intro j8 s σ H D I h;exact wpAny_Expr_any (thn (he j8 s σ H _ I h) λv s1 ⟨x,H1,I1,r1,q1⟩=>⟨σ,H1,I1,q1⟩) I.quiet hs
def tRet (te:TE):TS:=λD σ H=>te σ H D.rt
theorem qa9 (he:PE X e te):PS X (.Return (some e) pos) (tRet te):=by
 intro j8 s σ H D I h;exact wpAny_Return_some (thn (he j8 s σ H _ I h) λv s1 ⟨x,H1,I1,r1,q1⟩=>⟨x,σ,H1,I1,r1,q1⟩)
def xz3:TS:=λD _ H=>D.rt .non H
theorem qy2:PS X (.Return none pos) xz3:=λ_ _ σ H _ I h=>wpAny_Return_none ⟨.non,σ,H,I,rfl,h⟩
def tIfS (c:TT) (t u:TS):TS:=λD σ H=>c σ H λb H1=>if b=true then t D σ H1 else u D σ H1
theorem qd8 {c:Expr}{a b:List Stmt}{tc:TT}(hc:PT X c tc) (ha:PSs X a t) (hb:PSs X b u):PS X (.If c a b pos) (tIfS tc t u):=by
 intro j8 s σ H D I h;refine wpAny_If (thn (hc j8 s σ H _ I h) λd s1 ⟨H1,I1,q1⟩=>?_);cases d with
 |true=>exact ha j8 s1 σ H1 D I1 q1
 |false=>exact hb j8 s1 σ H1 D I1 q1
def xr3:TS:=λ_ _ _=>False
theorem qf7 {sts:List Stmt}:PSs X sts xr3:=λ_ _ _ _ _ _ h=>h.elim
end
abbrev TG:=V->St->Hp->(St->Hp->Prop)->Prop
abbrev TGs:=List V->St->Hp->(St->Hp->Prop)->Prop
def PG (X:Cx) (target:Expr) (t:TG):Prop:=
 ∀(j8:List (Addr×Obj)) (s:Shared) (σ:St) (H:Hp) (v:V) (u:Value) (Q:St->Hp->Prop),Inv X j8 σ H s->RelV v u->t v σ H Q ->
  wpAny (model X.prog X.w) X.A (assign target X.env u) (λ_ s'=>∃σ' H',Inv X j8 σ' H' s'/\Q σ' H') X.xe s
def PGs (X:Cx) (ts:List Expr) (t:TGs):Prop:=
 ∀(j8:List (Addr×Obj)) (s:Shared) (σ:St) (H:Hp) (vs:List V) (us:List Value) (Q:St->Hp->Prop),Inv X j8 σ H s->Vals vs us->t vs σ H Q ->
  wpAny (model X.prog X.w) X.A (assignInOrder ((assignEach ts X.env).map (·.2)) us) (λ_ s'=>∃σ' H',Inv X j8 σ' H' s'/\Q σ' H') X.xe s
abbrev TSet:=V->V->V->Hp->(Hp->Prop)->Prop
def PSet (X:Cx) (t:TSet):Prop:=
 ∀(j8:List (Addr×Obj)) (s:Shared) (σ:St) (H:Hp) (o i v:V) (ov iv u:Value) (Q:Hp->Prop),Inv X j8 σ H s->RelV o ov->RelV i iv->RelV v u->t o i v H Q ->
  wpAny (model X.prog X.w) X.A (setItem ov iv u) (λ_ s'=>∃H',Inv X j8 σ H' s'/\Q H') X.xe s
abbrev TIp:=V->V->Hp->VK->Prop
def PIp (X:Cx) (op:Operator) (t:TIp):Prop:=
 ∀(j8:List (Addr×Obj)) (s:Shared) (σ:St) (H:Hp) (x y:V) (v u:Value) (Q:VK),Inv X j8 σ H s->RelV x v->RelV y u->t x y H Q ->
  wpAny (model X.prog X.w) X.A (inplaceOp op v u) (EP X j8 σ Q) X.xe s
section
variable {X:Cx}{pos:Pos}
def qd1 (i:Nat):TG:=λv σ H Q=>Q (σ.set i (some v)) H
theorem qh2 {i:Nat}{x:Str}(hN:X.N.Nodup) (hi:X.N[i]?=some x) (hx:Loc X.env.scope x) (hf:X.fn x=true\/X.env.scope.names.lookup x=some .local:=by first|exact .inl rfl|exact .inr rfl|assumption):PG X (.Name x pos) (qd1 i):=by
 intro j8 s σ H v u Q I r h;exact wpAny_assign_Name (qr1 I hN hi hx r (λs' I'=>⟨_,H,I',h⟩) hf)
def gNil:TGs:=λvs σ H Q=>vs=[]/\Q σ H
inductive gCons_ (t:TG) (u:TGs) (vs:List V) (σ:St) (H:Hp) (Q:St->Hp->Prop):Prop
 |mk (v:_) (r:_) (e0:vs=v::r) (e1:t v σ H λσ' H'=>u r σ' H' Q)
def qe5 (t:TG) (u:TGs):TGs:=λvs σ H Q=>gCons_ t u vs σ H Q
theorem qf8:PGs X [] gNil:=by
 intro j8 s σ H vs us Q I r h;obtain⟨e,h⟩:=h;subst e;cases r;exact assignInOrder_nil ⟨σ,H,I,h⟩
theorem qb6 {e:Expr}{es:List Expr}{t:TG}{u:TGs}(h1:PG X e t) (h2:PGs X es u)
  (hs:(assignEach (e::es) X.env).map (·.2)=assign e X.env::(assignEach es X.env).map (·.2):=by rfl):PGs X (e::es) (qe5 t u):=by
 intro j8 s σ H vs us Q I r h;obtain⟨v,vr,e1,h⟩:=h;subst e1;cases r with
 |cons r rr=>
  rw[hs];refine assignInOrder_cons (thn (h1 j8 s σ H _ _ _ I r h) λ_ s1 ⟨σ1,H1,I1,q1⟩=>?_);exact h2 j8 s1 σ1 H1 _ _ Q I1 rr q1
inductive gTup_ (K:PySem.W.Frag) (n:Nat) (t:TGs) (v:V) (σ:St) (H:Hp) (Q:St->Hp->Prop):Prop
 |mk (a:_) (xs:_) (e0:v=.ref a) (e1:SqT K H a xs) (e2:xs.length=n) (e3:t xs σ H Q)
def gTup (K:PySem.W.Frag) (n:Nat) (t:TGs):TG:=λv σ H Q=>gTup_ K n t v σ H Q
theorem qj0 {es:List Expr}{k:Nat}{t:TGs}{n:Nat}(hc:X.calm=true) (h:PGs X es t)
  (hn:(assignEach es X.env).length=n:=by rfl) (jP:(assignEach es X.env).findIdx? (·.1)=none:=by rfl):PG X (.Tuple es k pos) (gTup X.K n t):=by
 intro j8 s σ H v u Q I r hw;obtain⟨a,xs,e1,hq,hl,hw⟩:=hw;subst e1;cases r;obtain⟨its,rv,ht,hz⟩:=I.tuple hq;refine assign_Tuple_tuple (I.ok.hd hc) ht (by simp[hn,<- hl,rv.length]) jP λh' hx=>?_;have I1:Inv X j8 σ H { s with heap:=h' }:=I.kept (t':=s.toks) λb o e=>hx b o (Zp (Zi e)) e;exact h j8 _ σ H xs _ Q I1 (by simpa using rv) hw
def gSub (to ti:TE) (t:TSet):TG:=λv σ H Q=>to σ H λo H1=>ti σ H1 λi H2=>t o i v H2 λH3=>Q σ H3
theorem xf3 {o i:Expr}{to ti:TE}{t:TSet}(ho:PE X o to) (hi:PE X i ti) (hs:PSet X t)
  (ha:∀v,assign (.Subscript o i pos) X.env v=(do
   let ov <- holding [v] (eval o X.env)
   let iv <- holding [v,ov] (eval i X.env)
   standAt pos
   holding [v,ov,iv] (setItem ov iv v)
   release [v,ov,iv] []):=by intro _;rfl):PG X (.Subscript o i pos) (gSub to ti t):=by
 intro j8 s σ H v u Q I r h;rw[ha];refine Za (ZX (thn (ho j8 s σ H _ I h) λov s1 ⟨x,H1,I1,r1,q1⟩=>?_));refine Za (ZX (thn (hi j8 s1 σ H1 _ I1 q1) λiv s2 ⟨y,H2,I2,r2,q2⟩=>?_));refine Za (wpAny_standAt (Za (ZX (thn (hs j8 s2 σ H2 x y v ov iv u _ I2 r1 r2 r q2) λ_ s3 ⟨H3,I3,q3⟩=>?_))));exact wpAny_release ⟨σ,H3,I3,q3⟩
def tAsg (te:TE) (g:TG):TS:=λD σ H=>te σ H λx H1=>g x σ H1 D.nx
theorem ql3 {tg e:Expr}{te:TE}{g:TG}(he:PE X e te) (hg:PG X tg g) (hs:swapsWithSole [tg] e pos.line X.env=pure false:=by rfl) (hw:swappedStores [tg] e X.env=pure none:=by rfl)
  (h1:(assignEach [tg] X.env).map (·.2)=[assign tg X.env]:=by rfl):PS X (.Assign [tg] e pos) (tAsg te g):=by
 intro j8 s σ H D I h;refine wpAny_Assign_stores (thn (he j8 s σ H _ I h) λv s1 ⟨x,H1,I1,r1,q1⟩=>?_) hs hw;rw[h1];exact thn (hg j8 s1 σ H1 x v _ I1 r1 q1) λ_ s2 q=>q
theorem xr4 {i:Nat}{x:Str}{e:Expr}{te:TE}{pos':Pos}(hN:X.N.Nodup) (hi:X.N[i]?=some x) (hx:Loc X.env.scope x) (he:PE X e te) (hs:swapsWith e (some (.Name x pos')) pos.line X.env=pure false:=by rfl) (hf:X.fn x=true\/X.env.scope.names.lookup x=some .local:=by first|exact .inl rfl|exact .inr rfl|assumption) :
  PS X (.Assign [.Name x pos'] e pos) (tAsg te (qd1 i)):=by
 intro j8 s σ H D I h;refine wpAny_Assign_Name (thn (he j8 s σ H _ I h) λv s1 ⟨y,H1,I1,r1,q1⟩=>?_) hs;exact qr1 I1 hN hi hx r1 (λs2 I2=>⟨_,H1,I2,q1⟩) hf
inductive tAug_ (i:Nat) (te:TE) (ti:TIp) (D:Ends) (σ:St) (H:Hp):Prop
 |mk (x:_) (e0:σ[i]?=some (some x)) (e1:te σ H λy H1=>ti x y H1 λz H2=>D.nx (σ.set i (some z)) H2)
def tAug (i:Nat) (te:TE) (ti:TIp):TS:=λD σ H=>tAug_ i te ti D σ H
theorem xf4 {i:Nat}{x:Str}{e:Expr}{te:TE}{op:Operator}{ti:TIp}{pos':Pos}(hN:X.N.Nodup) (hi:X.N[i]?=some x) (hx:Loc X.env.scope x) (he:PE X e te) (ho:PIp X op ti) (hf:X.fn x=true\/X.env.scope.names.lookup x=some .local:=by first|exact .inl rfl|exact .inr rfl|assumption) :
  PS X (.AugAssign (.Name x pos') op e pos) (tAug i te ti):=by
 intro j8 s σ H D I h;obtain⟨v,e1,h⟩:=h;obtain⟨m,hn,hl⟩:=I.loc;have vis:Vis X.env.scope x:=by rcases hx with k|k;exact .inl k;exact .inr (.inl k)
 obtain⟨u,r,l⟩:=hl i x v hi e1 vis;refine wpAny_AugAssign_Name ?_;have go:wpAny (model X.prog X.w) X.A (eval e X.env) (λw s₂=>wpAny (model X.prog X.w) X.A (inplaceOp op u w) (λr s₃=>wpAny (model X.prog X.w) X.A (storeName X.env x r) (λ_=>SP X j8 D .next) X.xe s₃) X.xe s₂) X.xe s:=by
  refine thn (he j8 s σ H _ I h) λw s1 ⟨y,H1,I1,r1,q1⟩=>?_;refine thn (ho j8 s1 σ H1 v y u w _ I1 r r1 q1) λz s2 ⟨zv,H2,I2,r2,q2⟩=>?_;exact qr1 I2 hN hi hx r2 (λs3 I3=>⟨_,H2,I3,q2⟩) hf
 rcases l with ⟨hk,hm⟩|⟨hk,c,hc,jA⟩
 ·exact wpAny_loadName_local I.ok.kind hk hn hm go
 ·rcases hk with hk|hk
  ·exact wpAny_loadName_cell I.ok.kind hk hc jA go
  ·rcases hx with k|k
   ·have:X.env.scope.names.lookup x=some .free:=hk;rw[k] at this;cases this
   ·have:X.env.scope.names.lookup x=some .free:=hk;rw[k] at this;cases this
end
section
variable {X:Cx}{pos:Pos}
def xr5 (c:TT) (tb:TS):TS:=λD σ H=>∃W:Nat->St->Hp->Prop,(∃m,W m σ H)/\∀m σ H,W m σ H ->
 c σ H λb H1=>if b=true then ∃N:St->Hp->Prop,(∀σ' H',N σ' H'->∃m',m'<m/\W m' σ' H')/\tb { D with nx:=N,ct:=N,bk:=D.nx } σ H1 else D.nx σ H1
theorem q84 {c:Expr}{body:List Stmt}{tc:TT}{tb:TS}(hp:PassesOwn (model X.prog X.w) X.A X.env X.xe) (hc:PT X c tc) (hb:PSs X body tb):PS X (.While c body [] pos) (xr5 tc tb):=by
 intro j8 s σ H D I h;obtain⟨W,⟨m0,w0⟩,turn⟩:=h;refine wpAny_While (codeAny_whileLoop (λn s'=>∃σ' H',Inv X j8 σ' H' s'/\W n σ' H') ?_ m0 ⟨σ,H,I,w0⟩);rintro n s1 ⟨σ1,H1,I1,w1⟩;refine Xz hp (thn (hc j8 s1 σ1 H1 _ I1 (turn n σ1 H1 w1)) λb s2 ⟨H2,I2,q2⟩=>?_);cases b with
 |true=>
  obtain⟨N,hN,q2⟩:=q2;rw[Zt rfl];refine Xz hp (thn (hb j8 s2 σ1 H2 _ I2 q2) λf s3 q3=>?_);cases f with
  |next=>
   obtain⟨σ3,H3,I3,n3⟩:=q3;obtain⟨m',hm,w3⟩:=hN σ3 H3 n3;exact⟨m',hm,σ3,H3,I3,w3⟩
  |cont=>
   obtain⟨σ3,H3,I3,n3⟩:=q3;obtain⟨m',hm,w3⟩:=hN σ3 H3 n3;exact⟨m',hm,σ3,H3,I3,w3⟩
  |brk=>exact q3
  |ret v=>exact q3
 |false=>
  rw[Zl Zq];exact Wy ⟨σ1,H2,I2,q2⟩
end
structure It where
 go:Nat->Hp->Prop
 yld:Nat->Hp->V->Hp->Prop
 stop:Nat->Hp->Prop
def FpOk (X:Cx) (j8:List (Addr×Obj)) (H:Hp) (b:Addr):Prop:=
 H b=none/\b≠X.env.locals/\b∉X.fs/\(b∈X.ex\/X.s₀.heap.objs.size<=b)/\(∀x c,X.env.cells.lookup x=some c->c≠b)/\∀p∈X.pn++j8,p.1≠b
theorem Inv.fpOk {X:Cx}{j8:List (Addr×Obj)}{σ:St}{H H':Hp}{s:Shared}{b:Addr}(I:Inv X j8 σ H s) (hb:s.heap.objs.size<=b) (hn:H' b=none):FpOk X j8 H' b:=by
 refine⟨hn,XE (ZO I.lt hb),I.nofs hb,.inr (ZG I.sz hb),λx c e z=>?_,λp hp z=>?_⟩
 ·obtain⟨v,q⟩:=I.cell x c e;exact absurd (ZO q.lt (by rw[z];exact hb)) (Yk _)
 ·exact absurd (ZO (Zi (I.pin p hp).1) (by rw[z];exact hb)) (Yk _)
structure Turn (P:Program) (w:World) (K:PySem.W.Frag) (tg:Expr) (J:It) (fp:List Addr) (it:Addr) (tn:Nat->Heap->Prop):Prop where
 mem:it∈fp
 obj:∀i h,tn i h->∀b∈fp,∃o,h.get? b=some o/\∀v,o.data≠.cell v
 keep:∀i h h',tn i h->(∀b∈fp,∀o,h.get? b=some o->h'.get? b=some o)->tn i h'
 item:∀(X:Cx),X.prog=P->X.w=w->X.K=K->X.calm=true->∀(i:Nat) (j8:List (Addr×Obj)) (s:Shared) (σ:St) (H:Hp) (E:Value->Shared->Prop),Inv X j8 σ H s->(∀b∈fp,FpOk X j8 H b)->tn i s.heap->J.go i H ->
  wpAny (model P w) X.A (pyNext (.ref it)) (λr s1=>∃u,r=some u /\
   wpAny (model P w) X.A (letOwnedTupleGo tg (.ref it) u) (λ_ s2=>∃x H',Inv X j8 σ H' s2/\RelV x u/\J.yld i H x H'/\tn (i+1) s2.heap/\∀b∈fp,H' b=none) E s1) E s
 done:∀(X:Cx),X.prog=P->X.w=w->X.K=K->X.calm=true->∀(i:Nat) (j8:List (Addr×Obj)) (s:Shared) (σ:St) (H:Hp) (E:Value->Shared->Prop),Inv X j8 σ H s->(∀b∈fp,FpOk X j8 H b)->tn i s.heap->J.stop i H ->
  wpAny (model P w) X.A (pyNext (.ref it)) (λr s1=>r=none/\Inv X j8 σ H s1) E s
 self:∀(A:Around) (i:Nat) (s:Shared) (Q:Value->Shared->Prop) (E:Value->Shared->Prop),tn i s.heap->Q (.ref it) s->wpAny (model P w) A (pyIter (.ref it)) Q E s
abbrev TI:=St->Hp->(It->Hp->Prop)->Prop
def PIE (X:Cx) (j8:List (Addr×Obj)) (σ:St) (tg:Expr) (R:It->Hp->Prop) (itv:Value) (s2:Shared):Prop:=
 ∃(it:Addr) (fp:List Addr) (tn:Nat->Heap->Prop) (J:It) (H':Hp),itv=.ref it/\Inv X j8 σ H' s2/\Turn X.prog X.w X.K tg J fp it tn/\tn 0 s2.heap/\(∀b∈fp,FpOk X j8 H' b)/\R J H'
def PI (X:Cx) (tg iter:Expr) (wi:TI):Prop:=
 ∀(j8:List (Addr×Obj)) (s:Shared) (σ:St) (H:Hp) (R:It->Hp->Prop),Inv X j8 σ H s->wi σ H R ->
  wpAny (model X.prog X.w) X.A (eval iter X.env) (λv s1=>wpAny (model X.prog X.w) X.A (pyIter v) (PIE X j8 σ tg R) X.xe s1) X.xe s
theorem xj2 {M:Model}{A:Around}{E:Value->Shared->Prop}{s:Shared}{tg:Expr}{it:Addr}{u:Value}{o:Obj}{n:String}{vs:Array Value}{Q:Unit->Shared->Prop}(ho:s.heap.get? it=some o) (hc:o.cls=.type n) (hd:o.data=.fields vs)
  (hn:["enumerate", "zip", "dict_itemiterator", "dict_reverseitemiterator", "odict_iterator", "itertools.zip_longest", "itertools.pairwise"].contains n=false) (hQ:Q () s):wpAny M A (letOwnedTupleGo tg (.ref it) u) Q E s:=by
 unfold letOwnedTupleGo;cases tg<;>first
  |exact Zc hQ
  |(cases u<;>first
    |exact Zc hQ
    |(refine Za (wpAny_load ho ?_)
      rw[hc,hd];show wpAny M A (if (["enumerate", "zip", "dict_itemiterator", "dict_reverseitemiterator", "odict_iterator", "itertools.zip_longest", "itertools.pairwise"].contains n&&vs[0]?==some (rawInt _))=true then _ else _) Q E s;rw[Zl (by intro h;rw[hn,Wf] at h;cases h)];exact Zc hQ))
def Itl (K:PySem.W.Frag) (a:Addr):It:=
 ⟨λi H=>∃xs x,SqL K H a xs/\xs[i]?=some x,λi H x H'=>H'=H/\∀xs,SqL K H a xs->xs[i]?=some x,λi H=>∃xs,SqL K H a xs/\xs.length<=i⟩
def Itt (K:PySem.W.Frag) (a:Addr):It:=
 ⟨λi H=>∃xs x,SqT K H a xs/\xs[i]?=some x,λi H x H'=>H'=H/\∀xs,SqT K H a xs->xs[i]?=some x,λi H=>∃xs,SqT K H a xs/\xs.length<=i⟩
def Itr (lo:Int) (n:Nat):It:=⟨λi _=>i<n,λi H x H'=>H'=H/\x=.int (lo+i),λi _=>n<=i⟩
theorem qU1 {P:Program}{w:World}{K:PySem.W.Frag}{tg:Expr}(a it:Addr):Turn P w K tg (Itl K a) [it] it (λi h=>h.IsListIter it a i) where
 mem:=by simp
 obj:=λi h st b hb=>by
  have e:b=it:=by simpa using hb
  subst e;obtain⟨o,e,c,d⟩:=st;exact⟨o,e,λv z=>by rw[d] at z;cases z⟩
 keep:=λi h h' st k=>st.at λo e=>k it (by simp) o e
 item:=by
  intro X hP hw hK hc i j8 s σ H E I hf st hg;subst hP hw hK;obtain⟨xs,x,hq,hx⟩:=hg;obtain⟨its,rv,p,hz⟩:=I.list hq;obtain⟨u,hu,ru⟩:=rv.get hx;obtain⟨f0,f1,f2,f3,f4,f5⟩:=hf it (by simp);refine wpAny_pyNext_list_item st p.isList (x:=u) (by simpa using hu) λh' st' sb=>?_;have I1:Inv X j8 σ H { s with heap:=h' }:=I.turned (t':=s.toks) (λb o hb e=>(sb.2 b hb).trans e) f0 f1 f3 f4 f5;obtain⟨o,e,c,d⟩:=id st';exact⟨u,rfl,xj2 (s:={ s with heap:=h' }) e c d (by decide) ⟨x,H,I1,ru,⟨rfl,λys hy=>by rw[I.list_inj hy hq];exact hx⟩,st',λb hb=>(hf b hb).1⟩⟩
 done:=by
  intro X hP hw hK hc i j8 s σ H E I hf st hg;subst hP hw hK;obtain⟨xs,hq,hx⟩:=hg;obtain⟨its,rv,p,hz⟩:=I.list hq;obtain⟨f0,f1,f2,f3,f4,f5⟩:=hf it (by simp);have hl:=rv.length;exact wpAny_pyNext_list_end (I.ok.hd hc) st p.isList (by simp;lia) λh' eb=>⟨rfl,I.turned (t':=s.toks) (λb o hb e=>eb b o hb e) f0 f1 f3 f4 f5⟩
 self:=λ_ _ _ _ _ st h=>wpAny_pyIter_listiter st h
theorem qQ1 {P:Program}{w:World}{K:PySem.W.Frag}{tg:Expr}(a it:Addr):Turn P w K tg (Itt K a) [it] it (λi h=>h.IsTupleIter it a i) where
 mem:=by simp
 obj:=λi h st b hb=>by
  have e:b=it:=by simpa using hb
  subst e;obtain⟨o,e,c,d⟩:=st;exact⟨o,e,λv z=>by rw[d] at z;cases z⟩
 keep:=λi h h' st k=>st.at λo e=>k it (by simp) o e
 item:=by
  intro X hP hw hK hc i j8 s σ H E I hf st hg;subst hP hw hK;obtain⟨xs,x,hq,hx⟩:=hg;obtain⟨its,rv,p,hz⟩:=I.tuple hq;obtain⟨u,hu,ru⟩:=rv.get hx;obtain⟨f0,f1,f2,f3,f4,f5⟩:=hf it (by simp);refine wpAny_pyNext_tuple_item st (show s.heap.IsTuple a its.toArray from p) (x:=u) (by simpa using hu) λh' st' sb=>?_;have I1:Inv X j8 σ H { s with heap:=h' }:=I.turned (t':=s.toks) (λb o hb e=>(sb.2 b hb).trans e) f0 f1 f3 f4 f5;obtain⟨o,e,c,d⟩:=id st';exact⟨u,rfl,xj2 (s:={ s with heap:=h' }) e c d (by decide) ⟨x,H,I1,ru,⟨rfl,λys hy=>by rw[I.tuple_inj hy hq];exact hx⟩,st',λb hb=>(hf b hb).1⟩⟩
 done:=by
  intro X hP hw hK hc i j8 s σ H E I hf st hg;subst hP hw hK;obtain⟨xs,hq,hx⟩:=hg;obtain⟨its,rv,p,hz⟩:=I.tuple hq;obtain⟨f0,f1,f2,f3,f4,f5⟩:=hf it (by simp);have hl:=rv.length;exact wpAny_pyNext_tuple_end (I.ok.hd hc) st (show s.heap.IsTuple a its.toArray from p) (by simp;lia) λh' eb=>⟨rfl,I.turned (t':=s.toks) (λb o hb e=>eb b o hb e) f0 f1 f3 f4 f5⟩
 self:=λ_ _ _ _ _ st h=>wpAny_pyIter_tupleiter st h
theorem qQ2 {P:Program}{w:World}{K:PySem.W.Frag}{tg:Expr}(it:Addr) (lo:Int) (n:Nat):Turn P w K tg (Itr lo n) [it] it (λi h=>IsRangeIter h it (lo+(i:Nat)*1) ((n:Int)-(i:Nat)) 1) where
 mem:=by simp
 obj:=λi h st b hb=>by
  have e:b=it:=by simpa using hb
  subst e;exact⟨_,st,λv z=>by
   have z':Data.fields _=Data.cell v:=z;cases z'⟩
 keep:=λi h h' st k=>k it (by simp) _ st
 item:=by
  intro X hP hw hK hc i j8 s σ H E I hf st hg;subst hP hw hK;obtain⟨f0,f1,f2,f3,f4,f5⟩:=hf it (by simp);have W:=Walks.range (prog:=X.prog) (w:=X.w) (I.ok.hd hc) it lo 1 n;refine W.item i s _ _ hg st λv h' tk hv st' kk=>?_;obtain⟨t,rfl⟩:=hv;have I1:Inv X j8 σ H { s with heap:=h',toks:=tk }:=I.turned (λb o hb e=>kk b o (by simpa using hb) e) f0 f1 f3 f4 f5;refine⟨_,rfl,xj2 (s:={ s with heap:=h',toks:=tk }) (n:= "range_iterator") st' rfl rfl (by decide) ⟨.int (lo+i),H,I1,⟨t,?_⟩,⟨rfl,rfl⟩,st',λb hb=>(hf b hb).1⟩⟩;rw[Int.mul_one]
 done:=by
  intro X hP hw hK hc i j8 s σ H E I hf st hg;subst hP hw hK;obtain⟨f0,f1,f2,f3,f4,f5⟩:=hf it (by simp);exact wpAny_pyNext_range_end (I.ok.hd hc) st (by have:n<=i:=hg;lia) λh' eb=>⟨rfl,I.turned (t':=s.toks) (λb o hb e=>eb b o hb e) f0 f1 f3 f4 f5⟩
 self:=λ_ _ _ _ _ st h=>wpAny_pyIter_rangeiter st h
section
variable {X:Cx}{tg:Expr}
inductive iList_ (K:PySem.W.Frag) (R:It->Hp->Prop) (x:V) (H1:Hp):Prop
 |mk (a:_) (e0:x=.ref a) (e1:(∃xs,SqL K H1 a xs)) (e2:R (Itl K a) H1)
def xz4 (K:PySem.W.Frag) (tl:TE):TI:=λσ H R=>tl σ H λx H1=>iList_ K R x H1
inductive iTup_ (K:PySem.W.Frag) (R:It->Hp->Prop) (x:V) (H1:Hp):Prop
 |mk (a:_) (e0:x=.ref a) (e1:(∃xs,SqT K H1 a xs)) (e2:R (Itt K a) H1)
def iTup (K:PySem.W.Frag) (tl:TE):TI:=λσ H R=>tl σ H λx H1=>iTup_ K R x H1
theorem qj1 {l:Expr}{tl:TE}(hl:PE X l tl):PI X tg l (xz4 X.K tl):=by
 intro j8 s σ H R I h;refine thn (hl j8 s σ H _ I h) λv s1 ⟨x,H1,I1,r1,q1⟩=>?_;obtain⟨a,e,⟨xs,hq⟩,q⟩:=q1;subst e;cases r1;obtain⟨its,rv,p,hz⟩:=I1.list hq;refine Xf p.isList ?_;refine⟨s1.heap.objs.size,[s1.heap.objs.size],_,_,H1,rfl,I1.kept (t':=s1.toks) λb o e=>Zb _ e,qU1 a _,⟨_,Zh _ rfl,rfl,rfl⟩,λb hb=>?_,q⟩;have e:b=s1.heap.objs.size:=by simpa using hb
 subst e;exact I1.fpOk (Ze _) (I1.hok.fresh (Ze _))
theorem qw7 {l:Expr}{tl:TE}(hl:PE X l tl):PI X tg l (iTup X.K tl):=by
 intro j8 s σ H R I h;refine thn (hl j8 s σ H _ I h) λv s1 ⟨x,H1,I1,r1,q1⟩=>?_;obtain⟨a,e,⟨xs,hq⟩,q⟩:=q1;subst e;cases r1;obtain⟨its,rv,p,hz⟩:=I1.tuple hq;refine Xu (show s1.heap.IsTuple a its.toArray from p) ?_;refine⟨s1.heap.objs.size,[s1.heap.objs.size],_,_,H1,rfl,I1.kept (t':=s1.toks) λb o e=>Zb _ e,qQ1 a _,⟨_,Zh _ rfl,rfl,rfl⟩,λb hb=>?_,q⟩;have e:b=s1.heap.objs.size:=by simpa using hb
 subst e;exact I1.fpOk (Ze _) (I1.hok.fresh (Ze _))
theorem range_it {j8:List (Addr×Obj)}{σ:St}{H:Hp}{s:Shared}{R:It->Hp->Prop}{E:Value->Shared->Prop}{lo hi:Int}{t u v:Tok}{tk:Nat}(I:Inv X j8 σ H s) (h1:-(2^62)<=lo) (h2:lo<2^62) (h3:-(2^62)<=hi) (h4:hi<2^62)
  (q:R (Itr lo (hi-lo).toNat) H):wpAny (model X.prog X.w) X.A (pyIter (.ref s.heap.objs.size)) (PIE X j8 σ tg R) E { s with heap:=s.heap.push { cls:=.type "range",data:=.fields #[.int lo t,.int hi u,.int 1 v] },toks:=tk }:=by
 refine wpAny_pyIter_range (IsRange.new ..) (small_one h1 h2 h3 h4) ?_;have I1:Inv X j8 σ H { s with heap:=s.heap.push { cls:=.type "range",data:=.fields #[.int lo t,.int hi u,.int 1 v] },toks:=tk }:=I.kept λb o e=>Zb _ e;refine⟨(s.heap.push { cls:=.type "range",data:=.fields #[.int lo t,.int hi u,.int 1 v] }).objs.size,[(s.heap.push { cls:=.type "range",data:=.fields #[.int lo t,.int hi u,.int 1 v] }).objs.size],_,_,H,rfl,
  I1.kept (t':=tk) λb o e=>Zb _ e,qQ2 _ lo (hi-lo).toNat,?_,λb hb=>?_,q⟩
 ·have e1:lo+((0:Nat):Int)*1=lo:=by simp
  have e2:(((hi-lo).toNat:Nat):Int)-((0:Nat):Int)=Builtin.Range.rangeSize lo hi 1:=by rw[rangeSize_one];split<;>lia
  show IsRangeIter _ _ (lo+((0:Nat):Int)*1) ((((hi-lo).toNat:Nat):Int)-((0:Nat):Int)) 1;rw[e1,e2];exact Zh _ rfl
 ·have e:b=(s.heap.push { cls:=.type "range",data:=.fields #[.int lo t,.int hi u,.int 1 v] }).objs.size:=by simpa using hb
  subst e;exact I1.fpOk (Ze _) (I1.hok.fresh (Ze _))
inductive iRng1_ (R:It->Hp->Prop) (vs:List V) (H1:Hp):Prop
 |mk (j:Int) (e0:vs=[.int j]) (e1:-(2^62)<=j) (e2:j<2^62) (e3:R (Itr 0 j.toNat) H1)
def xr6 (ta:TA):TI:=λσ H R=>ta σ H λvs H1=>iRng1_ R vs H1
theorem qh4 {a:Expr}{ta:TA}{p pos:Pos}(hg:Gl X "range") (hm:X.mg "range" = none) (ha:PA X [a] ta) (hs:starEach [a] X.env=[(false,eval a X.env)]:=by rfl):PI X tg (.Call (.Name "range" p) [a] [] pos) (xr6 ta):=by
 intro j8 s σ H R I h;refine Call_ (qs8 I hg hm boot_range (Xn (thn (ha pos j8 s σ H _ I h) λus s1 ⟨vs,H1,I1,r1,q1⟩=>?_) hs rfl));obtain⟨j,e,q1,q2,q⟩:=q1;subst e;cases r1 with
 |cons r rr=>
  cases rr;obtain⟨t,rfl⟩:=r;exact call_range_1 (range_it I1 (by lia) (by lia) q1 q2 (by simpa using q))
def tFor (wi:TI) (g:TG) (tb:TS):TS:=λD σ H=>wi σ H λJ H1=>∃W:Nat->Nat->St->Hp->Prop,(∃m,W 0 m σ H1)/\∀i m σ H,W i m σ H ->
 (J.stop i H/\D.nx σ H)\/(J.go i H/\∃N:St->Hp->Prop,(∀σ' H',N σ' H'->∃m',m'<m/\W (i+1) m' σ' H')/\∀x H',J.yld i H x H'->g x σ H' λσ2 H2=>tb { D with nx:=N,ct:=N,bk:=D.nx } σ2 H2)
def qw8 (fp:List Addr) (h:Heap):List (Addr×Obj):=fp.filterMap λb=>(h.get? b).map λo=>(b,o)
theorem qh5 {fp:List Addr}{h:Heap}{b:Addr}{o:Obj}(hb:b∈fp) (e:h.get? b=some o):(b,o)∈qw8 fp h:=WF.mpr ⟨b,hb,by rw[e];rfl⟩
theorem qU2 {fp:List Addr}{h:Heap}{p:Addr×Obj}(hp:p∈qw8 fp h):p.1∈fp/\h.get? p.1=some p.2:=by
 obtain⟨b,hb,e⟩:=WF.mp hp;cases q:h.get? b with
 |none=>rw[q] at e;cases e
 |some o=>
  rw[q] at e;have e':(b,o)=p:=ZM e;subst e';exact⟨hb,q⟩
theorem Inv.pinned {j8:List (Addr×Obj)}{σ:St}{H:Hp}{s:Shared}{fp:List Addr}(I:Inv X j8 σ H s) (hf:∀b∈fp,FpOk X j8 H b) (ho:∀b∈fp,∃o,s.heap.get? b=some o/\∀v,o.data≠.cell v):Inv X (j8++qw8 fp s.heap) σ H s:=
 I.pins_of λp hp=>(Z7.mp hp).elim (λz=>I.pin p (ZT _ z)) λz=>by
  obtain⟨hb,e⟩:=qU2 z;obtain⟨f0,f1,f2,_⟩:=hf p.1 hb;obtain⟨o,e',d⟩:=ho p.1 hb;rw[e] at e';cases e';exact⟨e,f0,f1,f2,d⟩
theorem Inv.unpinned {j8 pl:List (Addr×Obj)}{σ:St}{H:Hp}{s:Shared}(I:Inv X (j8++pl) σ H s):Inv X j8 σ H s:=I.pins_of λp hp=>I.pin p (ZT _ (XD _ hp))
theorem qq2 {iter:Expr}{body:List Stmt}{wi:TI}{g:TG}{tb:TS}{pos:Pos}(hp:PassesOwn (model X.prog X.w) X.A X.env X.xe) (hc:X.calm=true) (hi:PI X tg iter wi) (hg:PG X tg g) (hb:PSs X body tb)
  (hs:∀x,foldedSetIterable iter X.env x=pure x:=by intro _;rfl):PS X (.For tg iter body [] pos) (tFor wi g tb):=by
 intro j8 s σ H D I h;refine wpAny_For (thn (hi j8 s σ H _ I h) λv s1 h1=>thn h1 λitv s2 h2=>?_) hs;obtain⟨it,fp,tn,J,H2,e,I2,T,st2,f2,W,⟨m0,w0⟩,turn⟩:=h2;subst e;have stat:∀{H':Hp},(∀b∈fp,H' b=none)->∀b∈fp,FpOk X j8 H' b:=λhn b hb=>⟨hn b hb,(f2 b hb).2⟩;refine codeAny_forLoop_any (λn s'=>∃i σ' H',Inv X j8 σ' H' s'/\tn i s'.heap/\(∀b∈fp,H' b=none)/\W i n σ' H') ?_ m0 ⟨0,σ,H2,I2,st2,λb hb=>(f2 b hb).1,w0⟩;rintro n s3 ⟨i,σ3,H3,I3,st3,fr3,w3⟩;rcases turn i n σ3 H3 w3 with ⟨stop,qn⟩|⟨go,N,hN,step⟩
 ·refine Xz hp (thn (T.done X rfl rfl rfl hc i j8 s3 σ3 H3 X.xe I3 (stat fr3) st3 stop) λr s4 ⟨hr,I4⟩=>?_);subst hr;exact Wy ⟨σ3,H3,I4,qn⟩
 ·refine Xz hp (thn (T.item X rfl rfl rfl hc i j8 s3 σ3 H3 X.xe I3 (stat fr3) st3 go) λr s4 ⟨u,hr,h4⟩=>?_);subst hr;refine Xz hp (thn h4 λ_ s5 ⟨x,H5,I5,r5,y5,st5,fr5⟩=>?_);have I5':=I5.pinned (stat fr5) (T.obj _ _ st5);refine Xz hp (thn (hg _ s5 σ3 H5 x u _ I5' r5 (step x H5 y5)) λ_ s6 ⟨σ6,H6,I6,q6⟩=>?_);refine Xz hp (thn (hb _ s6 σ6 H6 _ I6 q6) λf s7 q7=>?_);have again:∀{σ7:St}{H7:Hp},Inv X (j8++qw8 fp s5.heap) σ7 H7 s7->N σ7 H7->∃m,m<n/\∃i σ' H',Inv X j8 σ' H' s7/\tn i s7.heap/\(∀b∈fp,H' b=none)/\W i m σ' H':=λ{σ7 H7} I7 n7=>by
   obtain⟨m',hm,w7⟩:=hN σ7 H7 n7;refine⟨m',hm,i+1,σ7,H7,I7.unpinned,T.keep _ _ _ st5 λb hb o e=>(I7.pin (b,o) (ZT _ (ZT _ (qh5 hb e)))).1,λb hb=>?_,w7⟩;obtain⟨o,e,d⟩:=T.obj _ _ st5 b hb;exact (I7.pin (b,o) (ZT _ (ZT _ (qh5 hb e)))).2.1
  cases f with
  |next=>obtain⟨σ7,H7,I7,n7⟩:=q7;exact again I7 n7
  |cont=>obtain⟨σ7,H7,I7,n7⟩:=q7;exact again I7 n7
  |brk=>obtain⟨σ7,H7,I7,q7⟩:=q7;exact⟨σ7,H7,I7.unpinned,q7⟩
  |ret v=>obtain⟨x7,σ7,H7,I7,r7,q7⟩:=q7;exact⟨x7,σ7,H7,I7.unpinned,r7,q7⟩
end
theorem qI3 {K:PySem.W.Frag}{a:Addr}{xs:List V}{g:TG}{tb:TS}{D:Ends}{σ:St}{H:Hp}(Pv:Nat->St->Hp->Prop) (h0:Pv 0 σ H) (hl:∀i σ H,i<=xs.length->Pv i σ H->SqT K H a xs)
  (hs:∀i x σ H,xs[i]?=some x->Pv i σ H->g x σ H λσ2 H2=>tb { D with nx:=Pv (i+1),ct:=Pv (i+1),bk:=D.nx } σ2 H2) (hd:∀σ H,Pv xs.length σ H->D.nx σ H) :
  ∃W:Nat->Nat->St->Hp->Prop,(∃m,W 0 m σ H)/\∀i m σ H,W i m σ H ->
   ((Itt K a).stop i H/\D.nx σ H)\/((Itt K a).go i H/\∃N:St->Hp->Prop,(∀σ' H',N σ' H'->∃m',m'<m/\W (i+1) m' σ' H')/\∀x H',(Itt K a).yld i H x H'->g x σ H' λσ2 H2=>tb { D with nx:=N,ct:=N,bk:=D.nx } σ2 H2):=by
 refine⟨λi m σ H=>m=xs.length-i/\i<=xs.length/\Pv i σ H,⟨xs.length,by simp,Zx _,h0⟩,?_⟩;rintro i m σ H ⟨rfl,hi,p⟩;have q:=hl i σ H hi p;by_cases jB:i<xs.length
 ·refine .inr ⟨⟨xs,xs[i],q,by simp[jB]⟩,Pv (i+1),λσ' H' p'=>⟨xs.length-(i+1),by lia,rfl,jB,p'⟩,λx H' y=>?_⟩;obtain⟨e,y⟩:=y;subst e;exact hs i x σ _ (y xs q) p
 ·have e:i=xs.length:=by lia
  subst e;exact .inl ⟨⟨xs,q,Ze _⟩,hd σ H p⟩
theorem qB6 {lo:Int}{n:Nat}{g:TG}{tb:TS}{D:Ends}{σ:St}{H:Hp}(Pv:Nat->St->Hp->Prop) (h0:Pv 0 σ H)
  (hs:∀i σ H,i<n->Pv i σ H->g (.int (lo+i)) σ H λσ2 H2=>tb { D with nx:=Pv (i+1),ct:=Pv (i+1),bk:=D.nx } σ2 H2) (hd:∀σ H,Pv n σ H->D.nx σ H) :
  ∃W:Nat->Nat->St->Hp->Prop,(∃m,W 0 m σ H)/\∀i m σ H,W i m σ H ->
   ((Itr lo n).stop i H/\D.nx σ H)\/((Itr lo n).go i H/\∃N:St->Hp->Prop,(∀σ' H',N σ' H'->∃m',m'<m/\W (i+1) m' σ' H')/\∀x H',(Itr lo n).yld i H x H'->g x σ H' λσ2 H2=>tb { D with nx:=N,ct:=N,bk:=D.nx } σ2 H2):=by
 refine⟨λi m σ H=>m=n-i/\i<=n/\Pv i σ H,⟨n,by simp,Zx _,h0⟩,?_⟩;rintro i m σ H ⟨rfl,hi,p⟩;by_cases jB:i<n
 ·refine .inr ⟨jB,Pv (i+1),λσ' H' p'=>⟨n-(i+1),by lia,rfl,jB,p'⟩,λx H' y=>?_⟩;obtain⟨e,y⟩:=y;subst e y;exact hs i σ _ jB p
 ·have e:i=n:=by lia
  subst e;exact .inl ⟨Ze _,hd σ H p⟩
abbrev R2:=V->V->Hp->VK->Prop
def OpR (X:Cx) (f:Value->Value->Sem Value) (r:R2):Prop:=
 ∀(j8:List (Addr×Obj)) (s:Shared) (σ:St) (H:Hp) (x y:V) (v u:Value) (Q:VK),Inv X j8 σ H s->RelV x v->RelV y u->r x y H Q ->
  wpAny (model X.prog X.w) X.A (f v u) (EP X j8 σ Q) X.xe s
def UnR (X:Cx) (f:Value->Sem Value) (r:V->Hp->VK->Prop):Prop:=
 ∀(j8:List (Addr×Obj)) (s:Shared) (σ:St) (H:Hp) (x:V) (v:Value) (Q:VK),Inv X j8 σ H s->RelV x v->r x H Q ->
  wpAny (model X.prog X.w) X.A (f v) (EP X j8 σ Q) X.xe s
def qe3 (X:Cx) (f:Value) (r:List V->Hp->VK->Prop):Prop:=
 ∀(j8:List (Addr×Obj)) (s:Shared) (σ:St) (H:Hp) (xs:List V) (us:List Value) (Q:VK),Inv X j8 σ H s->Vals xs us->r xs H Q ->
  wpAny (model X.prog X.w) X.A (call f us) (EP X j8 σ Q) X.xe s
def tOp (r:R2) (ta tb:TE):TE:=λσ H Q=>ta σ H λx H1=>tb σ H1 λy H2=>r x y H2 Q
def tUn (r:V->Hp->VK->Prop) (ta:TE):TE:=λσ H Q=>ta σ H λx H1=>r x H1 Q
inductive rI_ (C:Int->Int->Prop) (g:Int->Int->V) (x y:V) (H:Hp) (Q:VK):Prop
 |mk (i:_) (j:_) (e0:x=.int i) (e1:y=.int j) (e2:C i j) (e3:Q (g i j) H)
def rI (C:Int->Int->Prop) (g:Int->Int->V):R2:=λx y H Q=>rI_ C g x y H Q
inductive rI0_ (g:Int->Int->V) (x y:V) (H:Hp) (Q:VK):Prop
 |mk (i:_) (j:_) (e0:x=.int i) (e1:y=.int j) (e2:Q (g i j) H)
def rI0 (g:Int->Int->V):R2:=λx y H Q=>rI0_ g x y H Q
inductive rU_ (g:Int->V) (x:V) (H:Hp) (Q:VK):Prop
 |mk (i:_) (e0:x=.int i) (e1:Q (g i) H)
def rU (g:Int->V):V->Hp->VK->Prop:=λx H Q=>rU_ g x H Q
section
variable {X:Cx}{a b c:Expr}{ta tb tc:TE}{pos:Pos}
theorem binT (ha:PE X a ta) (hb:PE X b tb){j8:List (Addr×Obj)}{s:Shared}{σ:St}{H:Hp}{R:V->V->Hp->Prop}(I:Inv X j8 σ H s)
  (h:ta σ H λx H1=>tb σ H1 λy H2=>R x y H2){Q:Value->Shared->Prop}{f:Value->Value->Sem Value}
  (hf:∀v u s2 x y H2,Inv X j8 σ H2 s2->RelV x v->RelV y u->R x y H2->wpAny (model X.prog X.w) X.A (f v u) Q X.xe s2) :
  wpAny (model X.prog X.w) X.A (eval a X.env) (λv s₁=>wpAny (model X.prog X.w) X.A (eval b X.env) (λu s₂=>wpAny (model X.prog X.w) X.A (f v u) Q X.xe s₂) X.xe s₁) X.xe s:=by
 refine thn (ha j8 s σ H _ I h) λv s1 ⟨x,H1,I1,r1,q1⟩=>?_;refine thn (hb j8 s1 σ H1 _ I1 q1) λu s2 ⟨y,H2,I2,r2,q2⟩=>?_;exact hf v u s2 x y H2 I2 r1 r2 q2
theorem qa7 {op:Operator}{r:R2}(ho:OpR X (binaryOp op) r) (ha:PE X a ta) (hb:PE X b tb):PE X (.BinOp a op b pos) (tOp r ta tb):=by
 intro j8 s σ H Q I h;exact wpAny_BinOp (binT ha hb I h λv u s2 x y H2 I2 rx ry q=>ho j8 s2 σ H2 x y v u Q I2 rx ry q)
theorem xr7 {op:UnaryOp}{r:V->Hp->VK->Prop}(ho:UnR X (unaryOp op) r) (ha:PE X a ta):PE X (.UnaryOp op a pos) (tUn r ta):=by
 intro j8 s σ H Q I h;exact UnaryOp_ (thn (ha j8 s σ H _ I h) λv s1 ⟨x,H1,I1,r1,q1⟩=>ho j8 s1 σ H1 x v Q I1 r1 q1)
theorem opI {f:Value->Value->Sem Value}{C:Int->Int->Prop}{g:Int->Int->Int}
  (rule:∀(i j:Int) (t u:Tok) (s:Shared) (Q:Value->Shared->Prop) (E:Value->Shared->Prop),C i j->Q (.int (g i j) s.toks) { s with toks:=s.toks+1 }->wpAny (model X.prog X.w) X.A (f (.int i t) (.int j u)) Q E s) :
  OpR X f (rI C λi j=>.int (g i j)):=by
 intro j8 s σ H x y v u Q I rx ry h;obtain⟨i,j,rfl,rfl,hc,q⟩:=h;obtain⟨t,rfl⟩:=rx;obtain⟨t',rfl⟩:=ry;exact rule i j t t' s _ _ hc ⟨.int (g i j),H,I.tok _,⟨_,rfl⟩,q⟩
theorem opI0 {f:Value->Value->Sem Value}{g:Int->Int->Int}
  (rule:∀(i j:Int) (t u:Tok) (s:Shared) (Q:Value->Shared->Prop) (E:Value->Shared->Prop),Q (.int (g i j) s.toks) { s with toks:=s.toks+1 }->wpAny (model X.prog X.w) X.A (f (.int i t) (.int j u)) Q E s) :
  OpR X f (rI0 λi j=>.int (g i j)):=by
 intro j8 s σ H x y v u Q I rx ry h;obtain⟨i,j,rfl,rfl,q⟩:=h;obtain⟨t,rfl⟩:=rx;obtain⟨t',rfl⟩:=ry;exact rule i j t t' s _ _ ⟨.int (g i j),H,I.tok _,⟨_,rfl⟩,q⟩
theorem opB0 {f:Value->Value->Sem Value}{g:Int->Int->Bool}
  (rule:∀(i j:Int) (t u:Tok) (s:Shared) (Q:Value->Shared->Prop) (E:Value->Shared->Prop),Q (.bool (g i j)) s->wpAny (model X.prog X.w) X.A (f (.int i t) (.int j u)) Q E s) :
  OpR X f (rI0 λi j=>.bl (g i j)):=by
 intro j8 s σ H x y v u Q I rx ry h;obtain⟨i,j,rfl,rfl,q⟩:=h;obtain⟨t,rfl⟩:=rx;obtain⟨t',rfl⟩:=ry;exact rule i j t t' s _ _ ⟨.bl (g i j),H,I,rfl,q⟩
def CDiv (i j:Int):Prop:=0<j/\j<1073741824
def CPow (i j:Int):Prop:=0<=j/\j<=1000000/\i.natAbs<2^64
def CMul (i j:Int):Prop:=(-(2^64)<i/\i<2^64)\/(-(2^64)<j/\j<2^64)
theorem CMul.ok {i j:Int}(h:CMul i j):IntMulOk i j:=by
 rcases h with ⟨h1,h2⟩|⟨h1,h2⟩
 ·exact .of_left (intBits_le_64 h1 h2)
 ·exact .of_right (intBits_le_64 h1 h2)
theorem qQ3 (k:Nat):(0:Int)<=2^k:=by
 rw[two_pow_cast];exact Vx _
theorem qd2:OpR X (binaryOp .Add) (rI0 λi j=>.int (i+j)):=opI0 λ_ _ _ _ _ _ _ q=>add_int q
theorem qc2:OpR X (binaryOp .Sub) (rI0 λi j=>.int (i-j)):=opI0 λ_ _ _ _ _ _ _ q=>sub_int q
theorem qi7:OpR X (binaryOp .Mult) (rI CMul λi j=>.int (i*j)):=opI λ_ _ _ _ _ _ _ hc q=>mul_int q hc.ok
theorem qj2:OpR X (binaryOp .FloorDiv) (rI CDiv λi j=>.int (i/j)):=opI λi j _ _ _ _ _ hc q=>by
 have h1:(0:Int)<j:=hc.1;have h2:j<1073741824:=hc.2;exact floordiv_int (by lia) (by rw[Vy i (by lia)];exact q) (.inl (PyProof.noPylong_small (by lia)))
theorem qt0:OpR X (binaryOp .Mod) (rI (λ_ j=>0<j) λi j=>.int (i%j)):=opI λi j _ _ _ _ _ hc q=>by
 have h1:(0:Int)<j:=hc;exact mod_int' (by lia) (by rw[Int.fmod_eq_emod_of_nonneg i (by lia)];exact q)
theorem xr8:OpR X (binaryOp .Pow) (rI CPow λi j=>.int (i^j.toNat)):=opI λ_ _ _ _ _ _ _ hc q=>pow_int_small hc.1 hc.2.1 hc.2.2 q
theorem qf9:OpR X (binaryOp .LShift) (rI CPow λi j=>.int (i*2^j.toNat)):=opI λ_ _ _ _ _ _ _ hc q=>lshift_int_small hc.1 hc.2.1 hc.2.2 q
theorem xf5:OpR X (binaryOp .RShift) (rI (λ_ j=>0<=j) λi j=>.int (i/2^j.toNat)):=opI λi j _ _ _ _ _ hc q=>
 rshift_int hc (by rw[Vy i (qQ3 _)];exact q)
theorem qU3:OpR X (binaryOp .BitAnd) (rI0 λi j=>.int (Builtin.bitAnd i j)):=opI0 λ_ _ _ _ _ _ _ q=>and_int q
theorem qU4:OpR X (inplaceOp .Add) (rI0 λi j=>.int (i+j)):=opI0 λ_ _ _ _ _ _ _ q=>iadd_int q
theorem unI {f:Value->Sem Value}{g:Int->Int}
  (rule:∀(i:Int) (t:Tok) (s:Shared) (Q:Value->Shared->Prop) (E:Value->Shared->Prop),Q (.int (g i) s.toks) { s with toks:=s.toks+1 }->wpAny (model X.prog X.w) X.A (f (.int i t)) Q E s) :
  UnR X f (rU λi=>.int (g i)):=by
 intro j8 s σ H x v Q I rx h;obtain⟨i,rfl,q⟩:=h;obtain⟨t,rfl⟩:=rx;exact rule i t s _ _ ⟨.int (g i),H,I.tok _,⟨_,rfl⟩,q⟩
theorem xf6:UnR X (unaryOp .USub) (rU λi=>.int (-i)):=unI λ_ _ _ _ _ q=>neg_int q
end
def scal:V->V->Bool
 |.non,.non=>true|.non,.int _=>true|.int _,.non=>true|.non,.bl _=>true|.bl _,.non=>true|.non,.str _=>true|.str _,.non=>true
 |.int _,.int _=>true|.bl _,.bl _=>true|.str _,.str _=>true|.byt _,.byt _=>true
 |.int _,.str _=>true|.str _,.int _=>true|.bl _,.str _=>true|.str _,.bl _=>true
 |_,_=>false
def rEq:R2:=λx y H Q=>scal x y=true/\Q (.bl (decide (x=y))) H
def rNe:R2:=λx y H Q=>scal x y=true/\Q (.bl (!decide (x=y))) H
theorem qU5 {i j:Int}:decide (V.int i=V.int j)=(i==j):=by
 rw[Xi];simp
theorem xf7 {i j:Bool}:decide (V.bl i=V.bl j)=(i==j):=by
 rw[Xi];simp
theorem qU6 {i j:Str}:decide (V.str i=V.str j)=(i==j):=by
 rw[Xi];simp
theorem qU7 {i j:Array UInt8}:decide (V.byt i=V.byt j)=(i.toList==j.toList):=by
 rw[Xi];cases i;cases j;simp
section
variable {X:Cx}{a b c:Expr}{ta tb tc:TE}{pos:Pos}
theorem qc3 {j8:List (Addr×Obj)}{σ:St}{H:Hp}{s:Shared}{Q:VK}{k k':Bool}(I:Inv X j8 σ H s) (q:Q (.bl k) H) (e:k=k'):EP X j8 σ Q (.bool k') s:=by
 subst e;exact⟨.bl k,H,I,rfl,q⟩
theorem qw0:OpR X (compareOp .Eq) rEq:=by
 intro j8 s σ H x y v u Q I rx ry h;obtain⟨hs,q⟩:=h;cases x with
 |non=>
  cases rx;cases y with
  |non=>cases ry;exact PySem.EqNone.eq_none_none (qc3 I q (by simp))
  |bl j=>cases ry;exact PySem.EqNone.eq_none_bool (qc3 I q (by simp))
  |int j=>obtain⟨t',rfl⟩:=ry;exact PySem.EqNone.eq_none_int (qc3 I q (by simp))
  |str j=>obtain⟨t',rfl⟩:=ry;exact PySem.EqNone.eq_none_str (qc3 I q (by simp))
  |_=>exact absurd (show false=true from hs) Zq
 |bl i=>
  cases rx;cases y with
  |non=>cases ry;exact PySem.EqNone.eq_bool_none (qc3 I q (by simp))
  |bl j=>cases ry;exact eq_bool (qc3 I q xf7)
  |str j=>obtain⟨t',rfl⟩:=ry;exact PySem.EqMixed.eq_bool_str (qc3 I q (by simp))
  |_=>exact absurd (show false=true from hs) Zq
 |int i=>
  obtain⟨t,rfl⟩:=rx;cases y with
  |non=>cases ry;exact PySem.EqNone.eq_int_none (qc3 I q (by simp))
  |int j=>obtain⟨t',rfl⟩:=ry;exact eq_int (qc3 I q qU5)
  |str j=>obtain⟨t',rfl⟩:=ry;exact PySem.EqMixed.eq_int_str (qc3 I q (by simp))
  |_=>exact absurd (show false=true from hs) Zq
 |str i=>
  obtain⟨t,rfl⟩:=rx;cases y with
  |non=>cases ry;exact PySem.EqNone.eq_str_none (qc3 I q (by simp))
  |bl j=>cases ry;exact PySem.EqMixed.eq_str_bool (qc3 I q (by simp))
  |int j=>obtain⟨t',rfl⟩:=ry;exact PySem.EqMixed.eq_str_int (qc3 I q (by simp))
  |str j=>obtain⟨t',rfl⟩:=ry;exact eq_str (qc3 I q qU6)
  |_=>exact absurd (show false=true from hs) Zq
 |byt i=>
  obtain⟨t,rfl⟩:=rx;cases y with
  |byt j=>obtain⟨t',rfl⟩:=ry;exact PySem.W.eq_bytes (qc3 I q qU7)
  |_=>exact absurd (show false=true from hs) Zq
 |_=>cases y<;>exact absurd (show false=true from hs) Zq
theorem xr9:OpR X (compareOp .NotEq) rNe:=by
 intro j8 s σ H x y v u Q I rx ry h;obtain⟨hs,q⟩:=h;cases x with
 |non=>
  cases rx;cases y with
  |non=>cases ry;exact PySem.EqNone.ne_none_none (qc3 I q (by simp))
  |bl j=>cases ry;exact PySem.EqNone.ne_none_bool (qc3 I q (by simp))
  |int j=>obtain⟨t',rfl⟩:=ry;exact PySem.EqNone.ne_none_int (qc3 I q (by simp))
  |str j=>obtain⟨t',rfl⟩:=ry;exact PySem.EqNone.ne_none_str (qc3 I q (by simp))
  |_=>exact absurd (show false=true from hs) Zq
 |bl i=>
  cases rx;cases y with
  |non=>cases ry;exact PySem.EqNone.ne_bool_none (qc3 I q (by simp))
  |bl j=>cases ry;exact ne_bool (qc3 I q (Yh not xf7))
  |str j=>obtain⟨t',rfl⟩:=ry;exact PySem.EqMixed.ne_bool_str (qc3 I q (by simp))
  |_=>exact absurd (show false=true from hs) Zq
 |int i=>
  obtain⟨t,rfl⟩:=rx;cases y with
  |non=>cases ry;exact PySem.EqNone.ne_int_none (qc3 I q (by simp))
  |int j=>obtain⟨t',rfl⟩:=ry;exact ne_int (qc3 I q (Yh not qU5))
  |str j=>obtain⟨t',rfl⟩:=ry;exact PySem.EqMixed.ne_int_str (qc3 I q (by simp))
  |_=>exact absurd (show false=true from hs) Zq
 |str i=>
  obtain⟨t,rfl⟩:=rx;cases y with
  |non=>cases ry;exact PySem.EqNone.ne_str_none (qc3 I q (by simp))
  |bl j=>cases ry;exact PySem.EqMixed.ne_str_bool (qc3 I q (by simp))
  |int j=>obtain⟨t',rfl⟩:=ry;exact PySem.EqMixed.ne_str_int (qc3 I q (by simp))
  |str j=>obtain⟨t',rfl⟩:=ry;exact ne_str (qc3 I q (Yh not qU6))
  |_=>exact absurd (show false=true from hs) Zq
 |byt i=>
  obtain⟨t,rfl⟩:=rx;cases y with
  |byt j=>obtain⟨t',rfl⟩:=ry;exact PySem.W.ne_bytes (qc3 I q (Yh not qU7))
  |_=>exact absurd (show false=true from hs) Zq
 |_=>cases y<;>exact absurd (show false=true from hs) Zq
theorem qj3:OpR X (compareOp .Lt) (rI0 λi j=>.bl (decide (i<j))):=opB0 λ_ _ _ _ _ _ _ q=>lt_int q
theorem qq9:OpR X (compareOp .LtE) (rI0 λi j=>.bl (decide (i<=j))):=opB0 λ_ _ _ _ _ _ _ q=>le_int q
theorem q85:OpR X (compareOp .Gt) (rI0 λi j=>.bl (decide (j<i))):=opB0 λ_ _ _ _ _ _ _ q=>gt_int q
theorem xz5:OpR X (compareOp .GtE) (rI0 λi j=>.bl (decide (j<=i))):=opB0 λ_ _ _ _ _ _ _ q=>ge_int q
theorem qU8:OpR X (compareOp .In) (λx y H Q=>∃i j,x=.str i/\y=.str j/\Q (.bl (!(Builtin.Str.occurrences j i 0 j.length 1).isEmpty)) H):=by
 intro j8 s σ H x y v u Q I rx ry h;obtain⟨i,j,rfl,rfl,q⟩:=h;obtain⟨t,rfl⟩:=rx;obtain⟨t',rfl⟩:=ry;exact in_str (qc3 I q rfl)
theorem xj3:OpR X (compareOp .IsNot) (λx y H Q=>y=.non/\Q (.bl (!decide (x=.non))) H):=by
 intro j8 s σ H x y v u Q I rx ry h;obtain⟨rfl,q⟩:=h;cases ry;refine isnot_none_gen (qc3 I q ?_);cases x<;>first
  |(cases rx;rfl)
  |(obtain⟨t,rfl⟩:=rx;rfl)
theorem qb4 (b:Expr){op:CmpOp}(h:op≠.In:=by decide) (h2:op≠.NotIn:=by decide):behindInMarks op b=false:=by
 have e1:(op==CmpOp.In)=false:=by cases op<;>first|rfl|exact absurd rfl h
 have e2:(op==CmpOp.NotIn)=false:=by cases op<;>first|rfl|exact absurd rfl h2
 cases b<;>simp[behindInMarks,e1,e2]
theorem qe0 {op:CmpOp}{r:R2}(ho:OpR X (compareOp op) r) (ha:PE X a ta) (hb:PE X b tb) (hm:behindInMarks op b=false):PE X (.Compare a [op] [b] pos) (tOp r ta tb):=by
 intro j8 s σ H Q I h;exact wpAny_Compare1 (binT ha hb I h λv u s2 x y H2 I2 rx ry q=>ho j8 s2 σ H2 x y v u Q I2 rx ry q) hm
inductive tTest_ (Q:Bool->Hp->Prop) (x:V) (H':Hp):Prop
 |mk (k:_) (e0:x=.bl k) (e1:Q k H')
def xz6 (t:TE):TT:=λσ H Q=>t σ H λx H'=>tTest_ Q x H'
theorem qb7 {op:CmpOp}{r:R2}(ho:OpR X (compareOp op) r) (ha:PE X a ta) (hb:PE X b tb) (hm:behindInMarks op b=false):PT X (.Compare a [op] [b] pos) (xz6 (tOp r ta tb)):=by
 intro j8 s σ H Q I h;refine wpAny_isTrue_Compare1 (thn (ha j8 s σ H _ I h) λv s1 ⟨x,H1,I1,r1,q1⟩=>thn (hb j8 s1 σ H1 _ I1 q1) λu s2 ⟨y,H2,I2,r2,q2⟩=>
  thn (ho j8 s2 σ H2 x y v u _ I2 r1 r2 q2) λc s3 ⟨z,H3,I3,r3,k,e,q3⟩=>?_) hm
 subst e;cases r3;exact Ym ⟨H3,I3,q3⟩
def xs0 (r r':R2) (ta tb tc:TE):TE:=λσ H Q=>ta σ H λx H1=>tb σ H1 λy H2=>r x y H2 λz H3=>∃k,z=.bl k /\
 (if k=true then tc σ H3 λw' H4=>r' y w' H4 Q else Q (.bl false) H3)
theorem qr2 {op op':CmpOp}{r r':R2}(ho:OpR X (compareOp op) r) (ho':OpR X (compareOp op') r') (ha:PE X a ta) (hb:PE X b tb) (hc:PE X c tc)
  (hm:lastMarks [op,op'] [b,c]=false:=by with_unfolding_all rfl):PE X (.Compare a [op,op'] [b,c] pos) (xs0 r r' ta tb tc):=by
 intro j8 s σ H Q I h;refine Compare_chain (thn (ha j8 s σ H _ I h) λv s1 ⟨x,H1,I1,r1,q1⟩=>chain_link (thn (hb j8 s1 σ H1 _ I1 q1) λu s2 ⟨y,H2,I2,r2,q2⟩=>
  thn (ho j8 s2 σ H2 x y v u _ I2 r1 r2 q2) λd s3 ⟨z,H3,I3,r3,k,e,q3⟩=>?_)) hm
 subst e;cases r3;refine Ym ?_;cases k with
 |false=>exact ite_ff ⟨.bl false,H3,I3,rfl,q3⟩
 |true=>exact ite_tt (chain_last (thn (hc j8 s3 σ H3 _ I3 q3) λw' s4 ⟨z',H4,I4,r4,q4⟩=>ho' j8 s4 σ H4 y z' u w' Q I4 r2 r4 q4))
theorem qw9:(sizeLine:Nat)<2^63:=by rw[Wg];decide
theorem qx0:OpR X (binaryOp .Add) (λx y H Q=>∃i j,x=.str i/\y=.str j/\i.length+j.length<=sizeLine/\Q (.str (i++j)) H):=by
 intro j8 s σ H x y v u Q I rx ry h;obtain⟨i,j,rfl,rfl,hz,q⟩:=h;obtain⟨t,rfl⟩:=rx;obtain⟨t',rfl⟩:=ry;exact add_str (λt' tk=>⟨.str (i++j),H,I.tok _,⟨_,rfl⟩,q⟩) hz
theorem qg0 {x:V}{us:List Value}(r:Vals [x] us):∃u,us=[u]/\RelV x u:=by
 cases r with
 |cons r1 r2=>cases r2;exact⟨_,rfl,r1⟩
theorem xj4 {x y:V}{us:List Value}(r:Vals [x,y] us):∃u w',us=[u,w']/\RelV x u/\RelV y w':=by
 cases r with
 |cons r1 r2=>
  cases r2 with
  |cons r3 r4=>cases r4;exact⟨_,_,rfl,r1,r3⟩
theorem qL2:qe3 X (.builtin "abs") (λxs H Q=>∃i,xs=[.int i]/\Q (.int (if i<0 then -i else i)) H):=by
 intro j8 s σ H xs us Q I r h;obtain⟨i,rfl,q⟩:=h;obtain⟨u,rfl,t,rfl⟩:=qg0 r;exact call_abs_int λu tk=>⟨.int (if i<0 then -i else i),H,I.tok _,⟨_,rfl⟩,q⟩
theorem qg1 (hc:X.calm=true):qe3 X (.builtin "max") (λxs H Q=>∃i j,xs=[.int i,.int j]/\Q (.int (if j>i then j else i)) H):=by
 intro j8 s σ H xs us Q I r h;obtain⟨i,j,rfl,q⟩:=h;obtain⟨u,w',rfl,⟨t,rfl⟩,⟨t',rfl⟩⟩:=xj4 r;refine max_two_ints (I.ok.hd hc) λh' tk k=>⟨_,H,I.kept k,?_,q⟩;by_cases hj:j>i
 ·rw[Zt hj,Zt hj];exact⟨_,rfl⟩
 ·rw[Zl hj,Zl hj];exact⟨_,rfl⟩
theorem qe6 (hc:X.calm=true):qe3 X (.builtin "min") (λxs H Q=>∃i j,xs=[.int i,.int j]/\Q (.int (if j<i then j else i)) H):=by
 intro j8 s σ H xs us Q I r h;obtain⟨i,j,rfl,q⟩:=h;obtain⟨u,w',rfl,⟨t,rfl⟩,⟨t',rfl⟩⟩:=xj4 r;refine min_two_ints (I.ok.hd hc) λh' tk k=>⟨_,H,I.kept k,?_,q⟩;by_cases hj:j<i
 ·rw[Zt hj,Zt hj];exact⟨_,rfl⟩
 ·rw[Zl hj,Zl hj];exact⟨_,rfl⟩
theorem qU9:qe3 X (.type "int") (λxs H Q=>(∃i,xs=[.int i]/\Q (.int i) H)\/∃k,xs=[.bl k]/\Q (.int (if k then 1 else 0)) H):=by
 intro j8 s σ H xs us Q I r h;rcases h with ⟨i,rfl,q⟩|⟨k,rfl,q⟩
 ·obtain⟨u,rfl,t,rfl⟩:=qg0 r;exact call_int_int ⟨.int i,H,I,⟨_,rfl⟩,q⟩
 ·obtain⟨u,rfl,r1⟩:=qg0 r;cases r1;exact call_int_bool ⟨.int (if k then 1 else 0),H,I.tok _,⟨_,rfl⟩,q⟩
theorem qB7:qe3 X (.type "str") (λxs H Q=>∃i,xs=[.int i]/\i.natAbs.log2<1920/\Q (.str (toString i)) H):=by
 intro j8 s σ H xs us Q I r h;obtain⟨i,rfl,hz,q⟩:=h;obtain⟨u,rfl,t,rfl⟩:=qg0 r;exact PySem.P.str_of_int hz ⟨.str _,H,I.tok _,⟨_,rfl⟩,q⟩
end
structure ObjM (h:Heap) (x dx C:Addr) (mA:Str->Option Value):Prop where
 obj:h.get? x=some (PySem.W.instObj C dx)
 ns:h.Ns1 dx mA
 ne:dx≠x
theorem qV0 {h:Heap}{dx:Addr}{mA:Str->Option Value}(n:h.Ns1 dx mA):∃od,h.get? dx=some od/\∀name,PySem.W.lookIn name od=some (mA name):=by
 obtain⟨o,es,ep,ho,hd,hk,_,hm⟩:=n;refine⟨o,ho,λname=>?_⟩;have e:=hm name;unfold nsFind findBy at e;rw[<- Array.find?_toList] at e;unfold PySem.W.lookIn;rw[hd];dsimp only;split
 ·rename_i y q;rw[q] at e;exact Yh some e
 ·rename_i q;rw[q] at e;have a:es.toList.any (·.refKey)=false:=by
   rw[VM];intro y hy;obtain⟨z,t,kR⟩:=hk y (Array.mem_toList_iff.mp hy);simp[DictEntry.refKey,kR]
  have a':¬es.toList.any (·.refKey)=true:=by rw[a];exact Zq
  rw[Zl a'];exact Yh some e
theorem ObjM.look {h:Heap}{x dx C:Addr}{mA:Str->Option Value}(I:ObjM h x dx C mA):∃od,PySem.W.InstAt h x (PySem.W.instObj C dx) C (some od)/\∀name,PySem.W.lookIn name od=some (mA name):=
 let ⟨od,ho,hl⟩:=qV0 I.ns
 ⟨od,⟨I.obj,rfl,rfl,ho⟩,hl⟩
section
variable {prog:Program}{w:World}{A:Around}{E:Value->Shared->Prop}{s:Shared}{K:PySem.W.Frag}{x dx C f:Addr}{mA:Str->Option Value}{name:Str}{v:Value}
end
theorem RelO.some_of {v:V}{o:Option Value}(r:RelO (some v) o):∃u,o=some u/\RelV v u:=by
 cases o with
 |none=>exact (show False from r).elim
 |some u=>exact⟨u,rfl,r⟩
section
variable {P:Program}{w:World}{H H':Hp}{h h':Heap}{a C dx:Addr}{fs fs':List (Str×V)}
theorem xj5 (hok:HOk P w H h) (e:H a=some (.ins C dx fs)):∃mA,ObjM h a dx C mA/\(∀f,RelO (fs.lookup f) (mA f))/\PySem.Within mA (fs.map (·.1))/\fs.length<=1000/\H dx=some (.own a):=by
 obtain⟨d,z,ne,ob,mA,n,r,q⟩:=(show ObjOk P w H h a (.ins C dx fs) from hok a _ e);exact⟨mA,⟨ob,n,ne⟩,r,q,z,d⟩
end
structure Cls (K:PySem.W.Frag) (C:Addr):Prop where
 pg:PySem.W.plainGet K C Str.empty=true
 hd:PySem.W.hasDictIn K C=true
 po:PySem.W.plainOver K C=true
 sa:PySem.W.findIn K (.ref C) "__setattr__" = some (some (.builtin "object.__setattr__"))
theorem Cls.get {K:PySem.W.Frag}{C:Addr}(c:Cls K C) (f:Str):PySem.W.plainGet K C f=true:=c.pg
section
variable {X:Cx}{j8:List (Addr×Obj)}{σ:St}{H:Hp}{s:Shared}{a C dx:Addr}{fs:List (Str×V)}{f:Str}{v:V}{A:Around}{E:Value->Shared->Prop}
end
section
variable {X:Cx}{o e value:Expr}{f:Str}{pos pos' tpos:Pos}{ta tv:TE}
end
section
variable {X:Cx}{j8:List (Addr×Obj)}{σ:St}{H:Hp}{s:Shared}{A:Around}{E:Value->Shared->Prop}{Q:Value->Shared->Prop}{c:Value}{b:Bool}
inductive TyOf (K:PySem.W.Frag) (H:Hp):V->Value->Prop where
 |non:TyOf K H .non (.type "NoneType")
 |bl (x:Bool):TyOf K H (.bl x) (.type "bool")
 |int (i:Int):TyOf K H (.int i) (.type "int")
 |str (x:Str):TyOf K H (.str x) (.type "str")
 |flt (x:UInt64):TyOf K H (.flt x) (.type "float")
 |lst {a:Addr}{xs:List V}(e:H a=some (.lst xs)):TyOf K H (.ref a) (.type "list")
 |frz {a:Addr}{o:Obj}{xs:List V}(e:H a=some (.frz o (.lst xs))):TyOf K H (.ref a) (.type "list")
 |tup {a:Addr}{xs:List V}(e:H a=some (.tup xs)):TyOf K H (.ref a) (.type "tuple")
 |dK {a:Addr}{kvs:List (Key×V)}(e:H a=some (.dK kvs)):TyOf K H (.ref a) (.type "dict")
 |dT {a:Addr}{kvs:List (List Key×V)}(e:H a=some (.dT kvs)):TyOf K H (.ref a) (.type "dict")
 |ins {a C dx:Addr}{fs:List (Str×V)}(e:H a=some (.ins C dx fs)) (cl:Cls K C) (ha:PySem.W.findIn K (.ref C) "__class__" = some (some (.builtin "object.__class__")))
   (hn:PySem.W.specialIn K (.builtin "object.__class__") "__get__" = some (some (.builtin "getset_descriptor.__get__"))) (htk:PySem.W.takesIn K (.builtin "object.__class__")=some true)
   (hm:PySem.W.mroIn K C (.type "object")=some true):TyOf K H (.ref a) (.ref C)
theorem qV1 {x:V}{u t:Value}(I:Inv X j8 σ H s) (rx:RelV x u) (ty:TyOf X.K H x t) (e:PySem.W.kitOne X.K t c=some b) (h:∀tk,Q (.bool b) { s with toks:=tk }) :
  wpAny (model X.prog X.w) A (call (.builtin "isinstance") [u,c]) Q E s:=by
 cases ty with
 |non=>cases (show u=Value.none from rx);exact YF PySem.W.kitx_none I.kIn True.intro e (λz=>nomatch z) h
 |bl y=>cases (show u=Value.bool y from rx);exact YF PySem.W.kitx_bool I.kIn True.intro e (λz=>nomatch z) h
 |int i=>obtain⟨t,q⟩:=(show ∃t,u=Value.int i t from rx);cases q;exact YF PySem.W.kitx_int I.kIn True.intro e (λz=>nomatch z) h
 |str y=>obtain⟨t,q⟩:=(show ∃t,u=Value.str y t from rx);cases q;exact YF PySem.W.kitx_str I.kIn True.intro e (λz=>nomatch z) h
 |flt y=>obtain⟨t,q⟩:=(show ∃t,u=Value.float y t from rx);cases q;exact YF PySem.W.kitx_float I.kIn True.intro e (λz=>nomatch z) h
 |@lst a xs ea=>
  cases (show u=Value.ref a from rx);obtain⟨_,_,n,_,h1⟩:=(show ObjOk X.prog X.w H s.heap a (.lst xs) from I.hok a _ ea);exact YF PySem.W.kitx_list I.kIn ⟨_,h1,rfl⟩ e (λz=>nomatch z) h
 |@frz a ob xs ea=>
  cases (show u=Value.ref a from rx);obtain⟨_,_,_,n,_,h1⟩:=(show ObjOk X.prog X.w H s.heap a (.frz ob (.lst xs)) from I.hok a _ ea);exact YF PySem.W.kitx_list I.kIn ⟨_,h1,rfl⟩ e (λz=>nomatch z) h
 |@tup a xs ea=>
  cases (show u=Value.ref a from rx);obtain⟨_,_,_,p⟩:=(show ObjOk X.prog X.w H s.heap a (.tup xs) from I.hok a _ ea);obtain⟨o,h1,h2,_⟩:=p;exact YF PySem.W.kitx_tuple I.kIn ⟨o,h1,h2⟩ e (λz=>nomatch z) h
 |@dK a kvs ea=>
  cases (show u=Value.ref a from rx);obtain⟨_,_,vs,_,p⟩:=(show ObjOk X.prog X.w H s.heap a (.dK kvs) from I.hok a _ ea);obtain⟨o,es,ep,h1,h2,_⟩:=p;exact YF PySem.W.kitx_dict I.kIn ⟨o,h1,h2.1⟩ e (λz=>nomatch z) h
 |@dT a kvs ea=>
  cases (show u=Value.ref a from rx);obtain⟨_,_,xs,_,o,es,ep,h1,h2,_⟩:=(show ObjOk X.prog X.w H s.heap a (.dT kvs) from I.hok a _ ea);exact YF PySem.W.kitx_dict I.kIn ⟨o,h1,h2.1⟩ e (λz=>nomatch z) h
 |@ins a C dx fs ea cl ha hn htk hm=>
  cases (show u=Value.ref a from rx);obtain⟨mA,O,_⟩:=xj5 I.hok ea;obtain⟨od,J,_⟩:=O.look;exact YF (PySem.W.kitx_own (cl.get _) cl.hd ha hn htk hm) I.kIn J e (λz=>nomatch z) h
end
structure Room (k:Nat) (A:Around):Prop where
 hd:A.handled=none
 dp:A.depth+3*k+5<recursionLimit
 un:A.units+16*k+200<cLine
 gd:A.guards=some []
theorem Room.mono {j k:Nat}{A:Around}(r:Room k A) (h:j<=k):Room j A:=⟨r.hd,by have:=r.dp;lia,by have:=r.un;lia,r.gd⟩
theorem Room.deeper {k:Nat}{A:Around}(r:Room (k+1) A) (env:Env):Room k (A.deeper env):=
 ⟨r.hd,by have:=r.dp;show A.depth+1+3*k+5<_;lia,by have:=r.un;show A.units+3+16*k+200<_;lia,r.gd⟩
theorem Room.depth {k:Nat}{A:Around}(r:Room k A):A.depth<recursionLimit:=by have:=r.dp;lia
theorem Room.units {k:Nat}{A:Around}(r:Room k A):A.units+64<cLine:=by have:=r.un;lia
def tNil:TA:=λ_ H Q=>Q [] H
def qB8 (ta:TE) (tr:TA):TA:=λσ H Q=>ta σ H λx H1=>tr σ H1 λxs H2=>Q (x::xs) H2
section
variable {X:Cx}{e:Expr}{es:List Expr}{te:TE}{t:TA}{pos:Pos}
theorem qa1:PA X [] tNil:=λ_ _ _ _ H Q I h=>Calls.spliced_nil ⟨[],H,I,.nil,h⟩
theorem qa0 (ha:PE X e te) (hr:PA X es t) (hs:starEach (e::es) X.env=(false,eval e X.env)::starEach es X.env:=by rfl):PA X (e::es) (qB8 te t):=by
 intro pos j8 s σ H Q I h;rw[hs];show wpAny _ _ (spliced ((false,eval e X.env)::backTo pos (starEach es X.env))) _ _ s;refine Calls.spliced_cons (thn (ha j8 s σ H _ I h) λu s1 ⟨x,H1,I1,r1,q1⟩=>?_);exact thn (hr pos j8 s1 σ H1 _ I1 q1) λus s2 ⟨xs,H2,I2,r2,q2⟩=>⟨x::xs,H2,I2,.cons r1 r2,q2⟩
def tTup (t:TA):TE:=λσ H Q=>t σ H λxs H1=>xs.length<=sizeLine/\∀p,H1 p=none->Q (.ref p) (upd H1 p (.tup xs))
def tLst (t:TA):TE:=λσ H Q=>t σ H λxs H1=>xs.length<=sizeLine/\∀p,H1 p=none->Q (.ref p) (upd H1 p (.lst xs))
theorem qe1 {x1} (h:PA X es t):PE X (.Tuple es x1 pos) (tTup t):=by
 intro j8 s σ H Q I hq;refine wpAny_Tuple_spliced (thn (h pos j8 s σ H _ I hq) λus s1 ⟨xs,H1,I1,r,z,q⟩=>⟨by rw[<- r.length];exact z,?_⟩);have hf:H1 s1.heap.objs.size=none:=I1.hok.fresh (Ze _);refine⟨.ref s1.heap.objs.size,upd H1 s1.heap.objs.size (.tup xs),I1.laid (t':=s1.toks) (λb u e=>Zb _ e) (Ze _) ?_,rfl,q _ hf⟩;exact⟨z,us,r,⟨_,Zh _ rfl,rfl,⟨_,rfl⟩,rfl⟩⟩
theorem qg8 (h:PA X es t):PE X (.List es pos) (tLst t):=by
 intro j8 s σ H Q I hq;refine wpAny_List_spliced (thn (h pos j8 s σ H _ I hq) λus s1 ⟨xs,H1,I1,r,z,q⟩=>⟨by rw[<- r.length];exact z,?_⟩);have hf:H1 s1.heap.objs.size=none:=I1.hok.fresh (Ze _);refine⟨.ref s1.heap.objs.size,upd H1 s1.heap.objs.size (.lst xs),I1.laid (t':=s1.toks) (λb u e=>Zb _ e) (Ze _) ?_,rfl,q _ hf⟩;exact⟨z,us,0,r,Zh _ rfl⟩
end
abbrev Sp:=List V->Hp->VK->XK->Prop
abbrev CXT:=List Env->Hp->Shared->XK->Value->Shared->Prop
structure Env0 (P:Program) (w:World) (K:PySem.W.Frag) (mg:Str->Option Value) (base:Heap) (A:Around) (outer:List Env) (s:Shared) (H:Hp):Prop where
 frames:A.frames=some outer
 mod:Mod K mg base
 bs:∀b o,base.get? b=some o->s.heap.get? b=some o/\H b=none
 bsz:base.objs.size<=s.heap.objs.size
 funs:s.heap.FunFrames base outer
 frf:∀b∈frs outer,H b=none
 hok:HOk P w H s.heap
 bare:AllBare s.gens
def CE (outer:List Env) (P:Program) (w:World) (H:Hp) (s:Shared) (Q:VK) (u:Value) (s':Shared):Prop:=
 ∃v H',s'.os=s.os/\AllBare s'.gens/\Un (frs outer) [] H H' s.heap s'.heap/\HOk P w H' s'.heap/\RelV v u/\Q v H'
def CR (CX:CXT) (outer:List Env) (P:Program) (w:World) (H:Hp) (s:Shared) (Q:VK) (E:XK) (r:Result) (s':Shared):Prop:=
 match r with
 |.ok (.ret u)=>CE outer P w H s Q u s'
 |.ok _=>False
 |.error e=>CX outer H s E e s'
structure FnOk (P:Program) (w:World) (K:PySem.W.Frag) (mg:Str->Option Value) (base:Heap) (CX:CXT) (k:Nat) (f:Addr) (fd:FuncData) (ps:List Str) (sp:Sp):Prop where
 len:∀vs H Q E,sp vs H Q E->vs.length=ps.length
 run:∀(A:Around) (outer:List Env) (s:Shared) (H:Hp) (args:Args) (us:List Value) (vs:List V) (Q:VK) (E:XK),Room k A->Env0 P w K mg base A outer s H->BindsTo s fd args (ps.zip us)->Vals vs us->sp vs H Q E ->
  codeAny (model P w) A (.call (.ref f) args) (CR CX outer P w H s Q E) s
section
variable {X:Cx}{j8:List (Addr×Obj)}{σ:St}{H:Hp}{s s':Shared}
theorem Inv.env0 (I:Inv X j8 σ H s):Env0 X.prog X.w X.K X.mg X.base X.A X.stack s H:=
 ⟨I.ok.frames,I.ok.mod,I.bs,ZG I.ok.bsz I.sz,I.stack,I.stkFree,I.hok,I.bare⟩
theorem Inv.after {Q:VK}{u:Value}(I:Inv X j8 σ H s) (h:CE X.stack X.prog X.w H s Q u s'):EP X j8 σ Q u s':=by
 obtain⟨v,H',os,bare,un,hok,r,q⟩:=h;obtain⟨hh,g,d,t,os'⟩:=s';obtain rfl:os'=s.os:=os;exact⟨v,H',I.call (h':=hh) (g':=g) (d':=d) (t':=t) (ch:=[]) un hok bare (λb z=>absurd z (by simp)),r,q⟩
end
def q86 (sp:Sp) (dvs:List V) (E:XK) (t:TA):TE:=λσ H Q=>t σ H λvs H1=>sp (vs++dvs) H1 Q E
def Binds (K:PySem.W.Frag) (fd:FuncData) (ps:List Str) (ds:List Value):Prop:=
 ∀(s:Shared) (us:List Value),K.In s.heap->(us++ds).length=ps.length->BindsTo s fd ⟨us,[]⟩ (ps.zip (us++ds))
theorem Binds.all {K:PySem.W.Frag}{fd:FuncData}{ps:List Str}(h:∀us:List Value,us.length=ps.length->bindArgs fd ⟨us,[]⟩=pure (ps.zip us)):Binds K fd ps []:=λs us _ hl=>by
 rw[YZ] at hl ⊢;exact .of_eq (h us hl)
def qL3 (CX:CXT) (X:Cx) (E:XK):Prop:=∀(j8:List (Addr×Obj)) (σ:St) (H:Hp) (s:Shared) (e:Value) (s':Shared),Inv X j8 σ H s->CX X.stack H s E e s'->X.xe e s'
section
variable {X:Cx}{CX:CXT}{k:Nat}{f C:Addr}{fd:FuncData}{ps:List Str}{sp:Sp}{dvs:List V}{ds:List Value}{E:XK}{x m:Str}{p pos apos:Pos}{e o:Expr}{es:List Expr}{ta:TE}{t:TA}
theorem xs1 {j8:List (Addr×Obj)}{σ:St}{H:Hp}{s:Shared}{Q:VK}{us:List Value}{vs:List V}(F:FnOk X.prog X.w X.K X.mg X.base CX k f fd ps sp) (hr:Room k X.A) (hb:Binds X.K fd ps ds) (hd:Vals dvs ds) (hx:qL3 CX X E)
  (I:Inv X j8 σ H s) (r:Vals vs us) (h:sp (vs++dvs) H Q E):wpAny (model X.prog X.w) X.A (call (.ref f) us) (EP X j8 σ Q) X.xe s:=by
 have r2:Vals (vs++dvs) (us++ds):=r.append hd;have hl:(us++ds).length=ps.length:=by rw[<- r2.length];exact F.len _ _ _ _ h
 refine wpAny_call (Wn (F.run X.A X.stack s H ⟨us,[]⟩ (us++ds) (vs++dvs) Q E hr I.env0 (hb s us I.kIn hl) r2 h) λr s' hq=>?_);cases r with
 |error e=>exact hx j8 σ H s e s' I hq
 |ok fl=>
  cases fl with
  |ret u=>exact I.after hq
  |next=>exact False.elim hq
  |brk=>exact False.elim hq
  |cont=>exact False.elim hq
theorem qI4 (F:FnOk X.prog X.w X.K X.mg X.base CX k f fd ps sp) (hr:Room k X.A) (hg:Gl X x) (hm:X.mg x=some (.ref f)) (hk:PySem.W.keepIn X.K (.ref f)=true) (hb:Binds X.K fd ps ds) (hd:Vals dvs ds) (hx:qL3 CX X E)
  (ha:PA X (e::es) t) (kJ:(x==("__debug__" : Str))=false:=by decide) (he:starEach (e::es) X.env=(false,eval e X.env)::starEach es X.env:=by rfl) (jJ:(backTo pos (starEach es X.env)).any (·.1)=false:=by rfl) :
  PE X (.Call (.Name x p) (e::es) [] pos) (q86 sp dvs E t):=by
 intro j8 s σ H Q I h;refine WG (qy1 I hg hm ?_ kJ);refine PySem.W.callWith_K (h₀:=X.base) I.ok.mod.kin hk (thn (ha pos j8 s σ H _ I h) λus s1 ⟨vs,H1,I1,r,q⟩=>⟨I1.kIn,?_⟩) he jJ;exact xs1 F hr hb hd hx I1 r q
end
section
variable {X:Cx}{CX:CXT}{k:Nat}{f C:Addr}{fd:FuncData}{ps ks:List Str}{sp:Sp}{E:XK}{x m:Str}{p pos apos kpos:Pos}{e o:Expr}{es:List Expr}{kws:List Keyword}{te ta:TE}{t tk:TA}{nm:Option Str}
variable {g:List Value->List Value->List Value}{gV:List V->List V->List V}
end
structure FnScope (N P:List Str) (sc:Scope):Prop where
 kind:sc.kind=.function
 co:sc.isCoroutine=false
 gen:sc.isGenerator=false
 nd:N.Nodup
 pre:N.take P.length=P
 par:∀x∈P,sc.names.lookup x=some .local\/sc.names.lookup x=some .cell
 nofree:∀y∈sc.names,y.2≠.free
theorem qB9 {kindOf:Str->Option NameKind}{x:Str}:∀{binds:List (Str×Value)}{m:Str->Option Value},(∀v,(x,v)∉binds)->bindL kindOf binds m x=m x
 |[],_,_=>rfl
 |(n,v)::r,m,h=>by
  unfold bindL;rw[qB9 λw hw=>h w (Zk _ hw)];split
  ·have:x≠n:=by rintro rfl;exact h v ZB
   simp[this]
  ·rfl
theorem qC0 {kindOf:Str->Option NameKind}{x:Str}:∀{binds:List (Str×Value)}{m:Str->Option Value},(∀v,(x,v)∉binds)->bindC kindOf binds m x=m x
 |[],_,_=>rfl
 |(n,v)::r,m,h=>by
  unfold bindC;rw[qC0 λw hw=>h w (Zk _ hw)];split
  ·rfl
  ·have:x≠n:=by rintro rfl;exact h v ZB
   simp[this]
theorem qC1 {kindOf:Str->Option NameKind}{x:Str}{v:Value}:∀{P:List Str}{vs:List Value}{i:Nat}{m:Str->Option Value},P.Nodup->P[i]?=some x->vs[i]?=some v->kindOf x=some .local ->
  bindL kindOf (P.zip vs) m x=some v
 |[],_,_,_,_,h,_,_=>by simp at h
 |_::_,[],_,_,_,_,h,_=>by simp at h
 |p::P,w::vs,0,m,nd,h1,h2,hk=>by
  simp at h1 h2;subst h1;subst h2;show bindL kindOf ((p,w)::P.zip vs) m p=_;unfold bindL;rw[qB9 λv hv=>(YG.mp nd).1 (Ua hv).1,Zt hk];simp
 |p::P,w::vs,i+1,m,nd,h1,h2,hk=>by
  show bindL kindOf ((p,w)::P.zip vs) m x=_;unfold bindL;exact qC1 (i:=i) (YG.mp nd).2 (by simpa using h1) (by simpa using h2) hk
theorem qC2 {kindOf:Str->Option NameKind}{x:Str}{v:Value}:∀{P:List Str}{vs:List Value}{i:Nat}{m:Str->Option Value},P.Nodup->P[i]?=some x->vs[i]?=some v->kindOf x≠some .local ->
  bindC kindOf (P.zip vs) m x=some v
 |[],_,_,_,_,h,_,_=>by simp at h
 |_::_,[],_,_,_,_,h,_=>by simp at h
 |p::P,w::vs,0,m,nd,h1,h2,hk=>by
  simp at h1 h2;subst h1;subst h2;show bindC kindOf ((p,w)::P.zip vs) m p=_;unfold bindC;rw[qC0 λv hv=>(YG.mp nd).1 (Ua hv).1,Zl hk];simp
 |p::P,w::vs,i+1,m,nd,h1,h2,hk=>by
  show bindC kindOf ((p,w)::P.zip vs) m x=_;unfold bindC;exact qC2 (i:=i) (YG.mp nd).2 (by simpa using h1) (by simpa using h2) hk
def start (N:List Str) (vs:List V):St:=vs.map some++List.replicate (N.length-vs.length) none
def cxOf (CX:CXT) (P:Program) (w:World) (K:PySem.W.Frag) (mg:Str->Option Value) (base:Heap) (N:List Str) (qual:Str) (scope:Scope) (f:Addr) (cd:Value) (A:Around) (outer:List Env) (s:Shared) (H:Hp) (E:XK):Cx where
 prog:=P
 w:=w
 K:=K
 mg:=mg
 base:=base
 A:=A.deeper (envOfC qual scope s.heap.objs.size f cd)
 N:=N
 s₀:=s
 H₀:=H
 env:=envOfC qual scope s.heap.objs.size f cd
 outer:=outer
 stack:=envOfC qual scope s.heap.objs.size f cd::outer
 ex:=[]
 calm:=true
 fn:=λ_=>true
 pn:=[]
 xe:=λe s'=>wpAny (model P w) (A.deeper (envOfC qual scope s.heap.objs.size f cd)) (leaving (envOfC qual scope s.heap.objs.size f cd) e) (λ_ s''=>CX outer H s E e s'') (λe' s''=>CX outer H s E e' s'') s'
theorem qL4 {sc:Scope}{n:Nat}{x:Str}(h:sc.names.lookup x=some .cell):∃c,(cellsFrom n sc.names []).lookup x=some c:=by
 have q:=PySem.W.cellsFrom_some sc.names n [] (.inl h);exact Wt.mp q
theorem qV2 {CX:CXT}{P:Program}{w:World}{K:PySem.W.Frag}{mg:Str->Option Value}{base:Heap}{N ps:List Str}{qual:Str}{scope:Scope}{f:Addr}{cd:Value}{A:Around}{outer:List Env}{s s1:Shared}{H:Hp}{E:XK}{us:List Value}{vs:List V}
  (S:FnScope N ps scope) (hd:A.handled=none) (e0:Env0 P w K mg base A outer s H) (hl:vs.length=ps.length) (r:Vals vs us)
  (x:InCallC s s.heap.objs.size (bindL (envOfC qual scope s.heap.objs.size f cd).kindOf (ps.zip us) λ_=>none) (cellsFrom (s.heap.objs.size+1) scope.names []) (bindC (envOfC qual scope s.heap.objs.size f cd).kindOf (ps.zip us) λ_=>none) s1) :
  Inv (cxOf CX P w K mg base N qual scope f cd A outer s H E) [] (start N vs) H s1:=by
 have jJ:ps.length<=N.length:=by have:=Yh List.length S.pre;rw[XW] at this;lia
 obtain⟨h1,tk,rfl,hk⟩:=x.done;have noA:∀b:Addr,b∉(cxOf CX P w K mg base N qual scope f cd A outer s H E).ex:=λb z=>absurd (show b∈([]:List Addr) from z) (by simp);refine⟨⟨e0.mod,S.kind,rfl,rfl,Ze _,λy z c h1 h2=>?_,λy hy=>?_,λy c _ h=>?_,λ_=>hd,Around.frames_deeper e0.frames,.inr ⟨rfl,rfl⟩,λb z=>absurd z (noA b),e0.bs,e0.bsz,λb _ _=>noA b,λb z=>absurd z (noA b),e0.funs,e0.frf⟩,
  rfl,e0.bare,Un.kept hk,⟨_,x.toInCall.ns,λi y v h1 h2 h3=>?_⟩,λy c h=>⟨_,x.cell y c h⟩,e0.hok.fresh (Ze _),λy c h=>?_,λp hp=>absurd (show p∈([]:List (Addr×Obj)) from hp) (by simp),e0.hok.kept hk,?_⟩
 ·exact name_of_addr x.apart (XS h1) (XS h2)
 ·have hy:scope.names.lookup y=some .cell\/scope.names.lookup y=some .free:=hy;rcases hy with hy|hy
  ·exact qL4 hy
  ·exact absurd rfl (S.nofree _ (XS hy))
 ·exact XB (x.above y c (XS h))
 ·have hi:i<vs.length:=by
   unfold start at h2;by_cases hi:i<vs.length
   ·exact hi
   ·rw[ZK (by simpa using hi)] at h2;rw[WM] at h2;split at h2<;>cases h2
  have ha:vs[i]?=some v:=by
   unfold start at h2;rw[ZF (by simpa using hi),Zg] at h2;cases e:vs[i]? with
   |none=>rw[e] at h2;cases h2
   |some a=>rw[e] at h2;cases h2;rfl
  obtain⟨u,hu,rv⟩:=r.get ha;have hp:ps[i]?=some y:=by
   rw[<- S.pre,List.getElem?_take_of_lt (by lia)];exact h1
  have ndP:ps.Nodup:=by rw[<- S.pre];exact S.nd.sublist (List.take_sublist _ _)
  refine⟨u,rv,?_⟩;rcases S.par y (Zz hp) with k|k
  ·exact .inl ⟨k,qC1 ndP hp hu k⟩
  ·obtain⟨c,e⟩:=qL4 (n:=s.heap.objs.size+1) k;refine .inr ⟨.inl k,c,e,?_⟩;have q:=x.cell y c e;rw[qC2 ndP hp hu (by show scope.names.lookup y≠_;rw[k];decide)] at q;exact q
 ·exact e0.hok.fresh (XB (x.above y c (XS h)))
 ·unfold start;show _=N.length;rw[ZC,Zf,W1];lia
theorem xs2 {CX:CXT}{P:Program}{w:World}{K:PySem.W.Frag}{mg:Str->Option Value}{base:Heap}{k:Nat}{f:Addr}{name qual:Str}{params:Arguments}{body:List Stmt}{scope:Scope}{dV kV doc pm cdv ct oc:Value}{an od:Option Addr}
  {osl:Array (Option Value)}{N ps:List Str}{sp:Sp}(lk:K.lookup f=some ⟨oc,od,.func (PySem.W.fnOf name qual params body scope dV kV doc pm an cdv ct),osl⟩) (kU:PySem.W.codeIn K cdv qual=true) (S:FnScope N ps scope)
  (len:∀vs H Q E,sp vs H Q E->vs.length=ps.length)
  (hbody:∀(A:Around) (outer:List Env) (s:Shared) (H:Hp) (vs:List V) (Q:VK) (E:XK),Room k (A.deeper (envOfC qual scope s.heap.objs.size f cdv))->sp vs H Q E ->
   ∃t,PSs (cxOf CX P w K mg base N qual scope f cdv A outer s H E) body t/\t { nx:=λ_ H'=>Q .non H',rt:=Q } (start N vs) H) :
  FnOk P w K mg base CX (k+1) f (PySem.W.fnOf name qual params body scope dV kV doc pm an cdv ct) ps sp:=by
 refine⟨len,λA outer s H args us vs Q E hr e0 hb r vE=>?_⟩;have hl:=len _ _ _ _ vE;have KX:K.In s.heap:=e0.mod.kin.keeps λb o e=>(e0.bs b o e).1;have lim:s.heap.NoLimit:=e0.mod.nolimit.keeps λb o e=>(e0.bs b o e).1;have jD:∀y∈ps.zip us,scope.names.lookup y.1=some .local\/(scope.names.lookup y.1=some .cell/\((cellsFrom (s.heap.objs.size+1) scope.names []).lookup y.1).isSome=true):=λ⟨n,v⟩ hy=>by
  rcases S.par n (Ua hy).1 with q|q
  ·exact .inl q
  ·exact .inr ⟨q,PySem.W.cellsFrom_some _ _ _ (.inl q)⟩
 refine codeAny_call_function hr.depth (KX _ _ lk) rfl S.co S.gen rfl (PySem.W.codeRec_of KX kU) (hb _ _ _ _ ?_);refine wpAny_newFunctionEnv_cells S.kind jD λenv he s1 x=>?_;subst he;refine⟨lim.keeps x.toInCall.keep,codeAny_func ?_⟩;obtain⟨t,ht,hq⟩:=hbody A outer s H vs Q E (hr.deeper _) vE;have I:Inv (cxOf CX P w K mg base N qual scope f cdv A outer s H E) [] (start N vs) H s1:=qV2 S hr.hd e0 hl r x;refine Yp (ht [] s1 (start N vs) H _ I hq) (λfl s' hs=>?_) λe s' hs=>hs;have fin:∀{σ':St}{H':Hp}{v:V}{u:Value},Inv (cxOf CX P w K mg base N qual scope f cdv A outer s H E) [] σ' H' s'->RelV v u->Q v H'->CE outer P w H s Q u s':=
  λ{σ' H' v u} J rv q=>⟨v,H',J.os,J.bare,J.base,J.hok,rv,q⟩
 cases fl with
 |ret u=>
  obtain⟨v,σ',H',J,rv,q⟩:=hs;exact fin J rv q
 |next=>
  obtain⟨σ',H',J,q⟩:=hs;exact fin (v:=V.non) (u:=Value.none) J rfl q
 |brk=>
  obtain⟨_,_,_,q⟩:=hs;exact False.elim q
 |cont=>
  obtain⟨_,_,_,q⟩:=hs;exact False.elim q
section
variable {X:Cx}{x:Str}{p pos:Pos}{e:Expr}{es:List Expr}{t:TA}{id T:String}{r:List V->Hp->VK->Prop}
def tCB (r:List V->Hp->VK->Prop) (t:TA):TE:=λσ H Q=>t σ H λvs H1=>r vs H1 Q
theorem qa6 (hc:qe3 X (.builtin id) r) (hg:Gl X x) (hm:X.mg x=none) (hv:bootBuiltins x=some (.builtin id)) (ha:PA X (e::es) t) (hn:x ≠ "__name__":=by decide) (kJ:(x==("__debug__" : Str))=false:=by decide)
  (he:starEach (e::es) X.env=(false,eval e X.env)::starEach es X.env:=by rfl) (jJ:(backTo pos (starEach es X.env)).any (·.1)=false:=by rfl):PE X (.Call (.Name x p) (e::es) [] pos) (tCB r t):=by
 intro j8 s σ H Q I h;refine WG (qs8 I hg hm hv ?_ hn kJ);exact PyProof.Rows.callWith_builtin1 (thn (ha pos j8 s σ H _ I h) λus s1 ⟨vs,H1,I1,r1,q1⟩=>hc j8 s1 σ H1 vs us Q I1 r1 q1) he jJ
theorem qc4 (hc:qe3 X (.type T) r) (hg:Gl X x) (hm:X.mg x=none) (hv:bootBuiltins x=some (.type T)) (ha:PA X (e::es) t) (hn:x ≠ "__name__":=by decide) (kJ:(x==("__debug__" : Str))=false:=by decide)
  (he:starEach (e::es) X.env=(false,eval e X.env)::starEach es X.env:=by rfl) (jJ:(backTo pos (starEach es X.env)).any (·.1)=false:=by rfl):PE X (.Call (.Name x p) (e::es) [] pos) (tCB r t):=by
 intro j8 s σ H Q I h;refine WG (qs8 I hg hm hv ?_ hn kJ);exact Xn (thn (ha pos j8 s σ H _ I h) λus s1 ⟨vs,H1,I1,r1,q1⟩=>hc j8 s1 σ H1 vs us Q I1 r1 q1) he jJ
end
end L2
namespace HT
open PySem PyProof.Rows
section
open PySem.SeqAt
open PySem.AutoSeq1 (wpAny_loadPart')
open PySem.MeetsSeq PySem.MeetsSeq2 PySem.MeetsSeq3
end
section
variable {prog:Program}{w:World}{A:Around}{E:Value->Shared->Prop}{s:Shared}
def sIx (n d:Nat):Option Int->Nat
 |none=>d
 |some v=>if v<0 then (v+(n:Int)).toNat else min v.toNat n
theorem xs3 (n d:Nat) (hd:d<=n) (o:Option Int):sIx n d o<=n:=by
 cases o with
 |none=>exact hd
 |some v=>
  show (if v<0 then (v+(n:Int)).toNat else min v.toNat n)<=n;by_cases hv:v<0
  ·rw[Zt hv];lia
  ·rw[Zl hv];exact Nat.min_le_right _ _
theorem qV3 (v:Int) (n d:Nat):(if v<0 then max (v+(n:Int)) 0 else min v (n:Int))=((sIx n d (some v):Nat):Int):=by
 show (if v<0 then max (v+(n:Int)) 0 else min v (n:Int))=(((if v<0 then (v+(n:Int)).toNat else min v.toNat n):Nat):Int);by_cases hv:v<0
 ·simp only[Zt hv];lia
 ·simp only[Zl hv];lia
theorem qQ4 (lo hi:Option Int) (n:Nat):Builtin.Slice.sliceAdjust lo hi 1 (n:Int)=(((sIx n 0 lo:Nat):Int),((sIx n n hi:Nat):Int)):=by
 have h1:¬((1:Int)<0):=by lia
 unfold Builtin.Slice.sliceAdjust;simp only[h1,Z2];refine Ui ?_ ?_
 ·cases lo with
  |none=>rfl
  |some v=>exact qV3 v n 0
 ·cases hi with
  |none=>rfl
  |some v=>exact qV3 v n n
theorem qQ5 (i j:Nat):Builtin.Slice.slicePlaces (i:Int) (j:Int) 1=j-i:=by
 unfold Builtin.Slice.slicePlaces;have h1:(1:Int)>0:=by lia
 simp only[h1,XF,Int.ediv_one];split<;>lia
theorem qx1 {v:Value}{o:Option Int}{Q:Option Int->Shared->Prop}(p:IsPart v o) (h:Q o s):wpAny (model prog w) A (Builtin.Slice.slicePartIndex v) Q E s:=by
 cases p with
 |none=>exact slicePart_none h
 |int i t=>exact slicePart_int h
theorem qr0 {sl:Addr}{vl vu:Value}{lo hi:Option Int}{n:Nat}{Q:Int×Int×Nat->Shared->Prop}(hs:s.heap.IsSliceOf sl vl vu .none) (pl:IsPart vl lo) (pu:IsPart vu hi)
  (h:Q (((sIx n 0 lo:Nat):Int),1,sIx n n hi-sIx n 0 lo) s):wpAny (model prog w) A (Builtin.Slice.sliceApplied (.ref sl) (pure (n:Int))) Q E s:=by
 obtain⟨os,vJ,hcs,v0⟩:=id hs;unfold Builtin.Slice.sliceApplied Builtin.Slice.sliceFields;refine Za (Za (Yy vJ v0 (x:=vl) rfl (Za (Yy vJ v0 (x:=vu) rfl (Za (Yy vJ v0 (x:=.none) rfl (Zc ?_)))))));refine Za (slicePart_none ?_);show wpAny _ _ (if ((1:Int)==0)=true then _ else _) _ _ s;rw[Zl (by decide)];refine Za (qx1 pl (Za (qx1 pu (Za (Zc ?_)))));show wpAny _ _ (match Builtin.Slice.sliceAdjust lo hi 1 (n:Int) with|(lo,hi)=>pure (lo,(1:Int),Builtin.Slice.slicePlaces lo hi 1)) _ _ s;rw[qQ4 lo hi n];show wpAny _ _ (pure (((sIx n 0 lo:Nat):Int),(1:Int),Builtin.Slice.slicePlaces ((sIx n 0 lo:Nat):Int) ((sIx n n hi:Nat):Int) 1)) _ _ s;rw[qQ5];exact Zc h
theorem q87 (xs:Array Value) (i k:Nat):((List.range k).filterMap λ(m:Nat)=>xs[((i:Int)+(m:Int)*1).toNat]?).toArray=((xs.toList.drop i).take k).toArray:=by
 have e:(λ(m:Nat)=>xs[((i:Int)+(m:Int)*1).toNat]?)=λm=>xs[i+m]?:=by
  funext m;have:((i:Int)+(m:Int)*1).toNat=i+m:=by lia
  rw[this]
 rw[e];have:=pick_run xs i k;rw[List.filterMap_map] at this;have e2:((λx=>xs[x]?)∘λx=>i+x)=λm=>xs[i+m]?:=rfl;rw[e2] at this;rw[this]
theorem getItem_tuple_cut {t sl:Addr}{items:Array Value}{vl vu:Value}{lo hi:Option Int}{Q:Value->Shared->Prop}(ht:IsTup s.heap t items) (hs:s.heap.IsSliceOf sl vl vu .none) (pl:IsPart vl lo) (pu:IsPart vu hi)
  (hw:¬(sIx items.size 0 lo=0/\sIx items.size items.size hi=items.size))
  (h:Q (.ref s.heap.objs.size) { s with heap:=s.heap.push { cls:=.type "tuple",data:=.seq ((items.toList.drop (sIx items.size 0 lo)).take (sIx items.size items.size hi-sIx items.size 0 lo)).toArray } })
  (hsz:items.size<=sizeLine):wpAny (model prog w) A (getItem (.ref t) (.ref sl)) Q E s:=by
 have htake:sizeOk (.seq ((items.toList.drop (sIx items.size 0 lo)).take (sIx items.size items.size hi-sIx items.size 0 lo)).toArray):=by
  show ((items.toList.drop (sIx items.size 0 lo)).take (sIx items.size items.size hi-sIx items.size 0 lo)).toArray.size<=sizeLine;rw[ZI,XW,List.length_drop,ZL];lia
 have hj:sIx items.size items.size hi<=items.size:=xs3 _ _ (Ze _) hi;obtain⟨os,vJ,hcs,v0⟩:=id hs;have hTs:s.TypeIs (.ref sl) "slice":=⟨os,vJ,hcs⟩;unfold getItem
 try with_reducible refine ZX ?_
 first|refine Za (Zc ?_)|skip
 refine Za (wpAny_sequenceKey ht.typeIs (by decide) ?_);refine Za (Z4 (name:=Str.ofString "__getitem__") ht.typeIs XR
  (Z5 XR ht.typeIs entry_tuple_getitem ?_ (args_tuple_getitem _ _)))
 show wpAny _ _ (Builtin.Tuple.tupleItemsOf (.ref t) >>= _) _ _ s;refine Za (tupleItemsOf_ ht ?_);refine Za (Vs hTs ?_);rw[Zt (by decide)];refine Za (qr0 hs pl pu ?_);have hno:¬((((sIx items.size 0 lo:Nat):Int)==0&&(1:Int)==1&&(sIx items.size items.size hi-sIx items.size 0 lo)==items.size)=true):=by
  intro q;rw[W6,W6] at q;have q1:((sIx items.size 0 lo:Nat):Int)=0:=eq_of_beq q.1.1;have q2:sIx items.size items.size hi-sIx items.size 0 lo=items.size:=eq_of_beq q.2;exact hw ⟨by lia,by lia⟩
 show wpAny _ _ (if (((sIx items.size 0 lo:Nat):Int)==0&&(1:Int)==1&&(sIx items.size items.size hi-sIx items.size 0 lo)==items.size)=true then _ else _) _ _ s;rw[Zl hno,q87]
 first
  |exact Za (m:=Builtin.Tuple.tupleExact _) (ZJ (Zc ⟨_,rfl,Zc h⟩) htake)
  |exact Za (m:=Builtin.Tuple.tupleExact _) (ZJ (Za (Zc (Zc ⟨_,rfl,Zc h⟩))) htake)
  |exact Za (Za (m:=Builtin.Tuple.tupleExact _) (ZJ (Zc (Zc ⟨_,rfl,Zc h⟩)) htake))
  |exact Za (Za (m:=Builtin.Tuple.tupleExact _) (ZJ (Zc ⟨_,rfl,Zc h⟩) htake))
end
end HT
namespace L2
open PySem PySem.Spec PyProof.Rows
abbrev TO:=St->Hp->(Option Int->Hp->Prop)->Prop
def PO (X:Cx) (e:Option Expr) (t:TO):Prop:=
 ∀(j8:List (Addr×Obj)) (s:Shared) (σ:St) (H:Hp) (Q:Option Int->Hp->Prop),Inv X j8 σ H s->t σ H Q ->
  wpAny (model X.prog X.w) X.A (evalPart e X.env) (λu s'=>∃o H',Inv X j8 σ H' s'/\IsPart u o/\Q o H') X.xe s
def xj6:TO:=λ_ H Q=>Q none H
def xz7 (t:TE):TO:=λσ H Q=>t σ H λx H1=>∃i,x=.int i/\Q (some i) H1
section
variable {X:Cx}{e:Expr}{te:TE}{lo hi:Option Expr}{tl th:TO}{pos p2:Pos}
theorem qV4:PO X none xj6:=by
 intro j8 s σ H Q I h;rw[evalPart_none];exact Zc ⟨none,H,I,.none,h⟩
theorem qV5 (h:PE X e te):PO X (some e) (xz7 te):=by
 intro j8 s σ H Q I hw;rw[evalPart_some];refine thn (h j8 s σ H _ I hw) λu s1 ⟨x,H1,I1,r1,q1⟩=>?_;obtain⟨i,rfl,q⟩:=q1;obtain⟨t,rfl⟩:=r1;exact⟨some i,H1,I1,.int i t,q⟩
def SlR (X:Cx) (r:V->Option Int->Option Int->Hp->VK->Prop):Prop:=
 ∀(j8:List (Addr×Obj)) (s:Shared) (σ:St) (H:Hp) (x:V) (v vl vu:Value) (lo hi:Option Int) (sl:Addr) (Q:VK),Inv X j8 σ H s->RelV x v->s.heap.IsSliceOf sl vl vu .none->IsPart vl lo->IsPart vu hi->r x lo hi H Q ->
  ∃T id,typeLookup (.type T) "__getitem__" = pure (some (.builtin id))/\s.TypeIs v T/\wpAny (model X.prog X.w) X.A (getItem v (.ref sl)) (EP X j8 σ Q) X.xe s
def tSl (r:V->Option Int->Option Int->Hp->VK->Prop) (te:TE) (tl th:TO):TE:=λσ H Q=>te σ H λx H1=>tl σ H1 λl H2=>th σ H2 λu H3=>r x l u H3 Q
theorem qL5 {r:V->Option Int->Option Int->Hp->VK->Prop}(hr:SlR X r) (he:PE X e te) (hl:PO X lo tl) (hu:PO X hi th):PE X (.Subscript e (.Slice lo hi none p2) pos) (tSl r te tl th):=by
 intro j8 s σ H Q I h;refine Subscript_ (thn (he j8 s σ H _ I h) λv s1 ⟨x,H1,I1,r1,q1⟩=>?_);refine wpAny_Slice (thn (hl j8 s1 σ H1 _ I1 q1) λvl s2 ⟨l,H2,I2,pl,q2⟩=>thn (hu j8 s2 σ H2 _ I2 q2) λvu s3 ⟨u,H3,I3,pu,q3⟩=>?_);rw[evalPart_none];refine Zc ?_;have I4:Inv X j8 σ H3 { s3 with heap:=s3.heap.push { cls:=.type "slice",data:=.fields #[vl,vu,.none] } }:=I3.kept (t':=s3.toks) λb ob q=>Zb _ q;obtain⟨T,id,hT,ht,hg⟩:=hr j8 { s3 with heap:=s3.heap.push { cls:=.type "slice",data:=.fields #[vl,vu,.none] } } σ H3 x v vl vu l u s3.heap.objs.size Q I4 r1 (Heap.IsSliceOf.new ..) pl pu q3;show wpAny (model X.prog X.w) X.A (subscriptTail e (.Slice lo hi none p2) v (.ref s3.heap.objs.size)) (EP X j8 σ Q) X.xe { s3 with heap:=s3.heap.push { cls:=.type "slice",data:=.fields #[vl,vu,.none] } };exact tail_any (ops:=[.ref s3.heap.objs.size,v]) ht hT hg (by with_unfolding_all rfl)
def cutV (xs:List V) (lo hi:Option Int):List V:=(xs.drop (HT.sIx xs.length 0 lo)).take (HT.sIx xs.length xs.length hi-HT.sIx xs.length 0 lo)
theorem qI5 (xs:List V) (lo hi:Option Int):(cutV xs lo hi).length<=xs.length:=by
 unfold cutV;rw[XW,List.length_drop];lia
def rSlT (K:PySem.W.Frag):V->Option Int->Option Int->Hp->VK->Prop:=λx lo hi H Q=>∃a xs,x=.ref a/\SqT K H a xs /\
 ¬(HT.sIx xs.length 0 lo=0/\HT.sIx xs.length xs.length hi=xs.length)/\∀p,H p=none->Q (.ref p) (upd H p (.tup (cutV xs lo hi)))
theorem xf8:SlR X (rSlT X.K):=by
 intro j8 s σ H x v vl vu lo hi sl Q I rx hs pl pu h;obtain⟨a,xs,rfl,hx,hw,q⟩:=h;cases rx;obtain⟨its,r,ht,hz⟩:=I.tuple hx;have j9:its.toArray.size=xs.length:=by rw[ZI];exact r.length.symm
 refine⟨"tuple",_,XR.lookup,ht.typeIs,?_⟩;refine HT.getItem_tuple_cut ht hs pl pu (by rw[j9];exact hw) ?_ (by rw[j9];exact hz);rw[j9];refine⟨.ref s.heap.objs.size,_,I.laid (t':=s.toks) (o:=.tup (cutV xs lo hi)) (λb ob q=>Zb _ q) (Ze _) ?_,rfl,q _ (I.hok.fresh (Ze _))⟩;exact⟨ZG (qI5 xs lo hi) hz,_,(r.drop (HT.sIx xs.length 0 lo)).take (HT.sIx xs.length xs.length hi-HT.sIx xs.length 0 lo),IsTupX.new _ _⟩
end
def ixN (n:Nat) (i:Int):Option Nat:=if 0<=i then (if i<n then some i.toNat else none) else if -(n:Int)<=i then some (i+n).toNat else none
def atI {α:Type}(xs:List α) (i:Int):Option α:=(ixN xs.length i).bind λj=>xs[j]?
theorem qV6 {n:Nat}{i:Int}{j:Nat}(h:ixN n i=some j):seqIndex? i n=some j/\j<n/\-(n:Int)<=i/\i<n:=by
 unfold ixN at h;by_cases h0:0<=i
 ·rw[Zt h0] at h;by_cases h1:i<n
  ·rw[Zt h1] at h;have e:i.toNat=j:=ZM h;exact⟨by rw[seqIndex_of h0 h1,e],by lia,by lia,h1⟩
  ·rw[Zl h1] at h;cases h
 ·rw[Zl h0] at h;by_cases h1:-(n:Int)<=i
  ·rw[Zt h1] at h;have e:(i+n).toNat=j:=ZM h;exact⟨by rw[seqIndex_neg (by lia) h1,e],by lia,h1,by lia⟩
  ·rw[Zl h1] at h;cases h
theorem qI6 {α:Type}{xs:List α}{i:Int}{v:α}(h:atI xs i=some v):∃j,seqIndex? i xs.length=some j/\xs[j]?=some v/\j<xs.length/\-(xs.length:Int)<=i/\i<xs.length:=by
 unfold atI at h;cases e:ixN xs.length i with
 |none=>rw[e] at h;cases h
 |some j=>
  rw[e] at h;obtain⟨h1,h2,h3,h4⟩:=qV6 e;exact⟨j,h1,h,h2,h3,h4⟩
theorem qj4 {α:Type}{xs:List α}{j:Nat}{v:α}(h:xs[j]?=some v):atI xs (j:Int)=some v:=by
 have hj:j<xs.length:=(gS_ h).1;have e:ixN xs.length (j:Int)=some j:=by
  unfold ixN;rw[Zt (by lia),Zt (by lia)];simp
 unfold atI;rw[e];exact h
def qV7 (b:Expr):Prop:=∀o i,subscripted b false o i=operate [o,i] (getItem o i)
def IxR (X:Cx) (r:R2):Prop:=
 ∀(value slice:Expr) (j8:List (Addr×Obj)) (s:Shared) (σ:St) (H:Hp) (x y:V) (v u:Value) (Q:VK),Inv X j8 σ H s->RelV x v->RelV y u->r x y H Q ->
  subscripted slice false v u=operate [v,u] (getItem v u)->wpAny (model X.prog X.w) X.A (subscriptTail value slice v u) (EP X j8 σ Q) X.xe s
def MtR (X:Cx) (id:String) (r:V->List V->Hp->VK->Prop):Prop:=
 ∀(j8:List (Addr×Obj)) (s:Shared) (σ:St) (H:Hp) (x:V) (xs:List V) (v:Value) (us:List Value) (Q:VK),Inv X j8 σ H s->RelV x v->Vals xs us->r x xs H Q ->
  wpAny (model X.prog X.w) X.A (call (.builtin id) (v::us)) (EP X j8 σ Q) X.xe s
section
variable {X:Cx}{a b:Expr}{ta tb:TE}{pos:Pos}
theorem IxR.or {r r':R2}(h:IxR X r) (h':IxR X r'):IxR X (λx y H Q=>r x y H Q\/r' x y H Q):=by
 intro value slice j8 s σ H x y v u Q I rx ry q hs;rcases q with q|q
 ·exact h value slice j8 s σ H x y v u Q I rx ry q hs
 ·exact h' value slice j8 s σ H x y v u Q I rx ry q hs
theorem xz8 {r:R2}(hr:IxR X r) (ha:PE X a ta) (hb:PE X b tb) (hs:qV7 b):PE X (.Subscript a b pos) (tOp r ta tb):=by
 intro j8 s σ H Q I h;exact Subscript_ (binT ha hb I h λv u s2 x y H2 I2 rx ry q=>hr a b j8 s2 σ H2 x y v u Q I2 rx ry q (hs _ _))
inductive rIxL_ (K:PySem.W.Frag) (x y:V) (H:Hp) (Q:VK):Prop
 |mk (p:_) (xs:_) (i:_) (v:_) (e0:x=.ref p) (e1:y=.int i) (e2:SqL K H p xs) (e3:atI xs i=some v) (e4:Q v H)
def rIxL (K:PySem.W.Frag):R2:=λx y H Q=>rIxL_ K x y H Q
inductive rIxT_ (K:PySem.W.Frag) (x y:V) (H:Hp) (Q:VK):Prop
 |mk (p:_) (xs:_) (i:_) (v:_) (e0:x=.ref p) (e1:y=.int i) (e2:SqT K H p xs) (e3:atI xs i=some v) (e4:Q v H)
def rIxT (K:PySem.W.Frag):R2:=λx y H Q=>rIxT_ K x y H Q
inductive rIxS_ (x y:V) (H:Hp) (Q:VK):Prop
 |mk (z:_) (i:_) (c:_) (e0:x=.str z) (e1:y=.int i) (e2:z.length<=sizeLine) (e3:atI z.cps.toList i=some c) (e4:Q (.str ⟨#[c]⟩) H)
def rIxS:R2:=λx y H Q=>rIxS_ x y H Q
theorem qf0:IxR X (rIxL X.K):=by
 intro value slice j8 s σ H x y v u Q I rx ry h hs;obtain⟨p,xs,i,z,rfl,rfl,hq,he,q⟩:=h;cases rx;obtain⟨t,rfl⟩:=ry;obtain⟨its,r,pl,hz⟩:=I.list hq;obtain⟨j,h1,h2,h3,h4,h5⟩:=qI6 he;obtain⟨w,ew,rw'⟩:=r.get h2;have hl:=r.length;have hn:=qw9;have fin:EP X j8 σ Q w s:=⟨z,H,I,rw',q⟩;by_cases h0:0<=i
 ·have hj:i.toNat=j:=by
   rw[seqIndex_of h0 h5] at h1;exact ZM h1
  exact item_listR pl.isList h0 (by lia) (by rw[hj];simpa using ew) fin hs
 ·have hj:(i+(its.toArray.size:Int)).toNat=j:=by
   rw[seqIndex_neg (by lia) h4] at h1;rw[ZI,<- hl];exact ZM h1
  exact subscriptTail_builtinR (x:=w) pl.isList.typeIs slot_list_getitem.lookup
   (wpAny_getItem_list_neg (Q:=λr s'=>r=w/\EP X j8 σ Q r s') pl.isList (by lia) (by rw[ZI]<;>lia) (by lia) (by rw[hj];simpa using ew) ⟨rfl,fin⟩) hs
theorem qc8:IxR X (rIxT X.K):=by
 intro value slice j8 s σ H x y v u Q I rx ry h hs;obtain⟨p,xs,i,z,rfl,rfl,hq,he,q⟩:=h;cases rx;obtain⟨t,rfl⟩:=ry;obtain⟨its,r,pl,hz⟩:=I.tuple hq;obtain⟨j,h1,h2,h3,h4,h5⟩:=qI6 he;obtain⟨w,ew,rw'⟩:=r.get h2;have hl:=r.length;have hn:=qw9;have fin:EP X j8 σ Q w s:=⟨z,H,I,rw',q⟩;exact subscriptTail_builtinR (x:=w) pl.typeIs slot_tuple_getitem.lookup
  (getItem_tuple (j:=j) (Q:=λr s'=>r=w/\EP X j8 σ Q r s') pl (by lia) (by lia) (by rw[ZI,<- hl];exact h1) (by simpa using ew) ⟨rfl,fin⟩) hs
theorem xs4:IxR X rIxS:=by
 intro value slice j8 s σ H x y v u Q I rx ry h hs;obtain⟨z,i,c,rfl,rfl,hz,he,q⟩:=h;obtain⟨t,rfl⟩:=rx;obtain⟨t',rfl⟩:=ry;obtain⟨j,h1,h2,h3,h4,h5⟩:=qI6 he;have hl:z.cps.toList.length=z.length:=by simp[Str.length]
 rw[hl] at h1 h4 h5;have hn:=qw9;exact tail_any (typeIs_str s z t) slot_str_getitem.lookup (getItem_str (c:=c) (by
  have e1:decide (i < -(2^63:Int))=false:=Zu (by lia);have e2:decide (i>=2^63)=false:=Zu (by lia);rw[e1,e2,Bool.or_false]) (by rw[h1];simpa using h2) ⟨.str ⟨#[c]⟩,H,I.tok _,⟨_,rfl⟩,q⟩) hs
theorem qQ6 (its:List Value) (n j:Nat) (u:Value):Obj.mapSeq (·.setIfInBounds j u) { cls:=.type "list",data:=.seq its.toArray n }={ cls:=.type "list",data:=.seq (its.set j u).toArray n }:=by
 simp[Obj.mapSeq]
theorem Inv.lst {j8:List (Addr×Obj)}{σ:St}{H:Hp}{s:Shared}{p:Addr}{xs:List V}(I:Inv X j8 σ H s) (h:H p=some (.lst xs)) :
  ∃(its:List Value) (n:Nat),Vals xs its/\s.heap.get? p=some { cls:=.type "list",data:=.seq its.toArray n }/\xs.length<=sizeLine:=by
 obtain⟨z,its,n,r,e⟩:=I.hok p _ h;exact⟨its,n,r,e,z⟩
theorem Inv.lstUpd {j8:List (Addr×Obj)}{σ:St}{H:Hp}{s:Shared}{p:Addr}{xs ys:List V}{its its':List Value}{n n':Nat}{f:Obj->Obj}(I:Inv X j8 σ H s) (h:H p=some (.lst xs))
  (ho:s.heap.get? p=some { cls:=.type "list",data:=.seq its.toArray n }) (hf:f { cls:=.type "list",data:=.seq its.toArray n }={ cls:=.type "list",data:=.seq its'.toArray n' }) (r:Vals ys its') (hz:ys.length<=sizeLine) (t:Nat) :
  Inv X j8 σ (upd H p (.lst ys)) { s with heap:=s.heap.update p f,toks:=t }:=by
 have e:(s.heap.update p f).get? p=some { cls:=.type "list",data:=.seq its'.toArray n' }:=by
  rw[ZQ f ho (by rw[hf]<;>rfl),hf]
 refine I.write (x:=p) (e:=p) (by rw[h];trivial) (.inl rfl) (λb u hb q=>(Zs _ _ (XC hb)).trans q) ⟨_,e⟩ ?_;exact⟨hz,its',n',r,e⟩
def xz9:V->V->V->Hp->(Hp->Prop)->Prop:=λo i v H Q=>∃p xs k j,o=.ref p/\i=.int k/\H p=some (.lst xs)/\ixN xs.length k=some j/\Q (upd H p (.lst (xs.set j v)))
theorem qL6:PSet X xz9:=by
 intro j8 s σ H o i v ov iv u Q I ro ri rv h;obtain⟨p,xs,k,j,rfl,rfl,hp,hj,q⟩:=h;cases ro;obtain⟨t,rfl⟩:=ri;obtain⟨its,n,r,ho,hz⟩:=I.lst hp;obtain⟨h1,h2,h3,h4⟩:=qV6 hj;have hl:=r.length;have hn:=qw9;have I':Inv X j8 σ (upd H p (.lst (xs.set j v))) { s with heap:=s.heap.update p (Obj.mapSeq (·.setIfInBounds j u)) }:=
  I.lstUpd hp ho (qQ6 its n j u) (r.set rv j) (by rw[List.length_set];exact hz) s.toks
 by_cases h0:0<=k
 ·have hk:k.toNat=j:=by
   rw[seqIndex_of h0 h4] at h1;exact ZM h1
  exact PySem.W.ki_setAt ho h0 (by lia) (by rw[ZI,<- hl];exact h4) (by rw[hk];exact⟨_,I',q⟩)
 ·have hk:(k+(its.toArray.size:Int)).toNat=j:=by
   rw[seqIndex_neg (by lia) h3] at h1;rw[ZI,<- hl];exact ZM h1
  exact PySem.W.ki_setBack ho (by lia) (by rw[ZI,<- hl];exact h3) (by lia) (by rw[hk];exact⟨_,I',q⟩)
theorem qd4:qe3 X (.builtin "len") (λxs H Q=>∃p ys,xs=[.ref p]/\(SqL X.K H p ys\/SqT X.K H p ys)/\Q (.int ys.length) H):=by
 intro j8 s σ H xs us Q I r h;obtain⟨p,ys,rfl,hq,q⟩:=h;obtain⟨u,rfl,rx⟩:=qg0 r;cases rx;have hn:=qw9;rcases hq with hq|hq
 ·obtain⟨its,r',pl,hz⟩:=I.list hq;have j9:=r'.length;exact Calls.call_len_list pl.isList (by simp only[ZI]<;>lia) ⟨.int ys.length,H,I.tok _,⟨s.toks+1,by rw[ZI,j9]⟩,q⟩
 ·obtain⟨its,r',pl,hz⟩:=I.tuple hq;have j9:=r'.length;exact len_tuple pl (by simp only[ZI]<;>lia) ⟨.int ys.length,H,I.tok _,⟨s.toks+1,by rw[ZI,j9]⟩,q⟩
theorem qC3:qe3 X (.builtin "len") (λxs H Q=>∃z,xs=[.str z]/\z.length<=sizeLine/\Q (.int z.length) H):=by
 intro j8 s σ H xs us Q I r h;obtain⟨z,rfl,hz,q⟩:=h;obtain⟨u,rfl,t,rfl⟩:=qg0 r;have hn:=qw9;exact len_str (by lia) ⟨.int z.length,H,I.tok _,⟨_,rfl⟩,q⟩
theorem qy3:qe3 X (.type "tuple") (λxs H Q=>∃p ys,xs=[.ref p]/\((SqL X.K H p ys/\∀l,H l=none->Q (.ref l) (upd H l (.tup ys)))\/(SqT X.K H p ys/\Q (.ref p) H))):=by
 intro j8 s σ H xs us Q I r h;obtain⟨p,ys,rfl,h⟩:=h;obtain⟨u,rfl,rx⟩:=qg0 r;cases rx;rcases h with ⟨hq,q⟩|⟨hq,q⟩
 ·obtain⟨its,r',pl,hz⟩:=I.list hq;have j9:=r'.length;refine call_tuple_list pl.isList (λh' kp=>?_) (by simp only[ZI]<;>lia);have I1:Inv X j8 σ H { s with heap:=h' }:=I.kept (t':=s.toks) kp;have I2:Inv X j8 σ (upd H h'.objs.size (.tup ys)) { s with heap:=h'.push { cls:=.type "tuple",data:=.seq its.toArray } }:=
   I1.laid (t':=s.toks) (λb o e=>Zb _ e) (Ze _) (show ObjOk X.prog X.w _ _ _ (.tup ys) from ⟨hz,its,r',IsTupX.new _ _⟩)
  exact⟨.ref h'.objs.size,_,I2,rfl,q _ (I1.hok.fresh (Ze _))⟩
 ·obtain⟨its,r',pl,hz⟩:=I.tuple hq;exact call_tuple_same pl ⟨.ref p,H,I,rfl,q⟩
def tyV (K:PySem.W.Frag) (T:String) (x:V) (H:Hp):Prop:=match x with
 |.str _=>T = "str"
 |.int _=>T = "int"
 |.ref p=>(T = "list" /\ ∃xs,SqL K H p xs)\/(T = "tuple" /\ ∃o,K.lookup p=some o/\o.cls=.type "tuple" /\ o.dict=none) \/
   (T = "dict" /\ ((∃kvs,H p=some (.dK kvs))\/∃kvs,H p=some (.dT kvs)))\/(T = "set" /\ ∃S n,H p=some (.set S n))
 |_=>False
theorem xs5 {j8:List (Addr×Obj)}{σ:St}{H:Hp}{s:Shared}{T:String}{x:V}{v:Value}(I:Inv X j8 σ H s) (r:RelV x v) (ty:tyV X.K T x H) :
  s.TypeIs v T/\∀a,v=.ref a->∃ob,s.heap.get? a=some ob/\ob.dict=none:=by
 cases x with
 |str z=>
  obtain⟨t,rfl⟩:=r;cases (show T = "str" from ty);exact⟨typeIs_str s z t,λ_ e=>nomatch e⟩
 |int i=>
  obtain⟨t,rfl⟩:=r;cases (show T = "int" from ty);exact⟨typeIs_int s i t,λ_ e=>nomatch e⟩
 |ref p=>
  cases r;rcases ty with ⟨rfl,xs,hq⟩|⟨rfl,o,hk,hc,hd⟩|⟨rfl,hk⟩|⟨rfl,S,n,hk⟩
  ·obtain⟨its,_,pl,_⟩:=I.list hq;refine⟨pl.isList.typeIs,λa e=>?_⟩;cases e;obtain⟨o,n,e,c,hd,_⟩:=pl;exact⟨o,e,hd⟩
  ·refine⟨⟨o,I.kIn p o hk,hc⟩,λa e=>?_⟩;cases e;exact⟨o,I.kIn _ o hk,hd⟩
  ·have z:∃o,s.heap.get? p=some o/\o.ExactDict:=by
    rcases hk with ⟨kvs,hk⟩|⟨kvs,hk⟩
    ·obtain⟨_,_,_,_,o,_,_,e,ex,_⟩:=I.hok p _ hk;exact⟨o,e,ex⟩
    ·obtain⟨_,_,_,_,o,_,_,e,ex,_⟩:=I.hok p _ hk;exact⟨o,e,ex⟩
   obtain⟨o,e,ex⟩:=z;refine⟨⟨o,e,ex.1⟩,λa e2=>?_⟩;cases e2;exact⟨o,e,ex.2.1⟩
  ·obtain⟨o,_,_,_,e,ex,_⟩:=I.hok p _ hk;refine⟨⟨o,e,ex.1⟩,λa e2=>?_⟩;cases e2;exact⟨o,e,ex.2.1⟩
 |_=>exact False.elim ty
def tBM (K:PySem.W.Frag) (T:String) (r:V->List V->Hp->VK->Prop) (to:TE) (t:TA):TE:=λσ H Q=>to σ H λx H1=>tyV K T x H1/\t σ H1 λxs H2=>r x xs H2 Q
variable {o e:Expr}{es:List Expr}{to:TE}{t:TA}{name:Str}{apos cpos:Pos}{T id:String}{r:V->List V->Hp->VK->Prop}
theorem qV8 (pa:PlainAttrs T) (slot:Slot T name id) (hty:typeOf (.builtin id)=pure (.type "method_descriptor")) (hm:MtR X id r) (ho:PE X o to) (ha:PA X (e::es) t)
  (hbase:attributeBase o name X.env (eval o X.env)=eval o X.env:=by rfl)
  (hfew:((backTo cpos (starEach (e::es) X.env)).all (λx=>!x.1)&&(backToKw cpos (keywordEach [] X.env)).all (λx=>x.1.isSome)
   && decide ((e::es).length+([]:List Keyword).length+(if ([]:List Keyword).isEmpty then 0 else 1)<30))=true:=by rfl)
  (hline:(apos.endLine==cpos.line)=true:=by rfl) (hs:starEach (e::es) X.env=(false,eval e X.env)::starEach es X.env:=by rfl) (hplain:(backTo cpos (starEach es X.env)).any (·.1)=false:=by rfl) :
  PE X (.Call (.Attribute o name apos) (e::es) [] cpos) (tBM X.K T r to t):=by
 intro j8 s σ H Q I h;refine wpAny_Call_method_late hbase hfew hline rfl (thn (ho j8 s σ H _ I h) λv s1 ⟨x,H1,I1,r1,ty,q1⟩=>?_);obtain⟨h1,h2⟩:=xs5 I1 r1 ty;refine⟨T,id,pa,slot,hty,h1,h2,?_⟩;have hA:=ha cpos j8 s1 σ H1 _ I1 q1;rw[hs] at hA ⊢;refine Calls.callWith_builtin (by show (false||(backTo cpos (starEach es X.env)).any (·.1))=false;rw[hplain]<;>rfl) (Calls.evalArgs_plain ?_);exact thn hA λus s2 ⟨vs,H2,I2,r2,q2⟩=>hm j8 s2 σ H2 x vs v us Q I2 r1 r2 q2
end
def MtM (X:Cx) (id:String) (r:V->List V->Hp->VK->Prop):Prop:=
 ∀(j8:List (Addr×Obj)) (s:Shared) (σ:St) (H:Hp) (x:V) (xs:List V) (v:Value) (us:List Value) (Q:VK),Inv X j8 σ H s->RelV x v->Vals xs us->r x xs H Q ->
  wpAny (model X.prog X.w) X.A (call (.builtin id) (v::us)) (EP X j8 σ Q) X.xe s
theorem Vals.one {x:V}{us:List Value}(h:Vals [x] us):∃u,us=[u]/\RelV x u:=by
 cases h with
 |cons r t=>cases t;exact⟨_,rfl,r⟩
section
variable {X:Cx}{j8:List (Addr×Obj)}{σ:St}{H:Hp}{s:Shared}{l b:Addr}{xs ys zs:List V}
theorem Inv.lset {its its':List Value}{n:Nat}{f:Array Value->Array Value}{t':Nat}(I:Inv X j8 σ H s) (hH:H l=some (.lst xs))
  (e:s.heap.get? l=some { cls:=.type "list",data:=.seq its.toArray n }) (hf:f its.toArray=its'.toArray) (hv:Vals ys its') (hz:ys.length<=sizeLine) :
  Inv X j8 σ (upd H l (.lst ys)) { s with heap:=s.heap.update l (Obj.mapSeq f),toks:=t' }:=by
 have q:=PySem.IsL.update e f;rw[hf] at q;refine I.write (x:=l) (e:=l) (by rw[hH];exact trivial) (.inl rfl) (λb' u hb hu=>(Zs s.heap (Obj.mapSeq f) (XC hb)).trans hu) ⟨_,q⟩ ?_;exact⟨hz,its',_,hv,q⟩
theorem Inv.lnew {its:List Value}{t':Nat}(I:Inv X j8 σ H s) (hv:Vals ys its) (hz:ys.length<=sizeLine) :
  Inv X j8 σ (upd H s.heap.objs.size (.lst ys)) { s with heap:=s.heap.push { cls:=.type "list",data:=.seq its.toArray },toks:=t' }:=
 I.laid (λ_ _ q=>Zb _ q) (Ze _) ⟨hz,its,0,hv,Zh _ rfl⟩
theorem Inv.fresh (I:Inv X j8 σ H s):H s.heap.objs.size=none:=I.hok.fresh (Ze _)
theorem Inv.lstM (I:Inv X j8 σ H s) (hH:H l=some (.lst xs)):xs.length<=sizeLine/\∃(its:List Value) (n:Nat),Vals xs its/\xs.length=its.length/\s.heap.get? l=some { cls:=.type "list",data:=.seq its.toArray n }:=by
 obtain⟨z,its,n,r,e⟩:=I.hok l _ hH;exact⟨z,its,n,r,r.length,e⟩
end
section
variable {X:Cx}
def xj7:V->List V->Hp->VK->Prop:=λx vs H Q=>∃l xs y,x=.ref l/\vs=[y]/\H l=some (.lst xs)/\xs.length<sizeLine/\Q .non (upd H l (.lst (xs++[y])))
theorem qg2:MtM X "list.append" xj7:=by
 intro j8 s σ H x vs v us Q I rx rv h;obtain⟨l,xs,y,rfl,rfl,hH,hz,q⟩:=h;cases rx;obtain⟨u,rfl,ru⟩:=rv.one;obtain⟨z,its,n,r,hl,e⟩:=I.lstM hH;refine call_meets F.slot_list_append ⟨_,e,rfl⟩ F.entry_list_append (F.args_list_append_2 _ _) (PySem.list_append l its.toArray n u (by rw[ZI];lia)) ⟨e,?_⟩;refine⟨.non,_,I.lset (its':=its++[u]) hH e (by simp) (r.append (.cons ru .nil)) ?_,rfl,q⟩;rw[ZC,List.length_singleton];lia
def rCat:R2:=λx y H Q=>∃l b xs zs,x=.ref l/\y=.ref b/\H l=some (.lst xs)/\H b=some (.lst zs)/\xs.length+zs.length<=sizeLine/\∀p,H p=none->Q (.ref p) (upd H p (.lst (xs++zs)))
theorem xs6:OpR X (binaryOp .Add) rCat:=by
 intro j8 s σ H x y v u Q I rx ry h;obtain⟨l,b,xs,zs,rfl,rfl,hH,hB,hz,q⟩:=h;cases rx;cases ry;obtain⟨z,its,n,r,hl,e⟩:=I.lstM hH;obtain⟨z2,its2,n2,r2,jI,e2⟩:=I.lstM hB;refine PySem.P.add_list e e2 ?_ (by rw[ZI,ZI];lia);have ea:its.toArray++its2.toArray=(its++its2).toArray:=by simp
 rw[ea];exact⟨.ref _,_,I.lnew (t':=s.toks) (r.append r2) (by rw[ZC];lia),rfl,q _ I.fresh⟩
end
section
variable {prog:Program}{w:World}{A:Around}{E:Value->Shared->Prop}{s:Shared}
end
section
variable {X:Cx}
end
end L2
namespace Att
open PySem PySem.W PySem.Calls PyProof.Rows
theorem qt1 {P:Params}{h:Heap}:∀(ns:List Int) (vs:List Value),WellAll P h vs (ns.map WData.int)->IntsAre vs ns:=by
 intro ns
 induction ns with
 |nil=>
  intro vs w;rw[V6] at w;cases w;exact .nil
 |cons n ns ih=>
  intro vs w;rw[ZE] at w;cases w with
  |cons a b=>
   cases a;exact .cons _ _ (ih _ b)
theorem qV9 {l:OpenLaw}{n:Nat}(hn:l.most=some n){P:Params}{h:Heap}{args:List WData}{vals:List Value}
  (hpre:l.row.toRowW.claim.pre args=true) (hwl:WellAll P h vals args) :
  ∃a vs ns,vals=[Value.ref a]/\args=[WData.list (ns.map WData.int)]/\h.get? a=some { cls:=.type "list",data:=.seq vs.toArray }/\IntsAre vs ns/\ns.length<=n:=by
 have hsh:WShape.hasAll [] args [.list .int]=true:=(pre_splitW hpre).1;have hc:l.pre.holds [] { args:=args }=true:=(pre_splitW hpre).2;obtain⟨d,r,rfl,h1,h2⟩:=hasAllW_cons hsh;obtain rfl:=hasAllW_nil h2;obtain⟨xs,rfl,h3⟩:=hasW_list h1;obtain⟨ns,rfl⟩:=items_int h3;have j9:ns.length<=n:=by
  unfold OpenLaw.pre at hc;have h4:(WTm.not (.lt (.lit (.int (n:Int))) (.len (.arg 0)))).holds [] { args:=[.list (ns.map .int)] }=true:=by
   have h4:=(holds_andW hc).1;rw[hn] at h4;exact h4
  have h5:=condW_of h4 (w_not (w_lt w_lit (w_len_list (w_arg rfl))));rw[Zf] at h5;refine VY λq=>?_;have q':(n:Int)<((ns.length:Nat):Int):=by lia
  first
   |(rw[Zv q'] at h5;exact absurd h5 (by decide))
   |(simp at h5;lia)
 cases hwl with
 |cons w1 w2=>
  cases w2;cases w1 with
  |list ho jZ=>exact⟨_,_,ns,rfl,rfl,ho,qt1 ns _ jZ,j9⟩
theorem qW0 (l:OpenLaw) (args:List WData):l.row.toRowW.claim.post args (.bool true) args=true:=
 postW_of (r:=l.row.toRowW) (X:=(true==true))
  (show WShape.has [] (.bool true) .bool=true by first|rfl|decide|simp[WShape.has,WShape.arms,WShape.armsAll])
  (show (WTm.eq .res (.lit (.bool true))).value [] { args:=args,res:=some (.bool true),after:=args }=some (.bool (true==true)) from w_eq_bool (w_res rfl) w_lit) rfl
theorem attach_call {l:OpenLaw}{n:Nat}{q:Program}{loose:List Str}{XP:(Str->Option Value)->Heap->Prop}{YP:World->Heap->Prop}{d:DefRec}
  (hn:l.most=some n) (hdf:d.params.defaults=[])
  (call:∀(w:World) (s₀ s₁:Shared) (mg mb:Str->Option Value) (fa:Addr) (o:Obj) (pm cd doc:Value) (a:Addr) (vs:List Value) (ns:List Int),
   Ground q loose [] XP w s₀ mg mb s₁.heap->YP w s₁.heap ->
   s₁.heap.get? fa=some o->o.data=.func (docDef d.name d.params d.body d.scope pm cd doc)->s₁.heap.CodeRec cd d.name->mg d.name=some (.ref fa) ->
   s₁.heap.get? a=some { cls:=.type "list",data:=.seq vs.toArray }->IntsAre vs ns->ns.length<=n->s₁.gens=#[] ->
   codeAny (model l.prog w) callerA (.call (.ref fa) ⟨[.ref a],[]⟩) (λr s'=>r=.ok (.ret (.bool true))/\OldK s₁.heap s'.heap/\s'.os=s₁.os/\AllBare s'.gens) s₁) :
  WalkO q loose XP YP l.row.toRowW d [] (λf vs=>PySem.call f vs):=by
 intro w s₀ s₁ mg mb G Y fa o pm cd doc dV kV ho hd kU hD hmg hg args vals as hpre hlay hrd hwl hlo;obtain rfl:dV=.none:=Dflts.none hD hdf;obtain rfl:kV=.none:=Dflts.noKw hD;obtain⟨a,vs,ns,rfl,rfl,hobj,hints,j9⟩:=qV9 hn hpre hwl;refine enter_call (Wn (call w s₀ s₁ mg mb fa o pm cd doc a vs ns G Y ho (fd_plain hd) kU hmg hobj hints j9 hg) λr s' hq=>?_);obtain⟨rfl,h2,h3,h4⟩:=hq;exact⟨.inl ⟨.bool true,.bool true,[],rfl,λ_=>rfl,.bool true,qW0 l _,λ_=>⟨List.Pairwise.nil,λ_ hm=>(nomatch hm)⟩⟩,h2,h3,h4⟩
section
variable {prog:Program}{w:World}{A:Around}{E:Value->Shared->Prop}{s:Shared}{K:Frag}
end
end Att
namespace L2
open PySem PySem.Spec PyProof.Rows
theorem qC4:∀{vs:List Value}{ns:List Int},IntsAre vs ns->Vals (ns.map V.int) vs
 |_,_,.nil=>.nil
 |_,_,.cons n t h=>.cons ⟨t,rfl⟩ (qC4 h)
def Only (H:Hp):Prop:=∀b,H b=none\/∃o xs,H b=some (.frz o (.lst xs))
theorem q88 {P:Program}{w:World}{K:PySem.W.Frag}{mg mb:Str->Option Value}{CX:CXT}{k:Nat}{fa a:Addr}{fd:FuncData}{x:Str}{sp:Sp}{s₁:Shared}{vs:List Value}{ns:List Int}
  (KX:K.In s₁.heap) (hns:s₁.heap.Ns mainGlobals mg) (hb:s₁.heap.Ns builtinsNs mb) (hbb:∀x:Str,x ≠ "__name__" -> mb x=bootBuiltins x) (hlim:s₁.heap.NoLimit) (hg:s₁.gens=#[])
  (ha:s₁.heap.get? a=some { cls:=.type "list",data:=.seq vs.toArray }) (hi:IntsAre vs ns) (hl:ns.length<=sizeLine) (hr:Room k callerA)
  (F:∀base:Heap,K.In base->base.Ns mainGlobals mg->FnOk P w K mg base CX k fa fd [x] sp) (hbind:∀(s:Shared) (u:Value),BindsTo s fd ⟨[u],[]⟩ [(x,u)])
  (vE:∀H:Hp,Only H->SqL K H a (ns.map V.int)->sp [.ref a] H (λv _=>v=.bl true) λ_ _ _=>False)
  (hCX:∀H e s',CX [] H s₁ (λ_ _ _=>False) e s'->False) :
  codeAny (model P w) callerA (.call (.ref fa) ⟨[.ref a],[]⟩) (λr s'=>r=.ok (.ret (.bool true))/\OldK s₁.heap s'.heap/\s'.os=s₁.os/\AllBare s'.gens) s₁:=by
 have rv:=qC4 hi;have lenV:=hi.length;have core:∀H:Hp,Only H->SqL K H a (ns.map V.int)->HOk P w H s₁.heap->(∀b,H b≠none->b=a)->(H a≠none->K.lookup a=none) ->
   codeAny (model P w) callerA (.call (.ref fa) ⟨[.ref a],[]⟩) (λr s'=>r=.ok (.ret (.bool true))/\OldK s₁.heap s'.heap/\s'.os=s₁.os/\AllBare s'.gens) s₁:=by
  intro H hO hS hok hA hK;have base_of:∀{b:Addr}{o:Obj},s₁.heap.get? b=some o->H b=none->(hidT s₁.heap H).get? b=some o:=λe n=>q83 e n;have noA:∀{b:Addr}{o:Obj}{es:Array DictEntry}{ep:Nat},s₁.heap.get? b=some o->o.data=.dict es ep->H b=none:=λ{b o es ep} e d=>by
   cases q:H b with
   |none=>rfl
   |some u=>
    have e':b=a:=hA b (by rw[q];simp);subst e';rw[ha] at e;cases e;have d':Data.seq vs.toArray _=Data.dict es ep:=d;cases d'
  have nsK:∀{b:Addr}{m:Str->Option Value},s₁.heap.Ns b m->(hidT s₁.heap H).Ns b m:=λ{b m} ⟨o,es,ep,e,d,r⟩=>⟨o,es,ep,base_of e (noA e d),d,r⟩;have hKb:K.In (hidT s₁.heap H):=λb o e=>base_of (KX b o e) (by
   cases q:H b with
   |none=>rfl
   |some u=>
    have e':b=a:=hA b (by rw[q];simp);subst e';rw[hK (by rw[q];simp)] at e;cases e)
  have hM:Mod K mg (hidT s₁.heap H):=⟨hKb,nsK hns,⟨mb,nsK hb,hbb⟩,let ⟨mc,h1,h2⟩:=hlim;⟨mc,nsK h1,h2⟩⟩;have e0:Env0 P w K mg (hidT s₁.heap H) callerA [] s₁ H:=⟨rfl,hM,λb o e=>xj1 e,Vt (qT7 _ _),trivial,λb hb=>absurd (show b∈([]:List Addr) from hb) (by simp),hok,.of_eq hg⟩;refine Wn ((F _ hKb (nsK hns)).run callerA [] s₁ H ⟨[.ref a],[]⟩ [.ref a] [.ref a] _ _ hr e0 (hbind s₁ (.ref a)) (.cons rfl .nil) (vE H hO hS)) λr s' h=>?_;cases r with
  |error e=>exact (hCX H e s' h).elim
  |ok fl=>
   cases fl with
   |next=>exact False.elim h
   |brk=>exact False.elim h
   |cont=>exact False.elim h
   |ret u=>
    obtain⟨v,H',os,bare,un,hok',r',q⟩:=h;have q':v=.bl true:=q;subst q';obtain rfl:u=Value.bool true:=r';refine⟨rfl,OldK.of_keep λb o e=>?_,os,bare⟩;cases q:H b with
    |none=>exact un.keep b o e q (by intro z;exact absurd (show b∈([]:List Addr) from z) (by simp)) (by simp)
    |some u=>
     rcases hO b with z|⟨ob,xs,z⟩
     ·rw[q] at z;cases z
     ·have z2:=un.frzs b ob _ z;obtain⟨e1,_⟩:=hok b _ z;obtain⟨e2,_⟩:=hok' b _ z2;rw[e] at e1;cases e1;exact e2
 cases hk:K.lookup a with
 |some o=>
  have e:=KX a o hk;rw[ha] at e;cases e;refine core (λ_=>none) (λ_=>.inl rfl) (.inr ⟨_,vs.toArray,_,hk,rfl,rfl,rfl,by rw[ZI,lenV];exact hl,by simpa using rv⟩) (λb u z=>by have z':(none:Option HO)=some u:=z;cases z') (λb z=>absurd rfl z) λz=>absurd rfl z
 |none=>
  refine core (λb=>if b=a then some (.frz { cls:=.type "list",data:=.seq vs.toArray } (.lst (ns.map V.int))) else none) (λb=>?_) (.inl (.inr ⟨{ cls:=.type "list",data:=.seq vs.toArray },Zt rfl⟩)) (λb u z=>?_) (λb z=>?_) λ_=>hk
  ·by_cases hb:b=a
   ·exact .inr ⟨_,_,Zt hb⟩
   ·exact .inl (Zl hb)
  ·by_cases hb:b=a
   ·have z':=(Zt hb).symm.trans z;cases z';subst hb;exact⟨ha,by rw[Zf];exact hl,vs,_,rv,ha⟩
   ·have z':=(Zl hb).symm.trans z;cases z'
  ·by_cases hb:b=a
   ·exact hb
   ·exact absurd (Zl hb) z
theorem xj8 {l:PySem.W.OpenLaw}{n k:Nat}{q:Program}{loose:List Str}{XP:(Str->Option Value)->Heap->Prop}{YP:World->Heap->Prop}{d:DefRec}{K:Params->PySem.W.Frag}{CX:World->CXT}{sp:World->Sp}{x:Str}
  (hn:l.most=some n) (hn2:n<=sizeLine) (hdf:d.params.defaults=[]) (hr:Room k callerA)
  (hY:∀(w:World) (h:Heap),YP w h->(K w.params).In h)
  (F:∀(w:World) (mg:Str->Option Value) (fa:Addr) (h:Heap),(K w.params).In h->h.Ns mainGlobals mg->mg d.name=some (.ref fa) ->
   ∃fd:FuncData,(∀(s:Shared) (u:Value),BindsTo s fd ⟨[u],[]⟩ [(x,u)]) /\
    ∀base:Heap,(K w.params).In base->base.Ns mainGlobals mg->FnOk l.prog w (K w.params) mg base (CX w) k fa fd [x] (sp w))
  (vE:∀(w:World) (H:Hp) (a:Addr) (ns:List Int),ns.length<=n->Only H->SqL (K w.params) H a (ns.map V.int)->sp w [.ref a] H (λv _=>v=.bl true) λ_ _ _=>False)
  (hCX:∀(w:World) (H:Hp) (s:Shared) (e:Value) (s':Shared),CX w [] H s (λ_ _ _=>False) e s'->False) :
  PySem.W.WalkO q loose XP YP l.row.toRowW d [] (λf vs=>PySem.call f vs):=by
 refine Att.attach_call hn hdf λw s₀ s₁ mg mb fa o pm cd doc a vs ns G Y ho hd kU hmg hobj hints j9 hg=>?_;have KX:=hY w _ Y;obtain⟨fd,hb,hF⟩:=F w mg fa _ KX G.T.g hmg;exact q88 KX G.T.g G.T.b G.T.builtins G.T.nolimit hg hobj hints (ZG j9 hn2) hr hF hb (λH hO hS=>vE w H a ns j9 hO hS) λH e s'=>hCX w H s₁ e s'
abbrev CX0:CXT:=λ_ _ _ _ _ _=>False
abbrev E0:XK:=λ_ _ _=>False
theorem xs7 {X:Cx}:qL3 CX0 X E0:=λ_ _ _ _ _ _ _ h=>h.elim
structure Fun (K:PySem.W.Frag) (x qual:Str) (st:Stmt) (f:Addr) (fd:FuncData):Prop where
 ex:∃(oc:Value) (od:Option Addr) (kV doc pm:Value) (an:Option Addr) (cdv ct:Value) (osl:Array (Option Value)),
  fd=PySem.W.fnOf x qual (qi2 st) (qf5 st) (qa3 st) .none kV doc pm an cdv ct/\K.lookup f=some ⟨oc,od,.func fd,osl⟩/\PySem.W.codeIn K cdv qual=true
 kp:PySem.W.keepIn K (.ref f)=true
section
variable {P:Program}{w:World}{K:PySem.W.Frag}{mg:Str->Option Value}{base:Heap}
theorem Fun.ok {x qual:Str}{st:Stmt}{f:Addr}{fd:FuncData}{N ps:List Str}{k:Nat}{sp:Sp}(F:Fun K x qual st f fd) (S:FnScope N ps (qa3 st)) (len:∀vs H Q E,sp vs H Q E->vs.length=ps.length)
  (hbody:∀(cdv:Value) (A:Around) (outer:List Env) (s:Shared) (H:Hp) (vs:List V) (Q:VK) (E:XK),Room k (A.deeper (envOfC qual (qa3 st) s.heap.objs.size f cdv))->sp vs H Q E ->
   ∃t,PSs (cxOf CX0 P w K mg base N qual (qa3 st) f cdv A outer s H E).nox (qf5 st) t/\t { nx:=λ_ H'=>Q .non H',rt:=Q } (start N vs) H):FnOk P w K mg base CX0 (k+1) f fd ps sp:=by
 obtain⟨oc,od,kV,doc,pm,an,cdv,ct,osl,rfl,lk,kU⟩:=F.ex;refine xs2 lk kU S len λA outer s H vs Q E hr vE=>?_;obtain⟨t,h,q⟩:=hbody cdv A outer s H vs Q E hr vE;exact⟨t,h.nox,q⟩
theorem Fun.binds {x qual:Str}{st:Stmt}{f:Addr}{fd:FuncData}{ps:List Str}(F:Fun K x qual st f fd)
  (h:∀(kV doc pm:Value) (an:Option Addr) (cdv ct:Value) (us:List Value),us.length=ps.length->bindArgs (PySem.W.fnOf x qual (qi2 st) (qf5 st) (qa3 st) .none kV doc pm an cdv ct) ⟨us,[]⟩=pure (ps.zip us)):Binds K fd ps []:=by
 obtain⟨oc,od,kV,doc,pm,an,cdv,ct,osl,rfl,lk,kU⟩:=F.ex;exact .all (h kV doc pm an cdv ct)
theorem xf9 {x qual:Str}{st:Stmt}{f:Addr}{oc:Value}{od an:Option Addr}{osl:Array (Option Value)}{kV doc pm cdv ct:Value}(l:K.lookup f=some ⟨oc,od,.func (PySem.W.fnOf x qual (qi2 st) (qf5 st) (qa3 st) .none kV doc pm an cdv ct),osl⟩)
  (c:PySem.W.codeIn K cdv qual=true) (k:PySem.W.keepIn K (.ref f)=true):Fun K x qual st f (PySem.W.fnOf x qual (qi2 st) (qf5 st) (qa3 st) .none kV doc pm an cdv ct):=⟨⟨oc,od,kV,doc,pm,an,cdv,ct,osl,rfl,l,c⟩,k⟩
end
theorem qd5 {n:Nat}(h:n<=1000):n<sizeLine:=Y5 h (by decide)
section
variable {X:Cx}
theorem pv (i:Nat){x:Str}{pos:Pos}(hN:X.N[i]?=some x:=by rfl) (hv:Vis X.env.scope x:=by first|exact Or.inl rfl|exact Or.inr (Or.inl rfl)|exact Or.inr (Or.inr rfl)) (hd:(x==("__debug__" : Str))=false:=by decide)
  (kU:(x==("__classdict__" : Str))=false:=by decide):PE X (.Name x pos) (tVar i):=xr1 hN hv hd kU
end
theorem iteF {A B:Prop}(h:B):if false=true then A else B:=by
 rw[Zl Zq];exact h
theorem iteT {A B:Prop}(h:A):if true=true then A else B:=by
 rw[Zt rfl];exact h
theorem ite2 {c A B:Prop}[Decidable c] (h1:c->A) (h2:¬c->B):if c then A else B:=by
 by_cases h:c
 ·rw[Zt h];exact h1 h
 ·rw[Zl h];exact h2 h
theorem xA0 {c A B:Prop}[Decidable c] (hc:c) (h:B):if (!decide c)=true then A else B:=by
 rw[Zv hc];exact iteF h
def Same (H H':Hp):Prop:=∀b o,H b=some o->H' b=some o
theorem Same.refl (H:Hp):Same H H:=λ_ _ h=>h
theorem Same.trans {H H1 H2:Hp}(a:Same H H1) (b:Same H1 H2):Same H H2:=λc o h=>b c o (a c o h)
theorem Same.seq {K:PySem.W.Frag}{H H':Hp}{a:Addr}{xs:List V}(e:Same H H') (h:SqL K H a xs):SqL K H' a xs:=by
 rcases h with (h|⟨o,h⟩)|h
 ·exact .inl (.inl (e _ _ h))
 ·exact .inl (.inr ⟨o,e _ _ h⟩)
 ·exact .inr h
section
variable {X:Cx}
theorem qo9 {env:Env}:∀{names:List (Str×NameKind)}{acc:List (Str×Addr)},
  (∀p∈names,p.2=.free->∃c,cellOf env p.1=pure c/\env.cells.lookup p.1=some c) ->
  (∀y c,acc.lookup y=some c->env.cells.lookup y=some c) ->
  ∃cl:List (Str×Addr),(forIn names acc λp cs=>(if p.2==.free then (do let c <- cellOf env p.1;pure (ForInStep.yield ((p.1,c)::cs))) else pure (ForInStep.yield cs):Sem (ForInStep (List (Str×Addr)))))=pure cl /\
   (∀y c,cl.lookup y=some c->env.cells.lookup y=some c)/\(∀y,(acc.lookup y).isSome=true->(cl.lookup y).isSome=true)/\∀p∈names,p.2=.free->(cl.lookup p.1).isSome=true
 |[],acc,_,ha=>⟨acc,by simp,ha,λ_ h=>h,λ_ h=>absurd h (by simp)⟩
 |(n,k)::r,acc,hn,ha=>by
  by_cases hk:k=.free
  ·subst hk;obtain⟨c,e1,e2⟩:=hn (n,.free) ZB rfl;obtain⟨cl,h1,h2,h3,h4⟩:=qo9 (env:=env) (names:=r) (acc:=(n,c)::acc) (λp hp=>hn p (Zk _ hp)) (λy d h=>by
    rw[YI] at h;cases hy:y==n with
    |true=>rw[hy] at h;cases h;rw[eq_of_beq hy];exact e2
    |false=>rw[hy] at h;exact ha y d h)
   refine⟨cl,?_,h2,λy hy=>h3 y (by
    rw[YI];cases y==n with
    |true=>rfl
    |false=>exact hy),λp hp hf=>?_⟩
   ·rw[Ub];have e1':cellOf env n=pure c:=e1;simp only[VZ,XF,e1',Vw];exact h1
   ·rcases Zn.mp hp with rfl|hp
    ·exact h3 _ (by simp[YI])
    ·exact h4 p hp hf
  ·obtain⟨cl,h1,h2,h3,h4⟩:=qo9 (env:=env) (names:=r) (acc:=acc) (λp hp=>hn p (Zk _ hp)) ha;refine⟨cl,?_,h2,h3,λp hp hf=>?_⟩
   ·rw[Ub];have:(k==NameKind.free)=false:=by simpa using hk
    simp only[this,Zr,Z2,Vw];exact h1
   ·rcases Zn.mp hp with rfl|hp
    ·exact absurd hf hk
    ·exact h4 p hp hf
def q89 (wi:TI) (te:TE):TE:=λσ H Q=>wi σ H λJ H1=>∀D,H1 D=none->∃W:Nat->Nat->List V->Hp->Prop,(∃m,W 0 m [] (upd H1 D (.lst []))) /\
 ∀i m xs H2,W i m xs H2->H2 D=some (.lst xs)/\xs.length<sizeLine/\((J.stop i H2/\Q (.ref D) H2)\/(J.go i H2/\∀y H3,J.yld i H2 y H3 ->
  te (some y::σ) H3 λv H4=>H4 D=some (.lst xs)/\∃m',m'<m/\W (i+1) m' (xs++[v]) (upd H4 D (.lst (xs++[v])))))
theorem qj5 {scope:Scope}{env:Env}(hf:∀p∈scope.names,p.2=.free->∃c,env.cells.lookup p.1=some c) :
  ∃cl:List (Str×Addr),closureFor scope env=pure cl/\(∀y c,cl.lookup y=some c->env.cells.lookup y=some c)/\∀p∈scope.names,p.2=.free->(cl.lookup p.1).isSome=true:=by
 obtain⟨cl,h1,h2,_,h4⟩:=qo9 (env:=env) (names:=scope.names) (acc:=[]) (λp hp hk=>by
  obtain⟨c,e⟩:=hf p hp hk;refine⟨c,?_,e⟩;unfold cellOf;rw[e]) (λy c h=>by simp at h)
 refine⟨cl,?_,h2,h4⟩;unfold closureFor;refine Eq.trans ?_ h1;simp only[bind_pure]
theorem qg3 {env:Env}:∀{names:List (Str×NameKind)}{y:Str}{k:NameKind},(names.map λ(n,k)=>if (k==NameKind.free&&env.scope.kind==.function&&env.kindOf n==some .cell) then (n,NameKind.cell) else (n,k)).lookup y=some k ->
  (∀p∈names,p.2≠.cell)->(k=.cell\/k=.free)->∃p∈names,p.1=y/\p.2=.free
 |[],_,_,h,_,_=>by simp at h
 |(n,k0)::r,y,k,h,hc,hk=>by
  rw[ZE] at h;by_cases hy:y=n
  ·subst hy;by_cases h0:k0=.free
   ·exact⟨(y,k0),ZB,rfl,h0⟩
   ·exfalso;have e:(k0==NameKind.free)=false:=by simpa using h0
    simp only[e,Wf,Zr,Z2,YI,VZ,Option.some.injEq] at h;rcases hk with z|z
    ·exact hc _ ZB (h.trans z)
    ·exact h0 (h.trans z)
  ·have hb:(y==n)=false:=by simpa using hy
   have h':(r.map λ(n,k)=>if (k==NameKind.free&&env.scope.kind==.function&&env.kindOf n==some .cell) then (n,NameKind.cell) else (n,k)).lookup y=some k:=by
    revert h;dsimp only;split<;>(intro h;simpa only [YI,hb] using h)
   obtain⟨p,hp,e⟩:=qg3 h' (λp hp=>hc p (Zk _ hp)) hk;exact⟨p,Zk _ hp,e⟩
theorem qm6 {env:Env}:∀{names:List (Str×NameKind)}{y:Str},(names.map λ(n,k)=>if (k==NameKind.free&&env.scope.kind==.function&&env.kindOf n==some .cell) then (n,NameKind.cell) else (n,k)).lookup y=some .local ->
  names.lookup y=some .local
 |[],_,h=>by simp at h
 |(n,k0)::r,y,h=>by
  rw[ZE] at h;by_cases hy:y=n
  ·subst hy;rw[YI,VZ];revert h;dsimp only;split
   ·intro h;simp[YI] at h
   ·intro h;simpa [YI] using h
  ·have hb:(y==n)=false:=by simpa using hy
   rw[YI,hb];refine qm6 (env:=env) ?_;revert h;dsimp only;split<;>(intro h;simpa only [YI,hb] using h)
end
section
variable {κ:Type}[DecidableEq κ]
def valV (kvs:List (κ×V)) (k:κ):Option V:=(kvs.find? λkv=>decide (kv.1=k)).map (·.2)
def putK (kvs:List (κ×V)) (k:κ) (v:V):List (κ×V):=
 if (kvs.any λkv=>decide (kv.1=k))=true then kvs.map (λkv=>if kv.1=k then (kv.1,v) else kv) else kvs++[(k,v)]
theorem qr3 {p:κ×V}{r:List (κ×V)}{k:κ}(e:p.1=k):valV (p::r) k=some p.2:=by simp[valV,X5,e]
theorem qr4 {p:κ×V}{r:List (κ×V)}{k:κ}(e:¬p.1=k):valV (p::r) k=valV r k:=by simp[valV,X5,e]
theorem qm7 (k:κ):∀kvs:List (κ×V),(kvs.any λkv=>decide (kv.1=k))=(valV kvs k).isSome
 |[]=>rfl
 |p::r=>by
  rw[X6];by_cases e:p.1=k
  ·simp only[qr3 e,Zv e,Bool.true_or,Option.isSome_some]
  ·rw[qr4 e,Zu e,Bool.false_or];exact qm7 k r
theorem qt2 (kvs:List (κ×V)) (k:κ) (v:V):(putK kvs k v).length<=kvs.length+1:=by
 unfold putK;split
 ·rw[Zf];lia
 ·rw[ZC,ZV,Wz];lia
theorem RelO.isSome_eq {o:Option V}{u:Option Value}(r:RelO o u):o.isSome=u.isSome:=by
 cases o with
 |none=>cases u with
  |none=>rfl
  |some _=>exact (show False from r).elim
 |some _=>cases u with
  |none=>exact (show False from r).elim
  |some _=>rfl
theorem KV.val {kvs:List (κ×V)}{vs:List (κ×Value)}(r:KV kvs vs) (k:κ):RelO (valV kvs k) (valueAt vs k):=by
 unfold KV at r
 induction r with
 |nil=>exact True.intro
 |@cons p q ps qs h t ih=>
  obtain⟨h1,h2⟩:=h;by_cases e:p.1=k
  ·have e':q.1=k:=h1.symm.trans e;have b:valueAt (q::qs) k=some q.2:=by simp[valueAt,X5,e']
   rw[qr3 e,b];exact h2
  ·have e':¬q.1=k:=λz=>e (h1.trans z);have b:valueAt (q::qs) k=valueAt qs k:=by simp[valueAt,X5,e']
   rw[qr4 e,b];exact ih
theorem KV.any {kvs:List (κ×V)}{vs:List (κ×Value)}(r:KV kvs vs) (k:κ):(kvs.any λkv=>decide (kv.1=k))=vs.any λkv=>decide (kv.1=k):=by
 unfold KV at r
 induction r with
 |nil=>rfl
 |cons h t ih=>rw[X6,X6,ih,h.1]
theorem KV.repl {kvs:List (κ×V)}{vs:List (κ×Value)}(r:KV kvs vs) (k:κ){y:V}{u:Value}(ry:RelV y u) :
  KV (kvs.map λkv=>if kv.1=k then (kv.1,y) else kv) (vs.map λkv=>if kv.1=k then (kv.1,u) else kv):=by
 unfold KV at r ⊢
 induction r with
 |nil=>exact .nil
 |@cons p q ps qs h t ih=>
  rw[ZE,ZE];refine .cons ?_ ih;obtain⟨h1,h2⟩:=h;by_cases e:p.1=k
  ·rw[Zt e,Zt (h1.symm.trans e)];exact⟨h1,ry⟩
  ·rw[Zl e,Zl (λz=>e (h1.trans z))];exact⟨h1,h2⟩
theorem KV.put {kvs:List (κ×V)}{vs:List (κ×Value)}(r:KV kvs vs) (k:κ){y:V}{u:Value}(ry:RelV y u):KV (putK kvs k y) (stored vs k u):=by
 unfold putK stored;rw[r.any k];by_cases e:(vs.any λkv=>decide (kv.1=k))=true
 ·rw[Zt e,Zt e];exact r.repl k ry
 ·rw[Zl e,Zl e];exact Paired.snoc r ⟨rfl,ry⟩
theorem KV.keys {kvs:List (κ×V)}{vs:List (κ×Value)}(r:KV kvs vs):kvs.map (·.1)=vs.map (·.1):=by
 unfold KV at r
 induction r with
 |nil=>rfl
 |cons h t ih=>rw[ZE,ZE,ih,h.1]
theorem KV.length {kvs:List (κ×V)}{vs:List (κ×Value)}(r:KV kvs vs):kvs.length=vs.length:=Y7 r
end
theorem qW1 {P:Program}{w:World}{k:Key}{u:Value}(r:RelV (kV k) u):(qd6 P w).is k u=true:=by
 cases k with
 |inl i=>obtain⟨t,e⟩:=(show ∃t,u=Value.int i t from r);subst e;exact qI0 P w i t
 |inr x=>obtain⟨t,e⟩:=(show ∃t,u=Value.str x t from r);subst e;exact qI1 P w x t
theorem qt3 {P:Program}{w:World}:∀{ks:List Key}{us:List Value},Vals (ks.map kV) us->ItemsAre (qd6 P w) ks us
 |[],_,r=>by rw[V6] at r;cases r;exact .nil
 |k::ks,_,r=>by
  rw[ZE] at r;cases r with
  |cons h t=>exact .cons (qW1 h) (qt3 t)
abbrev KT (H:Hp):List (List Key×V)->List (List Key×Addr×Value)->Prop:=Paired λp q=>p.1=q.1/\H q.2.1=some (.tup (p.1.map kV))/\RelV p.2 q.2.2
theorem KT.val {H:Hp}{kvs:List (List Key×V)}{xs:List (List Key×Addr×Value)}(r:KT H kvs xs) (k:List Key):RelO (valV kvs k) ((atKey xs k).map (·.2)):=by
 induction r with
 |nil=>exact True.intro
 |@cons p q ps qs h t ih=>
  obtain⟨h1,_,h2⟩:=h;by_cases e:p.1=k
  ·have e':q.1=k:=h1.symm.trans e;have b:atKey (q::qs) k=some q.2:=by simp[atKey,X5,e']
   rw[qr3 e,b];exact h2
  ·have e':¬q.1=k:=λz=>e (h1.trans z);have b:atKey (q::qs) k=atKey qs k:=by simp[atKey,X5,e']
   rw[qr4 e,b];exact ih
theorem KT.repl {H:Hp}{kvs:List (List Key×V)}{xs:List (List Key×Addr×Value)}(r:KT H kvs xs) (k:List Key){y:V}{u:Value}(ry:RelV y u) :
  KT H (kvs.map λkv=>if kv.1=k then (kv.1,y) else kv) (xs.map (putAt k u)):=by
 induction r with
 |nil=>exact .nil
 |@cons p q ps qs h t ih=>
  rw[ZE,ZE];refine .cons ?_ ih;obtain⟨h1,h2,h3⟩:=h;unfold putAt;by_cases e:p.1=k
  ·rw[Zt e,Zt (h1.symm.trans e)];exact⟨h1,h2,ry⟩
  ·rw[Zl e,Zl (λz=>e (h1.trans z))];exact⟨h1,h2,h3⟩
theorem KT.put {H:Hp}{kvs:List (List Key×V)}{xs:List (List Key×Addr×Value)}(r:KT H kvs xs) (k:List Key){b:Addr}{y:V}{u:Value}(hb:H b=some (.tup (k.map kV))) (ry:RelV y u) :
  KT H (putK kvs k y) (storedH xs k b u):=by
 have e:(kvs.any λkv=>decide (kv.1=k))=(atKey xs k).isSome:=by
  rw[qm7,(r.val k).isSome_eq,VN]
 unfold putK storedH;rw[e];by_cases q:(atKey xs k).isSome=true
 ·rw[Zt q,Zt q];exact r.repl k ry
 ·rw[Zl q,Zl q];exact Paired.snoc r ⟨rfl,hb,ry⟩
theorem KT.keeps {H H':Hp}{kvs:List (List Key×V)}{xs:List (List Key×Addr×Value)}(r:KT H kvs xs) (ht:∀b ys,H b=some (.tup ys)->H' b=some (.tup ys)):KT H' kvs xs:=
 Paired.mapP r λ_ _ z=>⟨z.1,ht _ _ z.2.1,z.2.2⟩
section
variable {P:Program}{w:World}{H:Hp}{h:Heap}{a:Addr}
theorem xs8 {u:HO}(ok:HOk P w H h) (e:Rd H a u):ObjOk P w H h a u:=e.ok ok
theorem qW2 {kvs:List (Key×V)}(ok:HOk P w H h) (e:Rd H a (.dK kvs)):kvs.length<=sizeLine/\(a==sysModules)=false/\∃vs,KV kvs vs/\h.DictOf (qd6 P w) a vs:=
 show ObjOk P w H h a (.dK kvs) from xs8 ok e
theorem xs9 {kvs:List (Key×V)}(ok:HOk P w H h) (e:H a=some (.dK kvs)):kvs.length<=sizeLine/\(a==sysModules)=false/\∃vs,KV kvs vs/\h.DictOf (qd6 P w) a vs:=qW2 ok (.inl e)
theorem qC5 {ks:List Key}(ok:HOk P w H h) (e:H a=some (.tup (ks.map kV))):(tupleKind (qd6 P w)).is h ks a:=by
 obtain⟨_,its,r,o,h1,h2,n,h3⟩:=(show ObjOk P w H h a (.tup (ks.map kV)) from ok a _ e);exact⟨o,its.toArray,n,h1,h2,h3,by simpa using qt3 r⟩
theorem qW3 {kvs:List (List Key×V)}(ok:HOk P w H h) (e:Rd H a (.dT kvs)):kvs.length<=sizeLine/\(a==sysModules)=false /\
  ∃xs,KT H kvs xs/\h.DictOfH (tupleKind (qd6 P w)) a xs:=by
 obtain⟨z,y,xs,r,o,es,ep,h1,h2,h3,h4,h5⟩:=(show ObjOk P w H h a (.dT kvs) from xs8 ok e);refine⟨z,y,xs,r,o,es,ep,h1,h2,h3,h4,λx hx=>?_,h5⟩;have all:∀{l:List (List Key×V)}{m:List (List Key×Addr×Value)},KT H l m->∀x∈m,(tupleKind (qd6 P w)).is h x.1 x.2.1:=by
  intro l m q
  induction q with
  |nil=>intro x hx;exact nomatch hx
  |@cons p q ps qs hq t ih=>
   intro x hx;rcases Zn.mp hx with e|hx
   ·subst e;exact qC5 ok (by rw[<- hq.1];exact hq.2.1)
   ·exact ih x hx
 exact all r x hx
theorem xA1 {kvs:List (List Key×V)}(ok:HOk P w H h) (e:H a=some (.dT kvs)):kvs.length<=sizeLine/\(a==sysModules)=false /\
  ∃xs,KT H kvs xs/\h.DictOfH (tupleKind (qd6 P w)) a xs:=qW3 ok (.inl e)
end
def DGet (H:Hp) (a:Addr) (y:V) (r:Option V):Prop:=
 (∃kvs k,Rd H a (.dK kvs)/\y=kV k/\r=valV kvs k)\/∃kvs k b,Rd H a (.dT kvs)/\y=.ref b/\H b=some (.tup (k.map kV))/\r=valV kvs k
def DPut (H:Hp) (a:Addr) (y v:V) (H':Hp):Prop:=
 (∃kvs k,H a=some (.dK kvs)/\y=kV k/\kvs.length<sizeLine/\H'=upd H a (.dK (putK kvs k v))) \/
 ∃kvs k b,H a=some (.dT kvs)/\y=.ref b/\H b=some (.tup (k.map kV))/\kvs.length<sizeLine/\H'=upd H a (.dT (putK kvs k v))
theorem DGet.k {H:Hp}{a:Addr}{kvs:List (Key×V)}{k:Key}(e:H a=some (.dK kvs)):DGet H a (kV k) (valV kvs k):=.inl ⟨kvs,k,.inl e,rfl,rfl⟩
theorem DGet.t {H:Hp}{a b:Addr}{kvs:List (List Key×V)}{k:List Key}(e:H a=some (.dT kvs)) (eb:H b=some (.tup (k.map kV))):DGet H a (.ref b) (valV kvs k):=.inr ⟨kvs,k,b,.inl e,rfl,eb,rfl⟩
theorem DPut.k {H:Hp}{a:Addr}{kvs:List (Key×V)}{k:Key}{v:V}(e:H a=some (.dK kvs)) (hl:kvs.length<sizeLine):DPut H a (kV k) v (upd H a (.dK (putK kvs k v))):=.inl ⟨kvs,k,e,rfl,hl,rfl⟩
theorem DPut.t {H:Hp}{a b:Addr}{kvs:List (List Key×V)}{k:List Key}{v:V}(e:H a=some (.dT kvs)) (eb:H b=some (.tup (k.map kV))) (hl:kvs.length<sizeLine) :
  DPut H a (.ref b) v (upd H a (.dT (putK kvs k v))):=.inr ⟨kvs,k,b,e,rfl,eb,hl,rfl⟩
section
variable {X:Cx}{j8:List (Addr×Obj)}{σ:St}{H:Hp}{s:Shared}{a:Addr}{y v:V}{u r:Value}{o:Option V}{A:Around}{E:Value->Shared->Prop}
theorem Inv.big (I:Inv X j8 σ H s):sysModules<s.heap.objs.size:=by
 have h:mainGlobals<s.heap.objs.size:=(I.mod.glob.keeps I.bk).lt;exact WP (by decide) h
theorem qW4 {Q:Value->Shared->Prop}(hu:A.units+1<cLine) (I:Inv X j8 σ H s) (g:DGet H a y (some v)) (ry:RelV y u) (h:∀w' s',Inv X j8 σ H s'->RelV v w'->Q w' s') :
  wpAny (model X.prog X.w) A (getItem (.ref a) u) Q E s:=by
 rcases g with ⟨kvs,k,e,ey,l⟩|⟨kvs,k,b,e,ey,eb,l⟩
 ·subst ey;obtain⟨z,hd,vs,rel,dd⟩:=qW2 I.hok e;obtain⟨w',hw,rw'⟩:=RelO.some_of (v:=v) (o:=valueAt vs k) (by rw[l];exact rel.val k);exact wpAny_getItem_of (qW1 ry) dd.mapOf hw (h w' _ (I.tok _) rw')
 ·subst ey;cases (show u=Value.ref b from ry);obtain⟨z,hd,xs,rel,dd⟩:=qW3 I.hok e;obtain⟨w',hw,rw'⟩:=RelO.some_of (v:=v) (o:=(atKey xs k).map (·.2)) (by rw[l];exact rel.val k);obtain⟨p,hp,jQ⟩:=Zj.mp hw;refine wpAny_getItem_heap (WH hu) (qC5 I.hok eb) dd hp ?_;rw[jQ];exact h w' _ (I.tok _) rw'
theorem d_in {Q:Value->Shared->Prop}(hu:A.units+1<cLine) (I:Inv X j8 σ H s) (g:DGet H a y o) (ry:RelV y u) (h:∀s',Inv X j8 σ H s'->Q (.bool o.isSome) s') :
  wpAny (model X.prog X.w) A (compareOp .In u (.ref a)) Q E s:=by
 rcases g with ⟨kvs,k,e,ey,l⟩|⟨kvs,k,b,e,ey,eb,l⟩
 ·subst ey;obtain⟨z,hd,vs,rel,dd⟩:=qW2 I.hok e;refine wpAny_in_of (qW1 ry) hd dd.mapOf ?_;rw[<- (rel.val k).isSome_eq,<- l];exact h _ (I.tok _)
 ·subst ey;cases (show u=Value.ref b from ry);obtain⟨z,hd,xs,rel,dd⟩:=qW3 I.hok e;refine wpAny_in_heap (WH hu) (qC5 I.hok eb) hd dd ?_;have q:=(rel.val k).isSome_eq;rw[VN] at q;rw[<- q,<- l];exact h _ (I.tok _)
theorem xj9 {Q:Value->Shared->Prop}(hu:A.units+1<cLine) (I:Inv X j8 σ H s) (g:DGet H a y o) (ry:RelV y u) (h:∀s',Inv X j8 σ H s'->Q (.bool (!o.isSome)) s') :
  wpAny (model X.prog X.w) A (compareOp .NotIn u (.ref a)) Q E s:=by
 rcases g with ⟨kvs,k,e,ey,l⟩|⟨kvs,k,b,e,ey,eb,l⟩
 ·subst ey;obtain⟨z,hd,vs,rel,dd⟩:=qW2 I.hok e;refine wpAny_notIn_of (qW1 ry) hd dd.mapOf ?_;rw[<- (rel.val k).isSome_eq,<- l];exact h _ (I.tok _)
 ·subst ey;cases (show u=Value.ref b from ry);obtain⟨z,hd,xs,rel,dd⟩:=qW3 I.hok e;refine wpAny_notIn_heap (WH hu) (qC5 I.hok eb) hd dd ?_;have q:=(rel.val k).isSome_eq;rw[VN] at q;rw[<- q,<- l];exact h _ (I.tok _)
theorem qW5 {h':Heap}{t':Nat}{ob:HO}(I:Inv X j8 σ H s) (mu:Mut (H a)) (hs:Heap.SameBut a s.heap h') (he:∃q,h'.get? a=some q) (new:ObjOk X.prog X.w (upd H a ob) h' a ob) :
  Inv X j8 σ (upd H a ob) { s with heap:=h',toks:=t' }:=
 I.write (x:=a) (e:=a) mu (.inl rfl) (λb q hb z=>(hs.2 b hb).trans z) he new
theorem xt0 {P:Program}{w:World}{H':Hp}{h':Heap}{kvs:List (Key×V)}{vs:List (Key×Value)}(z:kvs.length<=sizeLine) (hd:(a==sysModules)=false) (rel:KV kvs vs) (dd:h'.DictOf (qd6 P w) a vs) :
  ObjOk P w H' h' a (.dK kvs):=⟨z,hd,vs,rel,dd⟩
theorem qW6 {H':Hp}{Q:Unit->Shared->Prop}(hu:A.units+1<cLine) (I:Inv X j8 σ H s) (g:DPut H a y v H') (ry:RelV y u) (rv:RelV v r) (h:∀s',Inv X j8 σ H' s'->Q () s') :
  wpAny (model X.prog X.w) A (setItem (.ref a) u r) Q E s:=by
 rcases g with ⟨kvs,k,e,ey,l,eH⟩|⟨kvs,k,b,e,ey,eb,l,eH⟩
 ·subst ey eH;obtain⟨z,hd,vs,rel,dd⟩:=xs9 I.hok e;have hz:vs.length<=sizeLine:=by rw[<- rel.length];exact z
  have hl:(putK kvs k v).length<=sizeLine:=by have:=qt2 kvs k v;lia
  refine wpAny_setItem_pairs (hsz:=hz) (qW1 ry) dd λh' dd' hs=>h _ ?_;have he:∃q,h'.get? a=some q:=let ⟨q,_,_,hq,_⟩:=dd';⟨q,hq⟩;exact qW5 I (by rw[e];exact True.intro) hs he (xt0 hl hd (rel.put k rv) dd')
 ·subst ey eH;cases (show u=Value.ref b from ry);obtain⟨z,hd,xs,rel,dd⟩:=xA1 I.hok e;have hz:xs.length<=sizeLine:=by rw[<- Y7 rel];exact z
  have hl:(putK kvs k v).length<=sizeLine:=by have:=qt2 kvs k v;lia
  refine wpAny_setItem_heap (hsz:=hz) (WH hu) (qC5 I.hok eb) dd λh' dd' hs=>h _ ?_;obtain⟨q,es,ep,hq,h2,h3,h4,_,h5⟩:=dd';refine qW5 I (by rw[e];exact True.intro) hs ⟨q,hq⟩ ⟨hl,hd,_,(rel.put k eb rv).keeps λc ys ec=>?_,q,es,ep,hq,h2,h3,h4,h5⟩;rw[qb1 (xy8 ec e (λz=>nomatch z))];exact ec
end
section
variable {X:Cx}{j8:List (Addr×Obj)}{σ:St}{H:Hp}{s:Shared}{a:Addr}{kvs:List (Key×V)}{k:Key}{u:Value}{A:Around}{E:Value->Shared->Prop}
end
def NoSl (i:Expr):Prop:=∀ov iv,subscripted i false ov iv=operate [ov,iv] (getItem ov iv)
theorem xk0 {prog:Program}{w:World}{A:Around}{E:Value->Shared->Prop}{s:Shared}{env:Env}{value slice:Expr}{pos:Pos}{T id:String}{Q:Value->Shared->Prop}
  (hl:typeLookup (.type T) "__getitem__" = pure (some (.builtin id))) (hs:NoSl slice)
  (h:wpAny (model prog w) A (eval value env) (λo s₁=>wpAny (model prog w) A (eval slice env) (λi s₂=>s₂.TypeIs o T/\wpAny (model prog w) A (getItem o i) Q E s₂) E s₁) E s) :
  wpAny (model prog w) A (eval (.Subscript value slice pos) env) Q E s:=by
 refine Subscript_ (Yp h (λo s₁ h₁=>Yp h₁ (λi s₂ h₂=>?_) λ_ _ x=>x) λ_ _ x=>x);obtain⟨hT,h₂⟩:=h₂;unfold subscriptTail;refine Za ?_;rw[getitemInPython_of_ne hT.not_modules];refine Za (wpAny_specialOf hT hl ?_);have fin:wpAny (model prog w) A (subscripted slice false o i) (λr s₃=>wpAny (model prog w) A (letTemporaryGo value o r >>= λ_=>pure r) Q E s₃) E s₂:=by
  rw[hs o i];exact wpAny_operating (Yp h₂ (λr s₃ h₃=>Za (wpAny_letTemporaryGo (Zc h₃))) λ_ _ x=>x)
 first
  |exact Zc (Za fin)
  |exact Za (Zc (Za fin))
  |exact Za fin
theorem qI7 {X:Cx}{j8:List (Addr×Obj)}{σ:St}{H:Hp}{s:Shared}{a:Addr}{y:V}{o:Option V}(I:Inv X j8 σ H s) (g:DGet H a y o):s.TypeIs (.ref a) "dict":=by
 rcases g with ⟨kvs,k,e,_,_⟩|⟨kvs,k,b,e,_,_,_⟩
 ·obtain⟨_,_,vs,_,dd⟩:=qW2 I.hok e;exact dd.typeIs
 ·obtain⟨_,_,xs,_,dd⟩:=qW3 I.hok e;exact dd.typeIs
def xA2 (td ty:TE):TE:=λσ H Q=>td σ H λx H1=>ty σ H1 λy H2=>∃a v,x=.ref a/\DGet H2 a y (some v)/\Q v H2
def tDIn (ty td:TE):TE:=λσ H Q=>ty σ H λy H1=>td σ H1 λx H2=>∃a o,x=.ref a/\DGet H2 a y o/\Q (.bl o.isSome) H2
def xk1 (ty td:TE):TE:=λσ H Q=>ty σ H λy H1=>td σ H1 λx H2=>∃a o,x=.ref a/\DGet H2 a y o/\Q (.bl (!o.isSome)) H2
def xA3 (td ty tv:TE):TS:=λD σ H=>tv σ H λv H1=>td σ H1 λx H2=>ty σ H2 λy H3=>∃a H4,x=.ref a/\DPut H3 a y v H4/\D.nx σ H4
section
variable {X:Cx}{o i e value:Expr}{pos pos' tpos:Pos}{td ty tv:TE}
theorem xk2 (hu:X.A.units+1<cLine) (ho:PE X o td) (hi:PE X i ty) (hs:NoSl i):PE X (.Subscript o i pos) (xA2 td ty):=by
 intro j8 s σ H Q I h;refine xk0 PySem.F.slot_dict_getitem.lookup hs (thn (ho j8 s σ H _ I h) λu s1 ⟨x,H1,I1,rx,q1⟩=>thn (hi j8 s1 σ H1 _ I1 q1) λiv s2 ⟨y,H2,I2,ry,a,v,ex,g,q2⟩=>?_);subst ex;obtain rfl:u=Value.ref a:=rx;exact⟨qI7 I2 g,qW4 hu I2 g ry λw' s3 I3 rw'=>⟨v,H2,I3,rw',q2⟩⟩
theorem xg0 (hu:X.A.units+1<cLine) (hi:PE X i ty) (ho:PE X o td):PC X .In i o (tDIn ty td):=by
 intro j8 s σ H Q I h;refine thn (hi j8 s σ H _ I h) λiv s1 ⟨y,H1,I1,ry,q1⟩=>thn (ho j8 s1 σ H1 _ I1 q1) λu s2 ⟨x,H2,I2,rx,a,ov,ex,g,q2⟩=>?_;subst ex;obtain rfl:u=Value.ref a:=rx;exact d_in hu I2 g ry λs3 I3=>⟨.bl ov.isSome,H2,I3,rfl,q2⟩
theorem qW7 (hu:X.A.units+1<cLine) (hi:PE X i ty) (ho:PE X o td):PC X .NotIn i o (xk1 ty td):=by
 intro j8 s σ H Q I h;refine thn (hi j8 s σ H _ I h) λiv s1 ⟨y,H1,I1,ry,q1⟩=>thn (ho j8 s1 σ H1 _ I1 q1) λu s2 ⟨x,H2,I2,rx,a,ov,ex,g,q2⟩=>?_;subst ex;obtain rfl:u=Value.ref a:=rx;exact xj9 hu I2 g ry λs3 I3=>⟨.bl (!ov.isSome),H2,I3,rfl,q2⟩
theorem qW8 (hu:X.A.units+1<cLine) (ho:PE X o td) (hi:PE X i ty) (hv:PE X value tv) (hs:swapsWith value (some (.Subscript o i pos')) pos.line X.env=pure false) :
  PS X (.Assign [.Subscript o i pos'] value pos) (xA3 td ty tv):=by
 intro j8 s σ H D I h;refine wpAny_Assign_Subscript (thn (hv j8 s σ H _ I h) λr s1 ⟨v,H1,I1,rv,q1⟩=>thn (ho j8 s1 σ H1 _ I1 q1) λu s2 ⟨x,H2,I2,rx,q2⟩=>thn (hi j8 s2 σ H2 _ I2 q2) λiv s3 ⟨y,H3,I3,ry,a,H4,ex,g,q3⟩=>?_) hs;subst ex;obtain rfl:u=Value.ref a:=rx;exact qW6 hu I3 g ry rv λs4 I4=>⟨σ,H4,I4,q3⟩
end
theorem q90 {P:Program}{w:World}{H:Hp}(h:Heap) (hb:sysModules<h.objs.size):ObjOk P w H (h.push { cls:=.type "dict",data:=.dict #[] }) h.objs.size (.dT []):=
 ⟨Zx _,Vn.mpr (XC (Zp hb)),[],.nil,_,#[],0,Zh _ rfl,⟨rfl,rfl,rfl⟩,rfl,rfl,Vz⟩
def xt1:TE:=λ_ H Q=>∀p,H p=none->Q (.ref p) (upd H p (.dT []))
section
variable {X:Cx}{pos:Pos}
theorem q91:PE X (.Dict [] [] pos) xt1:=λj8 s σ H Q I h=>
 wpAny_Dict_empty ⟨.ref s.heap.objs.size,_,I.laid (a:=s.heap.objs.size) (o:=.dT []) (t':=s.toks) (λ_ _ q=>Zb _ q) (Ze _) (q90 s.heap I.big),rfl,h _ (I.hok.fresh (Ze _))⟩
end
section
variable {X:Cx}{j8:List (Addr×Obj)}{σ:St}{H:Hp}{s:Shared}{a:Addr}{y d:V}{u r:Value}{o:Option V}{A:Around}{E:Value->Shared->Prop}
end
section
variable {X:Cx}{o e f:Expr}{apos cpos:Pos}{td ty tx:TE}
end
section
variable {X:Cx}{j8:List (Addr×Obj)}{σ:St}{H:Hp}{s:Shared}{a:Addr}{kvs:List (Key×V)}{A:Around}{E:Value->Shared->Prop}
end
section
variable {X:Cx}{j8:List (Addr×Obj)}{σ:St}{H:Hp}{s:Shared}{a:Addr}{y:V}{u:Value}{A:Around}{E:Value->Shared->Prop}
end
section
variable {X:Cx}
end
section
variable {κ:Type}[DecidableEq κ]
end
end L2
namespace SetT
open PySem
def g:Nat->Nat
 |0=>0
 |n+1=>5*g n+1
def F:Nat->Nat->Nat
 |0,x=>x
 |n+1,x=>5*F n x+1
theorem F_eq (n x:Nat):F n x=x+g n*(4*x+1):=by
 induction n with
 |zero=>simp[F,g]
 |succ n ih=>
  show 5*F n x+1=x+(5*g n+1)*(4*x+1);rw[ih,VO,Nat.one_mul,Y8];lia
theorem xk3 (m n x:Nat):F (m+n) x=F m (F n x):=by
 induction m with
 |zero=>simp[F]
 |succ m ih=>
  rw[Nat.succ_add];show 5*F (m+n) x+1=5*F m (F n x)+1;rw[ih]
theorem g_F (n:Nat):g n=F n 0:=by
 rw[F_eq];simp
theorem xA4 (m n:Nat):g (m+n)=g n+g m*(4*g n+1):=by
 rw[g_F,xk3,F_eq m,<- g_F n]
theorem xt2:∀k:Nat,∃c,g (2^k)=2^k*(2*c+1)
 |0=>⟨0,rfl⟩
 |k+1=>by
  obtain⟨c,hc⟩:=xt2 k;have e:g (2^(k+1))=g (2^k)*(4*g (2^k)+2):=by
   rw[YJ,Nat.mul_two,xA4];generalize g (2^k)=y;rw[Wh,Wh];lia
  rw[e,hc];refine⟨2^k*(2*c+1)*(2*c+1)+c,?_⟩;rw[YJ];generalize 2^k=p;have h1:p*(2*c+1)*(4*(p*(2*c+1))+2)=p*2*((2*c+1)*(2*(p*(2*c+1))+1)):=by
   have:4*(p*(2*c+1))+2=2*(2*(p*(2*c+1))+1):=by lia
   rw[this,Y8,Y8,Nat.mul_left_comm (2*c+1) 2]
  rw[h1];congr 1;rw[Wh,Nat.mul_one,Nat.mul_left_comm,Xo (2*c+1) (p*(2*c+1))];lia
theorem qy4 (k a q:Nat):(2^k*a+q)%2^(k+1)=(2^k*(a%2)+q)%2^(k+1):=by
 have ha:a=2*(a/2)+a%2:=by lia
 have:2^k*a+q=(2^k*(a%2)+q)+2^(k+1)*(a/2):=by
  have h:2^k*a+q=2^k*(2*(a/2)+a%2)+q:=by rw[<- ha]
  rw[h,YJ,Wh,Y8];lia
 rw[this,Nat.add_mul_mod_self_left]
theorem xt3:∀(k x y:Nat),∃r,r<2^k/\F r x%2^k=y%2^k
 |0,x,y=>⟨0,by decide,by simp[Nat.mod_one]⟩
 |k+1,x,y=>by
  obtain⟨r,hr,e⟩:=xt3 k x y;have hp:0<2^k:=Xj k;have h2:(2:Nat)^(k+1)=2^k+2^k:=by rw[YJ,Nat.mul_two]
  obtain⟨c,hc⟩:=xt2 k;have e2:F (2^k+r) x=F r x+2^k*(2*c+1)*(4*F r x+1):=by
   rw[xk3,F_eq (2^k),hc]
  have y1:2^k*(y/2^k)+y%2^k=y:=Vh y _;have z1:2^k*(F r x/2^k)+F r x%2^k=F r x:=Vh _ _;by_cases h:F r x/2^k%2=y/2^k%2
  ·refine⟨r,by lia,?_⟩;rw[<- z1,<- y1,qy4,h,<- qy4,e]
  ·refine⟨2^k+r,by lia,?_⟩;rw[e2];generalize F r x=z at *;have o:(2*c+1)*(4*z+1)=2*(c*(4*z+1)+2*z)+1:=by
    rw[VO,Nat.one_mul,Y8];lia
   have e3:z+2^k*(2*c+1)*(4*z+1)=2^k*(z/2^k+(2*(c*(4*z+1)+2*z)+1))+z%2^k:=by
    rw[Y8,o,Wh (2^k) (z/2^k)];lia
   rw[e3,<- y1,qy4,e];have e4:(z/2^k+(2*(c*(4*z+1)+2*z)+1))%2=y/2^k%2:=by lia
   rw[e4,<- qy4]
def qe4 (mask:Nat):Nat->Nat->Nat->Nat
 |0,i,_=>i
 |r+1,i,p=>qe4 mask r (SetTable.leap mask i p).1 (SetTable.leap mask i p).2
theorem qt4 (k:Nat):∀(r i:Nat),qe4 (2^k-1) r (i%2^k) 0=F r i%2^k
 |0,i=>rfl
 |r+1,i=>by
  have hp:0<2^k:=Xj k;show qe4 (2^k-1) r ((i%2^k*5+1+0/32)%(2^k-1+1)) (0/32)=_;have e1:2^k-1+1=2^k:=by lia
  have e2:(i%2^k*5+1+0/32)%2^k=(5*i+1)%2^k:=by
   simp only[Nat.zero_div,Vu];rw[Nat.add_mod,Nat.mul_mod,Nat.mod_mod,<- Nat.mul_mod,<- Nat.add_mod,Xo]
  rw[e1,e2,Nat.zero_div,qt4 k r (5*i+1)];have:F r (5*i+1)=F (r+1) i:=by rw[xk3 r 1 i];rfl
  rw[this]
theorem qx2 (mask:Nat):∀(a b i p:Nat),qe4 mask (a+b) i p=qe4 mask b (qe4 mask a i p) (p/32^a)
 |0,b,i,p=>by simp[qe4]
 |a+1,b,i,p=>by
  rw[Nat.succ_add];show qe4 mask (a+b) _ _=qe4 mask b (qe4 mask a _ _) _;rw[qx2 mask a b];show qe4 mask b _ (p/32/32^a)=_;rw[Nat.div_div_eq_div_mul,YJ,Xo (32^a) 32]
theorem qC6 (mask:Nat):∀(a i p:Nat),i<mask+1->qe4 mask a i p<mask+1
 |0,i,p,h=>h
 |a+1,i,p,_=>qC6 mask a _ _ (Xk _ (V7 _))
theorem qt5 (k i p j:Nat) (hi:i<2^k) (hp:p<2^64) (hj:j<2^k):∃r,r<13+2^k/\qe4 (2^k-1) r i p=j:=by
 have hk:0<2^k:=Xj k;have hl:=qC6 (2^k-1) 13 i p (by lia);obtain⟨r,hr,e⟩:=xt3 k (qe4 (2^k-1) 13 i p) j;refine⟨13+r,by lia,?_⟩;rw[qx2];have hz:p/32^13=0:=V0 (WP hp (by decide));have hm:qe4 (2^k-1) 13 i p=qe4 (2^k-1) 13 i p%2^k:=(Xs (by lia)).symm;rw[hz,hm,qt4,e,Xs hj]
theorem qW9 (mask i:Nat):SetTable.runEnd mask i-i<=9:=by unfold SetTable.runEnd;split<;>lia
def adv (t:SetTable):Nat->SetTable.Probe->SetTable.Probe
 |0,p=>p
 |n+1,p=>adv t n (t.advance p)
theorem qX0 (t:SetTable):∀(m:Nat) (p:SetTable.Probe),m<=p.more->adv t m p={ p with j:=p.j+m,more:=p.more-m }
 |0,p,_=>by simp[adv]
 |m+1,p,h=>by
  have e:t.advance p={ p with j:=p.j+1,more:=p.more-1 }:=by
   unfold SetTable.advance;rw[Zt (by lia)]
  show adv t m (t.advance p)=_;rw[e,qX0 t m _ (by show m<=p.more-1;lia)];show SetTable.Probe.mk _ _ _ _ _=SetTable.Probe.mk _ _ _ _ _;congr 1
  ·show p.j+1+m=p.j+(m+1);lia
  ·show p.more-1-m=p.more-(m+1);lia
theorem qt6 (t:SetTable):∀(a b:Nat) (p:SetTable.Probe),adv t (a+b) p=adv t b (adv t a p)
 |0,b,p=>by simp[adv]
 |a+1,b,p=>by rw[Nat.succ_add];exact qt6 t a b _
structure Head (t:SetTable) (i perturb:Nat) (d:Option Nat) (p:SetTable.Probe):Prop where
 e:p={ j:=i,more:=SetTable.runEnd t.mask i-i,i:=i,perturb:=perturb,dummy:=d }
theorem qX1 {t:SetTable}{i q:Nat}{d:Option Nat}{p:SetTable.Probe}(h:Head t i q d p):∃n,n<=10/\Head t (SetTable.leap t.mask i q).1 (SetTable.leap t.mask i q).2 d (adv t n p):=by
 have hr:=qW9 t.mask i;refine⟨(SetTable.runEnd t.mask i-i)+1,by lia,⟨?_⟩⟩;rw[qt6,qX0 t _ p (by rw[h.e];exact Ze _)];show t.advance _=_;rw[h.e];unfold SetTable.advance;rw[Zl (by show ¬(SetTable.runEnd t.mask i-i)-(SetTable.runEnd t.mask i-i)>0;lia)]
theorem qX2 {t:SetTable}{d:Option Nat}:∀(r:Nat){i q:Nat}{p:SetTable.Probe},Head t i q d p->∃n,n<=10*r/\(adv t n p).j=qe4 t.mask r i q/\(adv t n p).dummy=d
 |0,i,q,p,h=>⟨0,Ze _,by show p.j=i;rw[h.e],by show p.dummy=d;rw[h.e]⟩
 |r+1,i,q,p,h=>by
  obtain⟨n,hn,h1⟩:=qX1 h;obtain⟨m,hm,e1,e2⟩:=qX2 r h1;exact⟨n+m,by lia,by rw[qt6];exact e1,by rw[qt6];exact e2⟩
theorem qt7 (t:SetTable):∀(n:Nat) (p:SetTable.Probe),(adv t n p).dummy=p.dummy
 |0,p=>rfl
 |n+1,p=>by
  show (adv t n (t.advance p)).dummy=_;rw[qt7 t n];unfold SetTable.advance;split<;>rfl
theorem qX3 (h:Int):SetTable.bits h<2^64:=by
 unfold SetTable.bits;have:=XY h (show (0:Int)<2^64 by decide);have h0:=WA h (show (2^64:Int)≠0 by decide);lia
theorem meet {t:SetTable}{k:Nat}(hm:t.mask=2^k-1) (h:Int){j:Nat}(hj:j<2^k):∃n,n<10*SetTable.turns t.mask/\(adv t n (t.probeStart h)).j=j:=by
 have hk:0<2^k:=Xj k;have hd:Head t (SetTable.bits h%(t.mask+1)) (SetTable.bits h) none (t.probeStart h):=⟨rfl⟩;obtain⟨r,hr,e⟩:=qt5 k (SetTable.bits h%(t.mask+1)) (SetTable.bits h) j (by rw[hm];have:=Xk (SetTable.bits h) hk;rw[show 2^k-1+1=2^k by lia];exact this) (qX3 h) hj;obtain⟨n,hn,e1,_⟩:=qX2 r hd;refine⟨n,?_,by rw[e1];rw[<- hm] at e;exact e⟩;unfold SetTable.turns;lia
theorem qL7 (j:Nat):SetTable.has #[] j=false:=by
 unfold SetTable.has;simp
theorem qX4 {t:SetTable}(hd:t.dummies=#[]) (j:Nat):(t.slot j=.empty)\/∃i,t.slot j=.live i/\t.place[i]?=some j:=by
 unfold SetTable.slot;simp only;split
 ·rename_i h;exact .inr ⟨_,rfl,by simpa using h⟩
 ·rw[hd,qL7];exact .inl rfl
theorem qX5 {t:SetTable}(hd:t.dummies=#[]){j:Nat}(h:j∉t.place.toList):t.slot j=.empty:=by
 rcases qX4 hd j with e|⟨i,_,e⟩
 ·exact e
 ·refine absurd ?_ h;have:=Array.mem_of_getElem? e;simpa using this
theorem xg1:∀(n:Nat) (l:List Nat),l.length<n->∃j,j<n/\j∉l
 |0,l,h=>absurd h (XA _)
 |n+1,l,h=>by
  by_cases hn:n∈l
  ·obtain⟨j,hj,hl⟩:=xg1 n (l.erase n) (by rw[List.length_erase_of_mem hn];have:=List.length_pos_of_mem hn;lia);refine⟨j,by lia,λm=>hl ?_⟩;exact (List.mem_erase_of_ne (by lia)).mpr m
  ·exact⟨n,Yq n,hn⟩
structure Grown (t:SetTable) (n:Nat):Prop where
 pl:t.place.size=n
 du:t.dummies=#[]
 ma:∃k,t.mask=2^k-1/\1<=k
 le:n<=t.mask
theorem Grown.fill {t:SetTable}{n:Nat}(h:Grown t n):t.fill=n:=by unfold SetTable.fill;rw[h.pl,h.du];rfl
theorem Grown.way {t:SetTable}{n:Nat}(h:Grown t n):t.gaveWay=false:=by
 obtain⟨k,e,hk⟩:=h.ma;unfold SetTable.gaveWay;rw[e];obtain⟨k,rfl⟩:∃m,k=m+1:=⟨k-1,by lia⟩;have:=Xj k;have e2:(2^(k+1)-1)%2=1:=by rw[YJ];lia
 rw[e2]
 rfl
theorem Grown.meets {t:SetTable}{n:Nat}(g:Grown t n) (h:Int):∃m,m<10*SetTable.turns t.mask/\t.slot (adv t m (t.probeStart h)).j=.empty:=by
 obtain⟨k,e,_⟩:=g.ma;have hk:=Xj k;obtain⟨j,hj,hl⟩:=xg1 (2^k) t.place.toList (by simp only[ZL,g.pl];have:=g.le;lia);obtain⟨m,hm,ej⟩:=meet e h hj;exact⟨m,hm,by rw[ej];exact qX5 g.du hl⟩
theorem qX6 {t:SetTable}(hd:t.dummies=#[]) (hashAt:Nat->Int) (h:Int):∀(f m:Nat) (p:SetTable.Probe),m<f->p.dummy=none->t.slot (adv t m p).j=.empty ->
  (∃j,SetTable.probe.go t hashAt h f p=some (.empty j none)) \/
  (∃m' j i,m'<m/\SetTable.probe.go t hashAt h f p=some (.candidate j i (adv t (m'+1) p))/\t.slot j=.live i/\t.place[i]?=some j/\hashAt i=h)
 |0,m,p,h1,_,_=>absurd h1 (XA _)
 |f+1,m,p,h1,hp,he=>by
  unfold SetTable.probe.go;rcases qX4 hd p.j with e|⟨i,e,e2⟩
  ·rw[e];exact .inl ⟨p.j,by rw[hp]⟩
  ·rw[e];cases m with
   |zero=>
    have he':t.slot p.j=.empty:=he;rw[e] at he';cases he'
   |succ m=>
    by_cases hc:hashAt i==h
    ·refine .inr ⟨0,p.j,i,V7 _,?_,e,e2,by simpa using hc⟩;simp only;rw[Zt hc]
     rfl
    ·simp only;rw[Zl hc];rcases qX6 hd hashAt h f m (t.advance p) (by lia) (by rw[<- hp];exact qt7 t 1 p) he with ⟨j,ej⟩|⟨m',j,i',hm',ej,r⟩
     ·exact .inl ⟨j,ej⟩
     ·exact .inr ⟨m'+1,j,i',by lia,ej,r⟩
theorem qm8 {α:Type}(xs:Array α) (p:Nat) (x:α):(SetTable.insertAt xs p x).size=xs.size+1:=by
 unfold SetTable.insertAt;simp;lia
theorem qC7 {α:Type}{xs:Array α}{p:Nat}{x y:α}(h:y∈SetTable.insertAt xs p x):y=x\/y∈xs:=by
 unfold SetTable.insertAt at h;rcases Array.mem_append.mp h with h|h
 ·rcases Array.mem_push.mp h with h|h
  ·obtain⟨i,hi,e⟩:=Vd.mp h;exact .inr (by rw[<- e];exact VP _)
  ·exact .inl h
 ·obtain⟨i,hi,e⟩:=Vd.mp h;exact .inr (by rw[<- e];exact VP _)
theorem Grown.put {t:SetTable}{n:Nat}(g:Grown t n) (hf:t.tooFull=false) (j:Nat):Grown (t.put j).1 (n+1):=by
 have e:(t.put j).1={ t with place:=SetTable.insertAt t.place (SetTable.below t.place j) j }:=by
  unfold SetTable.put;simp only;rw[g.du,qL7];simp[g.du]
 rw[e];refine⟨by rw[qm8,g.pl],g.du,g.ma,?_⟩;show n+1<=t.mask;unfold SetTable.tooFull at hf;rw[g.fill] at hf;have:=YB hf;lia
theorem qC8 {mask:Nat}{owner:Array (Option Nat)}:∀(f r i p:Nat),r<f->(owner.getD (qe4 mask r i p) (some 0)).isNone=true ->
  ∃j,SetTable.layClean.free mask owner f i p=some j/\(owner.getD j (some 0)).isNone=true
 |0,r,i,p,h,_=>absurd h (XA _)
 |f+1,r,i,p,h,hn=>by
  unfold SetTable.layClean.free;cases e:(List.range (SetTable.runEnd mask i+1-i)).find? λk=>(owner.getD (i+k) (some 0)).isNone with
  |some k=>
   have:=List.find?_some e;exact⟨i+k,rfl,this⟩
  |none=>
   cases r with
   |zero=>
    have h0:∀x∈List.range (SetTable.runEnd mask i+1-i),¬(owner.getD (i+x) (some 0)).isNone=true:=by simpa using e
    have hm:0∈List.range (SetTable.runEnd mask i+1-i):=Yb.mpr (by unfold SetTable.runEnd;split<;>lia);exact absurd hn (h0 0 hm)
   |succ r=>exact qC8 f r _ _ (by lia) hn
def cnt (owner:Array (Option Nat)):Nat:=(owner.toList.filter Option.isSome).length
theorem qq3:∀(l:List (Option Nat)) (j k:Nat),l[j]?=some none->((l.set j (some k)).filter Option.isSome).length=(l.filter Option.isSome).length+1
 |[],j,k,h=>by simp at h
 |a::l,0,k,h=>by
  have:a=none:=by simpa using h
  subst this;simp
 |a::l,j+1,k,h=>by
  have ih:=qq3 l j k (by simpa using h);rw[List.set_cons_succ,YV,YV];split
  ·rw[ZV,ZV,ih]
  ·exact ih
theorem qX7:∀(l:List (Option Nat)),(l.filter Option.isSome).length<l.length->∃j:Nat,l[j]?=some none
 |[],h=>by simp at h
 |none::l,_=>⟨0,rfl⟩
 |some a::l,h=>by
  obtain⟨j,hj⟩:=qX7 l (by simpa using h);exact⟨j+1,by simpa using hj⟩
structure Laid (mask:Nat) (owner:Array (Option Nat)) (K:Nat):Prop where
 sz:owner.size=mask+1
 ct:cnt owner=K
 lt:∀v,some v∈owner.toList->v<K
theorem Laid.step {mask k K:Nat}{owner:Array (Option Nat)}(hm:mask=2^k-1) (g:Laid mask owner K) (hK:K<=mask) (h:Int) :
  ∃j,SetTable.layClean.free mask owner (SetTable.turns mask) (SetTable.bits h%(mask+1)) (SetTable.bits h)=some j/\Laid mask (owner.setIfInBounds j (some K)) (K+1):=by
 have hk:=Xj k;obtain⟨j0,hj0⟩:=qX7 owner.toList (by
  have:=g.ct;unfold cnt at this;rw[this,ZL,g.sz];lia)
 have hl:j0<mask+1:=by
  have:=(gS_ hj0).1;rw[ZL,g.sz] at this;exact this
 have e1:mask+1=2^k:=by lia
 obtain⟨r,hr,er⟩:=qt5 k (SetTable.bits h%(mask+1)) (SetTable.bits h) j0 (by rw[<- e1];exact Xk _ (V7 _)) (qX3 h) (by lia);rw[<- hm] at er;have hgd:∀j,(owner.getD j (some 0)).isNone=true<->owner.toList[j]?=some none:=λj=>by
  rw[Yn];by_cases hj:j<owner.size
  ·simp[Array.getD,hj]
  ·simp[Array.getD,hj]
 obtain⟨j,ej,hj⟩:=qC8 (mask:=mask) (owner:=owner) (SetTable.turns mask) r _ _ (by unfold SetTable.turns;lia) (by rw[er];exact (hgd j0).mpr hj0);have hj':=(hgd j).mp hj;refine⟨j,ej,by rw[Array.size_setIfInBounds];exact g.sz,?_,λv hv=>?_⟩
 ·unfold cnt;rw[Wi,qq3 _ _ _ hj'];have:=g.ct;unfold cnt at this;rw[this]
 ·rw[Wi] at hv;rcases List.mem_or_eq_of_mem_set hv with hv|hv
  ·have:=g.lt v hv;lia
  ·have:v=K:=by simpa using hv
   lia
theorem qL8 {mask k:Nat}(hm:mask=2^k-1):∀(hs:List Int) (owner:Array (Option Nat)) (K:Nat),Laid mask owner K->K+hs.length<=mask ->
  ∃owner',(hs.foldl (λ(acc:Option (Array (Option Nat)×Nat)) (h:Int)=>do
   let (owner,k) <- acc
   let j <- SetTable.layClean.free mask owner (SetTable.turns mask) (SetTable.bits h%(mask+1)) (SetTable.bits h)
   pure (owner.setIfInBounds j (some k),k+1)) (some (owner,K)))=some (owner',K+hs.length)/\Laid mask owner' (K+hs.length)
 |[],owner,K,g,_=>⟨owner,rfl,g⟩
 |h::hs,owner,K,g,hl=>by
  rw[ZV] at hl;obtain⟨j,ej,g'⟩:=g.step hm (by lia) h;obtain⟨o',e',g''⟩:=qL8 hm hs _ (K+1) g' (by lia);refine⟨o',?_,by rw[ZV,show K+(hs.length+1)=K+1+hs.length by lia];exact g''⟩;rw[WB,ZV,show K+(hs.length+1)=K+1+hs.length by lia,<- e'];congr 1;show (SetTable.layClean.free mask owner (SetTable.turns mask) (SetTable.bits h%(mask+1)) (SetTable.bits h)).bind _=_;rw[ej]
  rfl
theorem xk4 {mask k:Nat}(hm:mask=2^k-1) (hs:Array Int) (hl:hs.size<=mask):∃owner,SetTable.layClean mask hs=some owner/\Laid mask owner hs.size:=by
 have g0:Laid mask (Array.replicate (mask+1) none) 0:=⟨by simp,by unfold cnt;simp,λv hv=>by simp at hv⟩;obtain⟨o,e,g⟩:=qL8 hm hs.toList _ 0 g0 (by simpa using hl);refine⟨o,?_,by simpa using g⟩;unfold SetTable.layClean;rw[<- Array.foldl_toList,e]
 rfl
theorem qy5 {α β:Type}{f g:α->Option β}:∀(l:List α),(∀x∈l,f x=g x)->l.filterMap f=l.filterMap g
 |[],_=>rfl
 |a::l,h=>by
  rw[Yl,Yl,h a ZB,qy5 l λx hx=>h x (Zk _ hx)]
theorem qL9:∀(l:List (Option Nat)) (a:Nat),((List.range' a l.length).filterMap λj=>((l[j-a]?).getD none).map (λv=>(j,v))).length=(l.filter Option.isSome).length
 |[],a=>rfl
 |x::l,a=>by
  rw[ZV,List.range'_succ,Yl];have ih:=qL9 l (a+1);have e:(List.range' (a+1) l.length).filterMap (λj=>(((x::l)[j-a]?).getD none).map (λv=>(j,v)))=(List.range' (a+1) l.length).filterMap λj=>((l[j-(a+1)]?).getD none).map (λv=>(j,v)):=by
   refine qy5 _ λj hj=>?_;have:=(List.mem_range'_1.mp hj).1;obtain⟨d,rfl⟩:∃d,j=a+1+d:=⟨j-(a+1),by lia⟩;rw[show a+1+d-a=d+1 by lia,show a+1+d-(a+1)=d by lia,List.getElem?_cons_succ]
  rw[e,V8];cases x with
  |none=>simpa using ih
  |some v=>simpa using ih
theorem qX8 {mask k finger moves:Nat}{led plain:Bool}(hm:mask=2^k-1) (h1:1<=k) (hs:Array Int) (hl:hs.size<=mask) :
  ∃t order,SetTable.laid mask finger moves led plain hs=some (t,order)/\Grown t hs.size/\t.mask=mask/\t.led=led/\t.moves=moves/\order.size=hs.size/\∀v∈order,v<hs.size:=by
 obtain⟨owner,e,g⟩:=xk4 hm hs hl;have el:∀a:Nat,(List.range (mask+1)).filterMap (λj=>(owner.getD j none).map (λv=>(j,v)))=(List.range' 0 owner.toList.length).filterMap λj=>((owner.toList[j-0]?).getD none).map (λv=>(j,v)):=λ_=>by
  rw[ZL,g.sz,<- List.range_eq_range'];refine qy5 _ λj hj=>?_;have hj':=Yb.mp hj;rw[Nat.sub_zero,Yn];simp[Array.getD,g.sz,hj']
 have len:((List.range (mask+1)).filterMap (λj=>(owner.getD j none).map (λv=>(j,v)))).length=hs.size:=by
  rw[el 0,qL9,<- g.ct]
  rfl
 refine⟨_,_,by unfold SetTable.laid;rw[e];rfl,⟨?_,rfl,⟨k,hm,h1⟩,hl⟩,rfl,rfl,rfl,?_,λv hv=>?_⟩
 ·show ((((List.range (mask+1)).filterMap (λj=>(owner.getD j none).map (λv=>(j,v)))).map (·.1)).toArray).size=_;rw[ZI,Zf,len]
 ·show ((((List.range (mask+1)).filterMap (λj=>(owner.getD j none).map (λv=>(j,v)))).map (·.2)).toArray).size=_;rw[ZI,Zf,len]
 ·have hv':v∈((List.range (mask+1)).filterMap (λj=>(owner.getD j none).map (λv=>(j,v)))).map (·.2):=by simpa using hv
  obtain⟨q,hq,rfl⟩:=Yg.mp hv';obtain⟨j,hj,ej⟩:=WF.mp hq;obtain⟨v',ev,rfl⟩:=Zj.mp ej;refine g.lt v' ?_;have hj':=Yb.mp hj;have:owner[j]'(by rw[g.sz];exact hj')=some v':=by simpa [Array.getD,g.sz,hj'] using ev
  rw[<- this];simp
theorem qC9:∀(f k n:Nat),3<=k->n<2^(k+f)->∃k',SetTable.sizeAbove.go n f (2^k)=2^k'/\3<=k'/\n<2^k'/\(2^k<=2*n+8->2^k'<=2*n+8)
 |0,k,n,hk,h=>⟨k,rfl,hk,h,λz=>z⟩
 |f+1,k,n,hk,h=>by
  unfold SetTable.sizeAbove.go;by_cases hc:2^k<=n
  ·rw[Zt hc,<- YJ];obtain⟨k',e,h1,h2,h3⟩:=qC9 f (k+1) n (by lia) (by rw[show k+1+f=k+(f+1) by lia];exact h);exact⟨k',e,h1,h2,λ_=>h3 (by rw[YJ];lia)⟩
  ·rw[Zl hc];exact⟨k,rfl,hk,by lia,λz=>z⟩
theorem qq4 {n:Nat}(h:n<2^60):∃k,SetTable.sizeAbove n=2^k/\3<=k/\n<2^k/\2^k<=2*n+8:=by
 obtain⟨k,e,h1,h2,h3⟩:=qC9 64 3 n (by decide) (WP h (by decide));exact⟨k,e,h1,h2,h3 (by show 8<=2*n+8;lia)⟩
theorem qI8 {t:SetTable}{hs:Array Int}{wanted:Nat}(hw:wanted<2^60) (hl:hs.size<wanted) :
  ∃t' order,t.relaid hs wanted=some (t',order)/\Grown t' hs.size/\wanted<=t'.mask/\t'.mask<=2*wanted+8/\t'.led=t.led/\order.size=hs.size/\∀v∈order,v<hs.size:=by
 obtain⟨k,e,h1,h2,h3⟩:=qq4 hw;have hk:=Xj k;obtain⟨t',order,el,g,em,eled,_,eo,ev⟩:=qX8 (mask:=2^k-1) (k:=k) (finger:=t.finger) (moves:=t.movedTo (2^k-1)) (led:=t.led) (plain:=t.plain) rfl (by lia) hs (by lia);refine⟨t',order,?_,g,by rw[em];lia,by rw[em];lia,eled,eo,ev⟩;unfold SetTable.relaid;rw[e];exact el
theorem qX9 {α:Type}{es:Array α}{order:Array Nat}(h:∀v∈order,v<es.size):(order.filterMap (es[·]?)).size=order.size:=by
 rw[<- ZL,Array.toList_filterMap,<- ZL (xs:=order)];have:∀l:List Nat,(∀v∈l,v<es.size)->(l.filterMap (es[·]?)).length=l.length:=λl=>by
  induction l with
  |nil=>intro _;rfl
  |cons a l ih=>
   intro hh;rw[Yl];have ha:=hh a ZB;rw[show es[a]?=some es[a] by simp[ha]];simp[ih λv hv=>hh v (Zk _ hv)]
 exact this _ λv hv=>h v (by simpa using hv)
theorem q92 {α:Type}{es:Array α}{order:Array Nat}{y:α}(h:y∈order.filterMap (es[·]?)):y∈es:=by
 obtain⟨v,_,e⟩:=Array.mem_filterMap.mp h;exact Array.mem_of_getElem? e
end SetT
namespace SetT
open PySem PySem.Spec PyProof.Rows
section
variable {prog:Program}{w:World}{K:Type}[DecidableEq K]{knd:KeyKind prog w K}{A:Around}{E:Value->Shared->Prop}{s:Shared}
theorem qt8 (n:Nat){v:Value}(h:carriedByValue v=true):ofAClassStatement n v=pure false:=by
 cases v with
 |ref a=>simp[carriedByValue] at h
 |_=>first|rfl|(unfold ofAClassStatement;rfl)|(cases n<;>rfl)
theorem seqItems?_of {M:Model}{a:Addr}{o:Obj}{items:Array Value}{n:Nat}{Q:Option (Array Value)->Shared->Prop}(ho:s.heap.get? a=some o) (hd:o.data=.seq items n) (h:Q (some items) s) :
  wpAny M A (seqItems? (.ref a)) Q E s:=Xv ho hd h
theorem qm9 {ks:List K}{a:Addr}{Q:Bool->Shared->Prop}(hk:IsTupleKey knd s.heap ks a) (h:Q false s):wpAny (model prog w) A (ofAClassStatement 8 (.ref a)) Q E s:=by
 have hT:=hk.typeIs;obtain⟨o,items,n,ho,_,hd,hi⟩:=hk;unfold ofAClassStatement;refine Za (Vs hT ?_);show wpAny _ _ ((if ("tuple" == "tuple")=true then pure true else isSubtype (.type "tuple") (.type "tuple")) >>= _) _ _ s;rw[Zt (by decide)];refine Za (Zc ?_);simp only[YQ,Zr,Z2];refine Za (seqItems?_of ho hd ?_);dsimp only;refine Za ?_;show wpAny _ _ (forIn items _ _) _ _ s;rw[<- Array.forIn_toList];refine Wo _ (λrest r s'=>r.1=none/\s'=s/\∀v∈rest,carriedByValue v=true) _ ?_ ?_ _ _ ⟨rfl,rfl,hi.byValue⟩
 ·rintro v rest r s' ⟨hr,rfl,jZ⟩;rw[qt8 _ (jZ v ZB)];refine Za (Zc ?_);simp only[Zr,Z2];exact Zc ⟨rfl,rfl,λu hu'=>jZ u (Zk _ hu')⟩
 ·rintro⟨r1,r2⟩ s' ⟨hr,rfl,_⟩;simp only at hr;subst hr;exact Zc h
theorem xt4 {ks:List K}{a:Addr}{Q:Bool->Shared->Prop}(hk:IsTupleKey knd s.heap ks a) (h:Q false s){stored:List Value}(jP:∀y∈stored,∃b ks',y=.ref b/\IsTupleKey knd s.heap ks' b) :
  wpAny (model prog w) A (searchCouldBeSeen (.ref a) stored) Q E s:=by
 unfold searchCouldBeSeen;refine Za ?_;refine Wo _ (λrest r s'=>r.1=none/\s'=s/\∀y∈rest,∃b ks',y=.ref b/\IsTupleKey knd s.heap ks' b) _ ?_ ?_ _ _ ⟨rfl,rfl,jP⟩
 ·rintro y rest r s' ⟨hr,rfl,jZ⟩;obtain⟨b,ks',rfl,hb⟩:=jZ y ZB;have rest':∀y∈rest,∃b ks',y=.ref b/\IsTupleKey knd s'.heap ks' b:=λu hu'=>jZ u (Zk _ hu');dsimp only;split
  ·exact Zc ⟨rfl,rfl,rest'⟩
  ·refine Za (wpAny_eqIsQuiet_tuple hk ?_);simp only[YQ,Zr,Z2];refine Za (wpAny_eqIsQuiet_tuple hb ?_);simp only[YQ,Zr,Z2];refine Za (qm9 hk ?_);simp only[Zr,Z2];refine Za (qm9 hb ?_);simp only[Zr,Z2];exact Zc ⟨rfl,rfl,rest'⟩
 ·rintro⟨r1,r2⟩ s' ⟨hr,rfl,_⟩;simp only at hr;subst hr;exact Zc h
def Hb (v:Value):Prop:=∃b,∀n,hashByValue n v=pure b
theorem Hb.int (k:Int) (t:Tok):Hb (.int k t):=⟨true,λn=>by cases n<;>rfl⟩
theorem Hb.str (x:Str) (t:Tok):Hb (.str x t):=⟨false,λn=>by cases n<;>rfl⟩
theorem qD0 {a:Addr}{o:Obj}{items:Array Value}{n:Nat}{Q:Bool->Shared->Prop}(ho:s.heap.get? a=some o) (hc:o.cls=.type "tuple") (hd:o.data=.seq items n) (hi:∀v∈items.toList,Hb v) (h:∀b,Q b s) :
  wpAny (model prog w) A (hashByValue 8 (.ref a)) Q E s:=by
 have hT:s.TypeIs (.ref a) "tuple":=⟨o,ho,hc⟩;unfold hashByValue;refine Za (wpAny_specialOf hT F.slot_tuple_hash.lookup ?_);dsimp only;refine Za (seqItems?_of ho hd ?_);dsimp only [Option.getD];refine Za ?_;show wpAny _ _ (forIn items _ _) _ _ s;rw[<- Array.forIn_toList];refine Wo _ (λrest r s'=>r.1=none/\s'=s/\∀v∈rest,Hb v) _ ?_ ?_ _ _ ⟨rfl,rfl,hi⟩
 ·rintro v rest r s' ⟨hr,rfl,jZ⟩;obtain⟨b,hb⟩:=jZ v ZB;rw[hb];refine Za (Zc ?_);cases b with
  |true=>
   simp only[YQ,Zr,Z2];exact Zc ⟨rfl,rfl,λu hu'=>jZ u (Zk _ hu')⟩
  |false=>
   simp only[WQ,XF];exact Zc (Zc (h false))
 ·rintro⟨r1,r2⟩ s' ⟨hr,rfl,_⟩;simp only at hr;subst hr;exact Zc (h true)
theorem Grown.fits {t:SetTable}{n:Nat}(g:Grown t n):t.fits n=true:=by
 unfold SetTable.fits;rw[g.pl,g.fill];simp[g.le]
theorem qD1 {t:SetTable}{f:Nat->Int}{h:Int}{p:SetTable.Probe}{pr:Option SetTable.Met}{m:Nat}(hp:t.probe f h p=pr) (hd:t.dummies=#[]) (hm:m<10*SetTable.turns t.mask) (hdm:p.dummy=none) (he:t.slot (adv t m p).j=.empty) :
  (∃j,pr=some (.empty j none))\/(∃m' j i,m'<m/\pr=some (.candidate j i (adv t (m'+1) p))/\t.slot j=.live i/\t.place[i]?=some j):=by
 subst hp;rcases qX6 hd f h (10*SetTable.turns t.mask) m p hm hdm he with ⟨j,e⟩|⟨m',j,i,h1,e,h2,h3,_⟩
 ·exact .inl ⟨j,e⟩
 ·exact .inr ⟨m',j,i,h1,e,h2,h3⟩
theorem xt5 {a b:Addr}{o:Obj}{es:Array (Int×Value)}{ep:Nat}{t:SetTable}{ks:List K}{h:Int}{Q:SetFound->Shared->Prop}(hu:A.units<cLine)
  (ho:s.heap.get? a=some o) (hd:o.data=.set es ep t) (g:Grown t es.size) (hk:IsTupleKey knd s.heap ks b) (vW:∀e∈es,∃b' ks',e.2=.ref b'/\IsTupleKey knd s.heap ks' b'/\ks'≠ks) (q:∀j,Q (.free j false) s) :
  ∀(m fuel:Nat) (stand:Option SetTable.Probe),m<fuel->m<10*SetTable.turns t.mask->(stand.getD (t.probeStart h)).dummy=none->t.slot (adv t m (stand.getD (t.probeStart h))).j=.empty ->
   wpAny (model prog w) A (setSearchFrom a (.ref b) h true fuel stand) Q E s:=by
 intro m
 induction m using Nat.strongRecOn with
 |ind m ih=>
  intro fuel stand hf hm hdm he;cases fuel with
  |zero=>exact absurd hf (XA _)
  |succ fuel=>
   unfold setSearchFrom;refine Za (ZY ho hd g.fits ?_);dsimp only;rw[g.way];simp only[Zr,Z2];split
   ·rename_i met hp;rcases qD1 hp g.du hm hdm he with ⟨j,ej⟩|⟨m',j,i,hm',ej,sl,pl⟩
    ·cases ej;dsimp only;exact Zc (q j)
    ·cases ej;dsimp only;have hi:i<es.size:=by
      have:=(YC.mp pl).1;rw[g.pl] at this;exact this
     obtain⟨b',ks',e2,hk',jK⟩:=vW es[i] (VP hi);have hei:es[i]?=some (es[i].1,.ref b'):=by
      rw[<- e2];simp[hi]
     have sm:t.sameMemory t.moves t.mask=some true:=by
      unfold SetTable.sameMemory;rw[Zt (by simp)]
     have nx:∀fuel',m<fuel'+1->wpAny (model prog w) A (setSearchFrom a (.ref b) h true fuel' (some (adv t (m'+1) (stand.getD (t.probeStart h))))) Q E s:=λfuel' hf'=>
      ih (m-(m'+1)) (by lia) fuel' _ (by lia) (by lia) (by show (adv t (m'+1) _).dummy=none;rw[qt7];exact hdm) (by
       show t.slot (adv t (m-(m'+1)) (adv t (m'+1) _)).j=.empty;rw[<- qt6,show m'+1+(m-(m'+1))=m by lia];exact he)
     have seen:∀y∈(es.filter (·.1==h)).toList.map (·.2),∃b ks',y=.ref b/\IsTupleKey knd s.heap ks' b:=λy hy=>by
      obtain⟨e,he',rfl⟩:=Yg.mp hy;have:e∈es:=by
       have:=(Array.mem_filter.mp (show e∈es.filter (·.1==h) by simpa using he')).1;exact this
      obtain⟨b'',ks'',x1,x2,_⟩:=vW e this;exact⟨b'',ks'',x1,x2⟩
     cases hl:t.led with
     |false=>
      simp only[WQ,XF];refine Za (xt4 hk ?_ seen);simp only[Zr,Z2];rw[hei];dsimp only;refine Za (ZX (wpAny_eqBool_tuple hu hk' hk ?_));rw[Zu jK];refine Za (ZY ho hd g.fits ?_);dsimp only;simp only[VA,Zr,Z2];rw[sm];dsimp only;simp only[XF];rw[sl];dsimp only;rw[hei];dsimp only;refine Za (wpAny_isSame_ref_self ?_);refine Za (Zc ?_);simp only[XF];exact nx fuel hf
     |true=>
      simp only[YQ,Zr,Z2];rw[hei];dsimp only;refine Za (ZX (wpAny_eqBool_tuple hu hk' hk ?_));rw[Zu jK];refine Za (ZY ho hd g.fits ?_);dsimp only;simp only[VA,Zr,Z2];rw[sm];dsimp only;simp only[XF];rw[sl];dsimp only;rw[hei];dsimp only;refine Za (wpAny_isSame_ref_self ?_);refine Za (Zc ?_);simp only[XF];exact nx fuel hf
   ·rename_i hp;exact Or.elim (qD1 rfl g.du hm hdm he) (λ⟨j,e⟩=>(hp _ e).elim) (λ⟨_,_,_,_,e,_⟩=>(hp _ e).elim)
structure SetR (knd:KeyKind prog w K) (h:Heap) (a:Addr) (Ks:List (List K)) (n:Nat):Prop where
 ex:∃o es ep t,h.get? a=some o/\o.ExactSet/\o.data=.set es ep t/\Grown t es.size/\t.tooFull=false/\t.mask<=8*n+8/\es.size=n/\∀e∈es,∃b ks,e.2=.ref b/\ks∈Ks/\IsTupleKey knd h ks b
theorem qD2 {h:Heap}{a b:Addr}{o:Obj}{ks:List K}{es:Array (Int×Value)}{ep:Nat}{t:SetTable}(x:IsTupleKey knd h ks b) (ho:h.get? a=some o) (hd:o.data=.set es ep t):b≠a:=by
 rintro rfl;obtain⟨o',items,n,ho',_,hd',_⟩:=x;obtain rfl:o'=o:=ZM (ho'.symm.trans ho);rw[hd] at hd';exact nomatch hd'
theorem qD3 {h h':Heap}{a b:Addr}{ks:List K}(x:IsTupleKey knd h ks b) (jK:b≠a) (hs:Heap.SameBut a h h'):IsTupleKey knd h' ks b:=by
 obtain⟨o',items,n,ho',hc,hd',hi⟩:=x;exact⟨o',items,n,(hs.2 b jK).trans ho',hc,hd',hi⟩
theorem qY0 {h:Heap}{a:Addr}{o:Obj}{es es':Array (Int×Value)}{ep:Nat}{t t':SetTable}(ho:h.get? a=some o) (hd:o.data=.set es ep t) :
  (h.update a (Obj.putSet es' t')).get? a=some { o with data:=.set es' (ep+1) t' }:=by
 have:=ZQ (Obj.putSet es' t') ho (by rw[V1 es' t' hd];rfl);rw[V1 es' t' hd] at this;exact this
theorem xk5 {a b:Addr}{ks:List K}{Ks:List (List K)}{n:Nat}{h:Int}{Q:Bool->Shared->Prop}(hu:A.units<cLine) (S:SetR knd s.heap a Ks n) (hk:IsTupleKey knd s.heap ks b) (hHb:∀o items m,s.heap.get? b=some o->o.data=.seq items m->∀v∈items.toList,Hb v)
  (hn:ks∉Ks) (hsz:n<1200) (q:∀h',Heap.SameBut a s.heap h'->SetR knd h' a (ks::Ks) (n+1)->Q true { s with heap:=h' }) :
  wpAny (model prog w) A (setAddHashed a (.ref b) h) Q E s:=by
 obtain⟨o,es,ep,t,ho,k8,hd,g,hf,hmk,rfl,vW⟩:=S.ex;unfold setAddHashed setAddHashedIn;refine ZX (Za (ZY ho hd g.fits ?_));dsimp only;have hby:byScan (.ref b) es=false:=rfl;rw[hby];simp only[Zr,Z2];obtain⟨m,hm,hslot⟩:=g.meets h;have hfu:m<100000:=by
  unfold SetTable.turns at hm;lia
 refine Za (xt5 hu ho hd g hk (λe he=>?_) (λj=>?_) m 100000 none hfu hm rfl hslot)
 ·obtain⟨b',ks',e1,e2,e3⟩:=vW e he;exact⟨b',ks',e1,e3,λz=>hn (by rw[<- z];exact e2)⟩
 dsimp only;refine Za (ZY ho hd g.fits ?_);dsimp only;have g1:=g.put hf j;generalize hp:t.put j=tp at g1;obtain⟨t1,p⟩:=tp;dsimp only at g1 ⊢;have hmk1:t1.mask=t.mask:=by
  have:(t.put j).1.mask=t.mask:=rfl;rw[hp] at this;exact this
 have hba:b≠a:=qD2 hk ho hd;have mem1:∀{h1:Heap},Heap.SameBut a s.heap h1->∀e∈SetTable.insertAt es p (h,Value.ref b),∃b' ks',e.2=.ref b'/\ks'∈ks::Ks/\IsTupleKey knd h1 ks' b':=λ{h1} hs e he=>by
  rcases qC7 he with rfl|he
  ·exact⟨b,ks,rfl,ZB,qD3 hk hba hs⟩
  ·obtain⟨b',ks',e1,e2,e3⟩:=vW e he;exact⟨b',ks',e1,Zk _ e2,qD3 e3 (qD2 e3 ho hd) hs⟩
 have sz1:(SetTable.insertAt es p (h,Value.ref b)).size=es.size+1:=qm8 _ _ _;have room:es.size+1<=sizeLine:=by rw[Wg];lia
 have tail:∀t2:SetTable,Grown t2 (es.size+1)->t2.mask=t.mask->wpAny (model prog w) A (do
   storeSet a (SetTable.insertAt es p (h,Value.ref b)) t2
   if (!false&&t2.tooFull)=true then do
     setRelay a (SetTable.grown (es.size+1))
     pure true
    else pure true) Q E s:=λt2 g2 yG=>by
  refine Za (WR ho hd ?_ (by rw[sz1];exact room));have vL:=qY0 (es':=SetTable.insertAt es p (h,Value.ref b)) (t':=t2) ho hd;have vU:=Yc s.heap a (Obj.putSet (SetTable.insertAt es p (h,Value.ref b)) t2);cases ht:t2.tooFull with
  |false=>
   simp only[VA,Zr,Z2];refine Zc (q _ vU ⟨_,_,_,t2,vL,k8,rfl,by rw[sz1];exact g2,ht,by lia,sz1,mem1 vU⟩)
  |true=>
   simp only[WQ,Bool.and_self,XF];refine Za ?_;unfold setRelay;refine Za (ZY vL rfl (by rw[sz1];exact g2.fits) ?_);dsimp only;have gw:SetTable.grown (es.size+1)=(es.size+1)*4:=by
    unfold SetTable.grown;rw[Zl (by lia)]
   obtain⟨k,ek,_,_,hk3⟩:=qq4 (n:=SetTable.grown (es.size+1)) (by rw[gw];lia);rw[Zl (by rw[ek,Wg];rw[gw] at hk3;lia)];obtain⟨t3,order,er,g3,hw1,hw2,_,eo,ev⟩:=qI8 (t:=t2) (hs:=(SetTable.insertAt es p (h,Value.ref b)).map (·.1)) (wanted:=SetTable.grown (es.size+1)) (by rw[gw];lia) (by rw[Array.size_map,sz1,gw];lia);rw[Array.size_map] at g3 eo ev;rw[er];have es2:(order.filterMap ((SetTable.insertAt es p (h,Value.ref b))[·]?)).size=es.size+1:=by rw[qX9 ev,eo,sz1]
   refine Za ?_;show wpAny _ _ (if ((order.filterMap ((SetTable.insertAt es p (h,Value.ref b))[·]?)).size != (SetTable.insertAt es p (h,Value.ref b)).size)=true then _ else _) _ _ _;rw[Zl (by rw[es2,sz1];simp)];refine Zc ?_;dsimp only;refine WR vL rfl ?_ (by rw[es2];exact room);have ho2:=qY0 (es':=order.filterMap ((SetTable.insertAt es p (h,Value.ref b))[·]?)) (t':=t3) vL rfl;have yB:=vU.trans (Yc _ a (Obj.putSet (order.filterMap ((SetTable.insertAt es p (h,Value.ref b))[·]?)) t3));refine Zc (q _ yB ⟨_,_,_,t3,ho2,k8,rfl,by rw[es2,<- sz1];exact g3,?_,?_,es2,λe he=>mem1 yB e (q92 he)⟩)
   ·unfold SetTable.tooFull;rw[g3.fill,sz1];rw[gw] at hw1;exact Zu (by lia)
   ·rw[gw] at hw2;lia
 cases jJ:t1.plain with
 |false=>
  simp only[Zr,Z2];refine Za (Zc ?_);simp only[XF];exact tail t1 g1 hmk1
 |true=>
  simp only[XF];obtain⟨ob,items,nn,hb1,vA,wZ,_⟩:=id hk;refine Za (qD0 hb1 vA wZ (hHb _ _ _ hb1 wZ) λc=>?_);cases c with
  |true=>
   simp only[XF];exact tail t1 g1 hmk1
  |false=>
   simp only[Zr,Z2];exact tail { t1 with plain:=false } ⟨g1.pl,g1.du,g1.ma,g1.le⟩ hmk1
end
section
variable {prog:Program}{w:World}{K:Type}[DecidableEq K]{knd:KeyKind prog w K}
def TupK (knd:KeyKind prog w K) (h:Heap) (ks:List K) (b:Addr):Prop:=∃o items n,h.get? b=some o/\o.cls=.type "tuple" /\ o.data=.seq items n/\ItemsAre knd ks items.toList/\∀v∈items.toList,Hb v
theorem TupK.key {h:Heap}{ks:List K}{b:Addr}(x:TupK knd h ks b):IsTupleKey knd h ks b:=let ⟨o,items,n,h1,h2,h3,h4,_⟩:=x;⟨o,items,n,h1,h2,h3,h4⟩
theorem TupK.hb {h:Heap}{ks:List K}{b:Addr}(x:TupK knd h ks b):∀o items m,h.get? b=some o->o.data=.seq items m->∀v∈items.toList,Hb v:=λo items m e1 e2=>by
 obtain⟨o',items',n',h1,_,h3,_,h5⟩:=x;rw[e1] at h1;cases h1;rw[e2] at h3;cases h3;exact h5
theorem TupK.at {h h':Heap}{ks:List K}{b:Addr}(x:TupK knd h ks b) (k:∀o,h.get? b=some o->h'.get? b=some o):TupK knd h' ks b:=let ⟨o,items,n,h1,r⟩:=x;⟨o,items,n,k o h1,r⟩
theorem SetR.at {h h':Heap}{a:Addr}{Ks:List (List K)}{n:Nat}(S:SetR knd h a Ks n) (k:∀b o,h.get? b=some o->h'.get? b=some o\/b≠a/\¬∃ks,IsTupleKey knd h ks b):SetR knd h' a Ks n:=by
 obtain⟨o,es,ep,t,ho,k8,hd,g,hf,hmk,hn,vW⟩:=S.ex;refine⟨o,es,ep,t,?_,k8,hd,g,hf,hmk,hn,λe he=>?_⟩
 ·rcases k a o ho with z|z
  ·exact z
  ·exact absurd rfl z.1
 ·obtain⟨b,ks,e1,e2,e3⟩:=vW e he;refine⟨b,ks,e1,e2,?_⟩;obtain⟨o',items,n',ho',r⟩:=id e3;rcases k b o' ho' with z|z
  ·exact⟨o',items,n',z,r⟩
  ·exact absurd ⟨ks,e3⟩ z.2
variable {A:Around}{R:Result->Shared->Prop}{I:Addr}{fp wr:List Addr}{G:Array GenState->Array GenState->Prop}{n:Nat}{P:Nat->Value->Prop}{St:Nat->Shared->Prop}
def xt6 (knd:KeyKind prog w K) (S:Addr) (wr:List Addr) (P:Nat->Value->Prop) (val:Nat->List K) (h:Heap):Prop:=∀i v,P i v->∃b,v=.ref b/\b≠S/\b∉wr/\TupK knd h (val i) b
def xA5 (knd:KeyKind prog w K) (wr:List Addr) (h:Heap):Prop:=∀b∈wr,¬∃ks,IsTupleKey knd h ks b
theorem qY1 (W:WalksS prog w A.in1 I fp wr G n P St) (S:Addr) (jW:S∉fp) (val:Nat->List K) (dist:∀i j,i<j->j<n->val i≠val j) (hn:n<=1200) (hu:A.in1.units<cLine)
  (nt:∀i s,St i s->xA5 knd wr s.heap) :
  ∀(k i:Nat) (s:Shared),n-i=k->i<=n->St i s->xt6 knd S wr P val s.heap->(∃Ks,SetR knd s.heap S Ks i/\∀ks∈Ks,∃j,j<i/\ks=val j) ->
   (∀s',Moved (S::wr) G s s'->(∃Ks,SetR knd s'.heap S Ks n)->R (.ok (.ret .none)) s') ->
   codeAny (model prog w) A (.builtin "set.update.loop" ⟨[.ref S,.ref I],[]⟩) R s:=by
 have w5:S∉wr:=λz=>jW (W.sub _ z);have up:∀b∈wr,b∈S::wr:=λb hb=>Zk _ hb;have stays:∀{i:Nat}{s s':Shared}{Ks:List (List K)}{m:Nat},St i s->Moved wr G s s'->SetR knd s.heap S Ks m->SetR knd s'.heap S Ks m:=λ{i s s' Ks m} st mv S0=>S0.at λb o e=>by
  by_cases hb:b∈wr
  ·exact .inr ⟨λz=>w5 (by rw[<- z];exact hb),nt i s st b hb⟩
  ·exact .inl (mv.heap b o hb e)
 intro k
 induction k with
 |zero=>
  intro i s hk hi st its hS hR;have jT:i=n:=by lia
  subst jT;obtain⟨Ks,S0,_⟩:=hS;refine Z8 YN ?_;rw[ZW Yd _];show wpAny _ A.in1 (pyNext (.ref I) >>= _) _ _ s;refine Za (W.done s _ _ st λs' mv=>?_);show wpAny _ A.in1 (ret Value.none) _ _ s';exact Zc (hR s' (mv.mono up) ⟨Ks,stays st mv S0⟩)
 |succ k ih=>
  intro i s hk hi st its hS hR;obtain⟨Ks,S0,hKs⟩:=hS;have jB:i<n:=by lia
  refine Z8 YN ?_;rw[ZW Yd _];show wpAny _ A.in1 (pyNext (.ref I) >>= _) _ _ s;refine Za (W.item i s _ _ jB st λv s' hP st' mv=>?_);obtain⟨b,rfl,hbS,hbw,hb⟩:=its i v hP;have hb':TupK knd s'.heap (val i) b:=hb.at λo e=>mv.heap b o hbw e;have S1:SetR knd s'.heap S Ks i:=stays st mv S0;show wpAny _ A.in1 (holding [Value.ref b] (setAdd S (.ref b)) >>= _) _ _ s';refine Za (ZX ?_);unfold setAdd;refine ZX ?_;refine Za (wpAny_pyHash_tuple hu hb'.key ?_);refine xk5 (s:={ s' with toks:=s'.toks+((val i).length+1) }) hu S1 hb'.key hb'.hb (λz=>?_) (by lia) λh' wQ S2=>?_
  ·obtain⟨j,hj,e⟩:=hKs _ z;exact dist j i hj jB e.symm
  ·have its':xt6 knd S wr P val h':=λj u hPj=>by
    obtain⟨c,rfl,h1,h2,h3⟩:=its j u hPj;exact⟨c,rfl,h1,h2,(h3.at λo e=>mv.heap c o h2 e).at λo e=>(wQ.2 c h1).trans e⟩
   refine Zc ⟨Yw Yd _,ih (i+1) _ (by lia) jB (W.frame _ s' _ _ st' (Yx _ _) λc hc o e=>?_) its' ⟨val i::Ks,S2,λks hks=>?_⟩ λs'' mv'' fin=>?_⟩
   ·rw[wQ.2 c (λz:c=S=>jW (by rw[<- z];exact hc))];exact e
   ·rcases Zn.mp hks with rfl|hks
    ·exact⟨i,Yq i,rfl⟩
    ·obtain⟨j,hj,e⟩:=hKs ks hks;exact⟨j,by lia,e⟩
   ·refine hR s'' (VQ W.gtrans ((mv.mono up).then_heap (Yx _ _) λc o hc e=>?_) mv'') fin;rw[wQ.2 c (λz:c=S=>hc (by rw[z];exact ZB))];exact e
end
end SetT
namespace SetT
open PySem PySem.Spec
section
variable {prog:Program}{w:World}{K:Type}[DecidableEq K]{knd:KeyKind prog w K}{A:Around}{E:Value->Shared->Prop}{s:Shared}
abbrev newS (led:Bool):Obj:={ cls:=.type "set",dict:=none,data:=.set #[] 0 (.fresh 0 0 led) }
theorem qQ7 {h:Heap}{a:Addr}{led:Bool}(e:h.get? a=some (newS led)):SetR knd h a [] 0:=
 ⟨_,#[],0,.fresh 0 0 led,e,⟨rfl,rfl,rfl⟩,rfl,⟨rfl,rfl,⟨3,rfl,by decide⟩,Zx _⟩,by rfl,(by show 7<=8*0+8;decide),rfl,λe he=>by simp at he⟩
theorem call_set_tuple {l:Addr}{items:Array Value}{val:Nat->List K}{Q:Value->Shared->Prop}(hh:A.handled=none) (hu:A.units+8<cLine) (hl:s.heap.IsTuple l items)
  (hi:∀(i:Nat) (v:Value),items[i]?=some v->∃b,v=.ref b/\TupK knd s.heap (val i) b) (dist:∀i j,i<j->j<items.size->val i≠val j) (hb:items.size<=1200)
  (h:∀(h':Heap) (tk:Nat),(∃Ks,SetR knd h' s.heap.objs.size Ks items.size)->(∀b o,b<s.heap.objs.size->s.heap.get? b=some o->h'.get? b=some o)->Q (.ref s.heap.objs.size) { s with heap:=h',toks:=tk }) :
  wpAny (model prog w) A (call (.type "set") [.ref l]) Q E s:=by
 obtain⟨c,tl,hmro⟩:=F.called_set.mro;have made0:=F.called_set.made;have sub0:=F.called_set.sub;refine wpAny_call (Vi ?_);show wpAny _ _ (callAny (.type "set") _) _ _ _;refine Zc ⟨VB _ (by decide +kernel),Z8 F.entry_type_call ?_⟩;rw[Around.under_plain (weight_type_call_type "set" [.ref l] []) rfl];have f1:=F.called_set.notType;have f2:=F.called_set.canCreate;have f3:=F.typeCall_set_1 (.ref l)
 repeat (any_goals first|assumption|wp_step)
 refine Wn (code_set_new_1 (.ref l) (E:=E) (Q₁:=λobj s₁=>∃led:Bool,obj=.ref s.heap.objs.size/\s₁={ s with heap:=s.heap.push (newS led) }) λled=>⟨led,rfl,rfl⟩) λr s₁ hr=>?_;cases r with
 |error e=>exact hr
 |ok fl=>
  cases fl with
  |ret obj=>
   obtain⟨led,rfl,rfl⟩:=hr;have hS:(s.heap.push (newS led)).get? s.heap.objs.size=some (newS led):=Zh _ rfl;have hT:Shared.TypeIs { s with heap:=s.heap.push (newS led) } (.ref s.heap.objs.size) "set":=⟨_,hS,rfl⟩;have i1:=F.called_set.init.lookup;have i2:=F.called_set.init.bind (.ref s.heap.objs.size)
   repeat (any_goals first|assumption|wp_step)
   refine Wn (XG (R:=wants (λr s₂=>r=.none/\∃h' tk,s₂={ s with heap:=h',toks:=tk }/\(∃Ks,SetR knd h' s.heap.objs.size Ks items.size) /\
     (∀b o,b<s.heap.objs.size->s.heap.get? b=some o->h'.get? b=some o)) E) F.called_set.init.plain F.entry_set_init (check_set_init_1 hT ?_)) λr₂ s₂ hr₂=>?_
   ·obtain⟨ol,wS,kA,nl,hdl⟩:=id hl;obtain⟨ocls,odict,odata,oslots⟩:=ol;simp only at kA hdl;subst kA;subst hdl;have hol':(s.heap.push (newS led)).get? l=some { cls:=.type "tuple",dict:=odict,data:=.seq items nl,slots:=oslots }:=Zb _ wS;have st1:=F.sub_tuple_set;have st2:=F.sub_tuple_frozenset;have ned:(Value.type "tuple" == Value.type "dict")=false:=by decide
    have kG:(s.heap.push (newS led)).IsTuple l items:=⟨_,hol',rfl,nl,rfl⟩;unfold Builtin.«set.__init__» noKeywords Builtin.Frozenset.updateFrom;generalize hPI:pyIter=PI
    wp_walk
    subst hPI;refine Xu kG ?_;refine Za (VC ?_);have hlS:l<s.heap.objs.size:=Zi wS;have hsz:(s.heap.push (newS led)).objs.size=s.heap.objs.size+1:=ZS _ _;have hneI:l≠(s.heap.push (newS led)).objs.size:=by rw[hsz];exact Zp (ZZ hlS)
    have jW:s.heap.objs.size∉[(s.heap.push (newS led)).objs.size,l]:=by
     rw[hsz];simp only[Zn,Wp,Uj,not_or];exact⟨Zp (Yq _),XE hlS⟩
    refine qY1 (knd:=knd) ((Walks.tuple (by simp[hh]) _ l hneI items).toS) s.heap.objs.size jW val dist hb (by show A.units+1+1+1<cLine;lia) (λi s' st b hbw=>?_) (items.size-0) 0 _ (by lia) (Zx _)
     ⟨⟨_,Zh _ rfl,rfl,rfl⟩,kG.push _⟩ (λi v hv=>?_) ⟨[],qQ7 (Zb _ hS),λks hks=>nomatch hks⟩ λs' mv fin=>?_
    ·rintro⟨ks,o',its',n',e1,e2,e3,_⟩;have:b=(s.heap.push (newS led)).objs.size:=by simpa using hbw
     subst this;obtain⟨oi,x1,x2,x3⟩:=st.1;rw[x1] at e1;cases e1;rw[x2] at e2;injection e2 with e2
     exact absurd e2 (by decide)
    ·obtain⟨b,rfl,hb'⟩:=hi i v hv;have jB:b<s.heap.objs.size:=by obtain⟨o',_,_,e1,_⟩:=hb';exact Zi e1
     refine⟨b,rfl,Zp jB,(by rw[hsz];simp only[Zn,Wp,Uj];exact Zp (ZZ jB)),hb'.at λo e=>Zb _ (Zb _ e)⟩
    ·obtain⟨h',g',d',tk',os'⟩:=s';have eg:g'=s.gens:=mv.gens;have ed:d'=s.drawn:=mv.drawn;have eo:os'=s.os:=mv.os;subst eg;subst ed;subst eo;show wpAny _ _ _ _ _ _;refine Zc ?_;show wpAny _ _ (ret Value.none) _ _ _;refine Zc ⟨rfl,h',tk',rfl,fin,λb o jB e=>?_⟩;exact mv.heap b o (by rw[hsz];simp only[Zn,Wp,Uj,not_or];exact⟨Zp jB,Zp (ZZ jB)⟩) (Zb _ (Zb _ e))
   ·cases r₂ with
    |error e=>exact hr₂
    |ok fl₂=>
     cases fl₂ with
     |ret r=>
      obtain⟨rfl,h',tk,rfl,fin,kp⟩:=hr₂
      repeat (any_goals first|assumption|wp_step)
      exact h _ _ fin kp
     |_=>exact hr₂.elim
  |_=>exact hr.elim
end
end SetT
namespace L2
open PySem PySem.Spec PyProof.Rows PySem.W
def xA6 (h base:Heap) (e:Addr) (cls fl:Value):Prop:=∃oe vs T oT ts,h.get? e=some oe/\oe.cls=cls/\oe.data=.fields vs/\vs[1]?=some (.ref T)/\vs[2]?=some .none/\base.get? T=none/\T≠e/\h.get? T=some oT/\oT.data=.fields ts/\ts[3]?=some fl
structure Over (base:Heap) (l:List Env) (e:Addr) (cls fl:Value) (h:Heap):Prop where
 stays:base.StaysIn h
 new:base.get? e=none
 frames:h.FunFrames base l
 noted:xA6 h base e cls fl
section
variable {M:Model}{A:Around}{E:Value->Shared->Prop}{s:Shared}{base:Heap}{env:Env}{outer:List Env}{L e:Addr}{oe:Obj}{vs:Array Value}{head:Value}{hadNext:Bool}
theorem qD4 {Q:Unit->Shared->Prop}(hfr:A.frames=some (env::outer)) (hl:s.heap.FunFrames base (env::outer)) (hf:env.frame=some L) (he:s.heap.get? e=some oe) (kb:base.StaysIn s.heap) (ne:base.get? e=none)
  (hd:oe.data=.fields vs) (h2:vs[2]?=some .none) (hQ:∀h',Over base (env::outer) e oe.cls (rawInt L) h'->s.heap.UpToSlots h'->Q () { s with heap:=h' }) :
  wpAny M A (do let a <- frameOf env;let pl <- entryPlaceOf L hadNext;let b <- EntryCells.newEntry head a .none (rawInt L) .none pl;setField (.ref e) 1 b) Q E s:=by
 have v1:1<vs.size:=WP (by decide) (YC.mp h2).1;have nf:e∉(env::outer).filterMap (·.frame):=λz=>by
  obtain⟨_,o,q1,q2⟩:=hl.mem z;rw[he] at q1;cases q1;exact q2 vs hd
 refine Za (wpAny_frameOf_fun hfr hl hf λg1 c1=>?_);refine Za (wpAny_entryPlaceOf λpl jJ=>?_);unfold EntryCells.newEntry newFields;refine Za (ZJ ?_ (jJ.sizeOk5 _ _ _ _ _));dsimp only;have e1:g1.get? e=some oe:=(c1.2.1 e nf).trans he;have k1:base.StaysIn g1:=λb o q=>(c1.2.1 b (λz=>by rw[(hl.mem z).1] at q;cases q)).trans (kb b o q);have hts:(([head,.ref L,.none,rawInt L,.none]++(if pl.isEmpty then List.replicate 6 Value.none else pl)).toArray:Array Value)[3]?=some (rawInt L):=by
  simp
 generalize ([head,.ref L,.none,rawInt L,.none]++(if pl.isEmpty then List.replicate 6 Value.none else pl)).toArray=ts at hts;have e2:(g1.push { cls:=.type "traceback",dict:=none,data:=.fields ts }).get? e=some oe:=Zb _ e1;have nT:g1.objs.size≠e:=XE (Zi e1);refine YR e2 hd v1 (hQ _ ⟨?_,ne,?_,?_⟩ ?_)
 ·exact λb o q=>(Zs _ _ (λz=>by rw[z,q] at ne;cases ne)).trans (Zb _ (k1 b o q))
 ·refine hl.of_keeps λb o q d=>?_;obtain⟨sl,q1⟩:=c1.2.2 b o q;exact⟨_,(Zs _ _ (λz=>by rw[<- z,he] at q;cases q;exact d vs hd)).trans (Zb _ q1),rfl⟩
 ·refine⟨_,_,g1.objs.size,_,ts,ZQ _ e2 (YO (Z1 hd _)),Wa _ _,Z1 hd _,by simp[v1],?_,k1.fresh,nT,(Zs _ _ (XC nT)).trans (Zh g1 rfl),rfl,hts⟩;rw[Array.getElem?_setIfInBounds_ne (by decide)];exact h2
 ·intro b o q d;obtain⟨sl,q1⟩:=c1.2.2 b o q;exact⟨sl,(Zs _ _ (λz=>by rw[<- z,he] at q;cases q;exact d vs hd)).trans (Zb _ q1)⟩
theorem qp0 {Q:Unit->Shared->Prop}{l:List Env}{cls fl:Value}(O:Over base l e cls fl s.heap) (hQ:∀h',Over base l e cls .none h'->s.heap.UpToSlots h'->Q () { s with heap:=h' }):wpAny M A (setFlight (.ref e) none) Q E s:=by
 obtain⟨kb,ne,hl,oe,vs,T,oT,ts,he,hc,hd,h1,h2,bT,nT,hT,dT,h3⟩:=O;have t3:=(YC.mp h3).1;unfold setFlight;refine Za (Yy he hd h1 ?_);rw[Zt (by simp)];refine YR hT dT t3 (hQ _ ⟨?_,ne,?_,?_⟩ ?_)
 ·exact λb o q=>(Zs _ _ (λz=>by rw[z,q] at bT;cases bT)).trans (kb b o q)
 ·exact hl.of_keeps λb o q d=>⟨o,(Zs _ _ (λz=>by rw[<- z,hT] at q;cases q;exact d ts dT)).trans q,rfl⟩
 ·exact⟨oe,vs,T,_,_,(Zs _ _ nT).trans he,hc,hd,h1,h2,bT,nT,ZQ _ hT (YO (Z1 dT _)),Z1 dT _,by simp[t3]⟩
 ·exact λb o q d=>⟨o.slots,(Zs _ _ (λz=>by rw[<- z,hT] at q;cases q;exact d ts dT)).trans q⟩
theorem qQ8 {Q:Unit->Shared->Prop}(hfr:A.frames=some (env::outer)) (hl:s.heap.FunFrames base (env::outer)) (hf:env.frame=some L) (he:s.heap.get? e=some oe) (kb:base.StaysIn s.heap) (ne:base.get? e=none)
  (hd:oe.data=.fields vs) (h1:vs[1]?=some .none) (h2:vs[2]?=some .none) (hQ:∀h',Over base (env::outer) e oe.cls (rawInt L) h'->s.heap.UpToSlots h'->Q () { s with heap:=h' }):wpAny M A (noteFrame (.ref e) env) Q E s:=by
 unfold noteFrame;simp only[hf];refine Za (Yy he hd h1 ?_);rw[Zl (by decide)];exact qD4 hfr hl hf he kb ne hd h2 hQ
theorem qY2 {Q:Unit->Shared->Prop}{cls:Value}(hfr:A.frames=some (env::outer)) (hf:env.frame=some L) (O:Over base (env::outer) e cls .none s.heap) (hQ:∀h',Over base (env::outer) e cls (rawInt L) h'->s.heap.UpToSlots h'->Q () { s with heap:=h' }) :
  wpAny M A (noteFrame (.ref e) env) Q E s:=by
 obtain⟨kb,ne,hl,oe,vs,T,oT,ts,he,hc,hd,h1,h2,bT,nT,hT,dT,h3⟩:=O;subst hc;have t3:=(YC.mp h3).1;unfold noteFrame;simp only[hf];refine Za (Yy he hd h1 ?_);rw[Zt (by simp)];refine Za (Yy hT dT h3 ?_);rw[Zl (by simp[rawInt])];refine Za (YR hT dT t3 ?_);have ot:∀b o,s.heap.get? b=some o->(∀ws,o.data≠.fields ws)->T≠b:=λb o q d z=>by rw[<- z,hT] at q;cases q;exact d ts dT
 refine qD4 (s:={ s with heap:=_ }) hfr ?_ hf ((Zs _ _ nT).trans he) ?_ ne hd h2 λh' O' U'=>hQ h' O' λb o q d=>?_
 ·exact hl.of_keeps λb o q d=>⟨o,(Zs _ _ (ot b o q d)).trans q,rfl⟩
 ·exact λb o q=>(Zs _ _ (λz=>by rw[z,q] at bT;cases bT)).trans (kb b o q)
 ·exact U' b o ((Zs _ _ (ot b o q d)).trans q) d
theorem qI9 {Q:Unit->Shared->Prop}(hfr:A.frames=some (env::outer)) (hl:s.heap.FunFrames base (env::outer)) (hf:env.frame=some L) (he:s.heap.get? e=some oe) (kb:base.StaysIn s.heap) (ne:base.get? e=none)
  (hd:oe.data=.fields vs) (h1:vs[1]?=some .none) (h2:vs[2]?=some .none) (hQ:∀h',Over base outer e oe.cls .none h'->s.heap.UpToSlots h'->Q () { s with heap:=h' }):wpAny M A (leaving env (.ref e)) Q E s:=by
 unfold leaving;refine Za (qQ8 hfr hl hf he kb ne hd h1 h2 λg O U=>?_);refine qp0 O λg' O' U'=>hQ g' ⟨O'.stays,O'.new,O'.frames.2.2,O'.noted⟩ (U.trans U')
end
end L2
namespace L2
open PySem PySem.Spec PyProof.Rows
theorem ObjOk.there {P:Program}{w:World}{H:Hp}{h:Heap}{a:Addr}{o:HO}(x:ObjOk P w H h a o):∃ob,h.get? a=some ob:=by
 cases o with
 |lst xs=>obtain⟨_,_,_,_,e⟩:=x;exact⟨_,e⟩
 |tup xs=>obtain⟨_,_,_,o,e,_⟩:=x;exact⟨_,e⟩
 |dK kvs=>obtain⟨_,_,_,_,o,_,_,e,_⟩:=x;exact⟨_,e⟩
 |dT kvs=>obtain⟨_,_,_,_,o,_,_,e,_⟩:=x;exact⟨_,e⟩
 |set S n=>obtain⟨o,_,_,_,e,_⟩:=x;exact⟨_,e⟩
 |ins C dx fs=>obtain⟨_,_,_,e,_⟩:=x;exact⟨_,e⟩
 |own y=>exact x
 |xd fs=>obtain⟨_,⟨_,_,_,e,_⟩,_⟩:=x;exact⟨_,e⟩
 |rng lo hi=>obtain⟨_,_,_,e⟩:=x;exact⟨_,e⟩
 |frz ob u=>obtain⟨e,_⟩:=x;exact⟨_,e⟩
 |tbl ps=>exact⟨_,(show h.get? a=some _ from x)⟩
 |met f y=>exact⟨_,(show h.get? a=some _ from x)⟩
 |ext φ=>exact x.2.1
def Fly (P:Program) (w:World) (outer:List Env) (H H':Hp) (h h':Heap) (x:Addr) (cls:Value):Prop:=
 ∃(B:Heap),Un (frs outer) [] H H' h h'/\HOk P w H' h'/\Over B outer x cls .none h'/\(∀b o,h.get? b=some o->b∉frs outer->∃ob,B.get? b=some ob)/\(∀b o,H' b=some o->∃ob,B.get? b=some ob)/\H' x=none
def CX1 (P:Program) (w:World):CXT:=λouter H s E e s'=>∃(x:Addr) (cls:Value) (H':Hp),e=.ref x/\s'.os=s.os/\AllBare s'.gens/\Fly P w outer H H' s.heap s'.heap x cls/\E cls none H'
def xg2 (X:Cx) (E:XK):Prop:=∀(j8:List (Addr×Obj)) (σ:St) (H:Hp) (s:Shared) (h':Heap) (e:Addr) (cls:Value) (args:List Value),Inv X j8 σ H s->Heap.MadeExcOf s.heap h' e cls args->E cls none H->X.xe (.ref e) { s with heap:=h' }
section
variable {P:Program}{w:World}{H H1 H':Hp}{h h1 h':Heap}{outer:List Env}{env:Env}{x L:Addr}{cls:Value}
theorem Fly.left {B:Heap}(U0:Un (frs outer) [] H H1 h h1) (hL:∀b o,h.get? b=some o->b≠L) (hf:env.frame=some L) (U1:Un (frs (env::outer)) [] H1 H' h1 h') (K:HOk P w H' h')
  (c1:∀b o,h1.get? b=some o->b∉frs (env::outer)->∃ob,B.get? b=some ob) (c2:∀b o,H' b=some o->∃ob,B.get? b=some ob) (hx:H' x=none) (st:B.StaysIn h') (ff:h.FunFrames B' outer)
  {h2:Heap}(F2:Over B outer x cls .none h2) (sm:h'.UpToSlots h2):Fly P w outer H H' h h2 x cls:=by
 have fr:∀b,b∉frs outer->b≠L->b∉frs (env::outer):=λb hb hn hm=>by
  unfold frs at hm hb;rw[Yl,hf] at hm;rcases Zn.mp hm with z|z
  ·exact hn z
  ·exact hb z
 have fr':∀b,b∈frs outer->b∈frs (env::outer):=λb hb=>by
  unfold frs at hb ⊢;rw[Yl,hf];exact Zk _ hb
 have nox:∀b:Addr,b∉([]:List Addr):=λb=>by simp
 have same:∀b ob o,B.get? b=some ob->h'.get? b=some o->h2.get? b=some o:=λb ob o e1 e2=>by
  have q1:=st b ob e1;have q2:=F2.stays b ob e1;rw[e2] at q1;cases q1;exact q2
 refine⟨B,⟨λb o e n hb _=>?_,λb o e n hb _=>?_,λb o e n _=>?_,λb o e _=>?_,λb xs e=>U1.tups b xs (U0.tups b xs e),λb o u e=>U1.frzs b o u (U0.frzs b o u e),λb ps e=>?_⟩,λb o e=>?_,F2,λb o e hb=>?_,c2,hx⟩
 ·have e1:=U0.keep b o e n hb (nox b);have hb':=fr b hb (hL b o e);have e2:=U1.keep b o e1 (U0.free b o e n (nox b)) hb' (nox b);obtain⟨ob,z⟩:=c1 b o e1 hb';exact same b ob o z e2
 ·obtain⟨sl,e1⟩:=U0.slot b o e n hb (nox b);obtain⟨sl',e2⟩:=U1.slot b _ e1 (U0.free b o e n (nox b)) (fr' b hb) (nox b);obtain⟨_,o',ho',hd⟩:=ff.mem hb;rw[e] at ho';cases ho';obtain⟨sl2,e3⟩:=sm b _ e2 hd;exact⟨sl2,e3⟩
 ·obtain⟨o',e1⟩:=U0.there b o e (nox b);exact U1.free b o' e1 (U0.free b o e n (nox b)) (nox b)
 ·obtain⟨o1,e1⟩:=U0.there b o e (nox b);by_cases hb:b∈frs (env::outer)
  ·by_cases vA:b∈frs outer
   ·obtain⟨_,o2,e2,_⟩:=F2.frames.mem vA;exact⟨o2,e2⟩
   ·exact absurd hb (fr b vA (hL b o e))
  ·obtain⟨ob,z⟩:=c1 b o1 e1 hb;exact⟨ob,F2.stays b ob z⟩
 ·obtain⟨m1,e1⟩:=U0.tbls b ps e;obtain⟨m2,e2⟩:=U1.tbls b _ e1;exact⟨m1++m2,by rw[e2,Array.append_assoc]⟩
 ·refine (K b o e).stay (λc u hc q=>?_) (λ_ q=>q) λ_ _ q=>q;rcases hc with z|z
  ·obtain⟨ob,zz⟩:=c2 b o e;rw[z] at q ⊢;exact same b ob u zz q
  ·obtain⟨ob,zz⟩:=c2 c _ z;exact same c ob u zz q
 ·obtain⟨o1,e1⟩:=U0.there b o e (nox b);exact c1 b o1 e1 (fr b hb (hL b o e))
end
section
variable {P:Program}{w:World}{K:PySem.W.Frag}{mg:Str->Option Value}{base:Heap}{N:List Str}{qual:Str}{scope:Scope}{f:Addr}{cd:Value}{A:Around}{outer:List Env}{s₀:Shared}{H₀:Hp}{E:XK}
theorem xk6:xg2 (cxOf (CX1 P w) P w K mg base N qual scope f cd A outer s₀ H₀ E) E:=by
 intro j8 σ H s h' e cls args I hm hE;have hf:(envOfC qual scope s₀.heap.objs.size f cd).frame=some s₀.heap.objs.size:=rfl;have FS:s.heap.FunFrames base (envOfC qual scope s₀.heap.objs.size f cd::outer):=I.stack;have jT:∀env∈(envOfC qual scope s₀.heap.objs.size f cd::outer),∀a,env.frame=some a->a∈frs (envOfC qual scope s₀.heap.objs.size f cd::outer):=λenv he a ha=>WF.mpr ⟨env,he,ha⟩;obtain⟨t,he,_,_⟩:=hm.there;have hen:(PySem.W.hideAll s.heap (frs (envOfC qual scope s₀.heap.objs.size f cd::outer))).get? e=none:=by
  cases q:(PySem.W.hideAll s.heap (frs (envOfC qual scope s₀.heap.objs.size f cd::outer))).get? e with
  |none=>rfl
  |some o=>
   have:=WE _ q;rw[hm.new] at this;cases this
 have hxn:H e=none:=by
  cases z:H e with
  |none=>rfl
  |some o=>
   obtain⟨ob,q⟩:=(I.hok e o z).there;rw[hm.new] at q;cases q
 refine qI9 (base:=PySem.W.hideAll s.heap (frs (envOfC qual scope s₀.heap.objs.size f cd::outer))) I.ok.frames ((PySem.W.funFrames_hide FS jT).of_keeps λb o hb _=>⟨o,hm.keeps b o hb,rfl⟩) hf he
  (λb o hb=>hm.keeps b o (WE _ hb)) hen rfl rfl rfl λh2 O2 k4=>?_
 refine⟨e,cls,H,rfl,I.os,I.bare,?_,hE⟩;refine Fly.left (B:=PySem.W.hideAll s.heap (frs (envOfC qual scope s₀.heap.objs.size f cd::outer))) (h':=h') I.base (λb o z=>Zp (Zi z)) hf (Un.kept hm.keeps) (I.hok.kept hm.keeps) (λb o z hb=>⟨o,Vo _ z hb⟩) (λb o z=>?_) hxn (λb o hb=>hm.keeps b o (WE _ hb)) I.ok.funs O2 k4;obtain⟨ob,q⟩:=(I.hok b o z).there;refine⟨ob,Vo _ q λhmm=>?_⟩;have:=I.stkFree b hmm;rw[z] at this;cases this
end
def SetN (r:Addr) (n:Nat) (h:Heap):Prop:=∃o es ep t,h.get? r=some o/\o.ExactSet/\o.data=.set es ep t/\t.fits es.size=true/\es.size=n
section
variable {X:Cx}
theorem xA7 {k:Key}{u:Value}(r:RelV (kV k) u):SetT.Hb u:=by
 cases k with
 |inl i=>obtain⟨t,rfl⟩:=r;exact SetT.Hb.int i t
 |inr x=>obtain⟨t,rfl⟩:=r;exact SetT.Hb.str x t
theorem xg3:∀{ks:List Key}{us:List Value},Vals (ks.map kV) us->∀v∈us,SetT.Hb v
 |[],_,.nil,v,hv=>by cases hv
 |k::ks,_,.cons r t,v,hv=>by
  rcases Zn.mp hv with rfl|hv
  ·exact xA7 r
  ·exact xg3 t v hv
theorem xk7 {P:Program}{w:World}{H:Hp}{h:Heap}{b:Addr}{ks:List Key}(ok:HOk P w H h) (e:H b=some (.tup (ks.map kV))):SetT.TupK (qd6 P w) h ks b:=by
 obtain⟨_,its,r,o,ho,hc,n,hd⟩:=ok b _ e;exact⟨o,its.toArray,n,ho,hc,hd,by simpa using qt3 r,λv hv=>xg3 r v (by simpa using hv)⟩
theorem qY3 (hc:X.calm=true){k:Nat}(hr:Room k X.A):qe3 X (.type "set") (λxs H Q=>∃(p:Addr) (bs:List Addr) (rows:List (List Key)),xs=[.ref p]/\H p=some (.tup (bs.map V.ref))/\bs.length=rows.length /\
  (∀(i:Nat) b ks,bs[i]?=some b->rows[i]?=some ks->H b=some (.tup (ks.map kV)))/\rows.Nodup/\rows.length<=1200/\∀r,H r=none->Q (.ref r) (upd H r (.ext (SetN r rows.length)))):=by
 intro j8 s σ H xs us Q I rv h;obtain⟨p,bs,rows,rfl,hp,j9,jE,vM,hsz,q⟩:=h;obtain⟨u,rfl,ru⟩:=qg0 rv;cases ru;obtain⟨_,its,r2,isT⟩:=I.hok p _ hp;have jI:its.length=bs.length:=by have:=r2.length;simpa using this.symm
 have un:=hr.units;have item:∀(i:Nat) (v:Value),its[i]?=some v->∃b,bs[i]?=some b/\v=.ref b:=λi v hv=>by
  have hi:i<bs.length:=by rw[<- jI];exact (gS_ hv).1
  obtain⟨w',e1,e2⟩:=r2.get (i:=i) (x:=V.ref bs[i]) (by simp[hi]);rw[hv] at e1;cases e1;exact⟨bs[i],by simp[hi],e2⟩
 refine SetT.call_set_tuple (knd:=qd6 X.prog X.w) (items:=its.toArray) (val:=λi=>rows.getD i []) (I.ok.hd hc) (by lia) (show s.heap.IsTuple p its.toArray from isT) (λi v hv=>?_) (λi j jX hj z=>?_) (by rw[ZI,jI,j9];exact hsz) λh' tk fin kp=>?_
 ·obtain⟨b,hb,rfl⟩:=item i v (by simpa using hv);have hi:i<rows.length:=by rw[<- j9];exact (gS_ hb).1
  have e:rows.getD i []=rows[i]:=by simp[List.getD,hi]
  show ∃b',Value.ref b=.ref b'/\SetT.TupK _ s.heap (rows.getD i []) b';rw[e];exact⟨b,rfl,xk7 I.hok (jE i b rows[i] hb (by simp[hi]))⟩
 ·rw[ZI,jI,j9] at hj;have z':rows.getD i []=rows.getD j []:=z;have hi:i<rows.length:=by lia
  have e1:rows.getD i []=rows[i]:=by simp[List.getD,hi]
  have e2:rows.getD j []=rows[j]:=by simp[List.getD,hj]
  rw[e1,e2] at z';have:=(List.getElem_inj vM).mp z';lia
 ·obtain⟨Ks,S⟩:=fin;obtain⟨o,es,ep,t,ho,k8,hd,g,hf,_,hn,_⟩:=S.ex;have hn':es.size=rows.length:=by rw[hn,ZI,jI,j9]
  refine⟨.ref s.heap.objs.size,_,I.laid (a:=s.heap.objs.size) (o:=.ext (SetN s.heap.objs.size rows.length)) (t':=tk) (λb o e=>kp b o (Zi e) e) (Ze _) ⟨⟨o,es,ep,t,ho,k8,hd,g.fits,hn'⟩,⟨o,ho⟩,λh1 h2 φ k=>?_⟩,rfl,q _ (I.hok.fresh (Ze _))⟩;obtain⟨o',es',ep',t',ho',r⟩:=φ;exact⟨o',es',ep',t',k o' ho',r⟩
theorem qJ0:qe3 X (.builtin "len") (λxs H Q=>∃(r:Addr) (n:Nat),xs=[.ref r]/\H r=some (.ext (SetN r n))/\n<=1200/\Q (.int n) H):=by
 intro j8 s σ H xs us Q I rv h;obtain⟨r,n,rfl,hr,hn,q⟩:=h;obtain⟨u,rfl,ru⟩:=qg0 rv;cases ru;obtain⟨⟨o,es,ep,t,ho,k8,hd,hf,rfl⟩,_⟩:=I.hok r _ hr;have hb:(es.size:Int)<=1200:=by lia
 exact call_len_set ho k8 hd hf (Int.lt_of_le_of_lt hb (by decide)) ⟨.int es.size,H,I.tok _,⟨_,rfl⟩,q⟩
end
mutual
inductive DataAt (H:Hp):V->PyData->Prop
 |non:DataAt H .non .none
 |bl (b:Bool):DataAt H (.bl b) (.bool b)
 |int (i:Int):DataAt H (.int i) (.int i)
 |str (x:Str):DataAt H (.str x) (.str x)
 |lst {a:Addr}{xs:List V}{ds:List PyData}(h:H a=some (.lst xs)) (r:DatasAt H xs ds):DataAt H (.ref a) (.list ds)
 |tup {a:Addr}{xs:List V}{ds:List PyData}(h:H a=some (.tup xs)) (r:DatasAt H xs ds):DataAt H (.ref a) (.tuple ds)
inductive DatasAt (H:Hp):List V->List PyData->Prop
 |nil:DatasAt H [] []
 |cons {x:V}{xs:List V}{d:PyData}{ds:List PyData}(h:DataAt H x d) (r:DatasAt H xs ds):DatasAt H (x::xs) (d::ds)
end
section
variable {P:Program}{w:World}{H:Hp}{h:Heap}
mutual
theorem DataAt.reads (ok:HOk P w H h):∀{x:V}{d:PyData}{u:Value},DataAt H x d->RelV x u->∃as,Reads h u d as
 |_,_,u,.non,r=>⟨[],by cases (show u=Value.none from r);exact .none⟩
 |_,_,u,.bl b,r=>⟨[],by cases (show u=Value.bool b from r);exact .bool b⟩
 |_,_,u,.int i,r=>⟨[],by obtain⟨t,rfl⟩:=r;exact .int i t⟩
 |_,_,u,.str x,r=>⟨[],by obtain⟨t,rfl⟩:=r;exact .str x t⟩
 |_,_,u,.lst (a:=a) e rs,r=>by
  cases (show u=Value.ref a from r);obtain⟨_,its,n,rv,ho⟩:=ok a _ e;obtain⟨as,ra⟩:=DatasAt.reads ok rs rv;exact⟨a::as,.list ho rfl rfl (by simpa using ra)⟩
 |_,_,u,.tup (a:=a) e rs,r=>by
  cases (show u=Value.ref a from r);obtain⟨_,its,rv,o,ho,hc,n,hd⟩:=ok a _ e;obtain⟨as,ra⟩:=DatasAt.reads ok rs rv;exact⟨as,.tuple ho hc hd (by simpa using ra)⟩
theorem DatasAt.reads (ok:HOk P w H h):∀{xs:List V}{ds:List PyData}{us:List Value},DatasAt H xs ds->Vals xs us->∃as,ReadsAll h us ds as
 |_,_,_,.nil,.nil=>⟨[],.nil⟩
 |_,_,_,.cons h1 r1,.cons r rr=>by
  obtain⟨as,ra⟩:=DataAt.reads ok h1 r;obtain⟨bs,rb⟩:=DatasAt.reads ok r1 rr;exact⟨as++bs,.cons ra rb⟩
end
mutual
theorem DataAt.same {H':Hp}(s:∀b o,H b=some o->H' b=some o):∀{x:V}{d:PyData},DataAt H x d->DataAt H' x d
 |_,_,.non=>.non
 |_,_,.bl b=>.bl b
 |_,_,.int i=>.int i
 |_,_,.str x=>.str x
 |_,_,.lst e r=>.lst (s _ _ e) (DatasAt.same s r)
 |_,_,.tup e r=>.tup (s _ _ e) (DatasAt.same s r)
theorem DatasAt.same {H':Hp}(s:∀b o,H b=some o->H' b=some o):∀{xs:List V}{ds:List PyData},DatasAt H xs ds->DatasAt H' xs ds
 |_,_,.nil=>.nil
 |_,_,.cons h r=>.cons (DataAt.same s h) (DatasAt.same s r)
end
theorem DatasAt.ints:∀(ns:List Int),DatasAt H (ns.map V.int) (ns.map PyData.int)
 |[]=>.nil
 |n::ns=>.cons (.int n) (DatasAt.ints ns)
end
section
variable {X:Cx}
theorem qY4 {k:Nat}(hr:Room k X.A):OpR X (compareOp .Eq) (λx y H Q=>∃d e,DataAt H x d/\DataAt H y e/\d.canLay0=true/\e.canLay0=true/\d.depth<=60/\Q (.bl (PyData.eqv d e)) H):=by
 intro j8 s σ H x y v u Q I rx ry h;obtain⟨d,e,hd,he,c1,c2,dp,q⟩:=h;obtain⟨as,ra⟩:=hd.reads I.hok rx;obtain⟨bs,rb⟩:=he.reads I.hok ry;have un:=hr.units;exact SeqAt.rcAt_reads ra rb c1 c2 (by lia) X.prog X.w X.xe _ ⟨.bl _,H,I,rfl,q⟩
theorem qM0 {k:Nat}(hr:Room k X.A):OpR X (compareOp .NotEq) (λx y H Q=>∃d e,DataAt H x d/\DataAt H y e/\d.canLay0=true/\e.canLay0=true/\d.depth<=60/\Q (.bl (!PyData.eqv d e)) H):=by
 intro j8 s σ H x y v u Q I rx ry h;obtain⟨d,e,hd,he,c1,c2,dp,q⟩:=h;obtain⟨as,ra⟩:=hd.reads I.hok rx;obtain⟨bs,rb⟩:=he.reads I.hok ry;have un:=hr.units;exact SeqAt.rcNeAt_reads ra rb c1 c2 (by lia) X.prog X.w X.xe _ ⟨.bl _,H,I,rfl,q⟩
end
theorem ql9:∀(a b:List Int),PyData.eqvAll (a.map PyData.int) (b.map PyData.int)=decide (a=b)
 |[],[]=>by simp[PyData.eqvAll]
 |x::a,[]=>by simp[PyData.eqvAll]
 |[],y::b=>by simp[PyData.eqvAll]
 |x::a,y::b=>by
  show (PyData.eqv (.int x) (.int y)&&PyData.eqvAll (a.map PyData.int) (b.map PyData.int))=_;rw[ql9 a b,show PyData.eqv (.int x) (.int y)=(x==y) by simp[PyData.eqv]];rw[Xi];simp
theorem qm0:∀(a:List Int),PyData.canLayAll0 (a.map PyData.int)=true
 |[]=>by simp[PyData.canLayAll0]
 |x::a=>by
  show (PyData.canLay0 (.int x)&&PyData.canLayAll0 (a.map PyData.int))=true;rw[qm0 a];simp[PyData.canLay0]
def dT (ns:List Int):PyData:=.tuple (ns.map PyData.int)
def dL (ns:List Int):PyData:=.list (ns.map PyData.int)
theorem qY5 (ns:List Int):(dT ns).canLay0=true:=by
 show PyData.canLayAll0 (ns.map PyData.int)=true;exact qm0 ns
theorem qM1 (ns:List Int):(dL ns).canLay0=true:=by
 show PyData.canLayAll0 (ns.map PyData.int)=true;exact qm0 ns
theorem xt7 (a b:List Int):PyData.eqv (dT a) (dT b)=decide (a=b):=by
 show PyData.eqvAll _ _=_;exact ql9 a b
theorem qY6 (a b:List Int):PyData.eqv (dL a) (dL b)=decide (a=b):=by
 show PyData.eqvAll _ _=_;exact ql9 a b
end L2
namespace EnumT
open PySem PySem.Spec
section
variable {prog:Program}{w:World}{A:Around}{E:Value->Shared->Prop}{s:Shared}
theorem qQ9 {it t:Addr}{i:Nat}{items:Array Value}{x:Value}{Q:Value->Shared->Prop}(st:s.heap.IsTupleIter it t i) (ht:s.heap.IsTuple t items) (hx:items[i]?=some x)
  (q:∀h',h'.IsTupleIter it t (i+1)->Heap.SameBut it s.heap h'->Q x { s with heap:=h' }):wpAny (model prog w) A (Builtin.SmallTypes.nextOf (.ref it)) Q E s:=by
 obtain⟨o,e1,e2,e3⟩:=id st;obtain⟨ot,f1,_,nt,f2⟩:=ht;unfold Builtin.SmallTypes.nextOf;refine Za (Z4 (name:=Str.ofString "__next__") st.typeIs Xw (Z5 Xw st.typeIs F.entry_tuple_iterator_next ?_ (F.args_tuple_iterator_next_1 _)));show wpAny _ _ (field (.ref it) 0 >>= _) _ _ s;refine Za (Yy e1 e3 (x:=.ref t) rfl ?_);show wpAny _ _ (if (Value.ref t==Value.none)=true then _ else _) _ _ s;rw[Zl (show ¬((Value.ref t==Value.none)=true) from Zq)];show wpAny _ _ (field (.ref it) 1 >>= _) _ _ s;refine Za (Yy e1 e3 (x:=.int i 0) rfl ?_);show wpAny _ _ (seqItems? (.ref t) >>= _) _ _ s;refine Za (Xv f1 f2 ?_);simp only[ZA,hx];refine Za (YR e1 e3 (by simp) (Zc ⟨x,rfl,Zc (q _ ⟨_,ZQ _ e1 (YO (Z1 e3 _)),(Wa ..).trans e2,?_⟩ (Yc ..))⟩));rw[Z1 e3];simp[rawInt]
theorem qY7 {it t:Addr}{i:Nat}{items:Array Value}{Q:Value->Shared->Prop}(hh:A.handled=none) (st:s.heap.IsTupleIter it t i) (ht:s.heap.IsTuple t items) (hx:items[i]?=none)
  (q:∀h' e,Heap.ExtBut it s.heap h'->(∃o,h'.get? e=some o/\o.cls=.type "StopIteration")->E (.ref e) { s with heap:=h' }):wpAny (model prog w) A (Builtin.SmallTypes.nextOf (.ref it)) Q E s:=by
 obtain⟨o,e1,e2,e3⟩:=id st;obtain⟨ot,f1,_,nt,f2⟩:=ht;unfold Builtin.SmallTypes.nextOf;refine Za (Z4 (name:=Str.ofString "__next__") st.typeIs Xw (Z5 Xw st.typeIs F.entry_tuple_iterator_next ?_ (F.args_tuple_iterator_next_1 _)));show wpAny _ _ (field (.ref it) 0 >>= _) _ _ s;refine Za (Yy e1 e3 (x:=.ref t) rfl ?_);show wpAny _ _ (if (Value.ref t==Value.none)=true then _ else _) _ _ s;rw[Zl (show ¬((Value.ref t==Value.none)=true) from Zq)];show wpAny _ _ (field (.ref it) 1 >>= _) _ _ s;refine Za (Yy e1 e3 (x:=.int i 0) rfl ?_);show wpAny _ _ (seqItems? (.ref t) >>= _) _ _ s;refine Za (Xv f1 f2 ?_);simp only[ZA,hx];refine Za (Y6 (Za (YR e1 e3 (by simp) ?_)));show wpAny _ _ (newExc (.type "StopIteration") [] >>= _) _ _ _;refine Za ?_;simp only[newExc,newTuple];refine Za (ZJ ?_ (by size_fits));refine Za (m:=firstArgMember _ _) (Wj (a:=Value.none) (by first|rfl|(simp only[firstArgMember];rfl)) ?_);refine ZJ ?_ (by size_fits);simp only[raiseNew];refine Za (wpAny_handled ?_)
 first|rw[show A.in1.handled=none from hh]|rw[hh]
 refine Za (Zc (wpAny_throw ?_));exact q _ _ (((Yc ..).extBut.push _).push _) ⟨_,Zh _ rfl,rfl⟩
theorem qY8 {e it:Addr}{i:Nat}{x old:Value}{St:Heap->Prop}{Q:Value->Shared->Prop}(he:IsEnum s.heap e it i old) (jK:e≠it)
  (nx:∀Q':Value->Shared->Prop,(∀h',Heap.SameBut it s.heap h'->St h'->Q' x { s with heap:=h' })->wpAny (model prog w) A (Builtin.SmallTypes.nextOf (.ref it)) Q' E s)
  (q:∀h1 h',Heap.SameBut it s.heap h1->St h1->IsEnumOut h' e it ((i:Int)+1) x s.heap.objs.size->h'.get? s.heap.objs.size=some { cls:=.type "tuple",data:=.seq #[.int i s.toks,x] } ->
   (∀b o,b≠e->h1.get? b=some o->h'.get? b=some o)->Q (.ref s.heap.objs.size) { s with heap:=h',toks:=s.toks+1 }) :
  wpAny (model prog w) A (Builtin.«enumerate.__next__» ⟨[.ref e],[]⟩) (λfin s'=>∃v,fin=.done (.ret v)/\Q v s') E s:=by
 obtain⟨hp,g,d,tk,os⟩:=s;show wpAny _ _ (field (.ref e) 2 >>= _) _ _ _;refine Za (Yy he rfl (x:=.ref it) rfl ?_);refine Za (nx _ λh₁ s1 st1=>?_)
 replace s1:Heap.SameBut it hp h₁:=s1
 have he₁:IsEnum h₁ e it i old:=(s1.2 e jK).trans he;show wpAny _ _ (field (.ref e) 3 >>= _) _ _ ⟨h₁,g,d,tk,os⟩;refine Za (Yy he₁ rfl (x:=rawInt i) rfl ?_);show wpAny _ _ (field (.ref e) 4 >>= _) _ _ ⟨h₁,g,d,tk,os⟩;refine Za (Yy he₁ rfl (x:=.none) rfl ?_);show wpAny _ _ (mkInt i >>= _) _ _ ⟨h₁,g,d,tk,os⟩;refine Za (wpAny_mkInt ?_);show wpAny _ _ (setField (.ref e) 3 (rawInt ((i:Int)+1)) >>= _) _ _ ⟨h₁,g,d,tk+1,os⟩;refine Za (XZ he₁ (by simp) λh₂ he₂ s2=>?_)
 replace s2:Heap.SameBut e h₁ h₂:=s2
 replace he₂:IsEnum h₂ e it ((i:Int)+1) old:=he₂
 show wpAny _ _ (setField (.ref e) 4 .none >>= _) _ _ ⟨h₂,g,d,tk+1,os⟩;refine Za (XZ he₂ (by simp) λh₃ he₃ s3=>?_)
 replace s3:Heap.SameBut e h₂ h₃:=s3
 replace he₃:IsEnum h₃ e it ((i:Int)+1) old:=he₃
 show wpAny _ _ (newTuple [.int i tk,x] >>= _) _ _ ⟨h₃,g,d,tk+1,os⟩;refine Za (wpAny_newTuple ?_);have z3:h₃.objs.size=hp.objs.size:=by rw[s3.1,s2.1,s1.1]
 have elt:e<hp.objs.size:=Zi he;obtain⟨h₄,e4⟩:∃h₄,h₃.push { cls:=.type "tuple",data:=.seq #[.int i tk,x] }=h₄:=⟨_,rfl⟩;have he₄:IsEnum h₄ e it ((i:Int)+1) old:=by rw[<- e4];exact Zb _ he₃
 have ht₄:h₄.get? hp.objs.size=some { cls:=.type "tuple",data:=.seq #[.int i tk,x] }:=by rw[<- e4,<- z3];exact Zh _ rfl
 have k4:∀b o,b≠e->h₁.get? b=some o->h₄.get? b=some o:=λb o hb eb=>by
  rw[<- e4];exact Zb _ (s3.extBut b o hb (s2.extBut b o hb eb))
 rw[e4];show wpAny _ _ (Builtin.SmallTypes.ownedTupleIsFree (.ref e) >>= _) _ _ ⟨h₄,g,d,tk+1,os⟩;rw[z3];refine Za ?_;unfold Builtin.SmallTypes.ownedTupleIsFree;refine Za (Yy he₄ rfl (x:=.none) rfl (Zc ?_));simp only[XF];refine Za (Y6 ?_);refine Za (Yy he₄ rfl (x:=old) rfl ?_);refine Za (XZ he₄ (by simp) λh₅ he₅ s5=>?_)
 replace s5:Heap.SameBut e h₄ h₅:=s5
 replace he₅:IsEnum h₅ e it ((i:Int)+1) x:=he₅
 show wpAny _ _ (Builtin.SmallTypes.ownedTupleHandOut (.ref e) (.ref hp.objs.size) >>= _) _ _ ⟨h₅,g,d,tk+1,os⟩;refine Za ?_;unfold Builtin.SmallTypes.ownedTupleHandOut;refine Za (XZ he₅ (by simp) λh₆ he₆ s6=>?_)
 replace s6:Heap.SameBut e h₅ h₆:=s6
 replace he₆:IsEnumOut h₆ e it ((i:Int)+1) x hp.objs.size:=he₆
 refine XZ he₆ (by simp) λh₇ he₇ s7=>?_
 replace s7:Heap.SameBut e h₆ h₇:=s7
 replace he₇:IsEnumOut h₇ e it ((i:Int)+1) x hp.objs.size:=he₇
 have k7:∀b o,b≠e->h₄.get? b=some o->h₇.get? b=some o:=λb o hb eb=>s7.extBut b o hb (s6.extBut b o hb (s5.extBut b o hb eb));exact Za (Ve (Zc ⟨_,rfl,q h₁ h₇ s1 st1 he₇ (k7 _ _ (XE elt) ht₄) λb o hb eb=>k7 b o hb (k4 b o hb eb)⟩))
theorem next_pair {e it t:Addr}{i:Nat}{items:Array Value}{x old:Value}{Q:Option Value->Shared->Prop}(he:IsEnum s.heap e it i old) (jK:e≠it) (st:s.heap.IsTupleIter it t i) (ht:s.heap.IsTuple t items) (hx:items[i]?=some x)
  (q:∀h1 h',Heap.SameBut it s.heap h1->IsEnumOut h' e it ((i:Int)+1) x s.heap.objs.size->h'.IsTupleIter it t (i+1)->h'.get? s.heap.objs.size=some { cls:=.type "tuple",data:=.seq #[.int i s.toks,x] } ->
   (∀b o,b≠e->h1.get? b=some o->h'.get? b=some o)->Q (some (.ref s.heap.objs.size)) { s with heap:=h',toks:=s.toks+1 }):wpAny (model prog w) A (pyNext (.ref e)) Q E s:=by
 have hT:s.TypeIs (.ref e) "enumerate":=⟨_,he,rfl⟩;unfold pyNext;refine Za (XM (Z4 (name:=Str.ofString "__next__") hT X7 (Z5 X7 hT F.entry_enumerate_next
  (qY8 (St:=λh=>h.IsTupleIter it t (i+1)) he jK (λQ' q'=>qQ9 st ht hx λh' st' sb=>q' h' sb st') λh1 h' sb st1 ho hT' kp=>Zc (q h1 h' sb ho ?_ hT' kp)) (F.args_enumerate_next_1 _))))
 obtain⟨o,x1,x2⟩:=st1;exact⟨o,kp it o (XC jK) x1,x2⟩
theorem next_end {e it t:Addr}{i:Nat}{items:Array Value}{old:Value}{Q:Option Value->Shared->Prop}(hh:A.handled=none) (he:IsEnum s.heap e it i old) (st:s.heap.IsTupleIter it t i) (ht:s.heap.IsTuple t items) (hx:items[i]?=none)
  (q:∀h',Heap.ExtBut it s.heap h'->Q none { s with heap:=h' }):wpAny (model prog w) A (pyNext (.ref e)) Q E s:=by
 have hT:s.TypeIs (.ref e) "enumerate":=⟨_,he,rfl⟩;unfold pyNext;refine Za (XM (Z4 (name:=Str.ofString "__next__") hT X7 (Z5 X7 hT F.entry_enumerate_next ?_ (F.args_enumerate_next_1 _))));show wpAny _ _ (field (.ref e) 2 >>= _) _ _ _;refine Za (Yy he rfl (x:=.ref it) rfl ?_);refine Za (qY7 hh st ht hx λh' x eb ⟨o,ho,hc⟩=>?_);exact Za (XX (T:= "StopIteration") (b:=true) ⟨o,ho,hc⟩ isSubtype_stop (Zc (q _ eb)))
theorem qY9 (l:Addr) (items:Array Value) (n:Nat) (dct:Option Addr) (sl:Array (Option Value)) :
  Meets (Builtin.«enumerate.__new__» ⟨[.type "enumerate",.ref l],[]⟩) (λ_ R s=>s.heap.get? l=some { cls:=.type "tuple",dict:=dct,data:=.seq items n,slots:=sl } /\
   R (.ok (.ret (.ref (s.heap.push { cls:=.type "tuple_iterator",data:=.fields #[.ref l,.int 0 0] }).objs.size)))
    { s with heap:=(s.heap.push { cls:=.type "tuple_iterator",data:=.fields #[.ref l,.int 0 0] }).push { cls:=.type "enumerate",data:=.fields #[.none,.bool false,.ref s.heap.objs.size,rawInt 0,.none,.none] } }):=
 .of_wp λprog w A R s h=>by
  obtain⟨hp,g,d,tk,os⟩:=s;obtain⟨hl,h⟩:=h;have f0:=sub_enumerate;have hL:Heap.IsTuple (Shared.heap ⟨hp,g,d,tk,os⟩) l items:=⟨_,hl,rfl,n,rfl⟩
  wp_walk using Wu hl
  refine wpAny_stack_any λst=>Zc ?_;split
  ·rename_i c _ _ _ _ _;cases (c==Value.type "enumerate")
   all_goals
    wp_walk using Wu hl,Xu hL
    exact⟨_,rfl,h⟩
  ·wp_walk using Wu hl,Xu hL
   exact⟨_,rfl,h⟩
theorem call_new {l:Addr}{items:Array Value}{Q:Value->Shared->Prop}(hL:s.heap.IsTuple l items)
  (q:∀h',IsEnum h' (s.heap.objs.size+1) s.heap.objs.size 0 .none->h'.IsTupleIter s.heap.objs.size l 0->(∀b o,s.heap.get? b=some o->h'.get? b=some o)->Q (.ref (s.heap.objs.size+1)) { s with heap:=h' }) :
  wpAny (model prog w) A (call (.type "enumerate") [.ref l]) Q E s:=by
 obtain⟨⟨c,dct,dt,sl⟩,hl,hc,n,hd⟩:=hL
 replace hc:c=.type "tuple":=hc
 replace hd:dt=.seq items n:=hd
 subst hc hd;refine callType_new F.called_enumerate (by decide) (F.typeCall_enumerate_1 _) (F.newCall_enumerate_1 _) (λobj=>F.args_object_init_2 obj _) F.entry_enumerate_new (qY9 l items n dct sl) ⟨hl,?_⟩;have z1:(s.heap.push { cls:=.type "tuple_iterator",data:=.fields #[.ref l,.int 0 0] }).objs.size=s.heap.objs.size+1:=ZS ..;show _/\_;rw[z1];have he:=Zh (s.heap.push { cls:=.type "tuple_iterator",data:=.fields #[.ref l,.int 0 0] }) (o:={ cls:=.type "enumerate",data:=.fields #[.none,.bool false,.ref s.heap.objs.size,rawInt 0,.none,.none] }) rfl;rw[z1] at he;exact⟨⟨_,he,rfl⟩,q _ he ⟨_,Zb _ (Zh _ rfl),rfl,rfl⟩ λb o x=>Zb _ (Zb _ x)⟩
end
end EnumT
namespace L2
open PySem PySem.Spec PyProof.Rows
def Ite (K:PySem.W.Frag) (a:Addr):It:=
 ⟨λi H=>∃xs x,SqT K H a xs/\xs[i]?=some x,λi H y H'=>∃p x,H p=none/\(∀xs,SqT K H a xs->xs[i]?=some x)/\H'=upd H p (.tup [.int i,x])/\y=.ref p,λi H=>∃xs,SqT K H a xs/\xs.length<=i⟩
theorem qZ0 {h:Heap}{o o':Obj}{b:Addr}(e:(h.push o).get? b=some o') (jB:b<h.objs.size):h.get? b=some o':=by
 unfold Heap.get? Heap.push at *;simp only[Array.getElem?_push] at e;rw[Zl (Zp jB)] at e;exact e
theorem qR0 {P:Program}{w:World}{K:PySem.W.Frag}{elts:List Expr}{x1:Nat}{tpos:Pos}(a e it:Addr) (jK:e≠it) :
  Turn P w K (.Tuple elts x1 tpos) (Ite K a) [e,it] e (λi h=>(∃old,IsEnum h e it i old)/\h.IsTupleIter it a i) where
 mem:=by simp
 obj:=λi h st b hb=>by
  rcases Zn.mp hb with rfl|hb
  ·obtain⟨⟨old,z⟩,_⟩:=st;exact⟨_,z,λv q=>by
    have q':Data.fields _=Data.cell v:=q;cases q'⟩
  ·have:b=it:=by simpa using hb
   subst this;obtain⟨_,o,z,_,d⟩:=st;exact⟨o,z,λv q=>by rw[d] at q;cases q⟩
 keep:=λi h h' st k=>by
  obtain⟨⟨old,z⟩,st2⟩:=st;exact⟨⟨old,k e (by simp) _ z⟩,st2.at λo q=>k it (by simp) o q⟩
 item:=by
  intro X hP hw hK hc i j8 s σ H E I hf st hg;subst hP hw hK;obtain⟨⟨old,he⟩,st2⟩:=st;obtain⟨xs,x,hq,hx⟩:=hg;obtain⟨its,rv,p,hz⟩:=I.tuple hq;obtain⟨u,hu,ru⟩:=rv.get hx;obtain⟨e0,e1,e2,e3,e4,e5⟩:=hf e (by simp);obtain⟨f0,f1,f2,f3,f4,f5⟩:=hf it (by simp);refine EnumT.next_pair he jK st2 (show s.heap.IsTuple a its.toArray from p) (x:=u) (by simpa using hu) λh1 h' sb ho st3 ht kp=>?_;refine⟨_,rfl,wpAny_letOwnedTupleGo_enum ho λh2 vX sb2=>?_⟩;have elt:e<s.heap.objs.size:=Zi he;have ilt:it<s.heap.objs.size:=by obtain⟨o,z,_⟩:=st2;exact Zi z
  have fresh:H s.heap.objs.size=none:=I.hok.fresh (Ze _);have z1:h1.objs.size=s.heap.objs.size:=sb.1;have J0:Inv X j8 σ (upd H s.heap.objs.size (.tup [.int i,x])) { s with heap:=s.heap.push { cls:=.type "tuple",data:=.seq #[.int i s.toks,u] },toks:=s.toks+1 }:=
   I.laid (λb o q=>Zb _ q) (Ze _) ⟨by show 2<=sizeLine;decide,[.int i s.toks,u],.cons ⟨_,rfl⟩ (.cons ru .nil),_,Zh _ rfl,rfl,⟨_,rfl⟩,rfl⟩
  have ne1:(upd H s.heap.objs.size (.tup [.int i,x])) it=none:=by rw[qb1 (Zp ilt)];exact f0
  have ne2:(upd H s.heap.objs.size (.tup [.int i,x])) e=none:=by rw[qb1 (Zp elt)];exact e0
  have J1:=J0.turned (it:=it) (h':=h1.push { cls:=.type "tuple",data:=.seq #[.int i s.toks,u] }) (t':=s.toks+1) (λb o hb q=>by
    have q:(s.heap.push { cls:=.type "tuple",data:=.seq #[.int i s.toks,u] }).get? b=some o:=q;by_cases jB:b<s.heap.objs.size
    ·have q':s.heap.get? b=some o:=qZ0 q jB;exact Zb _ ((sb.2 b hb).trans q')
    ·have vA:b<s.heap.objs.size+1:=by have:=Zi q;rw[ZS] at this;exact this
     have eb:b=s.heap.objs.size:=Uc (Nat.le_of_lt_succ vA) (VY jB);subst eb;rw[Zh _ rfl] at q;cases q;have:=Zh h1 (o:={ cls:=.type "tuple",data:=.seq #[.int i s.toks,u] }) rfl;rw[z1] at this;exact this) ne1 f1 f3 f4 f5
  have J2:=J1.turned (it:=e) (h':=h') (t':=s.toks+1) (λb o hb q=>by
    have q:(h1.push { cls:=.type "tuple",data:=.seq #[.int i s.toks,u] }).get? b=some o:=q;by_cases jB:b<s.heap.objs.size
    ·have q':h1.get? b=some o:=qZ0 q (by rw[z1];exact jB);exact kp b o hb q'
    ·have vA:b<s.heap.objs.size+1:=by have:=Zi q;rw[ZS,z1] at this;exact this
     have eb:b=s.heap.objs.size:=Uc (Nat.le_of_lt_succ vA) (VY jB);subst eb;have:=Zh h1 (o:={ cls:=.type "tuple",data:=.seq #[.int i s.toks,u] }) rfl;rw[z1] at this;rw[this] at q;cases q;exact ht) ne2 e1 e3 e4 e5
  have J3:=J2.turned (it:=e) (h':=h2) (t':=s.toks+1) (λb o hb q=>(sb2.2 b hb).trans q) ne2 e1 e3 e4 e5;refine⟨.ref s.heap.objs.size,_,J3,rfl,⟨_,x,fresh,λys hy=>by rw[I.tuple_inj hy hq];exact hx,rfl,rfl⟩,⟨⟨u,by
   have:(((i+1:Nat)):Int)=(i:Int)+1:=by lia
   rw[this];exact vX⟩,st3.at λo q=>(sb2.2 it (XC jK)).trans q⟩,λb hb=>?_⟩
  rcases Zn.mp hb with rfl|hb
  ·exact ne2
  ·have:b=it:=by simpa using hb
   subst this;exact ne1
 done:=by
  intro X hP hw hK hc i j8 s σ H E I hf st hg;subst hP hw hK;obtain⟨⟨old,he⟩,st2⟩:=st;obtain⟨xs,hq,hx⟩:=hg;obtain⟨its,rv,p,hz⟩:=I.tuple hq;obtain⟨f0,f1,f2,f3,f4,f5⟩:=hf it (by simp);have hl:=rv.length;exact EnumT.next_end (I.ok.hd hc) he st2 (show s.heap.IsTuple a its.toArray from p) (by simp;lia) λh' eb=>⟨rfl,I.turned (t':=s.toks) (λb o hb e=>eb b o hb e) f0 f1 f3 f4 f5⟩
 self:=λ_ _ _ _ _ st h=>by
  obtain⟨⟨old,he⟩,_⟩:=st;exact wpAny_pyIter_enum he h
section
variable {X:Cx}{elts:List Expr}{x1:Nat}{tpos:Pos}
def xt8 (K:PySem.W.Frag) (ta:TA):TI:=λσ H R=>ta σ H λvs H1=>∃a,vs=[.ref a]/\(∃xs,SqT K H1 a xs)/\R (Ite K a) H1
theorem qM2 {e:Expr}{ta:TA}{p pos:Pos}(hg:Gl X "enumerate") (hm:X.mg "enumerate" = none) (ha:PA X [e] ta) (hs:starEach [e] X.env=[(false,eval e X.env)]:=by rfl):PI X (.Tuple elts x1 tpos) (.Call (.Name "enumerate" p) [e] [] pos) (xt8 X.K ta):=by
 intro j8 s σ H R I h;refine Call_ (qs8 I hg hm PyProof.Rows.boot_enumerate (Xn (thn (ha pos j8 s σ H _ I h) λus s1 ⟨vs,H1,I1,r1,q1⟩=>?_) hs rfl));obtain⟨a,rfl,⟨xs,hq⟩,q⟩:=q1;obtain⟨u,rfl,ru⟩:=qg0 r1;cases ru;obtain⟨its,rv,pt,hz⟩:=I1.tuple hq;refine EnumT.call_new (show s1.heap.IsTuple a its.toArray from pt) λh' he st kp=>?_;refine wpAny_pyIter_enum he ?_;have J:Inv X j8 σ H1 { s1 with heap:=h' }:=I1.kept (t':=s1.toks) kp;refine⟨s1.heap.objs.size+1,[s1.heap.objs.size+1,s1.heap.objs.size],_,_,H1,rfl,J,qR0 a _ _ (Nat.succ_ne_self _),⟨⟨.none,he⟩,st⟩,λb hb=>?_,q⟩;rcases Zn.mp hb with rfl|hb
 ·exact I1.fpOk (Xq _) (I1.hok.fresh (Xq _))
 ·have:b=s1.heap.objs.size:=by simpa using hb
  subst this;exact I1.fpOk (Ze _) (I1.hok.fresh (Ze _))
end
section
variable {X:Cx}
def qb0 (X:Cx) (scope:Scope) (cl:List (Str×Addr)) (C:Addr) (ns:List Str) (fp:List Addr) (s₀:Shared) (H₀:Hp):Cx:=
 { X with N:=ns++X.N,s₀:=s₀,H₀:=H₀,env:=compEnvC scope cl C X.env,outer:=X.stack,stack:=X.stack,ex:=fp,fn:=λ_=>false,pn:=[],xe:=λ_ _=>False }
def qj6 (n:Nat) (wi:TI) (g:TG) (tt:TT) (te:TE):TE:=λσ H Q=>wi σ H λJ H1=>∀D,H1 D=none->∃W:Nat->Nat->List V->Hp->Prop,(∃m,W 0 m [] (upd H1 D (.lst []))) /\
 ∀i m xs H2,W i m xs H2->H2 D=some (.lst xs)/\xs.length<sizeLine/\((J.stop i H2/\Q (.ref D) H2)\/(J.go i H2/\∀y H3,J.yld i H2 y H3->∀os:St,os.length=n ->
  g y (os++σ) H3 λσ4 H4=>tt σ4 H4 λb H5=>if b=true then te σ4 H5 λv H6=>H6 D=some (.lst xs)/\∃m',m'<m/\W (i+1) m' (xs++[v]) (upd H6 D (.lst (xs++[v]))) else ∃m',m'<m/\W (i+1) m' xs H5))
theorem qD5 {prog:Program}{w:World}{A:Around}{R:Result->Shared->Prop}{s:Shared}{elt target iter:Expr}{ifs:List Expr}{scope:Scope}{pos:Pos}{it acc:Value}{env:Env}(T:Sem Bool)
  (hT:compTurn (.ListComp elt [⟨target,iter,ifs,0⟩] scope pos) 0 it acc env=(standAt iter.pos >>= λ_=>pyNext it >>= λr=>match r with
   |none=>pure (.done .next)
   |some v=>letOwnedTupleGo target it v >>= λ_=>assign target env v >>= λ_=>T >>= λok=>(if ok=true then (eval elt env >>= λx=>call (.builtin "list.append") [acc,x] >>= λ_=>pure ()) else pure ()) >>= λ_=>
     again (.compLoop (.ListComp elt [⟨target,iter,ifs,0⟩] scope pos) 0 it acc env)))
  (I:Nat->Shared->Prop)
  (turn:∀n s,I n s->wpAny (model prog w) A (pyNext it) (λr s₁=>match r with
   |none=>R (.ok .next) s₁
   |some v=>wpAny (model prog w) A (letOwnedTupleGo target it v) (λ_ s₁'=>wpAny (model prog w) A (assign target env v) (λ_ s₂=>wpAny (model prog w) A T (λok s₃=>
     if ok=true then wpAny (model prog w) A (eval elt env) (λx s₄=>wpAny (model prog w) A (call (.builtin "list.append") [acc,x]) (λ_ s₅=>∃m,m<n/\I m s₅) (λ_ _=>False) s₄) (λ_ _=>False) s₃
     else ∃m,m<n/\I m s₃) (λ_ _=>False) s₂) (λ_ _=>False) s₁') (λ_ _=>False) s₁) (λ_ _=>False) s)
  (n:Nat) (h:I n s):codeAny (model prog w) A (.compLoop (.ListComp elt [⟨target,iter,ifs,0⟩] scope pos) 0 it acc env) R s:=by
 refine codeAny_loop rfl I (λn s hI=>?_) n h;show wpAny _ A ((compTurn (.ListComp elt [⟨target,iter,ifs,0⟩] scope pos) 0 it acc env).onRaise (λx=>do noteFrame x env;theTreesLotGoes x)) _ _ s;refine wpAny_noted ?_;rw[hT];refine Za (wpAny_standAt (Za (Yp (turn n s hI) (λr s₁ h₁=>?_) λ_ _ h'=>h'.elim)));cases r with
 |none=>exact Zc h₁
 |some v=>
  refine Za (Yp h₁ (λ_ s₁' h₁'=>?_) λ_ _ h'=>h'.elim);refine Za (Yp h₁' (λ_ s₂ h₂=>Za (Yp h₂ (λok s₃ h₃=>?_) λ_ _ h'=>h'.elim)) λ_ _ h'=>h'.elim);cases ok with
  |true=>
   rw[Zt rfl] at h₃;simp only[XF];exact Za (Za (Yp h₃ (λx s₄ h₄=>Za (Yp h₄ (λ_ s₅ h₅=>Zc (Zc ⟨rfl,h₅⟩)) λ_ _ h'=>h'.elim)) λ_ _ h'=>h'.elim))
  |false=>
   rw[Zl Zq] at h₃;simp only[Zr,Z2];exact Za (Zc (Zc ⟨rfl,h₃⟩))
theorem qy6 (elt target iter:Expr) (scope:Scope) (pos:Pos) (it acc:Value) (env:Env):compTurn (.ListComp elt [⟨target,iter,[],0⟩] scope pos) 0 it acc env=(standAt iter.pos >>= λ_=>pyNext it >>= λr=>match r with
   |none=>pure (.done .next)
   |some v=>letOwnedTupleGo target it v >>= λ_=>assign target env v >>= λ_=>(pure true:Sem Bool) >>= λok=>(if ok=true then (eval elt env >>= λx=>call (.builtin "list.append") [acc,x] >>= λ_=>pure ()) else pure ()) >>= λ_=>
     again (.compLoop (.ListComp elt [⟨target,iter,[],0⟩] scope pos) 0 it acc env)):=by
 rw[compTurn_list1];congr 1
theorem qr5 (elt target iter c:Expr) (scope:Scope) (pos:Pos) (it acc:Value) (env:Env):compTurn (.ListComp elt [⟨target,iter,[c],0⟩] scope pos) 0 it acc env=(standAt iter.pos >>= λ_=>pyNext it >>= λr=>match r with
   |none=>pure (.done .next)
   |some v=>letOwnedTupleGo target it v >>= λ_=>assign target env v >>= λ_=>isTrue c env (eval c env) >>= λok=>(if ok=true then (eval elt env >>= λx=>call (.builtin "list.append") [acc,x] >>= λ_=>pure ()) else pure ()) >>= λ_=>
     again (.compLoop (.ListComp elt [⟨target,iter,[c],0⟩] scope pos) 0 it acc env)):=by
 rw[compTurn_list];refine V9 λ_=>V9 λr=>?_;cases r with
 |none=>rfl
 |some v=>
  refine V9 λ_=>V9 λ_=>?_;simp only[Ub,List.forIn_nil,XF,bind_assoc,Vw];refine V9 λok=>?_;cases ok<;>simp
theorem qt9 {j8:List (Addr×Obj)}{σ:St}{H:Hp}{s:Shared}{h':Heap}{tk:Nat}{scope:Scope}{cl:List (Str×Addr)}{C:Addr}{nn:List Str}{fp:List Addr}{m:Str->Option Value}
  (I:Inv X j8 σ H s) (hC:C=s.heap.objs.size) (keep:∀b o,s.heap.get? b=some o->h'.get? b=some o) (ns:h'.Ns C m) (wU:∀b∈fp,FpOk X j8 H b) (hfs:∀b∈fp,b<s.heap.objs.size)
  (jD:scope.kind=.function) (jA:∀y∈scope.names,y.2≠.cell) (jF:∀y∈X.N,scope.names.lookup y≠some .local)
  (jU:∀y c,cl.lookup y=some c->X.env.cells.lookup y=some c) (hcl2:∀p∈scope.names,p.2=.free->(cl.lookup p.1).isSome=true)
  (hfr:∀p∈scope.names,p.2=.free->Vis X.env.scope p.1/\X.env.scope.names.lookup p.1≠some .local) :
  Inv (qb0 X scope cl C nn fp s H) [] ((nn.map λ_=>none)++σ) H { s with heap:=h',toks:=tk }:=by
 have cells:∀y c,cl.lookup y=some c->∃v,s.heap.IsCell c v:=λy c e=>I.cell y c (jU y c e);have celllt:∀y c,cl.lookup y=some c->c<s.heap.objs.size:=λy c e=>by
  obtain⟨v,q⟩:=cells y c e;exact q.lt
 have cellk:∀c v,s.heap.IsCell c v->h'.IsCell c v:=λc v ⟨o,e,d⟩=>⟨o,keep c o e,d⟩;have stkl:∀b∈frs X.stack,∃o,s.heap.get? b=some o:=λb hb=>by
  rcases Zn.mp (I.stkSub b hb) with e|hb
  ·obtain⟨_,⟨o,_,_,ho,_⟩,_⟩:=I.loc;exact⟨o,by rw[e];exact ho⟩
  ·obtain⟨_,o,ho,_⟩:=I.funs.mem hb;exact⟨o,ho⟩
 refine⟨⟨I.ok.mod,jD,I.ok.glob,I.ok.blt,Vt hC.symm,λy z c h1 h2=>I.ok.inj y z c (jU y c h1) (jU z c h2),λy hy=>?_,λy c h _=>Bool.noConfusion h,I.ok.hd,I.ok.frames,.inl rfl,λb hb=>⟨?_,λy c e z=>?_⟩,I.bs,
  ZG I.ok.bsz I.sz,λb o e hb=>?_,λb hb hf=>?_,I.stack,I.stkFree⟩,rfl,I.bare,Un.kept keep,⟨m,ns,λi y v h1 h2 h3=>?_⟩,λy c e=>?_,?_,λy c e=>?_,λp hp=>absurd hp (by simp[qb0]),I.hok.kept keep,?_⟩
 ·
  have hy:(relabel scope X.env).names.lookup y=some .cell\/(relabel scope X.env).names.lookup y=some .free:=hy;obtain⟨p,hp,e1,e2⟩:∃p∈scope.names,p.1=y/\p.2=.free:=by
   rcases hy with hy|hy
   ·exact qg3 hy jA (.inl rfl)
   ·exact qg3 hy jA (.inr rfl)
  obtain⟨c,e⟩:=Wt.mp (hcl2 p hp e2);exact⟨c,by rw[<- e1];exact e⟩
 ·show b≠C;rw[hC];exact Zp (hfs b hb)
 ·exact (wU b hb).2.2.2.2.1 y c (jU y c e) z
 ·rcases (wU b hb).2.2.2.1 with z|z
  ·exact I.ok.noex b o e z
  ·exact absurd (ZO (Zi (I.ok.bs b o e).1) z) (Yk _)
 ·rcases Zn.mp (I.stkSub b hf) with z|z
  ·exact (wU b hb).2.1 z
  ·exact (wU b hb).2.2.1 z
 ·
  by_cases jT:i<nn.length
  ·rw[ZF (by simpa using jT)] at h2;simp at h2
  ·obtain⟨j,rfl⟩:∃j,i=nn.length+j:=⟨i-nn.length,by lia⟩;have h1:X.N[j]?=some y:=by
    have h1:(nn++X.N)[nn.length+j]?=some y:=h1;rw[ZK (Yx _ _),Nat.add_sub_cancel_left] at h1;exact h1
   have h2:σ[j]?=some (some v):=by
    rw[ZK (by simp)] at h2;simpa using h2
   have h3:(relabel scope X.env).names.lookup y=some .local\/(relabel scope X.env).names.lookup y=some .cell\/(relabel scope X.env).names.lookup y=some .free:=h3;rcases h3 with h3|h3
   ·exact absurd (qm6 h3) (jF y (Zz h1))
   ·obtain⟨p,hp,e1,e2⟩:∃p∈scope.names,p.1=y/\p.2=.free:=by
     rcases h3 with h3|h3
     ·exact qg3 h3 jA (.inl rfl)
     ·exact qg3 h3 jA (.inr rfl)
    obtain⟨hv,vB⟩:=hfr p hp e2;rw[e1] at hv vB;obtain⟨m0,_,hl0⟩:=I.loc;obtain⟨u,ru,lk⟩:=hl0 j y v h1 h2 hv;rcases lk with ⟨lk,_⟩|⟨_,c,hc,hcv⟩
    ·exact absurd lk vB
    ·obtain⟨c',e'⟩:=Wt.mp (hcl2 p hp e2);rw[e1] at e';have:=jU y c' e';rw[hc] at this;cases this;refine⟨u,ru,.inr ⟨h3,c,e',cellk c _ hcv⟩⟩
 ·obtain⟨v,q⟩:=cells y c e;exact⟨v,cellk c v q⟩
 ·show H C=none;exact I.hok.fresh (Vt hC.symm)
 ·exact I.freeC y c (jU y c e)
 ·show ((nn.map λ_=>none)++σ).length=(nn++X.N).length;simp[I.len]
theorem qD6 {j8:List (Addr×Obj)}{σ σ':St}{H H':Hp}{s s':Shared}{h':Heap}{scope:Scope}{cl:List (Str×Addr)}{C:Addr}{nn:List Str}{fp:List Addr}
  (I:Inv X j8 σ H s) (hC:C=s.heap.objs.size) (wU:∀b∈fp,FpOk X j8 H b) (J:Inv (qb0 X scope cl C nn fp s H) [] σ' H' s') (sb:Heap.SameBut C s'.heap h'):Inv X j8 σ H' { s' with heap:=h' }:=by
 have ne:∀b o,s.heap.get? b=some o->b≠C:=λb o e=>by rw[hC];exact Zp (Zi e)
 have B:Un (frs X.stack) fp H H' s.heap s'.heap:=J.base;have U:Un (frs X.stack) fp H H' s.heap h':=
  ⟨λb o e n hb hx=>(sb.2 b (ne b o e)).trans (B.keep b o e n hb hx),λb o e n hb hx=>by
   obtain⟨sl,q⟩:=B.slot b o e n hb hx;exact⟨sl,(sb.2 b (ne b o e)).trans q⟩,B.free,λb o e hx=>by
   obtain⟨o',q⟩:=B.there b o e hx;exact⟨o',(sb.2 b (ne b o e)).trans q⟩,B.tups,B.frzs,B.tbls⟩
 have hf:H' C=none:=J.free;have K:HOk X.prog X.w H' h':=λb o e=>(J.hok b o e).stay (λc u hc q=>(sb.2 c (by
  rintro rfl;rcases hc with z|z
  ·rw[z,e] at hf;cases hf
  ·rw[hf] at z;cases z)).trans q) (λ_ q=>q) λ_ _ q=>q
 refine I.call' (s':={ s' with heap:=h' }) (ch:=fp) J.os U K J.bare λb hb=>?_;obtain⟨_,h2,_,h4,h5,h6⟩:=wU b hb;exact⟨h4,h2,h5,h6⟩
theorem qr6 {nn:List Str}{tg:Expr}{ifs:List Expr}{pos:Pos}{elt iter:Expr}{scope:Scope}{wi:TI}{g:TG}{tt:TT}{te:TE}(T:Env->Sem Bool) (hc:X.calm=true) (hi:PI X tg iter wi)
  (hturn:∀it acc env,compTurn (.ListComp elt [⟨tg,iter,ifs,0⟩] scope pos) 0 it acc env=(standAt iter.pos >>= λ_=>pyNext it >>= λr=>match r with
   |none=>pure (.done .next)
   |some v=>letOwnedTupleGo tg it v >>= λ_=>assign tg env v >>= λ_=>T env >>= λok=>(if ok=true then (eval elt env >>= λx=>call (.builtin "list.append") [acc,x] >>= λ_=>pure ()) else pure ()) >>= λ_=>
     again (.compLoop (.ListComp elt [⟨tg,iter,ifs,0⟩] scope pos) 0 it acc env)))
  (hgt:∀cl C fp s₀ H₀,PG (qb0 X scope cl C nn fp s₀ H₀) tg g)
  (hloc2:∀y (os σ:St) H R,os.length=nn.length->g y (os++σ) H R->g y (os++σ) H λσ' H'=>(∃os':St,os'.length=nn.length/\σ'=os'++σ)/\R σ' H')
  (htt:∀cl C fp s₀ H₀ (j8:List (Addr×Obj)) (s:Shared) (σ:St) (H:Hp) (Q:Bool->Hp->Prop),Inv (qb0 X scope cl C nn fp s₀ H₀) j8 σ H s->tt σ H Q->wpAny (model X.prog X.w) X.A (T (compEnvC scope cl C X.env)) (TP (qb0 X scope cl C nn fp s₀ H₀) j8 σ Q) (λ_ _=>False) s)
  (he:∀cl C fp s₀ H₀,PE (qb0 X scope cl C nn fp s₀ H₀) elt te)
  (jD:scope.kind=.function) (jA:∀y∈scope.names,y.2≠.cell) (jC:∀y∈scope.names,y.2=.local->scope.names.lookup y.1=some .local)
  (jF:∀y∈X.N,scope.names.lookup y≠some .local) (hfr:∀p∈scope.names,p.2=.free->Vis X.env.scope p.1/\X.env.scope.names.lookup p.1≠some .local)
  (hs:∀x,foldedSetIterable iter X.env x=pure x):PE X (.ListComp elt [⟨tg,iter,ifs,0⟩] scope pos) (qj6 nn.length wi g tt te):=by
 intro j8 s σ H Q I h;rw[eval_ListComp];obtain⟨cl,hclos,jU,hcl2⟩:=qj5 (scope:=scope) (env:=X.env) (λp hp hk=>by
  obtain⟨hv,hn⟩:=hfr p hp hk;refine I.ok.has p.1 ?_;rcases hv with z|z
  ·exact absurd z hn
  ·exact z)
 refine wpAny_comprehension_free (use:=none) rfl hs hclos jD jC (thn (hi j8 s σ H _ I h) λv s1 h1=>thn h1 λitv s2 h2=>?_);obtain⟨it,fp,tn,J,H2,rfl,I2,T',st2,f2,q⟩:=h2;have hD:H2 s2.heap.objs.size=none:=I2.hok.fresh (Ze _);obtain⟨W,⟨m0,w0⟩,turn⟩:=q _ hD;refine ZJ (wpAny_newFunctionEnv jA (by intro y hy;simp at hy) (λh₁ hns₁ hsb₁=>?_) jD);dsimp only at hns₁ hsb₁ ⊢;have I3:Inv X j8 σ (upd H2 s2.heap.objs.size (.lst [])) { s2 with heap:=s2.heap.push { cls:=.type "list",dict:=none,data:=.seq ([]:List Value).toArray } }:=
  I2.laid (t':=s2.toks) (λb u e=>Zb _ e) (Ze _) ⟨Zx _,[],0,.nil,Zh _ rfl⟩
 have fpn:∀b∈fp,b≠s2.heap.objs.size:=λb hb=>by
  obtain⟨o,e,_⟩:=T'.obj 0 s2.heap st2 b hb;exact Zp (Zi e)
 have fplt:∀b∈fp,b<(s2.heap.push { cls:=.type "list",dict:=none,data:=.seq ([]:List Value).toArray }).objs.size:=λb hb=>by
  obtain⟨o,e,_⟩:=T'.obj 0 s2.heap st2 b hb;rw[ZS];exact ZZ (Zi e)
 have f3:∀b∈fp,FpOk X j8 (upd H2 s2.heap.objs.size (.lst [])) b:=λb hb=>⟨by rw[qb1 (fpn b hb)];exact (f2 b hb).1,(f2 b hb).2⟩;generalize hg2:s2.heap.push { cls:=.type "list",dict:=none,data:=.seq ([]:List Value).toArray }=g2 at hns₁ hsb₁ I3 fplt ⊢;have keep:∀b o,g2.get? b=some o->h₁.get? b=some o:=λb o e=>(hsb₁.2 b (Zp (Zi e))).trans (Zb _ e);have J0:=qt9 (nn:=nn) (tk:=s2.toks+([]:List (Str×Value)).length) I3 (C:=g2.objs.size) rfl keep hns₁ f3 fplt jD jA jF jU hcl2 hfr;generalize hY:qb0 X scope cl g2.objs.size nn fp { s2 with heap:=g2 } (upd H2 s2.heap.objs.size (.lst []))=Y at J0;have eY:PE Y elt te:=by rw[<- hY];exact he _ _ _ _ _
 have eG:PG Y tg g:=by rw[<- hY];exact hgt _ _ _ _ _
 have eT:∀(j8:List (Addr×Obj)) (s:Shared) (σ:St) (H:Hp) (Q:Bool->Hp->Prop),Inv Y j8 σ H s->tt σ H Q->wpAny (model Y.prog Y.w) Y.A (T Y.env) (TP Y j8 σ Q) Y.xe s:=by rw[<- hY];exact htt _ _ _ _ _
 have eP:Y.prog=X.prog:=by rw[<- hY];rfl
 have eW:Y.w=X.w:=by rw[<- hY];rfl
 have eK:Y.K=X.K:=by rw[<- hY];rfl
 have eA:Y.A=X.A:=by rw[<- hY];rfl
 have eC:Y.calm=true:=by rw[<- hY];exact hc
 have eE:Y.env=compEnvC scope cl g2.objs.size X.env:=by rw[<- hY];rfl
 have eX:Y.xe=λ_ _=>False:=by rw[<- hY];rfl
 have eN:Y.N=nn++X.N:=by rw[<- hY];rfl
 have eEx:Y.ex=fp:=by rw[<- hY];rfl
 have eFs:Y.fs=frs X.stack:=by rw[<- hY];rfl
 have ePn:Y.pn=[]:=by rw[<- hY];rfl
 have fpY:∀{H':Hp},(∀b∈fp,H' b=none)->∀b∈fp,FpOk Y [] H' b:=λhn b hb=>by
  have g:=f3 b hb;refine⟨hn b hb,?_,?_,.inl (by rw[eEx];exact hb),?_,λp hp=>absurd hp (by rw[ePn];simp)⟩
  ·rw[eE];exact Zp (fplt b hb)
  ·rw[eFs];intro z;rcases Zn.mp (I3.stkSub b z) with z|z
   ·exact g.2.1 z
   ·exact g.2.2.1 z
  ·rw[eE];exact λy c e=>g.2.2.2.2.1 y c (jU y c e)
 have loop:∀s₃:Shared,s₃={ s2 with heap:=h₁,toks:=s2.toks+([]:List (Str×Value)).length } ->
   codeAny (model X.prog X.w) X.A (.compLoop (.ListComp elt [⟨tg,iter,ifs,0⟩] scope pos) 0 (.ref it) (.ref s2.heap.objs.size) (compEnvC scope cl g2.objs.size X.env))
    (compPost (model X.prog X.w) X.A X.xe none (EP X j8 σ Q) (.ref s2.heap.objs.size) g2.objs.size) s₃:=by
  rintro s₃ rfl;refine qD5 (T (compEnvC scope cl g2.objs.size X.env)) (hturn _ _ _) (λn s'=>∃i xs H' os,os.length=nn.length/\Inv Y [] (os++σ) H' s'/\tn i s'.heap/\(∀b∈fp,H' b=none)/\W i n xs H') ?_ m0
   ⟨0,[],_,nn.map λ_=>none,by simp,J0,T'.keep 0 _ _ st2 (λb hb o e=>keep b o (by rw[<- hg2];exact Zb _ e)),λb hb=>(f3 b hb).1,w0⟩
  rintro n s3 ⟨i,xs,H3,os,vJ,I4,st3,fr3,w3⟩;obtain⟨hDx,hlx,alt⟩:=turn i n xs H3 w3;rcases alt with ⟨stop,qn⟩|⟨go,step⟩
  ·have D1:=T'.done Y eP eW eK eC i [] s3 _ H3 (λ_ _=>False) I4 (fpY fr3) st3 stop;rw[eA] at D1;refine thn D1 λr s4 ⟨hr,I5⟩=>?_;subst hr;obtain⟨m4,kD,_⟩:=id I5.loc;rw[eE] at kD;refine⟨m4,kD,λh' sb=>⟨.ref _,H3,?_,rfl,qn⟩⟩;rw[<- hY] at I5;exact qD6 I3 rfl f3 I5 sb
  ·have G1:=T'.item Y eP eW eK eC i [] s3 _ H3 (λ_ _=>False) I4 (fpY fr3) st3 go;rw[eA] at G1;refine thn G1 λr s4 ⟨u,hr,h4⟩=>?_;subst hr;refine thn h4 λ_ s5 ⟨y,H5,I5,r5,y5,st5,fr5⟩=>?_;have I5':=I5.pinned (fpY fr5) (T'.obj _ _ st5);have S1:=eG _ s5 _ H5 y u _ I5' r5 (hloc2 y os σ H5 _ vJ (step y _ y5 os vJ));rw[eP,eW,eA,eE,eX] at S1;refine thn S1 λ_ s6 ⟨σ6,H6,I6,⟨os6,hos6,e6⟩,q6⟩=>?_;subst e6;have S2:=eT _ s6 _ _ _ I6 q6;rw[eP,eW,eA,eE,eX] at S2;refine thn S2 λok s7 ⟨H7,I7,q7⟩=>?_;have back:∀{s9:Shared}{H9:Hp}{m':Nat}{zs:List V},Inv Y ([]++qw8 fp s5.heap) (os6++σ) H9 s9->m'<n->W (i+1) m' zs H9->∃m,m<n/\∃i xs H' os,os.length=nn.length/\Inv Y [] (os++σ) H' s9/\tn i s9.heap/\(∀b∈fp,H' b=none)/\W i m xs H':=λ{s9 H9 m' zs} I9 hm' w9=>by
    have pin:∀b∈fp,∀ob,s5.heap.get? b=some ob->s9.heap.get? b=some ob/\H9 b=none:=λb hb ob e=>by
     have z:=I9.pin (b,ob) (ZT _ (ZT _ (qh5 hb e)));exact⟨z.1,z.2.1⟩
    refine⟨m',hm',i+1,zs,H9,os6,hos6,I9.unpinned,T'.keep _ _ _ st5 (λb hb ob e=>(pin b hb ob e).1),λb hb=>?_,w9⟩;obtain⟨ob,e,_⟩:=T'.obj _ _ st5 b hb;exact (pin b hb ob e).2
   cases ok with
   |true=>
    rw[Zt rfl] at q7;rw[Zt rfl];have S3:=eY _ s7 _ _ _ I7 q7;rw[eP,eW,eA,eE,eX] at S3;refine thn S3 λxv s8 ⟨v8,H8,I8,r8,yN,m',hm',w8⟩=>?_;have S4:=qg2 (X:=Y) _ s8 _ H8 (.ref s2.heap.objs.size) [v8] (.ref s2.heap.objs.size) [xv] (λ_ H9=>H9=upd H8 s2.heap.objs.size (.lst (xs++[v8]))) I8 rfl (.cons r8 .nil) ⟨_,xs,v8,rfl,rfl,yN,hlx,rfl⟩;rw[eP,eW,eA,eX] at S4;refine thn S4 λ_ s9 ⟨v9,H9,I9,_,e9⟩=>?_;subst e9;exact back I9 hm' w8
   |false=>
    rw[Zl Zq] at q7;rw[Zl Zq];obtain⟨m',hm',w8⟩:=q7;exact back I7 hm' w8
 exact codeAny_compStart_list (loop _ rfl) (T'.self _ 0 _ _ _ (T'.keep 0 _ _ st2 (λb hb o e=>keep b o (by rw[<- hg2];exact Zb _ e))) (loop _ rfl))
theorem qe7 {scope sc:Scope}{N:List Str}(kI:X.N=N) (jY:X.env.scope=sc)
  (jA:scope.names.all (λy=>y.2 != .cell)=true) (jC:scope.names.all (λy=>y.2 != .local||scope.names.lookup y.1==some .local)=true) (jF:N.all (λy=>scope.names.lookup y != some .local)=true)
  (hfr:scope.names.all (λp=>p.2 != .free||(sc.names.lookup p.1==some .cell||sc.names.lookup p.1==some .free))=true) :
  (∀y∈scope.names,y.2≠.cell)/\(∀y∈scope.names,y.2=.local->scope.names.lookup y.1=some .local)/\(∀y∈X.N,scope.names.lookup y≠some .local)/\(∀p∈scope.names,p.2=.free->Vis X.env.scope p.1/\X.env.scope.names.lookup p.1≠some .local):=by
 refine⟨λy hy=>?_,λy hy hl=>?_,λy hy=>?_,λp hp hk=>?_⟩
 ·have:=YK.mp jA y hy;simpa using this
 ·have:=YK.mp jC y hy;simpa [hl] using this
 ·have:=YK.mp jF y (by rw[<- kI];exact hy);simpa using this
 ·have:=YK.mp hfr p hp;rw[hk] at this;have z:sc.names.lookup p.1=some .cell\/sc.names.lookup p.1=some .free:=by simpa using this
  rw[jY];refine⟨.inr z,λq=>?_⟩;rcases z with z|z<;>(rw[z] at q;cases q)
theorem loc1 {y:V}{os σ:St}{H:Hp}{R:St->Hp->Prop}(ho:os.length=1) (h:qd1 0 y (os++σ) H R):qd1 0 y (os++σ) H λσ' H'=>(∃os':St,os'.length=1/\σ'=os'++σ)/\R σ' H':=by
 match os,ho with
 |[o],_=>exact⟨⟨[some y],rfl,rfl⟩,h⟩
theorem loc2 {K:PySem.W.Frag}{y:V}{os σ:St}{H:Hp}{R:St->Hp->Prop}(ho:os.length=2) (h:gTup K 2 (qe5 (qd1 0) (qe5 (qd1 1) gNil)) y (os++σ) H R) :
  gTup K 2 (qe5 (qd1 0) (qe5 (qd1 1) gNil)) y (os++σ) H λσ' H'=>(∃os':St,os'.length=2/\σ'=os'++σ)/\R σ' H':=by
 obtain⟨o1,o2,rfl⟩:=L2.os2 ho
 ·
  obtain⟨a,xs,e1,e2,e3,v,r,e4,v2,r2,e5,e6,q⟩:=h;exact⟨a,xs,e1,e2,e3,v,r,e4,v2,r2,e5,e6,⟨[some v,some v2],rfl,rfl⟩,q⟩
theorem qD7 {x:Str}{px pos:Pos}{elt iter c:Expr}{scope:Scope}{wi:TI}{tt:TT}{te:TE}(N:List Str) (sc:Scope) (kI:X.N=N) (jY:X.env.scope=sc) (hc:X.calm=true) (hN:X.N.Nodup) (hi:PI X (.Name x px) iter wi)
  (ht:∀cl C fp s₀ H₀,PT (qb0 X scope cl C [x] fp s₀ H₀) c tt) (he:∀cl C fp s₀ H₀,PE (qb0 X scope cl C [x] fp s₀ H₀) elt te)
  (jD:scope.kind=.function:=by rfl) (jA:scope.names.all (λy=>y.2 != .cell)=true:=by decide +kernel) (jC:scope.names.all (λy=>y.2 != .local||scope.names.lookup y.1==some .local)=true:=by decide +kernel)
  (hx:scope.names.lookup x=some .local:=by rfl) (jF:N.all (λy=>scope.names.lookup y != some .local)=true:=by decide +kernel)
  (hfr:scope.names.all (λp=>p.2 != .free||(sc.names.lookup p.1==some .cell||sc.names.lookup p.1==some .free))=true:=by decide +kernel)
  (hs:∀x,foldedSetIterable iter X.env x=pure x:=by intro _;rfl):PE X (.ListComp elt [⟨.Name x px,iter,[c],0⟩] scope pos) (qj6 1 wi (qd1 0) tt te):=by
 obtain⟨s1,s2,s3,s4⟩:=qe7 kI jY jA jC jF hfr;refine qr6 (nn:=[x]) (λenv=>isTrue c env (eval c env)) hc hi (λit acc env=>qr5 elt _ iter c scope pos it acc env) (λcl C fp s₀ H₀=>?_) (λy os σ H R ho h=>loc1 ho h) (λcl C fp s₀ H₀ j8 s σ H Q I h=>ht cl C fp s₀ H₀ j8 s σ H Q I h) he jD s1 s2 s3 s4 hs;have l:(qb0 X scope cl C [x] fp s₀ H₀).env.scope.names.lookup x=some .local:=Yt hx;exact qh2 (i:=0) (YG.mpr ⟨λz=>s3 x z hx,hN⟩) rfl (.inl l) (.inr l)
theorem xt9 {x y:Str}{p1 p2 tpos:Pos}{k:Nat}{scope:Scope}{cl:List (Str×Addr)}{C:Addr}{fp:List Addr}{s₀:Shared}{H₀:Hp}(hc:X.calm=true) (hN:X.N.Nodup) (hxy:x≠y) (s3:∀z∈X.N,scope.names.lookup z≠some .local) (hx:scope.names.lookup x=some .local) (hy:scope.names.lookup y=some .local) :
  PG (qb0 X scope cl C [x,y] fp s₀ H₀) (.Tuple [.Name x p1,.Name y p2] k tpos) (gTup X.K 2 (qe5 (qd1 0) (qe5 (qd1 1) gNil))):=by
 have lx:(qb0 X scope cl C [x,y] fp s₀ H₀).env.scope.names.lookup x=some .local:=Yt hx;have ly:(qb0 X scope cl C [x,y] fp s₀ H₀).env.scope.names.lookup y=some .local:=Yt hy;have nd:(qb0 X scope cl C [x,y] fp s₀ H₀).N.Nodup:=YG.mpr ⟨λz=>by
  rcases Zn.mp z with z|z
  ·exact hxy z
  ·exact s3 x z hx,YG.mpr ⟨λz=>s3 y z hy,hN⟩⟩
 exact qj0 (X:=qb0 X scope cl C [x,y] fp s₀ H₀) hc (qb6 (qh2 (i:=0) nd rfl (.inl lx) (.inr lx)) (qb6 (qh2 (i:=1) nd rfl (.inl ly) (.inr ly)) qf8))
def qJ1:TT:=λ_ H Q=>Q true H
theorem qy7 {x y:Str}{p1 p2 tpos pos:Pos}{k:Nat}{elt iter:Expr}{scope:Scope}{wi:TI}{te:TE}(N:List Str) (sc:Scope) (kI:X.N=N) (jY:X.env.scope=sc) (hc:X.calm=true) (hN:X.N.Nodup) (hi:PI X (.Tuple [.Name x p1,.Name y p2] k tpos) iter wi)
  (he:∀cl C fp s₀ H₀,PE (qb0 X scope cl C [x,y] fp s₀ H₀) elt te) (hxy:x≠y:=by decide)
  (jD:scope.kind=.function:=by rfl) (jA:scope.names.all (λy=>y.2 != .cell)=true:=by decide +kernel) (jC:scope.names.all (λy=>y.2 != .local||scope.names.lookup y.1==some .local)=true:=by decide +kernel)
  (hx:scope.names.lookup x=some .local:=by rfl) (hy:scope.names.lookup y=some .local:=by rfl) (jF:N.all (λy=>scope.names.lookup y != some .local)=true:=by decide +kernel)
  (hfr:scope.names.all (λp=>p.2 != .free||(sc.names.lookup p.1==some .cell||sc.names.lookup p.1==some .free))=true:=by decide +kernel)
  (hs:∀x,foldedSetIterable iter X.env x=pure x:=by intro _;rfl):PE X (.ListComp elt [⟨.Tuple [.Name x p1,.Name y p2] k tpos,iter,[],0⟩] scope pos) (qj6 2 wi (gTup X.K 2 (qe5 (qd1 0) (qe5 (qd1 1) gNil))) qJ1 te):=by
 obtain⟨s1,s2,s3,s4⟩:=qe7 kI jY jA jC jF hfr;exact qr6 (nn:=[x,y]) (λ_=>pure true) hc hi (λit acc env=>qy6 elt _ iter scope pos it acc env) (λcl C fp s₀ H₀=>xt9 hc hN hxy s3 hx hy) (λy os σ H R ho h=>loc2 ho h) (λcl C fp s₀ H₀ j8 s σ H Q I h=>Zc ⟨H,I,h⟩) he jD s1 s2 s3 s4 hs
end
end L2
namespace L2
open PySem PySem.Spec PyProof.Rows PySem.W PySem.Builtin PySem.Builtin.ObjectAttr PySem.Builtin.Getset_descriptor
section
variable {prog:Program}{w:World}{A:Around}{E:Value->Shared->Prop}{s:Shared}{K:Frag}{x C:Addr}
def ExcAt (x C:Addr) (h:Heap):Prop:=∃ox vs,h.get? x=some ox/\ox.cls=.ref C/\ox.data=.fields vs/\vs[2]?=some .none
theorem ExcAt.type {M:Model}{h:Heap}(I:ExcAt x C h):Looks M h (typeOf (.ref x)) (.ref C):=by
 obtain⟨ox,_,h1,h2,_⟩:=I;have z:=(Looks.ld (M:=M) (part:=none) h1).andThen (f:=λo=>pure o.cls) (Looks.now (a:=ox.cls));rw[h2] at z;exact z
theorem xk8 {tp:Value}{R:Result->Shared->Prop}(X:K.In s.heap) (I:ExcAt x C s.heap) (hm:mroIn K C (.type "object")=some true) (h:R (.ok (.ret (.ref C))) s) :
  codeAny (model prog w) A (.call (.builtin "getset_descriptor.__get__") ⟨[.builtin "object.__class__",.ref x,tp],[]⟩) R s:=by
 obtain⟨h1,g1,d1,t1,o1⟩:=s;have Lt:=I.type (M:=model prog w);have Lm:=looks_mroIn (M:=model prog w) X hm;refine XG KF.slot_gs.plain KF.entry_gs ?_;refine KF.slot_gs.check _ _ _ _ _ _ _ _ KF.type_class (KF.args_gs _ _ _) ?_;unfold Builtin.«getset_descriptor.__get__» descrGet;rw[dga_obj];refine Za (Zc ?_);unfold descrGetter descrCheckInstance descrNameAndClass isInstance;simp only[KF.owner_class]
 repeat lk
 refine⟨VB _ (by decide +kernel),Z8 KF.entry_class ?_⟩;unfold Builtin.«object.__class__» shownTypeOf
 repeat lk
 exact h
theorem qZ1 {tk:Tok}{Q:Fin->Shared->Prop}(X:K.In s.heap) (I:ExcAt x C s.heap)
  (ha:findIn K (.ref C) "__class__" = some (some (.builtin "object.__class__"))) (hn:specialIn K (.builtin "object.__class__") "__get__" = some (some (.builtin "getset_descriptor.__get__"))) (htk:takesIn K (.builtin "object.__class__")=some true)
  (hm:mroIn K C (.type "object")=some true) (hc:(clsIn K C).isSome=true) (h:Q (.done (.ret (.ref C))) s):wpAny (model prog w) A (Builtin.«object.__getattribute__» ⟨[.ref x,.str "__class__" tk],[]⟩) Q E s:=by
 obtain⟨hh,g,d,t,os⟩:=s;have L0:=I.type (M:=model prog w);have L4:Looks (model prog w) hh (Builtin.ObjectAttr.find (.ref x) (.ref C) "__class__") (Builtin.ObjectAttr.Found.bind (.builtin "getset_descriptor.__get__") (.builtin "object.__class__")):=by
  have y1:=looks_findIn (M:=model prog w) X ha;have y2:Looks (model prog w) hh (Builtin.ObjectAttr.getOf (some (.builtin "object.__class__"))) (some (.builtin "getset_descriptor.__get__")):=looks_specialIn X hn;have y3:=looks_takesIn (M:=model prog w) X htk;have y4:Looks (model prog w) hh (Builtin.ObjectAttr.dataDescriptor? (some (.builtin "object.__class__")) (some (.builtin "getset_descriptor.__get__"))) (some (.builtin "getset_descriptor.__get__",.builtin "object.__class__")):=y3.andThen .now;exact y1.andThen (y2.andThen (y4.andThen (Looks.tag .now)))
 unfold Builtin.«object.__getattribute__»
 repeat (first|with_reducible refine L0.at ?_|with_reducible refine L4.at ?_|wp_step)
 refine xk8 X I hm ?_
 repeat (any_goals (first|assumption|wp_step))
theorem qZ2 {M:Model}{nameV:Value}{P:Unit->Shared->Prop}(X:K.In s.heap) (I:ExcAt x C s.heap) (hb:mroIn K C (.type "BaseException")=some true) (h:P () s) :
  wpAny M A (checkBuiltinCall "BaseException.__getattribute__" ⟨[.ref x,nameV],[]⟩) P E s:=by
 have hk:builtinKind "BaseException.__getattribute__" = some .slot:=by decide +kernel
 have hsplit:splitId "BaseException.__getattribute__" = some ("BaseException", "__getattribute__"):=by decide +kernel
 have hargs:=F.args_bexc_ga (.ref x) nameV;obtain⟨hh,g,d,t,os⟩:=s;have L0:=I.type (M:=M);have L3:=looks_mroIn (M:=M) X hb;simp only[checkBuiltinCall,hk,hsplit];refine Za ?_;unfold isInstance;refine Za (L0.at (L3.at ?_))
 repeat (first|assumption|wp_step)
theorem q93 {tk:Tok}{R:Result->Shared->Prop}(X:K.In s.heap) (I:ExcAt x C s.heap)
  (ha:findIn K (.ref C) "__class__" = some (some (.builtin "object.__class__"))) (hn:specialIn K (.builtin "object.__class__") "__get__" = some (some (.builtin "getset_descriptor.__get__"))) (htk:takesIn K (.builtin "object.__class__")=some true)
  (hm:mroIn K C (.type "object")=some true) (hb:mroIn K C (.type "BaseException")=some true) (hc:(clsIn K C).isSome=true) (h:R (.ok (.ret (.ref C))) s) :
  codeAny (model prog w) A (.call (.builtin "BaseException.__getattribute__") ⟨[.ref x,.str "__class__" tk],[]⟩) R s:=
 XG F.excAttr_ValueError.ga.plain F.entry_bexc_ga (qZ2 X I hb (qZ1 X I ha hn htk hm hc h))
theorem qZ3 {Q:Option Value->Shared->Prop}(X:K.In s.heap) (I:ExcAt x C s.heap) (hga:findIn K (.ref C) "__getattribute__" = some (some (.builtin "BaseException.__getattribute__"))) (hgt:findIn K (.ref C) "__getattr__" = some none)
  (ha:findIn K (.ref C) "__class__" = some (some (.builtin "object.__class__"))) (hn:specialIn K (.builtin "object.__class__") "__get__" = some (some (.builtin "getset_descriptor.__get__"))) (htk:takesIn K (.builtin "object.__class__")=some true)
  (hm:mroIn K C (.type "object")=some true) (hb:mroIn K C (.type "BaseException")=some true) (hc:(clsIn K C).isSome=true) (h:Q (some (.ref C)) { s with toks:=s.toks+1 }) :
  wpAny (model prog w) A (getAttr? (.ref x) "__class__") Q E s:=by
 have go:=λ(A':Around) (R:Result->Shared->Prop) (tk:Tok)=>q93 (prog:=prog) (w:=w) (A:=A') (R:=R) (s:={ s with toks:=s.toks+1 }) (tk:=tk) X I ha hn htk hm hb hc;obtain⟨hh,g,d,t,os⟩:=s;have L0:=I.type (M:=model prog w);have L1:=looks_findIn (M:=model prog w) X hga;have L2:=looks_findIn (M:=model prog w) X hgt;have f3:=F.excAttr_ValueError.ga.bind (.ref x);have hx2:(Value.builtin "BaseException.__getattribute__" == Value.builtin "object.__getattribute__")=false:=by decide +kernel
 have hx1:(onTheHeap (Value.ref C)&&Value.builtin "BaseException.__getattribute__" == Value.builtin "object.__getattribute__")=false:=by rw[hx2];rfl
 unfold getAttr? getAttrBy? getAttrBy;refine Za (wpAny_mkText (Za (XM (ZX (Za (L0.at (Za (L1.at ?_))))))));dsimp only;rw[Zl (by rw[hx1];exact Zq)];unfold getAttrByItsOwn
 repeat (any_goals (first|assumption|with_reducible refine L0.at ?_|with_reducible refine L2.at ?_|wp_step))
 refine go _ _ _ ?_
 repeat (any_goals (first|assumption|wp_step))
structure ExcCls (K:Frag) (C:Addr):Prop where
 hga:findIn K (.ref C) "__getattribute__" = some (some (.builtin "BaseException.__getattribute__"))
 hgt:findIn K (.ref C) "__getattr__" = some none
 ha:findIn K (.ref C) "__class__" = some (some (.builtin "object.__class__"))
 hn:specialIn K (.builtin "object.__class__") "__get__" = some (some (.builtin "getset_descriptor.__get__"))
 htk:takesIn K (.builtin "object.__class__")=some true
 hm:mroIn K C (.type "object")=some true
 hb:mroIn K C (.type "BaseException")=some true
 hc:(clsIn K C).isSome=true
theorem q94 (T:ExcCls K C):KitX K (.ref x) (.ref C) (ExcAt x C) where
 ty:=λ_ _ _ I=>I.type
 it:=λ_ _ X _=>by
  have hc:=T.hc;unfold clsIn at hc;split at hc
  ·rename_i c' d' cd' sl' ho;intro A1 Q1 E1 s1 kp q1;unfold isType loadHead;refine Za (wpAny_loadPart (kp _ _ (X _ _ ho)) ?_);exact Zc q1
  ·cases hc
 ne:=λh tp dd its n sl X htp=>by
  have hc:=T.hc;refine Z0.mpr λq=>?_;have e:C=tp:=Value.ref.inj (X1.mp q);subst e;unfold clsIn at hc;split at hc
  ·rename_i c' d' cd' sl' ho;have z:=(X _ _ ho).symm.trans htp;cases z
  ·cases hc
 ca:=λX I k=>qZ3 X I T.hga T.hgt T.ha T.hn T.htk T.hm T.hb T.hc k
end
end L2
namespace L2
open PySem PySem.Spec PyProof.Rows PySem.W
section
variable {K:Frag}{h:Heap}{C:Addr}{bmB:List Value}{newId:String}
theorem xu0 (X:K.In h) (q:excIn K C bmB newId=true):∃bm N nm qn bs hd sn sub ab col dd k0 k1 k2 k3 k5 mN,
  h.get? C=some (excClassObj nm qn C N bs bm hd sn sub ab col dd k0 k1 k2 k3 k5 newId)/\h.Ns N mN/\mN "__init__" = none/\OwnTail h bmB bm:=by
 unfold excIn at q;split at q
 ·rename_i dd cd sl ho;split at q
  ·rename_i C1 tl j0 j1 j2 j3 nn j5 e1 e2;simp only[W6,X1,Wb] at q;obtain⟨⟨⟨⟨⟨z1,z2⟩,z3⟩,z4⟩,z5⟩,z6⟩:=q;subst z1 z2;obtain⟨a1,a2,a3,a4,a5,a6,a7,a8,a9,a10,a11⟩:=cd;dsimp only at e1 z3 z5 z6;subst e1 z3;obtain⟨l⟩:=sl;have e3:l=[j0,j1,j2,j3,some (.builtin nn),j5]:=e2;subst e3;have n1:=isNs_of_in X z5;exact⟨tl,a4,a1,a5,a2,a6,a7,a8,a9,a10,dd,j0,j1,j2,j3,j5,_,X _ _ ho,.of_isNs n1,nsMap_none_of_in X z5 z6,tail_of_in X z4⟩
  ·cases q
 ·cases q
end
abbrev bmV:List Value:=[.type "ValueError",.type "Exception",.type "BaseException",.type "object"]
section
variable {X:Cx}{x:Str}{C:Addr}{E:XK}{e₀:Expr}{rest:List Expr}{t:TA}{np cpos pos:Pos}
def xu1 (cls:Value) (E:XK) (t:TA):TS:=λ_ σ H=>t σ H λvs H1=>vs.length<=sizeLine/\E cls none H1
theorem q95 (hg:Gl X x) (hm:X.mg x=some (.ref C)) (hx:excIn X.K C bmV "ValueError.__new__" = true) (hc:X.calm=true) (hr:xg2 X E) (ha:PA X (e₀::rest) t) (hd:(x==("__debug__" : Str))=false:=by decide)
  (he:starEach (e₀::rest) X.env=(false,eval e₀ X.env)::starEach rest X.env:=by rfl) (hplain:(backTo cpos (starEach rest X.env)).any (·.1)=false:=by rfl) :
  PS X (.Raise (some (.Call (.Name x np) (e₀::rest) [] cpos)) none pos) (xu1 (.ref C) E t):=by
 intro j8 s σ H D I h;obtain⟨bm,N,nm,qn,bs,vY,sn,sub,ab,col,dd,k0,k1,k2,k3,k5,mN,hC,hN,wT,T⟩:=xu0 I.ok.mod.kin hx;refine wpAny_Raise_call_subU (C:=C) (nm:=nm) (q:=qn) (N:=N) (bs:=bs) (bm:=bm) (hdct:=vY) (sn:=sn) (sub:=sub) (ab:=ab) (col:=col) (dd:=dd) (k0:=k0) (k1:=k1) (k2:=k2) (k3:=k3) (k5:=k5) (mN:=mN)
  F.excBase_ValueError (by decide) F.excBase_ValueError (T.hasType F.excBase_ValueError.hasBase) (I.ok.hd hc) (by rw[he];show (false||(backTo cpos (starEach rest X.env)).any (·.1))=false;rw[hplain];rfl) wT (qy1 I hg hm ⟨rfl,?_⟩ hd)
 have A1:=ha cpos j8 s σ H _ I h;rw[he] at A1 ⊢;refine Calls.evalArgs_plain (Yp A1 (λus s2 ⟨vs,H1,I1,r,hz,hE⟩=>?_) λ_ _ y=>y);exact⟨rfl,by rw[<- r.length];exact hz,I1.bk _ _ hC,hN.keeps I1.bk,T.keeps I1.bk,λh' e hm'=>hr j8 σ H1 s2 h' e _ _ I1 hm' hE⟩
end
section
variable {X:Cx}{j8:List (Addr×Obj)}{σ:St}{H:Hp}{s:Shared}
def qR1 (X:Cx) (j8:List (Addr×Obj)) (E:XK):Cx:={ X with
 pn:=X.pn++j8
 xe:=λe s'=>∃(x:Addr) (cls:Value) (B:Heap) (H':Hp) (σ':St),e=.ref x/\Inv X j8 σ' H' s'/\Over B X.stack x cls .none s'.heap /\
  (∀b o,X.s₀.heap.get? b=some o->b∉frs X.stack->∃ob,B.get? b=some ob)/\(∀b o,H' b=some o->∃ob,B.get? b=some ob)/\(∀p∈X.pn++j8,∃ob,B.get? p.1=some ob)/\H' x=none/\E cls none H' }
def hCx (X:Cx) (x:Addr):Cx:={ X with A:=X.A.mark (some (.ref x)),calm:=false,xe:=λ_ _=>False }
theorem Inv.toTry (I:Inv X j8 σ H s) (E:XK):Inv (qR1 X j8 E) [] σ H s:=
 ⟨⟨I.ok.mod,I.ok.kind,I.ok.glob,I.ok.blt,I.ok.above,I.ok.inj,I.ok.has,I.ok.cab,I.ok.hd,I.ok.frames,I.ok.stk,I.ok.exf,I.ok.bs,I.ok.bsz,I.ok.noex,I.ok.exfs,I.ok.funs,I.ok.frf⟩,I.os,I.bare,I.base,I.loc,I.cell,I.free,I.freeC,
  λp hp=>I.pin p (by simpa [qR1] using hp),I.hok,I.len⟩
theorem Inv.ofTry {E:XK}{pins':List (Addr×Obj)}(I:Inv (qR1 X j8 E) pins' σ H s):Inv X j8 σ H s:=
 ⟨⟨I.ok.mod,I.ok.kind,I.ok.glob,I.ok.blt,I.ok.above,I.ok.inj,I.ok.has,I.ok.cab,I.ok.hd,I.ok.frames,I.ok.stk,I.ok.exf,I.ok.bs,I.ok.bsz,I.ok.noex,I.ok.exfs,I.ok.funs,I.ok.frf⟩,I.os,I.bare,I.base,I.loc,I.cell,I.free,I.freeC,
  λp hp=>I.pin p (XD _ hp),I.hok,I.len⟩
theorem Inv.toH (I:Inv X j8 σ H s) (x:Addr):Inv (hCx X x) j8 σ H s:=
 ⟨⟨I.ok.mod,I.ok.kind,I.ok.glob,I.ok.blt,I.ok.above,I.ok.inj,I.ok.has,I.ok.cab,λz=>Bool.noConfusion z,I.ok.frames,I.ok.stk,I.ok.exf,I.ok.bs,I.ok.bsz,I.ok.noex,I.ok.exfs,I.ok.funs,I.ok.frf⟩,I.os,I.bare,I.base,I.loc,I.cell,I.free,I.freeC,I.pin,I.hok,I.len⟩
theorem Inv.ofH {x:Addr}(hA:X.calm=true->X.A.handled=none) (I:Inv (hCx X x) j8 σ H s):Inv X j8 σ H s:=
 ⟨⟨I.ok.mod,I.ok.kind,I.ok.glob,I.ok.blt,I.ok.above,I.ok.inj,I.ok.has,I.ok.cab,hA,I.ok.frames,I.ok.stk,I.ok.exf,I.ok.bs,I.ok.bsz,I.ok.noex,I.ok.exfs,I.ok.funs,I.ok.frf⟩,I.os,I.bare,I.base,I.loc,I.cell,I.free,I.freeC,I.pin,I.hok,I.len⟩
theorem xk9 {E:XK}(k8:X.ex=[]):qL3 (CX1 X.prog X.w) (qR1 X j8 E) E:=by
 intro pins' σ H s e s' I h;obtain⟨x,cls,H',rfl,ho,hb,⟨B,U,HK,FW,c1,c2,hx⟩,hE⟩:=h;have I':Inv (qR1 X j8 E) pins' σ H' s':=I.call' ho U HK hb (λb z=>absurd z (by simp));have nof:∀b,b≠X.env.locals->b∉X.fs->b∉frs X.stack:=λb h1 h2 h3=>by
  rcases Zn.mp (I.ofTry.stkSub b h3) with z|z
  ·exact h1 z
  ·exact h2 z
 refine⟨x,cls,B,H',σ,rfl,I'.ofTry,FW,λb o z hb=>?_,c2,λp hp=>?_,hx,hE⟩
 ·obtain⟨o',z'⟩:=I.ofTry.base.there b o z (by rw[k8];simp);exact c1 b o' z' hb
 ·obtain⟨z1,_,z3,z4,_⟩:=I.ofTry.pin p hp;exact c1 p.1 p.2 z1 (nof p.1 z3 z4)
theorem Inv.refly {B h2:Heap}{tk:Nat}(I:Inv X j8 σ H s) (k8:X.ex=[]) (F1:B.StaysIn s.heap) (F2:B.StaysIn h2) (sm:s.heap.UpToSlots h2)
  (c0:∀b o,X.s₀.heap.get? b=some o->b∉frs X.stack->∃ob,B.get? b=some ob) (c2:∀b o,H b=some o->∃ob,B.get? b=some ob) (cp:∀p∈X.pn++j8,∃ob,B.get? p.1=some ob):Inv X j8 σ H { s with heap:=h2,toks:=tk }:=by
 have same:∀b ob o,B.get? b=some ob->s.heap.get? b=some o->h2.get? b=some o:=λb ob o e1 e2=>by
  have q1:=F1 b ob e1;have q2:=F2 b ob e1;rw[e2] at q1;cases q1;exact q2
 have cellk:∀c v,s.heap.IsCell c v->h2.IsCell c v:=λc v ⟨o,e,d⟩=>by
  obtain⟨sl,q⟩:=sm c o e (λvs z=>by rw[d] at z;cases z);exact⟨_,q,d⟩
 have frame:∀b∈frs X.stack,∀o,s.heap.get? b=some o->∃sl,h2.get? b=some { o with slots:=sl }:=λb hb o e=>by
  obtain⟨_,o',e',d⟩:=I.stack.mem hb;rw[e] at e';cases e';exact sm b o e d
 have sub:∀b,b∈X.fs->b∈frs X.stack:=λb hb=>by
  rcases I.ok.stk with z|⟨z,_⟩
  ·rw[z];exact hb
  ·rw[z];show b∈(X.env::X.outer).filterMap (·.frame);rw[Yl];split
   ·exact hb
   ·exact Zk _ hb
 have nl:∀b o,X.s₀.heap.get? b=some o->b≠X.env.locals:=λb o e=>Zp (ZO (Zi e) I.ok.above);have nst:∀b o,X.s₀.heap.get? b=some o->b∉X.fs->b∉frs X.stack:=λb o e h2 h3=>by
  rcases Zn.mp (I.stkSub b h3) with z|z
  ·exact nl b o e z
  ·exact h2 z
 have nox:∀b:Addr,b∉X.ex:=λb=>by rw[k8];simp
 refine⟨I.ok,I.os,I.bare,⟨λb o e n hb hx=>?_,λb o e n hb hx=>?_,I.base.free,λb o e hx=>?_,I.base.tups,I.base.frzs,I.base.tbls⟩,?_,λy c e=>?_,I.free,I.freeC,λp hp=>?_,λb o e=>?_,I.len⟩
 ·obtain⟨ob,z⟩:=c0 b o e (nst b o e hb);exact same b ob o z (I.base.keep b o e n hb hx)
 ·obtain⟨sl,q⟩:=I.base.slot b o e n hb hx;obtain⟨sl2,q2⟩:=frame b (sub b hb) _ q;exact⟨sl2,q2⟩
 ·obtain⟨o',q⟩:=I.base.there b o e hx;by_cases hb:b∈frs X.stack
  ·obtain⟨sl,q2⟩:=frame b hb o' q;exact⟨_,q2⟩
  ·obtain⟨ob,z⟩:=c0 b o e hb;exact⟨ob,F2 b ob z⟩
 ·obtain⟨m,hn,hl⟩:=I.loc;refine⟨m,sm.ns hn,λi y v h1 h2 h3=>?_⟩;obtain⟨u,r,l⟩:=hl i y v h1 h2 h3;refine⟨u,r,?_⟩;rcases l with l|⟨k,c,e,z⟩
  ·exact .inl l
  ·exact .inr ⟨k,c,e,cellk c _ z⟩
 ·obtain⟨v,z⟩:=I.cell y c e;exact⟨v,cellk c v z⟩
 ·obtain⟨z1,z2,z3,z4,z5⟩:=I.pin p hp;obtain⟨ob,z⟩:=cp p hp;exact⟨same p.1 ob p.2 z z1,z2,z3,z4,z5⟩
 ·refine (I.hok b o e).stay (λc u hc q=>?_) (λ_ q=>q) λ_ _ q=>q;rcases hc with z|z
  ·obtain⟨ob,zz⟩:=c2 b o e;rw[z] at q ⊢;exact same b ob u zz q
  ·obtain⟨ob,zz⟩:=c2 c _ z;exact same c ob u zz q
theorem Inv.caught {x C:Addr}{B:Heap}(I:Inv X j8 σ H s) (jP:X.stack=X.env::X.outer) (hfr:X.env.frame=some X.env.locals) (hx:H x=none) (FW:Over B X.stack x (.ref C) .none s.heap)
  (c0:∀b o,X.s₀.heap.get? b=some o->b∉frs X.stack->∃ob,B.get? b=some ob) (cp:∀p∈X.pn++j8,∃ob,B.get? p.1=some ob):Inv X j8 σ (upd H x (.ext (ExcAt x C))) s:=by
 obtain⟨fB,fx,fF,oe,vs,T,oT,ts,he,hcls,hd,_,hv2,_⟩:=FW;have nfr:x∉frs X.stack:=λhm=>by
  obtain⟨_,o,e,d⟩:=fF.mem hm;rw[he] at e;cases e;exact d vs hd
 have nl:X.env.locals≠x:=λz=>nfr (by
  rw[jP];show x∈(X.env::X.outer).filterMap (·.frame);rw[Yl,hfr,z];exact ZB)
 have ns₀:∀b o,X.s₀.heap.get? b=some o->b≠x:=λb o e z=>by
  subst z;obtain⟨ob,q⟩:=c0 b o e nfr;rw[fx] at q;cases q
 refine⟨I.ok,I.os,I.bare,⟨I.base.keep,I.base.slot,λb o e n hx'=>?_,I.base.there,λb xs e=>?_,λb o u e=>?_,λb ps e=>?_⟩,I.loc,I.cell,?_,λy c e=>?_,λp hp=>?_,λb o e=>?_,I.len⟩
 ·rw[qb1 (ns₀ b o e)];exact I.base.free b o e n hx'
 ·have z:=I.base.tups b xs e;rw[qb1 (qa5 z hx)];exact z
 ·have z:=I.base.frzs b o u e;rw[qb1 (qa5 z hx)];exact z
 ·obtain⟨m,z⟩:=I.base.tbls b ps e;exact⟨m,by rw[qb1 (qa5 z hx)];exact z⟩
 ·rw[qb1 nl];exact I.free
 ·rw[qb1 (λz=>?_)]
  ·exact I.freeC y c e
  ·obtain⟨v,o,q,d⟩:=I.cell y c e;rw[z,he] at q;cases q;rw[hd] at d;cases d
 ·obtain⟨z1,z2,z3⟩:=I.pin p hp;obtain⟨ob,q⟩:=cp p hp;refine⟨z1,?_,z3⟩;rw[qb1 (λz=>by rw[z,fx] at q;cases q)];exact z2
 ·by_cases hb:b=x
  ·subst hb;rw[qa4] at e;cases e;refine⟨⟨oe,vs,he,hcls,hd,hv2⟩,⟨oe,he⟩,λh1 h2 ⟨ox,vs',q1,q2⟩ k=>⟨ox,vs',k ox q1,q2⟩⟩
  ·rw[qb1 hb] at e;exact (I.hok b o e).stay (λc u _ q=>q) (λc q=>by rw[qb1 (qa5 q hx)];exact q) λc xs q=>by rw[qb1 (qa5 q hx)];exact q
end
section
variable {prog:Program}{w:World}{A:Around}{E:Value->Shared->Prop}{s:Shared}{x C e:Addr}
end
end L2
namespace L2
open PySem PySem.Spec PyProof.Rows
section
variable {X:Cx}{k:Nat}{f xe:Addr}{fd:FuncData}{ps:List Str}{sp:SpH}{x:Str}{p pos:Pos}{e:Expr}{es:List Expr}{t:TA}
end
end L2
namespace L2
open PySem PySem.Spec PyProof.Rows PySem.W
section
variable {X:Cx}
def clsV:V->Option Value
 |.ty n=>some (.type n)
 |.ref a=>some (.ref a)
 |_=>none
theorem xl0 {c:V}{u cv:Value}(r:RelV c u) (e:clsV c=some cv):u=cv:=by
 cases c with
 |ty n=>cases e;exact r
 |ref a=>cases e;exact r
 |_=>cases e
def ExcT (K:Frag) (H:Hp) (x:V) (t:Value):Prop:=∃a C,x=.ref a/\H a=some (.ext (ExcAt a C))/\ExcCls K C/\t=.ref C
theorem qk5:qe3 X (.builtin "isinstance") (λxs H Q=>∃x c t cv b,xs=[x,c]/\clsV c=some cv/\(TyOf X.K H x t\/ExcT X.K H x t)/\kitOne X.K t cv=some b/\Q (.bl b) H):=by
 intro j8 s σ H xs us Q I r h;obtain⟨x,c,t,cv,b,rfl,hc,ht,hk,q⟩:=h;obtain⟨u,u',rfl,rx,rc⟩:=xj4 r;cases xl0 rc hc;rcases ht with ty|⟨a,C,rfl,e,T,rfl⟩
 ·exact qV1 I rx ty hk λtk=>⟨.bl b,H,I.tok _,rfl,q⟩
 ·cases (show u=Value.ref a from rx);have p:ExcAt a C s.heap:=(I.hok a _ e).1;exact kia_one (q94 T) I.kIn p hk (λz=>nomatch z) λtk=>⟨.bl b,H,I.tok _,rfl,q⟩
theorem qn0 {j8:List (Addr×Obj)}{σ:St}{H:Hp}{s s':Shared}{o₁:Obj}{wr:List Addr}(I:Inv X j8 σ H s) (mv:Moved wr (λa b=>b=a) { s with heap:=s.heap.push o₁ } s') (hn:∀b o,s.heap.get? b=some o->b∈wr->False):Inv X j8 σ H s':=by
 obtain⟨h',g',d',t',os'⟩:=s';obtain⟨m1,m2,m3,m4,m5⟩:=mv;cases (show g'=s.gens from m2);cases (show d'=s.drawn from m3);cases (show os'=s.os from m4);exact I.kept (h':=h') (t':=t') λb o e=>m1 b o (λz=>hn b o e z) (Zb _ e)
theorem qn1 (hc:X.calm=true):qe3 X (.builtin "all") (λxs H Q=>∃(p:Addr) (bs:List Bool),xs=[.ref p]/\H p=some (.lst (bs.map V.bl))/\Q (.bl (bs.all id)) H):=by
 intro j8 s σ H xs us Q I r h;obtain⟨p,bs,rfl,hp,q⟩:=h;obtain⟨u,rfl,rx⟩:=qg0 r;cases rx;obtain⟨z,its,n,rv,hl⟩:=I.hok p _ hp;have isl:s.heap.IsList p its.toArray:=⟨_,hl,rfl,_,rfl⟩;have j9:its.length=bs.length:=by have:=rv.length;simpa using this.symm
 have np:p≠s.heap.objs.size:=Zp (Zi hl);refine call_all_walk (Xf isl ?_);refine⟨s.heap.objs.size,_,_,_,_,_,λi=>bs.getD i true,rfl,VD (A:=X.A.in1) (I.ok.hd hc) s.heap.objs.size p np its.toArray,⟨⟨_,Zh _ rfl,rfl,rfl⟩,isl.at λo e=>Zb _ e⟩,?_,?_⟩
 ·intro i v s' Q' E' hv hq;have hv':its[i]?=some v:=by simpa using hv
  have hi:i<bs.length:=by rw[<- j9];exact (gS_ hv').1
  obtain⟨w',e1,e2⟩:=rv.get (x:=V.bl (bs[i])) (i:=i) (by simp[hi]);rw[hv'] at e1;cases e1;cases (show v=Value.bool bs[i] from e2);have eg:bs.getD i true=bs[i]:=by simp[List.getD,hi]
  dsimp only at hq;rw[eg] at hq;exact Ym hq
 ·intro h' tk k;refine⟨.bl (bs.all id),H,I.kept (h':=h') (t':=tk) (λb o e=>k b o (λz=>?_) (Zb _ e)),?_,q⟩
  ·have:b=s.heap.objs.size:=by simpa using z
   exact Yk _ (by rw[this] at e;exact Zi e)
  ·have es:its.toArray.size=bs.length:=by simpa using j9
   rw[es];show Value.bool _=Value.bool _;congr 1;rw[Xi,YK,YK];constructor
   ·intro z b hb;obtain⟨i,hi,e⟩:=ZD.mp hb;have:=z i (Yb.mpr hi);simpa [List.getD,hi,e] using this
   ·intro z i hi;have hi':=Yb.mp hi;have:=z bs[i] (Yr hi');simpa [List.getD,hi'] using this
theorem qD8:qe3 X (.type "int") (λxs H Q=>∃z n,xs=[.str z]/\PySem.intText? z=some n/\z.length<=640/\Q (.int n) H):=by
 intro j8 s σ H xs us Q I r h;obtain⟨z,n,rfl,hn,hz,q⟩:=h;obtain⟨u,rfl,t,rfl⟩:=qg0 r;exact KIN.call_text hn hz ⟨.int n,H,I.tok _,⟨_,rfl⟩,q⟩
theorem qD9 (hc:X.calm=true):qe3 X (.builtin "any") (λxs H Q=>∃(p:Addr) (bs:List Bool),xs=[.ref p]/\H p=some (.lst (bs.map V.bl))/\Q (.bl (bs.any id)) H):=by
 intro j8 s σ H xs us Q I r h;obtain⟨p,bs,rfl,hp,q⟩:=h;obtain⟨u,rfl,rx⟩:=qg0 r;cases rx;obtain⟨z,its,n,rv,hl⟩:=I.hok p _ hp;have isl:s.heap.IsList p its.toArray:=⟨_,hl,rfl,_,rfl⟩;have j9:its.length=bs.length:=by have:=rv.length;simpa using this.symm
 have np:p≠s.heap.objs.size:=Zp (Zi hl);refine call_any_walk (Xf isl ?_);refine⟨s.heap.objs.size,_,_,_,_,_,λi=>bs.getD i true,rfl,VD (A:=X.A.in1) (I.ok.hd hc) s.heap.objs.size p np its.toArray,⟨⟨_,Zh _ rfl,rfl,rfl⟩,isl.at λo e=>Zb _ e⟩,?_,?_⟩
 ·intro i v s' Q' E' hv hq;have hv':its[i]?=some v:=by simpa using hv
  have hi:i<bs.length:=by rw[<- j9];exact (gS_ hv').1
  obtain⟨w',e1,e2⟩:=rv.get (x:=V.bl (bs[i])) (i:=i) (by simp[hi]);rw[hv'] at e1;cases e1;cases (show v=Value.bool bs[i] from e2);have eg:bs.getD i true=bs[i]:=by simp[List.getD,hi]
  dsimp only at hq;rw[eg] at hq;exact Ym hq
 ·intro h' tk k;refine⟨.bl (bs.any id),H,I.kept (h':=h') (t':=tk) (λb o e=>k b o (λz=>?_) (Zb _ e)),?_,q⟩
  ·have:b=s.heap.objs.size:=by simpa using z
   exact Yk _ (by rw[this] at e;exact Zi e)
  ·have es:its.toArray.size=bs.length:=by simpa using j9
   rw[es];show Value.bool _=Value.bool _;congr 1;rw[Xi,Wq,Wq];constructor
   ·rintro⟨i,hi,e⟩;have hi':=Yb.mp hi;refine⟨bs[i],Yr hi',?_⟩;simpa [List.getD,hi'] using e
   ·rintro⟨b,hb,e⟩;obtain⟨i,hi,e2⟩:=ZD.mp hb;refine⟨i,Yb.mpr hi,?_⟩;have:bs.getD i true=bs[i]:=by simp[List.getD,hi]
    rw[this,e2];exact e
def best (ns:List Int):Nat->Int
 |0=>ns.getD 0 0
 |k+1=>if ns.getD (k+1) 0>best ns k then ns.getD (k+1) 0 else best ns k
theorem qy8 (ns:List Int):∀k,ns.getD (argBest (λi j=>decide (ns.getD i 0>ns.getD j 0)) k) 0=best ns k/\argBest (λi j=>decide (ns.getD i 0>ns.getD j 0)) k<=k
 |0=>⟨rfl,Ze _⟩
 |k+1=>by
  obtain⟨h1,h2⟩:=qy8 ns k;unfold argBest best;rw[<- h1];by_cases hc:ns.getD (k+1) 0>ns.getD (argBest (λi j=>decide (ns.getD i 0>ns.getD j 0)) k) 0
  ·rw[Zt (Zv hc),Zt hc];exact⟨rfl,Ze _⟩
  ·rw[Zl (by simpa using hc),Zl hc];exact⟨rfl,VR h2⟩
theorem qZ4 (hc:X.calm=true):qe3 X (.builtin "max") (λxs H Q=>∃(p:Addr) (ns:List Int),xs=[.ref p]/\H p=some (.lst (ns.map V.int))/\ns≠[]/\Q (.int (best ns (ns.length-1))) H):=by
 intro j8 s σ H xs us Q I r h;obtain⟨p,ns,rfl,hp,jK,q⟩:=h;obtain⟨u,rfl,rx⟩:=qg0 r;cases rx;obtain⟨z,its,n,rv,hl⟩:=I.hok p _ hp;have isl:s.heap.IsList p its.toArray:=⟨_,hl,rfl,_,rfl⟩;have j9:its.length=ns.length:=by have:=rv.length;simpa using this.symm
 have np:p≠s.heap.objs.size:=Zp (Zi hl);have es:its.toArray.size=ns.length:=by simpa using j9
 have pos:0<ns.length:=Vp.mpr jK;have item:∀(i:Nat) (v:Value),its.toArray[i]?=some v->∃t,v=.int (ns.getD i 0) t:=λi v hv=>by
  have hv':its[i]?=some v:=by simpa using hv
  have hi:i<ns.length:=by rw[<- j9];exact (gS_ hv').1
  obtain⟨w',e1,t,e2⟩:=rv.get (x:=V.int (ns[i])) (i:=i) (by simp[hi]);rw[hv'] at e1;cases e1;exact⟨t,by rw[e2];simp[List.getD,hi]⟩
 refine call_max_walkS (Xf isl ?_);refine⟨s.heap.objs.size,_,_,_,_,_,_,λi j=>decide (ns.getD i 0>ns.getD j 0),rfl,(VD (A:=X.A.in1) (I.ok.hd hc) s.heap.objs.size p np its.toArray).toS,⟨⟨_,Zh _ rfl,rfl,rfl⟩,isl.at λo e=>Zb _ e⟩,?_,by rw[es];exact pos,?_,?_⟩
 ·intro b hb;rw[ZS];rcases Zn.mp hb with rfl|hb
  ·exact Yq _
  ·have:b=p:=by simpa using hb
   subst this;exact ZZ (Zi hl)
 ·intro i j vi vj s' Q' E' hi hj hq;obtain⟨t,rfl⟩:=item i vi hi;obtain⟨t',rfl⟩:=item j vj hj;exact gt_int hq
 ·intro v s' hv mv;rw[es] at hv;obtain⟨t,rfl⟩:=item _ v hv;rw[(qy8 ns (ns.length-1)).1];refine⟨.int _,H,qn0 I mv (λb o e hb=>?_),⟨t,rfl⟩,q⟩;have:b=s.heap.objs.size:=by simpa using hb
  exact Yk _ (by rw[this] at e;exact Zi e)
theorem xA8 {P:Program}{w:World}{k:Key}{v:Value}(h:(qd6 P w).is k v=true):RelV (kV k) v:=by
 rcases qd0 (show qH9 k v=true from h) with ⟨i,t,rfl,rfl⟩|⟨x,t,rfl,rfl⟩
 ·exact⟨t,rfl⟩
 ·exact⟨t,rfl⟩
theorem qy9:∀{xs:List V}{us:List Value},xs.length=us.length->(∀(i:Nat) x v,xs[i]?=some x->us[i]?=some v->RelV x v)->Vals xs us
 |[],[],_,_=>.nil
 |[],_::_,h,_=>by simp at h
 |_::_,[],h,_=>by simp at h
 |x::xs,u::us,h,f=>.cons (f 0 x u rfl rfl) (qy9 (by simpa using h) λi y v hy hv=>f (i+1) y v (by simpa using hy) (by simpa using hv))
theorem qR2 (hc:X.calm=true):qe3 X (.type "list") (λxs H Q=>∃(d:Addr) (kvs:List (Key×V)),xs=[.ref d]/\H d=some (.dK kvs)/\∀l,H l=none->Q (.ref l) (upd H l (.lst (kvs.map λkv=>kV kv.1)))):=by
 intro j8 s σ H xs us Q I r h;obtain⟨d,kvs,rfl,hd,q⟩:=h;obtain⟨u,rfl,ru⟩:=qg0 r;cases ru;obtain⟨z,lo,vs,rel,dd⟩:=xs9 I.hok hd;obtain⟨ep,hat⟩:=dd.dictAt;have hl:=rel.length;refine kdl_call (kdl_dict (knd:=qd6 X.prog X.w) (kvs:=vs) (ep:=ep) lo) (I.ok.hd hc) hat (by rw[<- hl];exact z) λh' tk acc c kp ho jL=>?_;refine⟨.ref s.heap.objs.size,_,I.laid (a:=s.heap.objs.size) (o:=.lst (kvs.map λkv=>kV kv.1)) (t':=tk) kp (Ze _) ⟨by simpa using z,acc.toList,c,?_,by simpa using ho⟩,rfl,q _ I.fresh⟩;refine qy9 (by simp[hl,jL.1]) λi x v hx hv=>?_;rw[Zg] at hx;obtain⟨kv,hkv,rfl⟩:=Zj.mp hx;obtain⟨k,y,hk,his⟩:=jL.2 i v (by simpa using hv);have e1:vs[i]?=some (k,y):=hk;have e2:kv.1=k:=by
  have z1:(kvs.map (·.1))[i]?=some kv.1:=by rw[Zg,hkv];rfl
  have z2:(vs.map (·.1))[i]?=some k:=by rw[Zg,e1];rfl
  rw[rel.keys] at z1;rw[z1] at z2;exact ZM z2
 rw[e2];exact xA8 his
theorem qE0:qe3 X (.type "range") (λxs H Q=>∃n:Int,xs=[.int n]/\∀r,H r=none->Q (.ref r) (upd H r (.rng 0 n))):=by
 intro j8 s σ H xs us Q I r h;obtain⟨n,rfl,q⟩:=h;obtain⟨u,rfl,t,rfl⟩:=qg0 r;exact call_range_1 ⟨.ref s.heap.objs.size,_,I.laid (a:=s.heap.objs.size) (o:=.rng 0 n) (λb o e=>Zb _ e) (Ze _) ⟨_,_,_,Zh _ rfl⟩,rfl,q _ I.fresh⟩
theorem qR3 (hc:X.calm=true):qe3 X (.type "list") (λxs H Q=>∃(r:Addr) (n:Nat),xs=[.ref r]/\H r=some (.rng 0 (n:Int))/\n<=1000000/\∀l,H l=none->Q (.ref l) (upd H l (.lst ((List.range n).map λ(i:Nat)=>V.int (i:Int))))):=by
 intro j8 s σ H xs us Q I rv h;obtain⟨r,n,rfl,hr,hn,q⟩:=h;obtain⟨u,rfl,ru⟩:=qg0 rv;cases ru;obtain⟨t,u,v,ho⟩:=I.hok r _ hr;refine call_list_range (a:=0) (b:=n) (c:=1) (n:=n) (I.ok.hd hc) ho (small_one (by lia) (by lia) (by lia) (by lia)) (by rw[rangeSize_one];split<;>lia) (by lia) λh' tk acc c kp ho' jL=>?_;refine⟨.ref s.heap.objs.size,_,I.laid (a:=s.heap.objs.size) (o:=.lst ((List.range n).map λ(i:Nat)=>V.int (i:Int))) (t':=tk) kp (Ze _) ⟨?_,acc.toList,c,?_,by simpa using ho'⟩,rfl,q _ I.fresh⟩
 ·rw[Zf,YA,Wg];lia
 ·refine qy9 (by simp[jL.1]) λi x v hx hv=>?_;rw[Zg] at hx;obtain⟨j,hj,rfl⟩:=Zj.mp hx;have e:j=i:=by
   obtain⟨_,e⟩:=gS_ hj;simpa using e.symm
  subst e;obtain⟨t',rfl⟩:=jL.2 j v (by simpa using hv);exact⟨t',by simp⟩
end
namespace TupMul
theorem noFill:fillsNumberSlot (.type "tuple") "mul" = pure false:=
 PySem.fillsNumberSlot_seq (id:= "tuple.__mul__") (r:=some (.builtin "tuple.__rmul__")) F.slot_tuple_mul.lookup (by decide +kernel) F.slot_tuple_rmul.lookup (by decide +kernel)
theorem rep:seqRepeat? (.type "tuple")=pure (some (.builtin "tuple.__mul__")):=by
 unfold seqRepeat?
 rw[PySem.seqSlot_of (T:= "tuple") (name:= "__mul__") (id:= "tuple.__mul__") F.slot_tuple_mul.lookup (by decide +kernel),PySem.seqSlot_of (T:= "tuple") (name:= "__rmul__") (id:= "tuple.__rmul__") F.slot_tuple_rmul.lookup (by decide +kernel)]
 rfl
theorem declines (a:Int) (t:Tok) (l:Addr) (items:Array Value) (n:Nat) (dct:Option Addr) (sl:Array (Option Value)) :
  Meets (Builtin.«int.__rmul__» ⟨[.int a t,.ref l],[]⟩) (λ_ R s=>s.heap.get? l=some { cls:=.type "tuple",dict:=dct,data:=.seq items n,slots:=sl }/\R (.ok (.ret Value.notImplemented)) s):=
 .of_wp λprog w A R s h=>by
  obtain⟨hp,g,d,tk,os⟩:=s;obtain⟨hl,h⟩:=h
  wp_walk
  exact⟨_,rfl,h⟩
theorem mul (k:Int) (t:Tok) (l:Addr) (items:Array Value) (n:Nat) (dct:Option Addr) (sl:Array (Option Value)) (h1:1<k) (h2:k<=1000) (hs:items.size=1) :
  Meets (Builtin.«tuple.__mul__» ⟨[.ref l,.int k t],[]⟩) (λ_ R s=>s.heap.get? l=some { cls:=.type "tuple",dict:=dct,data:=.seq items n,slots:=sl } /\
   R (.ok (.ret (.ref s.heap.objs.size))) { s with heap:=s.heap.push { cls:=.type "tuple",data:=.seq ((List.replicate k.toNat items).foldl (·++·) #[]) } }):=
 .of_wp λprog w A R s h=>by
  obtain⟨hp,g,d,tk,os⟩:=s;obtain⟨hl,h⟩:=h;have c1:(decide (k < -2^63)||decide (k>=2^63))=false:=by simp;lia
  have c0:items.isEmpty=false:=by
   cases he:items.isEmpty with
   |false=>rfl
   |true=>rw[Array.isEmpty_iff.mp he] at hs;cases hs
  have c2:(items.isEmpty||k==1)=false:=by rw[c0];simp;lia
  have c3:(decide (k<=0)||items.isEmpty)=false:=by rw[c0];simp;lia
  have c4:¬((items.size:Int)*k>(2^63-1)/8):=by rw[hs];lia
  have c5:Builtin.Tuple.tupleTooMany ((items.size:Int)*k)=false:=by
   rw[hs];show decide (((1:Nat):Int)*k>(sizeLine:Int))=false;rw[Wg];exact Zu (by lia)
  wp_walk
  refine ZP (λz=>by rw[c1] at z;cases z) λ_=>?_
  wp_walk
  refine ZP (λz=>by rw[c2] at z;cases z) λ_=>?_;refine ZP (λz=>by rw[c3] at z;cases z) λ_=>?_;refine ZP (λz=>absurd z c4) λ_=>?_;refine ZP (λz=>by rw[c5] at z;cases z) λ_=>?_
  wp_walk
  refine ZP (λz=>absurd z ?_) λ_=>?_
  ·have f:∀(m:Nat) (acc:Array Value),(List.foldl (λx1 x2=>x1++x2) acc (List.replicate m items)).size=acc.size+m:=λm=>by
    induction m with
    |zero=>intro acc;rfl
    |succ m ih=>
     intro acc;rw[Vq,WB,ih,Array.size_append,hs];lia
   rw[f,Wg];simp;lia
  wp_walk
  exact⟨_,rfl,h⟩
end TupMul
section
variable {X:Cx}
theorem xl1:OpR X (binaryOp .Mult) (λx y H Q=>∃(l:Addr) (k:Int) (v:V),x=.ref l/\y=.int k/\H l=some (.tup [v])/\1<k/\k<=1000/\∀p,H p=none->Q (.ref p) (upd H p (.tup (List.replicate k.toNat v)))):=by
 intro j8 s σ H x y v u Q I rx ry h;obtain⟨l,k,v1,rfl,rfl,hH,h1,h2,q⟩:=h;cases rx;obtain⟨t,rfl⟩:=ry;obtain⟨_,its,r,o,ho,hc,⟨n,hdn⟩,hd⟩:=I.hok l _ hH;obtain⟨oc,od,odt,osl⟩:=o
 replace hc:oc=.type "tuple":=hc
 replace hd:odt=.seq its.toArray n:=hd
 subst hc hd;cases r with
 |cons r1 rr=>
  cases rr;rename_i u1;have hnew:List.foldl (λx1 x2=>x1++x2) #[] (List.replicate k.toNat #[u1])=(List.replicate k.toNat u1).toArray:=by
   have f:∀(m:Nat) (acc:List Value),List.foldl (λx1 x2=>x1++x2) acc.toArray (List.replicate m #[u1])=(acc++List.replicate m u1).toArray:=λm=>by
    induction m with
    |zero=>intro acc;simp
    |succ m ih=>
     intro acc;rw[Vq,WB,show acc.toArray++#[u1]=(acc++[u1]).toArray by simp,ih];simp[Vq]
   have:=f k.toNat [];simpa using this
  refine wpAny_binaryOp_repeat_ref (T:= "tuple") (U:= "int") (by decide) ⟨_,ho,rfl⟩ (λs'=>typeIs_int s' k t) TupMul.noFill F.fills_int_mul F.slot_int_rmul TupMul.rep F.slot_int_index.lookup
   (call_meets F.slot_int_rmul (typeIs_int s k t) F.entry_int_rmul (F.args_int_rmul_2 _ _) (TupMul.declines k t l _ n od osl)
    ⟨ho,rfl,⟨_,ho,rfl⟩,call_meets F.slot_tuple_mul ⟨_,ho,rfl⟩ F.entry_tuple_mul (F.args_tuple_mul_2 _ _) (TupMul.mul k t l _ n od osl h1 h2 rfl) ⟨ho,?_⟩⟩)
  rw[hnew];refine⟨.ref _,_,I.laid (a:=s.heap.objs.size) (o:=.tup (List.replicate k.toNat v1)) (t':=s.toks) (λb o e=>Zb _ e) (Ze _) ⟨?_,List.replicate k.toNat u1,?_,_,Zh _ rfl,rfl,⟨_,rfl⟩,rfl⟩,rfl,q _ I.fresh⟩
  ·rw[W1,Wg];lia
  ·generalize k.toNat=m
   induction m with
   |zero=>exact .nil
   |succ m ih=>exact .cons r1 ih
end
end L2
namespace Qf
abbrev Row:=List Nat
def mx:List Nat->Nat
 |[]=>0
 |a::l=>max a (mx l)
theorem qZ5 {x:Nat}:∀{l:List Nat},x∈l->x<=mx l
 |a::l,h=>by
  rcases Zn.mp h with rfl|h
  ·exact Nat.le_max_left _ _
  ·exact ZG (qZ5 h) (Nat.le_max_right _ _)
theorem xu2 {b:Nat}:∀{l:List Nat},(∀x∈l,x<=b)->mx l<=b
 |[],_=>Zx _
 |a::l,h=>Nat.max_le.mpr ⟨h a ZB,xu2 λx hx=>h x (Zk _ hx)⟩
theorem qM3 {f g:Nat->Nat}{l:List Nat}(h:∀x∈l,f x=g x):mx (l.map f)=mx (l.map g):=by
 rw[Yz h]
def xu3 (p:Nat) (r:Row):Prop:=r.length=4/\∀x∈r,x<p+2
def qd3 (rows:List Row):Prop:=∀p r,rows[p]?=some r->xu3 p r
def xl2 (ds:List Nat) (r:Row):List Nat:=ds++[1+mx (r.map (ds.getD · 0))]
def deps (rows:List Row):List Nat:=rows.foldl xl2 [0,0]
def dp (rows:List Row) (x:Nat):Nat:=(deps rows).getD x 0
theorem qn2 (rows:List Row) (r:Row):deps (rows++[r])=deps rows++[1+mx (r.map (dp rows))]:=by
 unfold deps dp deps;rw[List.foldl_append]
 rfl
theorem qM4 {P:List Row->Prop}(h0:P []) (h1:∀l a,P l->P (l++[a])) (l:List Row):P l:=by
 have:∀m:List Row,P m.reverse:=λm=>by
  induction m with
  |nil=>exact h0
  |cons a m ih=>rw[List.reverse_cons];exact h1 _ _ ih
 have h:=this l.reverse
 rwa [List.reverse_reverse] at h
theorem qn3 (rows:List Row):(deps rows).length=rows.length+2:=by
 induction rows using qM4 with
 |h0=>rfl
 |h1 l a ih=>rw[qn2,ZC,ih,ZC];simp
theorem qR4 {rows:List Row}{r:Row}{x:Nat}(h:x<rows.length+2):dp (rows++[r]) x=dp rows x:=by
 unfold dp;rw[qn2,Zw,Zw,ZF (by rw[qn3];exact h)]
theorem qR5 {rows:List Row}{r:Row}:dp (rows++[r]) (rows.length+2)=1+mx (r.map (dp rows)):=by
 unfold dp;rw[qn2,Zw,ZK (by rw[qn3];exact Ze _),qn3];simp only[V8,List.getElem?_cons_zero,Option.getD_some]
 rfl
theorem qj7 {rows more:List Row}{x:Nat}(h:x<rows.length+2):dp (rows++more) x=dp rows x:=by
 induction more using qM4 with
 |h0=>simp
 |h1 l a ih=>
  rw[<- Ys,qR4 (by simp;lia),ih]
theorem qM5 {rows:List Row}{x:Nat}(h:x<2):dp rows x=0:=by
 have:=qj7 (rows:=[]) (more:=rows) (x:=x) (by simpa using h);rw[List.nil_append] at this;rw[this]
 match x,h with
 |0,_=>rfl
 |1,_=>rfl
theorem qZ6 {rows:List Row}{p:Nat}{r:Row}(hp:rows[p]?=some r):rows=rows.take p++[r]++rows.drop (p+1):=by
 have jB:=(gS_ hp).1;have he:=(gS_ hp).2;rw[<- he,XN jB,Y3]
theorem qz0 {rows:List Row}(ok:qd3 rows){p:Nat}{r:Row}(hp:rows[p]?=some r):dp rows (p+2)=1+mx (r.map (dp rows)):=by
 have jB:=(gS_ hp).1;have hl:(rows.take p).length=p:=by simp;lia
 have e:=qZ6 hp;have h1:dp rows (p+2)=dp (rows.take p++[r]) (p+2):=by
  have:=qj7 (rows:=rows.take p++[r]) (more:=rows.drop (p+1)) (x:=p+2) (by simp;lia);rw[<- e] at this;exact this
 have h2:=qR5 (rows:=rows.take p) (r:=r);rw[hl] at h2;rw[h1,h2];congr 1;refine qM3 λx hx=>?_;have hx2:=(ok p r hp).2 x hx;have:=qj7 (rows:=rows.take p) (more:=[r]++rows.drop (p+1)) (x:=x) (by rw[hl];exact hx2);rw[<- Ys,<- e] at this;exact this.symm
def dfs (rows:List Row):Nat->List Nat->Nat->List Nat
 |0,e,_=>e
 |d+1,e,x=>if x<2\/x-2∈e then e else (rows.getD (x-2) []).foldl (dfs rows d) e++[x-2]
theorem qu0 {f:List Nat->Nat->List Nat}(h:∀e x,∃s,f e x=e++s):∀(l:List Nat) (e:List Nat),∃s,l.foldl f e=e++s
 |[],e=>⟨[],by simp⟩
 |a::l,e=>by
  obtain⟨s,hs⟩:=h e a;obtain⟨s',hs'⟩:=qu0 h l (f e a);exact⟨s++s',by rw[WB,hs',hs,Ys]⟩
theorem qZ7 (rows:List Row):∀(d:Nat) (e:List Nat) (x:Nat),∃s,dfs rows d e x=e++s
 |0,e,x=>⟨[],by simp[dfs]⟩
 |d+1,e,x=>by
  unfold dfs;split
  ·exact⟨[],by simp⟩
  ·obtain⟨s,hs⟩:=qu0 (qZ7 rows d) (rows.getD (x-2) []) e;exact⟨s++[x-2],by rw[hs,Ys]⟩
structure Post (rows:List Row) (e:List Nat):Prop where
 nd:e.Nodup
 lt:∀p∈e,p<rows.length
 ch:∀(i p:Nat),e[i]?=some p->∀q∈rows.getD p [],q<2\/∃j:Nat,j<i/\e[j]?=some (q-2)
theorem qr7 (rows:List Row):Post rows []:=⟨Vz,λp hp=>(nomatch hp),λi p h=>by simp at h⟩
theorem qZ8 {e s:List Nat}{j a:Nat}(h:e[j]?=some a):(e++s)[j]?=some a:=by
 have:=(gS_ h).1;rw[ZF this];exact h
theorem qi3 {rows:List Row}(ok:qd3 rows):∀(d:Nat) (e:List Nat) (x:Nat),Post rows e->x<rows.length+2->dp rows x<=d->Post rows (dfs rows d e x)/\(x<2\/x-2∈dfs rows d e x)
 |0,e,x,pe,hx,hd=>by
  refine⟨pe,?_⟩;by_cases h:x<2
  ·exact .inl h
  ·exfalso;obtain⟨p,rfl⟩:∃p,x=p+2:=⟨x-2,by lia⟩;have hp:rows[p]?=some (rows[p]'(by lia)):=by simp[show p<rows.length by lia]
   rw[qz0 ok hp] at hd;lia
 |d+1,e,x,pe,hx,hd=>by
  unfold dfs;split
  ·rename_i h;exact⟨pe,h⟩
  ·rename_i h;obtain⟨h1,h2⟩:=not_or.mp h;obtain⟨p,rfl⟩:∃p,x=p+2:=⟨x-2,by lia⟩;rw[Nat.add_sub_cancel] at h2 ⊢;have jB:p<rows.length:=by lia
   have hp:rows[p]?=some rows[p]:=by simp[jB]
   have eg:rows.getD p []=rows[p]:=by simp[List.getD,jB]
   rw[eg];have wW:=qz0 ok hp;have rk:=ok p _ hp;have key:∀(l:List Nat) (e0:List Nat),(∀q∈l,q<p+2/\dp rows q<=d)->Post rows e0->Post rows (l.foldl (dfs rows d) e0)/\(∀q∈l,q<2\/q-2∈l.foldl (dfs rows d) e0)/\(∀a∈l.foldl (dfs rows d) e0,a∈e0\/a<p):=λl=>by
    induction l with
    |nil=>exact λe0 _ pe0=>⟨pe0,λq hq=>(nomatch hq),λa ha=>.inl ha⟩
    |cons q l ih=>
     intro e0 hl pe0;obtain⟨hq1,hq2⟩:=hl q ZB;obtain⟨p1,m1⟩:=qi3 ok d e0 q pe0 (by lia) hq2;obtain⟨p2,m2,n2⟩:=ih (dfs rows d e0 q) (λq' hq'=>hl q' (Zk _ hq')) p1;obtain⟨s,hs⟩:=qu0 (qZ7 rows d) l (dfs rows d e0 q);refine⟨p2,λq' hq'=>?_,λa ha=>?_⟩
     ·rcases Zn.mp hq' with rfl|hq'
      ·rcases m1 with z|z
       ·exact .inl z
       ·rw[WB,hs];exact .inr (XD _ z)
      ·exact m2 q' hq'
     ·rcases n2 a ha with z|z
      ·
       have below:∀(d0:Nat) (e1:List Nat) (y:Nat),y<rows.length+2->∀a∈dfs rows d0 e1 y,a∈e1\/a+2<=y:=λd0=>by
        induction d0 with
        |zero=>exact λe1 y _ a ha=>.inl ha
        |succ d0 ihd=>
         intro e1 y hy a ha;unfold dfs at ha;split at ha
         ·exact .inl ha
         ·rename_i hh;obtain⟨hh1,hh2⟩:=not_or.mp hh;rcases Z7.mp ha with ha|ha
          ·have hy2:y-2<rows.length:=by lia
           have eg2:rows.getD (y-2) []=rows[y-2]:=by simp[List.getD,hy2]
           rw[eg2] at ha;have rk2:=ok (y-2) rows[y-2] (by simp[hy2]);have kk:∀(l2:List Nat) (e2:List Nat),(∀q∈l2,q<y-2+2)->∀a∈l2.foldl (dfs rows d0) e2,a∈e2\/a+2<=y:=λl2=>by
            induction l2 with
            |nil=>exact λe2 _ a ha=>.inl ha
            |cons q2 l2 ih2=>
             intro e2 jI a ha;rcases ih2 _ (λq' hq'=>jI q' (Zk _ hq')) a ha with z|z
             ·have hq2:=jI q2 ZB;rcases ihd e2 q2 (by lia) a z with z|z
              ·exact .inl z
              ·exact .inr (by lia)
             ·exact .inr z
           exact kk _ _ rk2.2 a ha
          ·have:a=y-2:=by simpa using ha
           exact .inr (by lia)
       rcases below d e0 q (by lia) a z with z|z
       ·exact .inl z
       ·exact .inr (by lia)
      ·exact .inr z
   obtain⟨k1,k2,k3⟩:=key rows[p] e (λq hq=>⟨rk.2 q hq,by
    have:dp rows q<=mx (rows[p].map (dp rows)):=qZ5 (Yg.mpr ⟨q,hq,rfl⟩);lia⟩) pe
   refine⟨⟨?_,?_,?_⟩,.inr (ZT _ (by simp))⟩
   ·rw[Wc];refine⟨k1.nd,by simp,λa ha b hb=>?_⟩;have:b=p:=by simpa using hb
    subst this;intro z;subst z;rcases k3 a ha with z|z
    ·exact h2 z
    ·exact Yk _ z
   ·intro a ha;rcases Z7.mp ha with ha|ha
    ·exact k1.lt a ha
    ·have:a=p:=by simpa using ha
     lia
   ·intro i a hi q hq;by_cases j9:i<(rows[p].foldl (dfs rows d) e).length
    ·rw[ZF j9] at hi;rcases k1.ch i a hi q hq with z|⟨j,hj,ej⟩
     ·exact .inl z
     ·exact .inr ⟨j,hj,qZ8 ej⟩
    ·rw[ZK (by lia)] at hi;have vP:i-(rows[p].foldl (dfs rows d) e).length=0:=by
      have:=(gS_ hi).1;simp at this;lia
     rw[vP] at hi;have:a=p:=by simpa using hi.symm
     subst this;rw[eg] at hq;rcases k2 q hq with z|z
     ·exact .inl z
     ·obtain⟨j,hj,ej⟩:=ZD.mp z;exact .inr ⟨j,by lia,qZ8 (by simp[hj,ej])⟩
theorem nd_iff {α:Type}{l:List α}:l.Nodup<->∀i j:Nat,i<j->j<l.length->l[i]?≠l[j]?:=by
 unfold List.Nodup;rw[Xy];constructor
 ·intro h i j jX hj z;rw[Zd (by lia),Zd hj] at z;exact h i j (by lia) hj jX (ZM z)
 ·intro h i j hi hj jX z;refine h i j jX hj ?_;rw[Zd hi,Zd hj,z]
theorem qu1 {rows:List Row}{p:Nat}(h:p<rows.length):rows[p]?=some (rows.getD p []):=by
 simp[List.getD,h]
def qE1 (r:Row):Prop:=r=[0,0,0,0]\/r=[1,1,1,1]
instance (r:Row):Decidable (qE1 r):=by unfold qE1;infer_instance
structure Canon (n top:Nat) (rows:List Row):Prop where
 size:n<=12
 rok:qd3 rows
 inn:top<rows.length+2
 deep:dp rows top<=n
 unplain:∀r∈rows,¬qE1 r
 unlike:rows.Nodup
 ends:dfs rows n [] top=List.range rows.length
def ex (q:Nat):Nat:=if q<2 then 1-q else q
theorem xu4 (q:Nat):ex (ex q)=q:=by
 by_cases h:q<2
 ·have:ex q=1-q:=Zt h;rw[this];unfold ex;rw[Zt (by lia)];lia
 ·have:ex q=q:=Zl h;rw[this,this]
theorem xu5 {q b:Nat}(h:q<b+2):ex q<b+2:=by unfold ex;split<;>lia
def exr (rows:List Row):List Row:=rows.map (·.map ex)
theorem xl3 (rows:List Row):exr (exr rows)=rows:=by
 unfold exr;rw[Z3]
 conv=>rhs;rw[<- List.map_id rows]
 refine Yz λr _=>?_;show (r.map ex).map ex=r;rw[Z3]
 conv=>rhs;rw[<- List.map_id r]
 exact Yz λq _=>xu4 q
theorem qM6 (rows:List Row) (p:Nat):(exr rows).getD p []=(rows.getD p []).map ex:=by
 unfold exr;rw[Zw,Zw,Zg];cases rows[p]?<;>rfl
theorem qZ9 {rows:List Row}(ok:qd3 rows):qd3 (exr rows):=by
 intro p r hp;unfold exr at hp;rw[Zg] at hp;obtain⟨r0,h0,rfl⟩:=Zj.mp hp;refine⟨by rw[Zf];exact (ok p r0 h0).1,λx hx=>?_⟩;obtain⟨q,hq,rfl⟩:=Yg.mp hx;exact xu5 ((ok p r0 h0).2 q hq)
theorem xu6 {rows:List Row}(ok:qd3 rows):∀q,q<rows.length+2->dp (exr rows) (ex q)=dp rows q:=by
 intro q
 induction q using Nat.strongRecOn with
 |ind q ih=>
  intro hq;by_cases z:q<2
  ·rw[qM5 z,qM5 (by unfold ex;rw[Zt z];lia)]
  ·have hp:q-2<rows.length:=by lia
   have e1:ex q=q-2+2:=by unfold ex;rw[Zl z];lia
   have jQ:(exr rows)[q-2]?=some ((rows.getD (q-2) []).map ex):=by
    rw[<- qM6];exact qu1 (by simpa [exr] using hp)
   rw[e1,qz0 (qZ9 ok) jQ,Z3];have e2:=qz0 ok (qu1 hp);rw[show q-2+2=q by lia] at e2;rw[e2];congr 1;refine qM3 λx hx=>?_;have hx2:=(ok _ _ (qu1 hp)).2 x hx;exact ih x (by lia) (by lia)
theorem q00 (rows:List Row):∀(d:Nat) (e:List Nat) (x:Nat),dfs (exr rows) d e (ex x)=dfs rows d e x
 |0,_,_=>rfl
 |d+1,e,x=>by
  unfold dfs;by_cases z:x<2
  ·have ez:ex x<2:=by unfold ex;rw[Zt z];lia
   rw[Zt (.inl ez),Zt (.inl z)]
  ·have e1:ex x=x:=by unfold ex;rw[Zl z]
   rw[e1,qM6,List.foldl_map];have:(λ(e:List Nat) (q:Nat)=>dfs (exr rows) d e (ex q))=dfs rows d:=by
    funext e q;exact q00 rows d e q
   rw[this]
theorem q01 {n top:Nat}{rows:List Row}(c:Canon n top rows):Canon n (ex top) (exr rows):=by
 have hl:(exr rows).length=rows.length:=by simp[exr]
 refine⟨c.size,qZ9 c.rok,by rw[hl];exact xu5 c.inn,by rw[xu6 c.rok _ c.inn];exact c.deep,?_,?_,by rw[q00,hl];exact c.ends⟩
 ·intro r hr z;obtain⟨r0,h0,rfl⟩:=Yg.mp hr;refine c.unplain r0 h0 ?_;have back:∀{s:Row},r0.map ex=s->r0=s.map ex:=λ{s} h=>by
   rw[<- h,Z3]
   conv=>lhs;rw[<- List.map_id r0]
   exact Yz λq _=>(xu4 q).symm
  rcases z with z|z
  ·exact .inr (back z)
  ·exact .inl (back z)
 ·have:=c.unlike;rw[nd_iff] at this ⊢;intro i j jX hj h;rw[hl] at hj;refine this i j jX hj ?_;have h2:(exr (exr rows))[i]?=(exr (exr rows))[j]?:=by
   have e:∀k:Nat,(exr (exr rows))[k]?=((exr rows)[k]?).map (List.map ex):=λk=>Zg ..;rw[e,e,h]
  rwa [xl3] at h2
end Qf
namespace L2
open PySem PySem.Spec PyProof.Rows
section
variable {X:Cx}
theorem qr8 {i0:Nat}{x0:Str}{px0 spos:Pos}{nn:List Str}{tg:Expr}{ifs:List Expr}{pos:Pos}{elt iter:Expr}{scope:Scope}{wi:TI}{g:TG}{tt:TT}{te:TE}(T:Env->Sem Bool) (hc:X.calm=true) (hi:PI X tg iter wi)
  (hturn:∀it acc env,compTurn (.ListComp elt [⟨tg,iter,ifs,0⟩] scope pos) 0 it acc env=(standAt iter.pos >>= λ_=>pyNext it >>= λr=>match r with
   |none=>pure (.done .next)
   |some v=>letOwnedTupleGo tg it v >>= λ_=>assign tg env v >>= λ_=>T env >>= λok=>(if ok=true then (eval elt env >>= λx=>call (.builtin "list.append") [acc,x] >>= λ_=>pure ()) else pure ()) >>= λ_=>
     again (.compLoop (.ListComp elt [⟨tg,iter,ifs,0⟩] scope pos) 0 it acc env)))
  (hgt:∀cl C fp s₀ H₀,PG (qb0 X scope cl C nn fp s₀ H₀) tg g)
  (hloc2:∀y (os σ:St) H R,os.length=nn.length->g y (os++σ) H R->g y (os++σ) H λσ' H'=>(∃os':St,os'.length=nn.length/\σ'=os'++σ)/\R σ' H')
  (htt:∀cl C fp s₀ H₀ (j8:List (Addr×Obj)) (s:Shared) (σ:St) (H:Hp) (Q:Bool->Hp->Prop),Inv (qb0 X scope cl C nn fp s₀ H₀) j8 σ H s->tt σ H Q->wpAny (model X.prog X.w) X.A (T (compEnvC scope cl C X.env)) (TP (qb0 X scope cl C nn fp s₀ H₀) j8 σ Q) (λ_ _=>False) s)
  (he:∀cl C fp s₀ H₀,PE (qb0 X scope cl C nn fp s₀ H₀) elt te)
  (jD:scope.kind=.function) (jA:∀y∈scope.names,y.2≠.cell) (jC:∀y∈scope.names,y.2=.local->scope.names.lookup y.1=some .local)
  (jF:∀y∈X.N,scope.names.lookup y≠some .local) (hfr:∀p∈scope.names,p.2=.free->Vis X.env.scope p.1/\X.env.scope.names.lookup p.1≠some .local)
  (hs:∀x,foldedSetIterable iter X.env x=pure x) (hN0:X.N.Nodup) (vP:X.N[i0]?=some x0) (vS:X.env.scope.names.lookup x0=some .local) (wB:swapsWith (.ListComp elt [⟨tg,iter,ifs,0⟩] scope pos) (some (.Name x0 px0)) spos.line X.env=pure true) :
  PS X (.Assign [.Name x0 px0] (.ListComp elt [⟨tg,iter,ifs,0⟩] scope pos) spos) (tAsg (qj6 nn.length wi g tt te) (qd1 i0)):=by
 intro j8 s σ H EE I h;rw[exec_Assign_Name_used _ _ _ _ wB];refine Za (wpAny_standAt (Za ?_));show wpAny _ X.A (do let _ <- comprehension (.ListComp elt [⟨tg,iter,ifs,0⟩] scope pos) scope X.env _ (newList []) false (eval iter X.env) (some (assign (.Name x0 px0) X.env))) _ _ s;obtain⟨cl,hclos,jU,hcl2⟩:=qj5 (scope:=scope) (env:=X.env) (λp hp hk=>by
  obtain⟨hv,hn⟩:=hfr p hp hk;refine I.ok.has p.1 ?_;rcases hv with z|z
  ·exact absurd z hn
  ·exact z)
 refine Za (Yp (wpAny_comprehension_free (use:=some (assign (.Name x0 px0) X.env)) (Q:=λ_ s'=>SP X j8 EE .next s') rfl hs hclos jD jC (thn (hi j8 s σ H _ I h) λv s1 h1=>thn h1 λitv s2 h2=>?_)) (λ_ s' hq=>Zc (Zc hq)) λ_ _ e=>e);obtain⟨it,fp,tn,J,H2,rfl,I2,T',st2,f2,q⟩:=h2;have hD:H2 s2.heap.objs.size=none:=I2.hok.fresh (Ze _);obtain⟨W,⟨m0,w0⟩,turn⟩:=q _ hD;refine ZJ (wpAny_newFunctionEnv jA (by intro y hy;simp at hy) (λh₁ hns₁ hsb₁=>?_) jD);dsimp only at hns₁ hsb₁ ⊢;have I3:Inv X j8 σ (upd H2 s2.heap.objs.size (.lst [])) { s2 with heap:=s2.heap.push { cls:=.type "list",dict:=none,data:=.seq ([]:List Value).toArray } }:=
  I2.laid (t':=s2.toks) (λb u e=>Zb _ e) (Ze _) ⟨Zx _,[],0,.nil,Zh _ rfl⟩
 have fpn:∀b∈fp,b≠s2.heap.objs.size:=λb hb=>by
  obtain⟨o,e,_⟩:=T'.obj 0 s2.heap st2 b hb;exact Zp (Zi e)
 have fplt:∀b∈fp,b<(s2.heap.push { cls:=.type "list",dict:=none,data:=.seq ([]:List Value).toArray }).objs.size:=λb hb=>by
  obtain⟨o,e,_⟩:=T'.obj 0 s2.heap st2 b hb;rw[ZS];exact ZZ (Zi e)
 have f3:∀b∈fp,FpOk X j8 (upd H2 s2.heap.objs.size (.lst [])) b:=λb hb=>⟨by rw[qb1 (fpn b hb)];exact (f2 b hb).1,(f2 b hb).2⟩;generalize hg2:s2.heap.push { cls:=.type "list",dict:=none,data:=.seq ([]:List Value).toArray }=g2 at hns₁ hsb₁ I3 fplt ⊢;have keep:∀b o,g2.get? b=some o->h₁.get? b=some o:=λb o e=>(hsb₁.2 b (Zp (Zi e))).trans (Zb _ e);have J0:=qt9 (nn:=nn) (tk:=s2.toks+([]:List (Str×Value)).length) I3 (C:=g2.objs.size) rfl keep hns₁ f3 fplt jD jA jF jU hcl2 hfr;generalize hY:qb0 X scope cl g2.objs.size nn fp { s2 with heap:=g2 } (upd H2 s2.heap.objs.size (.lst []))=Y at J0;have eY:PE Y elt te:=by rw[<- hY];exact he _ _ _ _ _
 have eG:PG Y tg g:=by rw[<- hY];exact hgt _ _ _ _ _
 have eT:∀(j8:List (Addr×Obj)) (s:Shared) (σ:St) (H:Hp) (Q:Bool->Hp->Prop),Inv Y j8 σ H s->tt σ H Q->wpAny (model Y.prog Y.w) Y.A (T Y.env) (TP Y j8 σ Q) Y.xe s:=by rw[<- hY];exact htt _ _ _ _ _
 have eP:Y.prog=X.prog:=by rw[<- hY];rfl
 have eW:Y.w=X.w:=by rw[<- hY];rfl
 have eK:Y.K=X.K:=by rw[<- hY];rfl
 have eA:Y.A=X.A:=by rw[<- hY];rfl
 have eC:Y.calm=true:=by rw[<- hY];exact hc
 have eE:Y.env=compEnvC scope cl g2.objs.size X.env:=by rw[<- hY];rfl
 have eX:Y.xe=λ_ _=>False:=by rw[<- hY];rfl
 have eN:Y.N=nn++X.N:=by rw[<- hY];rfl
 have eEx:Y.ex=fp:=by rw[<- hY];rfl
 have eFs:Y.fs=frs X.stack:=by rw[<- hY];rfl
 have ePn:Y.pn=[]:=by rw[<- hY];rfl
 have fpY:∀{H':Hp},(∀b∈fp,H' b=none)->∀b∈fp,FpOk Y [] H' b:=λhn b hb=>by
  have g:=f3 b hb;refine⟨hn b hb,?_,?_,.inl (by rw[eEx];exact hb),?_,λp hp=>absurd hp (by rw[ePn];simp)⟩
  ·rw[eE];exact Zp (fplt b hb)
  ·rw[eFs];intro z;rcases Zn.mp (I3.stkSub b z) with z|z
   ·exact g.2.1 z
   ·exact g.2.2.1 z
  ·rw[eE];exact λy c e=>g.2.2.2.2.1 y c (jU y c e)
 have loop:∀s₃:Shared,s₃={ s2 with heap:=h₁,toks:=s2.toks+([]:List (Str×Value)).length } ->
   codeAny (model X.prog X.w) X.A (.compLoop (.ListComp elt [⟨tg,iter,ifs,0⟩] scope pos) 0 (.ref it) (.ref s2.heap.objs.size) (compEnvC scope cl g2.objs.size X.env))
    (compPost (model X.prog X.w) X.A X.xe (some (assign (.Name x0 px0) X.env)) (λ_ s'=>SP X j8 EE .next s') (.ref s2.heap.objs.size) g2.objs.size) s₃:=by
  rintro s₃ rfl;refine qD5 (T (compEnvC scope cl g2.objs.size X.env)) (hturn _ _ _) (λn s'=>∃i xs H' os,os.length=nn.length/\Inv Y [] (os++σ) H' s'/\tn i s'.heap/\(∀b∈fp,H' b=none)/\W i n xs H') ?_ m0
   ⟨0,[],_,nn.map λ_=>none,by simp,J0,T'.keep 0 _ _ st2 (λb hb o e=>keep b o (by rw[<- hg2];exact Zb _ e)),λb hb=>(f3 b hb).1,w0⟩
  rintro n s3 ⟨i,xs,H3,os,vJ,I4,st3,fr3,w3⟩;obtain⟨hDx,hlx,alt⟩:=turn i n xs H3 w3;rcases alt with ⟨stop,qn⟩|⟨go,step⟩
  ·have D1:=T'.done Y eP eW eK eC i [] s3 _ H3 (λ_ _=>False) I4 (fpY fr3) st3 stop;rw[eA] at D1;refine thn D1 λr s4 ⟨hr,I5⟩=>?_;subst hr;obtain⟨m4,kD,_⟩:=id I5.loc;rw[eE] at kD;have hC0:H3 g2.objs.size=none:=by
    have:=I5.free;rw[eE] at this;exact this
   have fC:FpOk X j8 H3 g2.objs.size:=I3.fpOk (Ze _) hC0;rw[<- hY] at I5;have IX:Inv X j8 σ H3 s4:=qD6 I3 rfl f3 I5 (Wd _ _);have kD:s4.heap.Ns g2.objs.size m4:=kD;obtain⟨oC,esC,epC,hoC,rC⟩:=id kD;have IP:=IX.pinned (fp:=[g2.objs.size]) (λb hb=>by
    have:b=g2.objs.size:=by simpa using hb
    subst this;exact fC) (λb hb=>by
    have:b=g2.objs.size:=by simpa using hb
    subst this;exact⟨oC,hoC,λv z=>by rw[rC.1] at z;cases z⟩)
   show wpAny _ X.A (assign (.Name x0 px0) X.env (.ref s2.heap.objs.size)) _ _ s4;refine wpAny_assign_Name (qr1 (v:=.ref s2.heap.objs.size) IP hN0 vP (.inl vS) rfl (λs5 I6=>?_) (.inr vS));have pC:=I6.pin (g2.objs.size,oC) (ZT _ (ZT _ (qh5 (by simp) hoC)));refine⟨m4,kD.at' (λo e=>by rw[hoC] at e;cases e;exact pC.1),λh' sb=>⟨_,H3,?_,qn⟩⟩;exact I6.unpinned.turned (t':=s5.toks) (λb o hb e=>(sb.2 b hb).trans e) fC.1 fC.2.1 fC.2.2.2.1 fC.2.2.2.2.1 fC.2.2.2.2.2
  ·have G1:=T'.item Y eP eW eK eC i [] s3 _ H3 (λ_ _=>False) I4 (fpY fr3) st3 go;rw[eA] at G1;refine thn G1 λr s4 ⟨u,hr,h4⟩=>?_;subst hr;refine thn h4 λ_ s5 ⟨y,H5,I5,r5,y5,st5,fr5⟩=>?_;have I5':=I5.pinned (fpY fr5) (T'.obj _ _ st5);have S1:=eG _ s5 _ H5 y u _ I5' r5 (hloc2 y os σ H5 _ vJ (step y _ y5 os vJ));rw[eP,eW,eA,eE,eX] at S1;refine thn S1 λ_ s6 ⟨σ6,H6,I6,⟨os6,hos6,e6⟩,q6⟩=>?_;subst e6;have S2:=eT _ s6 _ _ _ I6 q6;rw[eP,eW,eA,eE,eX] at S2;refine thn S2 λok s7 ⟨H7,I7,q7⟩=>?_;have back:∀{s9:Shared}{H9:Hp}{m':Nat}{zs:List V},Inv Y ([]++qw8 fp s5.heap) (os6++σ) H9 s9->m'<n->W (i+1) m' zs H9->∃m,m<n/\∃i xs H' os,os.length=nn.length/\Inv Y [] (os++σ) H' s9/\tn i s9.heap/\(∀b∈fp,H' b=none)/\W i m xs H':=λ{s9 H9 m' zs} I9 hm' w9=>by
    have pin:∀b∈fp,∀ob,s5.heap.get? b=some ob->s9.heap.get? b=some ob/\H9 b=none:=λb hb ob e=>by
     have z:=I9.pin (b,ob) (ZT _ (ZT _ (qh5 hb e)));exact⟨z.1,z.2.1⟩
    refine⟨m',hm',i+1,zs,H9,os6,hos6,I9.unpinned,T'.keep _ _ _ st5 (λb hb ob e=>(pin b hb ob e).1),λb hb=>?_,w9⟩;obtain⟨ob,e,_⟩:=T'.obj _ _ st5 b hb;exact (pin b hb ob e).2
   cases ok with
   |true=>
    rw[Zt rfl] at q7;rw[Zt rfl];have S3:=eY _ s7 _ _ _ I7 q7;rw[eP,eW,eA,eE,eX] at S3;refine thn S3 λxv s8 ⟨v8,H8,I8,r8,yN,m',hm',w8⟩=>?_;have S4:=qg2 (X:=Y) _ s8 _ H8 (.ref s2.heap.objs.size) [v8] (.ref s2.heap.objs.size) [xv] (λ_ H9=>H9=upd H8 s2.heap.objs.size (.lst (xs++[v8]))) I8 rfl (.cons r8 .nil) ⟨_,xs,v8,rfl,rfl,yN,hlx,rfl⟩;rw[eP,eW,eA,eX] at S4;refine thn S4 λ_ s9 ⟨v9,H9,I9,_,e9⟩=>?_;subst e9;exact back I9 hm' w8
   |false=>
    rw[Zl Zq] at q7;rw[Zl Zq];obtain⟨m',hm',w8⟩:=q7;exact back I7 hm' w8
 exact codeAny_compStart_list (loop _ rfl) (T'.self _ 0 _ _ _ (T'.keep 0 _ _ st2 (λb hb o e=>keep b o (by rw[<- hg2];exact Zb _ e))) (loop _ rfl))
theorem q02 {i0:Nat}{x0:Str}{px0 spos:Pos}{x:Str}{px pos:Pos}{elt iter:Expr}{scope:Scope}{wi:TI}{te:TE}(N:List Str) (sc:Scope) (kI:X.N=N) (jY:X.env.scope=sc) (hc:X.calm=true) (hN:X.N.Nodup) (vP:X.N[i0]?=some x0) (vS:X.env.scope.names.lookup x0=some .local) (hi:PI X (.Name x px) iter wi)
  (he:∀cl C fp s₀ H₀,PE (qb0 X scope cl C [x] fp s₀ H₀) elt te)
  (jD:scope.kind=.function:=by rfl) (jA:scope.names.all (λy=>y.2 != .cell)=true:=by decide +kernel) (jC:scope.names.all (λy=>y.2 != .local||scope.names.lookup y.1==some .local)=true:=by decide +kernel)
  (hx:scope.names.lookup x=some .local:=by rfl) (jF:N.all (λy=>scope.names.lookup y != some .local)=true:=by decide +kernel)
  (hfr:scope.names.all (λp=>p.2 != .free||(sc.names.lookup p.1==some .cell||sc.names.lookup p.1==some .free))=true:=by decide +kernel)
  (hs:∀x,foldedSetIterable iter X.env x=pure x:=by intro _;rfl) (wB:swapsWith (.ListComp elt [⟨.Name x px,iter,[],0⟩] scope pos) (some (.Name x0 px0)) spos.line X.env=pure true:=by rfl) :
  PS X (.Assign [.Name x0 px0] (.ListComp elt [⟨.Name x px,iter,[],0⟩] scope pos) spos) (tAsg (qj6 1 wi (qd1 0) qJ1 te) (qd1 i0)):=by
 obtain⟨s1,s2,s3,s4⟩:=qe7 kI jY jA jC jF hfr;refine qr8 (nn:=[x]) (λ_=>pure true) hc hi (λit acc env=>qy6 elt _ iter scope pos it acc env) (λcl C fp s₀ H₀=>?_) (λy os σ H R ho h=>loc1 ho h) (λcl C fp s₀ H₀ j8 s σ H Q I h=>Zc ⟨H,I,h⟩) he jD s1 s2 s3 s4 hs hN vP vS wB;have l:(qb0 X scope cl C [x] fp s₀ H₀).env.scope.names.lookup x=some .local:=Yt hx;exact qh2 (i:=0) (YG.mpr ⟨λz=>s3 x z hx,hN⟩) rfl (.inl l) (.inr l)
end
end L2
namespace L2
open PySem PySem.Spec PyProof.Rows PySem.W
section
variable {X:Cx}
def Its (z:Str):It:=⟨λi _=>i<z.cps.size,λi H x H'=>H'=H/\∃c,z.cps[i]?=some c/\x=.str ⟨#[c]⟩,λi _=>z.cps.size<=i⟩
theorem qM7 {P:Program}{w:World}{K:PySem.W.Frag}{x:Str}{px:Pos}(it:Addr) (z:Str) (t:Tok) (kind:String) (hkd:kind = "str_ascii_iterator" \/ kind = "str_iterator")
  (W:∀A:Around,A.handled=none->Walks P w A it [it] [it] z.cps.size (SignAt z) (λi h=>h.IsStrIter it kind z t i)):Turn P w K (.Name x px) (Its z) [it] it (λi h=>i<=z.cps.size/\h.IsStrIter it kind z t i) where
 mem:=by simp
 obj:=λi h st b hb=>by
  have e:b=it:=by simpa using hb
  subst e;obtain⟨_,o,e,c,d⟩:=st;exact⟨o,e,λv q=>by rw[d] at q;cases q⟩
 keep:=λi h h' st k=>⟨st.1,by
  obtain⟨_,o,e,r⟩:=st;exact⟨o,k it (by simp) o e,r⟩⟩
 item:=by
  intro X hP hw hK hc i j8 s σ H E I hf st hg;subst hP hw hK;obtain⟨f0,f1,f2,f3,f4,f5⟩:=hf it (by simp);have hg':i<z.cps.size:=hg;refine (W X.A (I.ok.hd hc)).item i s _ _ hg' st.2 λv h' tk hv st' kk=>?_;obtain⟨c,u,e1,rfl⟩:=hv;have I1:Inv X j8 σ H { s with heap:=h',toks:=tk }:=I.turned (λb o hb e=>kk b o (by simpa using hb) e) f0 f1 f3 f4 f5;exact⟨_,rfl,Zc ⟨.str ⟨#[c]⟩,H,I1,⟨_,rfl⟩,⟨rfl,c,e1,rfl⟩,⟨hg',st'⟩,λb hb=>(hf b hb).1⟩⟩
 done:=by
  intro X hP hw hK hc i j8 s σ H E I hf st hg;subst hP hw hK;obtain⟨f0,f1,f2,f3,f4,f5⟩:=hf it (by simp);have hi:i=z.cps.size:=Uc st.1 hg;subst hi;exact (W X.A (I.ok.hd hc)).done s _ _ st.2 λh' tk kk=>⟨rfl,I.turned (λb o hb e=>kk b o (by simpa using hb) e) f0 f1 f3 f4 f5⟩
 self:=λA i s Q E st h=>by
  rcases hkd with ha|ha
  ·subst ha;exact wpAny_pyIter_striter_ascii st.2 h
  ·subst ha;exact wpAny_pyIter_striter_wide st.2 h
def iStr (te:TE):TI:=λσ H R=>te σ H λx H1=>∃z,x=.str z/\R (Its z) H1
theorem xg4 {e:Expr}{te:TE}{x:Str}{px:Pos}(he:PE X e te):PI X (.Name x px) e (iStr te):=by
 intro j8 s σ H R I h;refine thn (he j8 s σ H _ I h) λv s1 ⟨y,H1,I1,r1,z,ez,q⟩=>?_;subst ez;obtain⟨t,rfl⟩:=r1;have fp:∀b∈[s1.heap.objs.size],FpOk X j8 H1 b:=λb hb=>by
  have e:b=s1.heap.objs.size:=by simpa using hb
  subst e;exact I1.fpOk (Ze _) (I1.hok.fresh (Ze _))
 cases ha:z.cps.all (·<128) with
 |true=>
  refine wpAny_pyIter_ascii ha ?_;exact⟨s1.heap.objs.size,[s1.heap.objs.size],_,_,H1,rfl,I1.kept (t':=s1.toks) (λb o e=>Zb _ e),qM7 _ z t "str_ascii_iterator" (.inl rfl) (λA hA=>Walks.strAscii hA _ z t),⟨Zx _,_,Zh _ rfl,rfl,rfl⟩,fp,q⟩
 |false=>
  refine wpAny_pyIter_wide ha ?_;exact⟨s1.heap.objs.size,[s1.heap.objs.size],_,_,H1,rfl,I1.kept (t':=s1.toks) (λb o e=>Zb _ e),qM7 _ z t "str_iterator" (.inr rfl) (λA hA=>Walks.strWide hA _ z t),⟨Zx _,_,Zh _ rfl,rfl,rfl⟩,fp,q⟩
def Itd (lo:Int) (n:Nat):It:=⟨λi _=>i<n,λi H x H'=>H'=H/\x=.int (lo-i),λi _=>n<=i⟩
theorem q03 {P:Program}{w:World}{K:PySem.W.Frag}{x:Str}{px:Pos}(it:Addr) (lo:Int) (n:Nat):Turn P w K (.Name x px) (Itd lo n) [it] it (λi h=>IsRangeIter h it (lo+(i:Nat)*(-1)) ((n:Int)-(i:Nat)) (-1)) where
 mem:=by simp
 obj:=λi h st b hb=>by
  have e:b=it:=by simpa using hb
  subst e;exact⟨_,st,λv z=>by
   have z':Data.fields _=Data.cell v:=z;cases z'⟩
 keep:=λi h h' st k=>k it (by simp) _ st
 item:=by
  intro X hP hw hK hc i j8 s σ H E I hf st hg;subst hP hw hK;obtain⟨f0,f1,f2,f3,f4,f5⟩:=hf it (by simp);refine (Walks.range (prog:=X.prog) (w:=X.w) (I.ok.hd hc) it lo (-1) n).item i s _ _ hg st λv h' tk hv st' kk=>?_;obtain⟨t,rfl⟩:=hv;have I1:Inv X j8 σ H { s with heap:=h',toks:=tk }:=I.turned (λb o hb e=>kk b o (by simpa using hb) e) f0 f1 f3 f4 f5;refine⟨_,rfl,Zc ⟨.int (lo-i),H,I1,⟨t,?_⟩,⟨rfl,rfl⟩,st',λb hb=>(hf b hb).1⟩⟩;rw[show lo+(i:Int)*(-1)=lo-i by lia]
 done:=by
  intro X hP hw hK hc i j8 s σ H E I hf st hg;subst hP hw hK;obtain⟨f0,f1,f2,f3,f4,f5⟩:=hf it (by simp);exact wpAny_pyNext_range_end (I.ok.hd hc) st (by have:n<=i:=hg;lia) λh' eb=>⟨rfl,I.turned (t':=s.toks) (λb o hb e=>eb b o hb e) f0 f1 f3 f4 f5⟩
 self:=λ_ _ _ _ _ st h=>wpAny_pyIter_rangeiter st h
def xA9 (ta:TA):TI:=λσ H R=>ta σ H λvs H1=>∃i j:Int,vs=[.int i,.int j,.int (-1)]/\(-1000000<=i/\i<=1000000/\-1000000<=j/\j<=1000000)/\R (Itd i (i-j).toNat) H1
theorem ql4 (a b:Int):Builtin.Range.rangeSize a b (-1)=(((a-b).toNat:Nat):Int):=by
 unfold Builtin.Range.rangeSize;rw[Zl (by decide)];by_cases h:a>b
 ·rw[Zt h,show (-(-1:Int))=1 by decide,Int.ediv_one];lia
 ·rw[Zl h];lia
theorem qR6 {a b:Int}(h1:-1000000<=a) (h2:a<=1000000) (h3:-1000000<=b) (h4:b<=1000000):Builtin.Range.small a b (-1)=true:=by
 unfold Builtin.Range.small;rw[ql4];simp only[Builtin.Range.rangeFitsLong,W6,Vj,WS,X1,show ¬((-1:Int)>0) by decide,Z2];lia
theorem xl4 {a b c:Expr}{ta:TA}{p pos px:Pos}{x:Str}(hg:Gl X "range") (hm:X.mg "range" = none) (ha:PA X [a,b,c] ta)
  (hs:starEach [a,b,c] X.env=[(false,eval a X.env),(false,eval b X.env),(false,eval c X.env)]:=by rfl) (yB:starEach [b,c] X.env=[(false,eval b X.env),(false,eval c X.env)]:=by rfl) :
  PI X (.Name x px) (.Call (.Name "range" p) [a,b,c] [] pos) (xA9 ta):=by
 intro j8 s σ H R I h;refine Call_ (qs8 I hg hm boot_range (Xn (thn (ha pos j8 s σ H _ I h) λus s1 ⟨vs,H1,I1,r1,q1⟩=>?_) (by rw[hs,yB]) (by rw[yB];rfl)));obtain⟨i,j,e,⟨b1,b2,b3,b4⟩,q⟩:=q1;subst e;cases r1 with
 |cons r rr=>
  cases rr with
  |cons r' rr=>
   cases rr with
   |cons r'' rr=>
    cases rr;obtain⟨t,rfl⟩:=r;obtain⟨t',rfl⟩:=r';obtain⟨t'',rfl⟩:=r'';refine call_range_3 (by decide) ?_ (Or.inl (PyProof.noPylong_small (by lia)));refine wpAny_pyIter_range (IsRange.new ..) ?_ ?_
    ·exact qR6 b1 b2 b3 b4
    ·have I2:Inv X j8 σ H1 { s1 with heap:=s1.heap.push { cls:=.type "range",data:=.fields #[.int i t,.int j t',.int (-1) t''] } }:=I1.kept (t':=s1.toks) λb o e=>Zb _ e;refine⟨(s1.heap.push { cls:=.type "range",data:=.fields #[.int i t,.int j t',.int (-1) t''] }).objs.size,[(s1.heap.push { cls:=.type "range",data:=.fields #[.int i t,.int j t',.int (-1) t''] }).objs.size],_,_,H1,rfl,
      I2.kept (t':=s1.toks) λb o e=>Zb _ e,q03 _ i (i-j).toNat,?_,λb hb=>?_,q⟩
     ·have e1:i+((0:Nat):Int)*(-1)=i:=by simp
      have e2:(((i-j).toNat:Nat):Int)-((0:Nat):Int)=Builtin.Range.rangeSize i j (-1):=by rw[ql4];simp
      show IsRangeIter _ _ (i+((0:Nat):Int)*(-1)) ((((i-j).toNat:Nat):Int)-((0:Nat):Int)) (-1);rw[e1,e2];exact Zh _ rfl
     ·have e:b=(s1.heap.push { cls:=.type "range",data:=.fields #[.int i t,.int j t',.int (-1) t''] }).objs.size:=by simpa using hb
      subst e;exact I2.fpOk (Ze _) (I2.hok.fresh (Ze _))
def xB0 (te:TE) (g1 g2:TG):TS:=λD σ H=>te σ H λx H1=>g1 x σ H1 λσ2 H2=>g2 x σ2 H2 D.nx
theorem xl5 {t1 t2 e:Expr}{te:TE}{g1 g2:TG}{pos:Pos}(he:PE X e te) (h1:PG X t1 g1) (h2:PG X t2 g2) (hw:swappedStores [t1,t2] e X.env=pure none:=by rfl)
  (h3:(assignEach [t1,t2] X.env).map (·.2)=[assign t1 X.env,assign t2 X.env]:=by rfl):PS X (.Assign [t1,t2] e pos) (xB0 te g1 g2):=by
 intro j8 s σ H D I h;refine wpAny_Assign_two (thn (he j8 s σ H _ I h) λv s1 ⟨x,H1,I1,r1,q1⟩=>?_) h3 hw;refine thn (h1 j8 s1 σ H1 x v _ I1 r1 q1) λ_ s2 ⟨σ2,H2,I2,q2⟩=>?_;exact thn (h2 j8 s2 σ2 H2 x v _ I2 r1 q2) λ_ s3 q=>q
def xu7:TE:=λ_ H Q=>∀p,H p=none->Q (.ref p) (upd H p (.dK []))
theorem q96 {pos:Pos}:PE X (.Dict [] [] pos) xu7:=λj8 s σ H Q I h=>by
 have hb:sysModules<s.heap.objs.size:=WP (by decide) (I.mod.glob.keeps I.bk).lt;exact wpAny_Dict_empty ⟨.ref s.heap.objs.size,_,I.laid (a:=s.heap.objs.size) (o:=.dK []) (t':=s.toks) (λ_ _ q=>Zb _ q) (Ze _) ⟨Zx _,Vn.mpr (XC (Zp hb)),[],.nil,Heap.DictOf.new _⟩,rfl,h _ (I.hok.fresh (Ze _))⟩
end
end L2
namespace L2
open PySem PySem.Spec PyProof.Rows
theorem q97 {wi:TI}{te:TE}:q89 wi te=qj6 1 wi (qd1 0) qJ1 te:=by
 funext σ H Q;unfold q89 qj6;congr 1;funext J H1;refine propext (Y9 λD=>Y9 λ_=>exists_congr λW=>Vk λ_=>Y9 λi=>Y9 λm=>Y9 λxs=>Y9 λH2=>Y9 λ_=>Vk λ_=>Vk λ_=>or_congr_right (Vk λ_=>Y9 λy=>Y9 λH3=>Y9 λ_=>⟨λh os ho=>?_,λh=>?_⟩))
 ·match os,ho with
  |[o],_=>
   unfold qd1 qJ1;dsimp only;rw[Zt rfl];exact h
 ·have z:=h [none] rfl;unfold qd1 qJ1 at z;dsimp only at z;rw[Zt rfl] at z;exact z
section
variable {X:Cx}
theorem qf1 {x:Str}{px pos:Pos}{elt iter:Expr}{scope:Scope}{wi:TI}{te:TE}(N:List Str) (sc:Scope) (kI:X.N=N) (jY:X.env.scope=sc) (hc:X.calm=true) (hN:X.N.Nodup) (hi:PI X (.Name x px) iter wi) (he:∀cl C fp s₀ H₀,PE (qb0 X scope cl C [x] fp s₀ H₀) elt te)
  (jD:scope.kind=.function:=by rfl) (jA:scope.names.all (λy=>y.2 != .cell)=true:=by decide +kernel) (jC:scope.names.all (λy=>y.2 != .local||scope.names.lookup y.1==some .local)=true:=by decide +kernel)
  (hx:scope.names.lookup x=some .local:=by rfl) (jF:N.all (λy=>scope.names.lookup y != some .local)=true:=by decide +kernel)
  (hfr:scope.names.all (λp=>p.2 != .free||(sc.names.lookup p.1==some .cell||sc.names.lookup p.1==some .free))=true:=by decide +kernel)
  (hs:∀x,foldedSetIterable iter X.env x=pure x:=by intro _;rfl):PE X (.ListComp elt [⟨.Name x px,iter,[],0⟩] scope pos) (q89 wi te):=by
 obtain⟨s1,s2,s3,s4⟩:=qe7 kI jY jA jC jF hfr;rw[q97];refine qr6 (nn:=[x]) (λ_=>pure true) hc hi (λit acc env=>qy6 elt _ iter scope pos it acc env) (λcl C fp s₀ H₀=>?_) (λy os σ H R ho h=>loc1 ho h) (λcl C fp s₀ H₀ j8 s σ H Q I h=>Zc ⟨H,I,h⟩) he jD s1 s2 s3 s4 hs;have l:(qb0 X scope cl C [x] fp s₀ H₀).env.scope.names.lookup x=some .local:=Yt hx;exact qh2 (i:=0) (YG.mpr ⟨λz=>s3 x z hx,hN⟩) rfl (.inl l) (.inr l)
end
end L2
namespace L2
open PySem
theorem qc9 {H:Hp}{a b:Addr}{o u:HO}(e:H a=some o) (hn:H b=none):upd H b u a=some o:=by rw[qb1 (qa5 e hn)];exact e
theorem qb2 {H:Hp}{a:Addr}{o:HO}(h:H a=none):Same H (upd H a o):=λb u e=>qc9 e h
def Tups (H H':Hp):Prop:=∀b u,H b=some (.tup u)->H' b=some (.tup u)
theorem Same.tups {H H':Hp}(s:Same H H'):Tups H H':=λb u e=>s b _ e
structure Goes (J:It) (H:Hp) (n:Nat) (item:Nat->V->Hp->Prop):Prop where
 go:∀i H2,i<n->Same H H2->J.go i H2
 yl:∀i H2 y H3,i<n->Same H H2->J.yld i H2 y H3->Same H2 H3/\item i y H3
 st:∀H2,Same H H2->J.stop n H2
theorem qk6 {K:PySem.W.Frag}{H:Hp}{a:Addr}{xs:List V}(ha:H a=some (.tup xs)):Goes (Itt K a) H xs.length (λi y _=>xs[i]?=some y) where
 go:=λi H2 hi s=>⟨xs,xs[i],SqT.of (s _ _ ha),by simp[hi]⟩
 yl:=λi H2 y H3 hi s h=>by
  obtain⟨e,h⟩:=h;subst e;exact⟨Same.refl _,h xs (SqT.of (s _ _ ha))⟩
 st:=λH2 s=>⟨xs,SqT.of (s _ _ ha),Ze _⟩
theorem qg9 {K:PySem.W.Frag}{H:Hp}{a:Addr}{xs:List V}(ha:H a=some (.lst xs)):Goes (Itl K a) H xs.length (λi y _=>xs[i]?=some y) where
 go:=λi H2 hi s=>⟨xs,xs[i],SqL.of (s _ _ ha),by simp[hi]⟩
 yl:=λi H2 y H3 hi s h=>by
  obtain⟨e,h⟩:=h;subst e;exact⟨Same.refl _,h xs (SqL.of (s _ _ ha))⟩
 st:=λH2 s=>⟨xs,SqL.of (s _ _ ha),Ze _⟩
theorem q98 {H:Hp}{n:Nat}:Goes (Itr 0 n) H n (λi y _=>y=.int (i:Int)) where
 go:=λi H2 hi s=>hi
 yl:=λi H2 y H3 hi s h=>by
  obtain⟨e,h⟩:=h;subst e;exact⟨Same.refl _,by rw[h,Int.zero_add]⟩
 st:=λH2 s=>Ze n
theorem q04 {K:PySem.W.Frag}{H:Hp}{a:Addr}{xs:List V}(ha:H a=some (.tup xs)):Goes (Ite K a) H xs.length (λi y H3=>∃p x,y=.ref p/\xs[i]?=some x/\H3 p=some (.tup [.int i,x])) where
 go:=λi H2 hi s=>⟨xs,xs[i],SqT.of (s _ _ ha),by simp[hi]⟩
 yl:=λi H2 y H3 hi s h=>by
  obtain⟨p,x,hp,hx,rfl,rfl⟩:=h;exact⟨qb2 hp,p,x,rfl,hx xs (SqT.of (s _ _ ha)),qa4⟩
 st:=λH2 s=>⟨xs,SqT.of (s _ _ ha),Ze _⟩
theorem qg4 {J:It}{H:Hp}{n:Nat}{item:Nat->V->Hp->Prop}{te:TE}{σ:St}{Fin:Hp->Prop}{D:Addr}(hD:H D=none) (Rel:Nat->V->Hp->Prop) (G:Goes J H n item) (hsz:n<sizeLine)
  (mono:∀i y H1 H2,i<n->Tups H1 H2->Rel i y H1->Rel i y H2)
  (step:∀i x H2,i<n->item i x H2->Same H H2->∀Q':VK,(∀y H3,Same H2 H3->Rel i y H3->Q' y H3)->te (some x::σ) H2 Q')
  (fin:∀ys H2,Same H H2->H2 D=some (.lst ys)->ys.length=n->(∀i y,ys[i]?=some y->Rel i y H2)->Fin H2) :
  ∃W:Nat->Nat->List V->Hp->Prop,(∃m,W 0 m [] (upd H D (.lst []))) /\
   ∀i m xs H2,W i m xs H2->H2 D=some (.lst xs)/\xs.length<sizeLine/\((J.stop i H2/\Fin H2)\/(J.go i H2/\∀y H3,J.yld i H2 y H3 ->
    te (some y::σ) H3 λv H4=>H4 D=some (.lst xs)/\∃m',m'<m/\W (i+1) m' (xs++[v]) (upd H4 D (.lst (xs++[v]))))):=by
 refine⟨λi m ys H2=>i<=n/\m=n-i/\ys.length=i/\H2 D=some (.lst ys)/\Same H H2/\∀j y,ys[j]?=some y->Rel j y H2,⟨n,Zx _,rfl,rfl,qa4,qb2 hD,λj y h=>by simp at h⟩,?_⟩;rintro i m ys H2 ⟨hi,rfl,hl,hd,s2,rel⟩;refine⟨hd,by lia,?_⟩;by_cases he:i=n
 ·subst he;exact .inl ⟨G.st H2 s2,fin ys H2 s2 hd hl rel⟩
 ·refine .inr ⟨G.go i H2 (by lia) s2,λy H3 hy=>?_⟩;obtain⟨s3,it⟩:=G.yl i H2 y H3 (by lia) s2 hy;refine step i y H3 (by lia) it (s2.trans s3) _ λv H4 s4 r4=>?_;have jV:=s4 _ _ (s3 _ _ hd);refine⟨jV,n-(i+1),by lia,by lia,rfl,by rw[ZC,hl];rfl,qa4,?_,?_⟩
  ·intro b o e;rw[qb1 (qa5 e hD)];exact s4 _ _ (s3 _ _ (s2 _ _ e))
  ·have tk:Tups H4 (upd H4 D (.lst (ys++[v]))):=λb u e=>by
    have:b≠D:=λz=>by subst z;rw[jV] at e;cases e
    rw[qb1 this];exact e
   intro j z hz;by_cases hj:j<i
   ·rw[ZF (by lia)] at hz;exact mono j z H4 _ (by lia) tk (mono j z H2 H4 (by lia) (s3.trans s4).tups (rel j z hz))
   ·rw[ZK (by lia)] at hz;have:j-ys.length=0:=by
     have:=(gS_ hz).1;simp at this;lia
    rw[this] at hz;have:z=v:=by simpa using hz.symm
    subst this;have:j=i:=by lia
    subst this;exact mono _ _ H4 _ (by lia) tk r4
theorem qf2 {J:It}{H:Hp}{n k:Nat}{item:Nat->V->Hp->Prop}{g:TG}{tt:TT}{te:TE}{σ:St}{Fin:Hp->Prop}{D:Addr}(hD:H D=none) (yes:Nat->Bool) (val:Nat->V) (G:Goes J H n item) (hsz:n<sizeLine)
  (step:∀i x H2,i<n->item i x H2->Same H H2->∀os:St,os.length=k->∀(Q1:Hp->Prop) (Q2:VK),(yes i=false->∀H3,Same H2 H3->Q1 H3)->(yes i=true->∀H3,Same H2 H3->Q2 (val i) H3) ->
   g x (os++σ) H2 λσ4 H4=>tt σ4 H4 λb H5=>if b=true then te σ4 H5 Q2 else Q1 H5)
  (fin:∀H2,Same H H2->H2 D=some (.lst (((List.range n).filter yes).map val))->Fin H2) :
  ∃W:Nat->Nat->List V->Hp->Prop,(∃m,W 0 m [] (upd H D (.lst []))) /\
   ∀i m xs H2,W i m xs H2->H2 D=some (.lst xs)/\xs.length<sizeLine/\((J.stop i H2/\Fin H2)\/(J.go i H2/\∀y H3,J.yld i H2 y H3->∀os:St,os.length=k ->
    g y (os++σ) H3 λσ4 H4=>tt σ4 H4 λb H5=>if b=true then te σ4 H5 λv H6=>H6 D=some (.lst xs)/\∃m',m'<m/\W (i+1) m' (xs++[v]) (upd H6 D (.lst (xs++[v]))) else ∃m',m'<m/\W (i+1) m' xs H5)):=by
 refine⟨λi m ys H2=>i<=n/\m=n-i/\ys=((List.range i).filter yes).map val/\H2 D=some (.lst ys)/\Same H H2,⟨n,Zx _,rfl,rfl,qa4,qb2 hD⟩,?_⟩;rintro i m ys H2 ⟨hi,rfl,hl,hd,s2⟩;have j9:ys.length<=i:=by
  rw[hl,Zf];exact ZG (Xx _ _) (by simp)
 refine⟨hd,by lia,?_⟩;by_cases he:i=n
 ·subst he;exact .inl ⟨G.st H2 s2,fin H2 s2 (hl▸hd)⟩
 ·refine .inr ⟨G.go i H2 (by lia) s2,λy H3 hy os ho=>?_⟩;obtain⟨s3,it⟩:=G.yl i H2 y H3 (by lia) s2 hy;refine step i y H3 (by lia) it (s2.trans s3) os ho _ _ (λhno H4 s4=>?_) (λhyes H4 s4=>?_)
  ·refine⟨n-(i+1),by lia,by lia,rfl,?_,s4 _ _ (s3 _ _ hd),(s2.trans s3).trans s4⟩;rw[hl,Xl,WI];simp[hno]
  ·have jV:=s4 _ _ (s3 _ _ hd);refine⟨jV,n-(i+1),by lia,by lia,rfl,?_,qa4,λb o e=>?_⟩
   ·rw[hl,Xl,WI];simp[hyes]
   ·rw[qb1 (qa5 e hD)];exact s4 _ _ (s3 _ _ (s2 _ _ e))
theorem ixL {X:Cx}(K:PySem.W.Frag) (h:X.K=K):IxR X (rIxL K):=h▸qf0
theorem ixT {X:Cx}(K:PySem.W.Frag) (h:X.K=K):IxR X (rIxT K):=h▸qc8
theorem tupO {X:Cx}(K:PySem.W.Frag) (h:X.K=K):qe3 X (.type "tuple") (λxs H Q=>∃p ys,xs=[.ref p]/\((SqL K H p ys/\∀l,H l=none->Q (.ref l) (upd H l (.tup ys)))\/(SqT K H p ys/\Q (.ref p) H))):=h▸qy3
theorem piT {X:Cx}{tg l:Expr}{tl:TE}(K:PySem.W.Frag) (h:X.K=K) (hl:PE X l tl):PI X tg l (iTup K tl):=h▸qw7 hl
end L2
namespace Pr
open PySem L2
abbrev qx3:Stmt:=top 11
abbrev qM8:Stmt:=top 12
abbrev q05:Stmt:=top 13
abbrev sEnd:Stmt:=top 14
abbrev qz1:Stmt:=top 15
abbrev q06:Stmt:=top 18
abbrev q07:Stmt:=top 19
abbrev q99:Stmt:=top 20
abbrev qM9:Stmt:=top 21
abbrev qN0:Stmt:=top 22
abbrev qn4:Stmt:=top 23
abbrev qR7:Stmt:=top 24
abbrev qN1:Stmt:=top 25
abbrev qN2:Stmt:=top 26
abbrev qu2:Stmt:=top 28
abbrev sRow:Stmt:=top 29
abbrev q08:Stmt:=top 30
abbrev qr9:Stmt:=top 31
abbrev qE2:Stmt:=top 32
abbrev qE3:Stmt:=top 33
abbrev qu3:Stmt:=top 36
abbrev qs0:Stmt:=top 37
abbrev qN3:Stmt:=top 38
abbrev qz2:Stmt:=top 39
abbrev qn5:Stmt:=top 40
abbrev qn6:Stmt:=top 42
abbrev q09:Stmt:=top 43
abbrev qp1:Stmt:=top 44
abbrev lPot:Stmt:=top 46
abbrev qq5:Stmt:=top 47
abbrev qE4:Stmt:=top 48
abbrev lBox:Stmt:=top 49
abbrev qE5:Stmt:=top 50
abbrev qx4:Stmt:=top 51
abbrev lHas:Stmt:=top 52
abbrev qj8:Stmt:=top 53
abbrev qN4:Stmt:=top 54
abbrev q10:Stmt:=top 55
abbrev xa0:Stmt:=top 56
abbrev q11:Stmt:=top 57
abbrev qn7:Stmt:=top 58
abbrev qu4:Stmt:=top 59
abbrev lDue:Stmt:=top 60
abbrev xa1:Stmt:=top 61
abbrev lLaw:Stmt:=top 62
end Pr
namespace L2
open PySem PySem.Spec PyProof.Rows
theorem qc5 {N P:List Str}{sc:Scope}(a:sc.kind=.function:=by rfl) (b:sc.isCoroutine=false:=by rfl) (c:sc.isGenerator=false:=by rfl) (d:N.Nodup:=by decide +kernel) (e:N.take P.length=P:=by rfl) (f:∀x∈P,sc.names.lookup x=some .local\/sc.names.lookup x=some .cell:=by decide +kernel) (g:∀y∈sc.names,y.2≠.free:=by decide +kernel):FnScope N P sc:=⟨a,b,c,d,e,f,g⟩
section
variable {X:Cx}
theorem psN (i:Nat){x:Str}{e:Expr}{te:TE}{pos pos':Pos}(hN:X.N.Nodup) (he:PE X e te) (hi:X.N[i]?=some x:=by rfl) (hx:Loc X.env.scope x:=by first|left;rfl|right;rfl) (hs:swapsWith e (some (.Name x pos')) pos.line X.env=pure false:=by rfl) (hf:X.fn x=true\/X.env.scope.names.lookup x=some .local:=by first|left;rfl|right;rfl|assumption):PS X (.Assign [.Name x pos'] e pos) (tAsg te (qd1 i)):=xr4 hN hi hx he hs hf
theorem pgN (i:Nat){x:Str}{pos:Pos}(hN:X.N.Nodup) (hi:X.N[i]?=some x:=by rfl) (hx:Loc X.env.scope x:=by first|left;rfl|right;rfl) (hf:X.fn x=true\/X.env.scope.names.lookup x=some .local:=by first|left;rfl|right;rfl|assumption):PG X (.Name x pos) (qd1 i):=qh2 hN hi hx hf
theorem pcN {k:Nat}{f:Addr}{fd:FuncData}{ps:List Str}{sp:Sp}{x:Str}{p pos:Pos}{e:Expr}{es:List Expr}{t:TA}(F:FnOk X.prog X.w X.K X.mg X.base CX0 k f fd ps sp) (hr:Room k X.A) (hm:X.mg x=some (.ref f)) (hk:PySem.W.keepIn X.K (.ref f)=true) (hb:Binds X.K fd ps []) (ha:PA X (e::es) t) (hg:Gl X x:=by rfl) (kJ:(x==("__debug__" : Str))=false:=by decide) (he:starEach (e::es) X.env=(false,eval e X.env)::starEach es X.env:=by rfl) (jJ:(backTo pos (starEach es X.env)).any (·.1)=false:=by rfl) :
  PE X (.Call (.Name x p) (e::es) [] pos) (q86 sp [] E0 t):=qI4 F hr hg hm hk hb .nil xs7 ha kJ he jJ
theorem pxN {r:R2}{a b:Expr}{pos:Pos}{ta tb:TE}(hr:IxR X r) (ha:PE X a ta) (hb:PE X b tb) (hs:qV7 b:=by intro _ _;rfl):PE X (.Subscript a b pos) (tOp r ta tb):=xz8 hr ha hb hs
end
end L2
namespace Pr
open PySem L2 Qf
structure Blt (mg:Str->Option Value):Prop where
 isi:mg "isinstance" = none
 int:mg "int" = none
 bool:mg "bool" = none
 tuple:mg "tuple" = none
 list:mg "list" = none
 set:mg "set" = none
 len:mg "len" = none
 all:mg "all" = none
 any:mg "any" = none
 enum:mg "enumerate" = none
 range:mg "range" = none
 max:mg "max" = none
 min:mg "min" = none
structure Cst (mg:Str->Option Value):Prop where
 first:∃t,mg "FIRST" = some (.int 2 t)
 full:∃t,mg "FULL" = some (.int 1 t)
 great:∃t,mg "GREATEST_SIZE" = some (.int 12 t)
def vN (r:List Nat):List V:=r.map λn:Nat=>V.int (n:Int)
theorem qh6 (r:List Nat):(vN r).length=r.length:=Zf ..
theorem qx5 {r:List Nat}{i:Nat}{x:V}(h:(vN r)[i]?=some x):∃n:Nat,r[i]?=some n/\x=.int (n:Int):=by
 unfold vN at h;rw[Zg] at h;obtain⟨n,h1,h2⟩:=Zj.mp h;exact⟨n,h1,h2.symm⟩
theorem xu8 {r:List Nat}{i n:Nat}(h:r[i]?=some n):(vN r)[i]?=some (.int (n:Int)):=by
 unfold vN;rw[Zg,h];rfl
theorem qE6 {r:List Nat}{i n:Nat}(h:r[i]?=some n):atI (vN r) (i:Int)=some (.int (n:Int)):=qj4 (xu8 h)
theorem qq6 (r:List Nat):vN r=(r.map λn:Nat=>(n:Int)).map V.int:=by unfold vN;rw[Z3];rfl
def RowsAt (H:Hp) (p:Addr) (rows:List Row):Prop:=∃bs:List Addr,H p=some (.tup (bs.map V.ref))/\bs.length=rows.length/\∀(i:Nat) b r,bs[i]?=some b->rows[i]?=some r->H b=some (.tup (vN r))
theorem RowsAt.mono {H H':Hp}{p:Addr}{rows:List Row}(h:RowsAt H p rows) (t:Tups H H'):RowsAt H' p rows:=by
 obtain⟨bs,h1,h2,h3⟩:=h;exact⟨bs,t _ _ h1,h2,λi b r e1 e2=>t _ _ (h3 i b r e1 e2)⟩
theorem RowsAt.same {H H':Hp}{p:Addr}{rows:List Row}(h:RowsAt H p rows) (t:Same H H'):RowsAt H' p rows:=h.mono t.tups
def RowsS (H:Hp) (p:Addr) (rows:List Row):Prop:=∃bs:List Addr,(H p=some (.tup (bs.map V.ref))\/H p=some (.lst (bs.map V.ref)))/\bs.length=rows.length/\∀(i:Nat) b r,bs[i]?=some b->rows[i]?=some r->H b=some (.tup (vN r))
theorem RowsAt.s {H:Hp}{p:Addr}{rows:List Row}(h:RowsAt H p rows):RowsS H p rows:=let ⟨bs,a,b,c⟩:=h;⟨bs,.inl a,b,c⟩
theorem RowsS.same {H H':Hp}{p:Addr}{rows:List Row}(h:RowsS H p rows) (s:Same H H'):RowsS H' p rows:=by
 obtain⟨bs,h1,h2,h3⟩:=h;exact⟨bs,h1.imp (s _ _) (s _ _),h2,λi b r e1 e2=>s _ _ (h3 i b r e1 e2)⟩
def rIxS (K:PySem.W.Frag):R2:=λx y H Q=>rIxL K x y H Q\/rIxT K x y H Q
theorem ixS {X:Cx}(K:PySem.W.Frag) (h:X.K=K):IxR X (rIxS K):=(ixL K h).or (ixT K h)
section
variable {P:Program}{w:World}{K:PySem.W.Frag}{mg:Str->Option Value}{base:Heap}
theorem xl6:FnScope ["thing"] ["thing"] (qa3 qx3):=qc5
def qz3:Sp:=λvs H Q _=>∃i:Int,vs=[.int i]/\Q (.bl true) H
theorem qz4 {f:Addr}{fd:FuncData}(F:Fun K "is_whole" "is_whole" qx3 f fd) (B:Blt mg):FnOk P w K mg base CX0 1 f fd ["thing"] qz3:=by
 refine F.ok xl6 (λvs H Q E h=>?_) (λcdv A outer s H vs Q E hr h=>?_)
 ·obtain⟨i,rfl,_⟩:=h
  rfl
 ·obtain⟨i,rfl,q⟩:=h;refine⟨_,qa8 (qa9 (qi6 (qa6 qk5 (by rfl) B.isi Yv (qa0 (pv 0) (qa0 (qo8 (v:=.ty "int") (by rfl) B.int X8 rfl) qa1)))
   (qm5 (xr2 (qa6 qk5 (by rfl) B.isi Yv (qa0 (pv 0) (qa0 (qo8 (v:=.ty "bool") (by rfl) B.bool PyProof.Rows.boot_bool rfl) qa1))))))),?_⟩
  exact⟨_,rfl,_,_,_,_,true,rfl,rfl,.inl (.int i),rfl,_,rfl,iteT ⟨_,rfl,_,_,_,_,false,rfl,rfl,.inl (.int i),rfl,_,rfl,q⟩⟩
theorem xu9:FnScope ["thing"] ["thing"] (qa3 q06):=qc5
def q12:Sp:=λvs H Q _=>∃n:Nat,vs=[.int n]/\n<=12/\Q (.bl true) H
theorem xl7 {f fW:Addr}{fd fdW:FuncData}(F:Fun K "is_size" "is_size" q06 f fd) (B:Blt mg) (T:Cst mg) (hW:mg "is_whole" = some (.ref fW)) (FW:Fun K "is_whole" "is_whole" qx3 fW fdW) (bW:Binds K fdW ["thing"] []):FnOk P w K mg base CX0 2 f fd ["thing"] q12:=by
 have GW:FnOk P w K mg base CX0 1 fW fdW ["thing"] qz3:=qz4 FW B;obtain⟨tg,hgr⟩:=T.great;refine F.ok xu9 (λvs H Q E h=>?_) (λcdv A outer s H vs Q E hr h=>?_)
 ·obtain⟨x,rfl,_⟩:=h
  rfl
 ·obtain⟨n,rfl,hn,q⟩:=h;refine⟨_,qa8 (qa9 (qi6 (pcN GW hr hW FW.kp bW (qa0 (pv 0) qa1)) (qm5 (qr2 qq9 qq9 qa2 (pv 0) (qd9 (v:=.int 12) (by rfl) hgr ⟨_,rfl⟩))))),?_⟩;refine⟨_,rfl,n,rfl,_,rfl,iteT ⟨_,rfl,_,_,rfl,rfl,_,rfl,?_⟩⟩;have e:decide ((n:Int)<=12)=true:=Zv (by lia);refine ite2 (λ_=>⟨_,_,rfl,rfl,?_⟩) (λh1=>absurd (Zv (Vx n)) h1);show Q (V.bl (decide ((n:Int)<=12))) H;rw[e];exact q
theorem xa2:FnScope ["thing", "many"] ["thing", "many"] (qa3 qu2):=qc5
def qz5:Sp:=λvs H Q _=>∃n m:Nat,vs=[.int n,.int m]/\n<m+2/\Q (.bl true) H
theorem q13 {f fW:Addr}{fd fdW:FuncData}(F:Fun K "is_number" "is_number" qu2 f fd) (B:Blt mg) (T:Cst mg) (hW:mg "is_whole" = some (.ref fW)) (FW:Fun K "is_whole" "is_whole" qx3 fW fdW) (bW:Binds K fdW ["thing"] []):FnOk P w K mg base CX0 2 f fd ["thing", "many"] qz5:=by
 have GW:FnOk P w K mg base CX0 1 fW fdW ["thing"] qz3:=qz4 FW B;obtain⟨tf,hf⟩:=T.first;refine F.ok xa2 (λvs H Q E h=>?_) (λcdv A outer s H vs Q E hr h=>?_)
 ·obtain⟨n,m,rfl,_⟩:=h
  rfl
 ·obtain⟨n,m,rfl,hn,q⟩:=h;refine⟨_,qa8 (qa9 (qi6 (pcN GW hr hW FW.kp bW (qa0 (pv 0) qa1)) (qm5 (qr2 qq9 qj3 qa2 (pv 0) (qa7 qd2 (pv 1) (qd9 (v:=.int 2) (by rfl) hf ⟨_,rfl⟩)))))),?_⟩;refine⟨_,rfl,n,rfl,_,rfl,iteT ⟨_,rfl,_,_,rfl,rfl,_,rfl,?_⟩⟩;have e:decide ((n:Int)<(m:Int)+2)=true:=Zv (by lia);refine ite2 (λ_=>⟨_,rfl,_,_,rfl,rfl,_,_,rfl,rfl,?_⟩) (λh1=>absurd (Zv (Vx n)) h1);show Q (V.bl (decide ((n:Int)<(m:Int)+2))) H;rw[e];exact q
theorem xl8:FnScope ["row"] ["row"] (qa3 qM8):=qc5
def q14:Sp:=λvs H Q _=>∃(b:Addr) (r:Row),vs=[.ref b]/\H b=some (.tup (vN r))/\r.length=4/\∀H',Same H H'->Q (.bl (decide (qE1 r))) H'
theorem q15 {l m:List Nat}(h:(l.map λn:Nat=>(n:Int))=m.map λn:Nat=>(n:Int)):l=m:=by
 induction l generalizing m with
 |nil=>cases m with
  |nil=>rfl
  |cons b m=>simp at h
 |cons a l ih=>cases m with
  |nil=>simp at h
  |cons b m=>
   rw[ZE,ZE] at h;injection h with h1 h2
   rw[ih h2,Int.ofNat.inj h1]
theorem xa3 {f:Addr}{fd:FuncData}(F:Fun K "is_plain" "is_plain" qM8 f fd) (T:Cst mg):FnOk P w K mg base CX0 2 f fd ["row"] q14:=by
 obtain⟨tf,hf⟩:=T.first;refine F.ok xl8 (λvs H Q E h=>?_) (λcdv A outer s H vs Q E hr h=>?_)
 ·obtain⟨b,r,rfl,_⟩:=h
  rfl
 ·obtain⟨b,r,rfl,hb,hl,q⟩:=h;refine⟨_,qa8 (qa9 (qi6 (qe0 qj3 (pxN qc8 (pv 0) qa2) (qd9 (v:=.int 2) (by rfl) hf ⟨_,rfl⟩) (qb4 _))
   (qm5 (qe0 (qY4 hr) (pv 0) (qa7 xl1 (qe1 (qa0 (pxN qc8 (pv 0) qa2) qa1)) qa2) (qb4 _))))),?_⟩
  match r,hl with
  |[x0,x1,x2,x3],_=>
   refine⟨_,rfl,b,_,0,.int x0,rfl,rfl,SqT.of hb,rfl,_,_,rfl,rfl,_,rfl,?_⟩;refine ite2 (λhc=>?_) (λhc=>?_)
   ·have h2:x0<2:=by have:=ZH hc;lia
    refine⟨_,rfl,_,rfl,b,_,0,.int x0,rfl,rfl,SqT.of hb,rfl,(by show 1<=sizeLine;decide),λp hp=>⟨p,4,.int x0,rfl,rfl,qa4,by decide,by decide,λp2 jQ=>?_⟩⟩;have vA:=qc9 (u:=.tup (List.replicate 4 (V.int x0))) (qc9 (u:=.tup [V.int x0]) hb hp) jQ;refine⟨dT [(x0:Int),(x1:Int),(x2:Int),(x3:Int)],dT [(x0:Int),(x0:Int),(x0:Int),(x0:Int)],.tup vA (DatasAt.ints [(x0:Int),(x1:Int),(x2:Int),(x3:Int)]),.tup qa4 (DatasAt.ints [(x0:Int),(x0:Int),(x0:Int),(x0:Int)]),qY5 _,qY5 _,(by show 1<=60;decide),?_⟩;rw[xt7];have e:decide (([(x0:Int),(x1:Int),(x2:Int),(x3:Int)]:List Int)=([(x0:Int),(x0:Int),(x0:Int),(x0:Int)]:List Int))=decide (qE1 [x0,x1,x2,x3]):=by
     congr 1;apply propext;unfold qE1;constructor
     ·intro z;have:[x0,x1,x2,x3]=[x0,x0,x0,x0]:=q15 (l:=[x0,x1,x2,x3]) (m:=[x0,x0,x0,x0]) z;have:x0=0\/x0=1:=by lia
      rcases this with rfl|rfl
      ·exact .inl ‹_›
      ·exact .inr ‹_›
     ·rintro (z|z)<;>(cases z;rfl)
    rw[e];exact q _ ((qb2 hp).trans (qb2 jQ))
   ·have h2:¬x0<2:=λz=>hc (Zv (by lia));have e:decide (qE1 [x0,x1,x2,x3])=false:=Zu (by
     rintro (z|z)<;>(cases z;lia))
    have:=q H (Same.refl H);rw[e] at this;exact this
end
end Pr
namespace Qf
theorem xl9 (l:List Nat) (a:Nat):mx (l++[a])=max (mx l) a:=by
 induction l with
 |nil=>show max a 0=max 0 a;lia
 |cons b l ih=>show max b (mx (l++[a]))=max (max b (mx l)) a;rw[ih];lia
theorem q16 (l:List Nat):∀k,k<l.length->L2.best (l.map λn:Nat=>(n:Int)) k=(mx (l.take (k+1)):Nat)
 |0,h=>by
  cases l with
  |nil=>simp at h
  |cons a l=>show ((a:Nat):Int)=((max a 0:Nat):Int);simp
 |k+1,h=>by
  have ih:=q16 l k (by lia);have e:(l.map λn:Nat=>(n:Int)).getD (k+1) 0=((l[k+1]:Nat):Int):=by simp[List.getD,h]
  have t:l.take (k+1+1)=l.take (k+1)++[l[k+1]]:=by rw[XN h]
  unfold L2.best;rw[e,ih,t,xl9];split<;>lia
theorem xa4 {l:List Nat}(h:l≠[]):L2.best (l.map λn:Nat=>(n:Int)) ((l.map λn:Nat=>(n:Int)).length-1)=(mx l:Nat):=by
 have hl:0<l.length:=Vp.mpr h;rw[Zf,q16 l (l.length-1) (by lia),show l.length-1+1=l.length by lia,W7]
theorem q17 {rows:List Row}{i:Nat}{r:Row}(h:rows[i]?=some r):deps (rows.take (i+1))=deps (rows.take i)++[1+mx (r.map (dp (rows.take i)))]:=by
 have hl:=(gS_ h).1;have he:=(gS_ h).2;rw[<- qn2,<- he,XN hl]
theorem xg5 {rows:List Row}{x:Nat}(h:x<rows.length+2):(deps rows)[x]?=some (dp rows x):=by
 unfold dp;rw[Zw];have:x<(deps rows).length:=by rw[qn3];exact h
 rw[Zd this];rfl
end Qf
namespace Pr
open PySem L2 Qf
theorem qi4 {xs ys:List V}(hl:xs.length=ys.length) (h:∀(i:Nat) x,xs[i]?=some x->ys[i]?=some x):xs=ys:=by
 refine We λi=>?_;cases e:xs[i]? with
 |some x=>exact (h i x e).symm
 |none=>
  have:xs.length<=i:=List.getElem?_eq_none_iff.mp e;exact (Y4 (by lia)).symm
section
variable {P:Program}{w:World}{K:PySem.W.Frag}{mg:Str->Option Value}{base:Heap}
theorem scDeps:FnScope ["rows", "depths", "row"] ["rows"] (qa3 q05):=qc5
def xg6:Sp:=λvs H Q _=>∃(p:Addr) (rows:List Row),vs=[.ref p]/\RowsAt H p rows/\qd3 rows/\rows.length<=900/\∀H' D,Same H H'->H' D=some (.lst (vN (deps rows)))->Q (.ref D) H'
theorem xm0 {f:Addr}{fd:FuncData}(F:Fun K "depths_of" "depths_of" q05 f fd) (B:Blt mg):FnOk P w K mg base CX0 1 f fd ["rows"] xg6:=by
 refine F.ok scDeps (λvs H Q E h=>?_) (λcdv A outer s H vs Q E hr h=>?_)
 ·obtain⟨p,rows,rfl,_⟩:=h
  rfl
 ·obtain⟨p,rows,rfl,hR,ok,hn,q⟩:=h;refine⟨_,qb3 (psN 1 scDeps.nd (qg8 (qa0 qa2 (qa0 qa2 qa1))))
   (qb3 (qq2 Y0 rfl (qw7 (pv 0)) (pgN 2 scDeps.nd)
    (qa8 (qd7 (qV8 Xg Xa Xb qg2 (pv 1) (qa0 (qa7 qd2 qa2 (qa6 (qZ4 rfl) (by rfl) B.max Yo
     (qa0 (qf1 ["rows", "depths", "row"] (qa3 q05) rfl rfl rfl scDeps.nd (qw7 (pv 2)) (λcl C fp s₀ H₀=>pxN (ixL K rfl) (pv 2) (pv 0))) qa1))) qa1)))))
   (qa8 (qa9 (pv 1)))),?_⟩
  refine⟨(by show 2<=sizeLine;decide),λD hD=>?_⟩;obtain⟨bs,hp,j9,jE⟩:=id hR;have kB:=qc9 (u:=.lst [.int 0,.int 0]) hp hD;have jR:(bs.map V.ref).length=rows.length:=by rw[Zf];exact j9
  refine⟨_,rfl,p,rfl,⟨_,SqT.of kB⟩,qI3 (K:=K) (a:=p) (xs:=bs.map V.ref) (λi σ H2=>Same H H2/\H2 D=some (.lst (vN (deps (rows.take i))))/\∃v2,σ=[some (.ref p),some (.ref D),v2])
   ⟨qb2 hD,qa4,none,rfl⟩ (λi σ H2 _ ⟨s2,_⟩=>SqT.of (s2 _ _ hp)) ?_ ?_⟩
  ·rintro i y σ H2 hy ⟨s2,kS,v2,rfl⟩;have hi:i<rows.length:=by rw[<- jR];exact (gS_ hy).1
   rw[Zg] at hy;obtain⟨b,hb,rfl⟩:=Zj.mp hy;have jG:rows[i]?=some rows[i]:=by simp[hi]
   have kM:=s2 _ _ (jE i b rows[i] hb jG);have rk:=ok i _ jG;have tl:(rows.take i).length=i:=by rw[XW];lia
   have v0:∀x,x<i+2->(deps (rows.take i))[x]?=some (dp (rows.take i) x):=λx hx=>xg5 (by rw[tl];exact hx);generalize rows[i]=r at jG kM rk;refine⟨_,rfl,.inl ⟨rfl,_,SqL.of kS⟩,_,rfl,b,rfl,⟨_,SqT.of kM⟩,λD2 vR=>qg4 vR (λj z _=>∃x,r[j]?=some x/\z=.int (dp (rows.take i) x:Nat)) (qk6 (K:=K) kM) (by rw[qh6,rk.1];decide) (λ_ _ _ _ _ _ h=>h) ?_ ?_⟩
   ·intro j x H3 hj hx s3 Q' hq;obtain⟨m,hm,rfl⟩:=qx5 hx;have jB:=rk.2 m (Zz hm);exact⟨_,rfl,_,rfl,D,_,(m:Int),.int (dp (rows.take i) m:Nat),rfl,rfl,SqL.of (s3 _ _ kS),qE6 (v0 m jB),hq _ _ (Same.refl _) ⟨m,hm,rfl⟩⟩
   ·intro ys H3 s3 vQ kE kN;have ey:ys=(r.map (dp (rows.take i))).map (λn:Nat=>V.int (n:Int)):=by
     refine qi4 (by rw[kE,qh6,Zf,Zf]) λj x hx=>?_;obtain⟨m,hm,rfl⟩:=kN j x hx;rw[Zg,Zg,hm];rfl
    have e2:ys=((r.map (dp (rows.take i))).map (λn:Nat=>(n:Int))).map V.int:=ey.trans (qq6 _);have jK:r.map (dp (rows.take i))≠[]:=λz=>by
     have:=Yh List.length z;rw[Zf,rk.1] at this;cases this
    refine⟨D2,(r.map (dp (rows.take i))).map (λn:Nat=>(n:Int)),rfl,e2▸vQ,λz=>jK (List.map_eq_nil_iff.mp z),_,_,rfl,rfl,?_⟩;rw[xa4 jK];have jV:=s3 _ _ kS;refine⟨D,_,_,rfl,rfl,jV,?_,?_⟩
    ·rw[qh6,qn3,tl];exact qd5 (by lia)
    ·have nD:∀b o,H b=some o->b≠D:=λb o e=>qa5 e hD;refine⟨λb o e=>by rw[qb1 (nD b o e)];exact s3 _ _ (s2 _ _ e),?_,_,rfl⟩;rw[qa4,q17 jG];unfold vN;rw[Z9]
     rfl
  ·rintro σ H2 ⟨s2,kS,v2,rfl⟩;refine⟨_,rfl,q H2 D s2 ?_⟩;rw[jR,W7] at kS;exact kS
end
end Pr
namespace Qf
theorem xa5 {rows:List Row}{e:List Nat}(h:Post rows e):e.length<=rows.length:=by
 have:=h.nd.length_le_of_subset (l₂:=List.range rows.length) λp hp=>Yb.mpr (h.lt p hp);simpa using this
theorem qu5 {rows:List Row}(ok:qd3 rows){d p:Nat}{r:Row}(hp:rows[p]?=some r) (hd:dp rows (p+2)<=d+1):∀(l e:List Nat),(∀q∈l,q∈r)->Post rows e->Post rows (l.foldl (dfs rows d) e)
 |[],_,_,pe=>pe
 |q::l,e,hl,pe=>by
  have hq:=hl q ZB;have jB:=(ok p r hp).2 q hq;have jJ:=(gS_ hp).1;have hdq:dp rows q<=d:=by
   have:=qZ5 (Yg.mpr ⟨q,hq,rfl⟩:dp rows q∈r.map (dp rows));have e:=qz0 ok hp;lia
  exact qu5 ok hp hd l _ (λz hz=>hl z (Zk _ hz)) (qi3 ok d e q pe (by lia) hdq).1
theorem qf3 {rows:List Row}(ok:qd3 rows){d p:Nat}{r:Row}(hp:rows[p]?=some r) (hd:dp rows (p+2)<=d+1){q:Nat}(hq:q∈r):q<rows.length+2/\dp rows q<=d:=by
 have jB:=(ok p r hp).2 q hq;have jJ:=(gS_ hp).1;have:=qZ5 (Yg.mpr ⟨q,hq,rfl⟩:dp rows q∈r.map (dp rows));have e:=qz0 ok hp;exact⟨by lia,by lia⟩
theorem qE7 {rows:List Row}(ok:qd3 rows){x:Nat}(hx:x<rows.length+2) (h:dp rows x<=0):x<2:=by
 by_cases z:x<2
 ·exact z
 ·exfalso;have hp:x-2<rows.length:=by lia
  have:=qz0 ok (qu1 hp);rw[show x-2+2=x by lia] at this;lia
end Qf
namespace Pr
open PySem L2 Qf
theorem qj9 {n:Nat}(h:n<=1191000):n<sizeLine:=Y5 h (by decide)
def But (e:Addr) (H H':Hp):Prop:=∀b o,H b=some o->b≠e->H' b=some o
theorem But.refl (e:Addr) (H:Hp):But e H H:=λ_ _ h _=>h
theorem But.trans {e:Addr}{H H1 H2:Hp}(a:But e H H1) (b:But e H1 H2):But e H H2:=λc o h n=>b c o (a c o h n) n
theorem But.upd {e:Addr}{H:Hp}{o:HO}:But e H (upd H e o):=λb u h n=>by rw[qb1 n];exact h
theorem But.of {e:Addr}{H H':Hp}(h:Same H H'):But e H H':=λb o q _=>h b o q
theorem But.tups {e:Addr}{H H':Hp}(h:But e H H'){o:HO}(he:H e=some o) (no:∀u,o≠.tup u):Tups H H':=λb u q=>h b _ q λz=>by
 subst z;rw[q] at he;exact no u (ZM he).symm
def eK (es:List Nat):List (Key×V):=es.map λp:Nat=>(Sum.inl (p:Int),V.bl true)
theorem xg7 (es:List Nat) (p:Nat):(valV (eK es) (Sum.inl (p:Int))).isSome=decide (p∈es):=by
 rw[<- qm7];unfold eK;rw[List.any_map];by_cases h:p∈es
 ·rw[Zv h,Wq];exact⟨p,h,by simp⟩
 ·rw[Zu h,VM];intro q hq;simp only[Function.comp,WS];intro z;have:(q:Int)=p:=Sum.inl.inj z;exact h (by rw[<- Int.ofNat.inj this];exact hq)
theorem xv0 {es:List Nat}{p:Nat}(h:p∉es):putK (eK es) (Sum.inl (p:Int)) (.bl true)=eK (es++[p]):=by
 unfold putK;have:=xg7 es p;rw[<- qm7,Zu h] at this;rw[Zl (by rw[this];decide)];unfold eK;rw[Z9];rfl
section
variable {P:Program}{w:World}{K:PySem.W.Frag}{mg:Str->Option Value}{base:Heap}
theorem scEnd:FnScope ["rows", "number", "ended", "quarter"] ["rows", "number", "ended"] (qa3 sEnd):=qc5
def xv1 (d:Nat):Sp:=λvs H Q _=>∃(p e:Addr) (x:Nat) (rows:List Row) (es:List Nat),vs=[.ref p,.int (x:Nat),.ref e]/\RowsS H p rows/\qd3 rows/\rows.length<=1190900/\x<rows.length+2/\dp rows x<=d/\Post rows es /\
 H e=some (.dK (eK es))/\∀H',But e H H'->H' e=some (.dK (eK (dfs rows d es x)))->Q .non H'
theorem xv2 {f:Addr}{fd:FuncData}(F:Fun K "end_rows" "end_rows" sEnd f fd) (T:Cst mg) (hE:mg "end_rows" = some (.ref f)) (bE:Binds K fd ["rows", "number", "ended"] []):∀d,FnOk P w K mg base CX0 (d+1) f fd ["rows", "number", "ended"] (xv1 d):=by
 obtain⟨tf,hf⟩:=T.first;intro d
 induction d with
 |zero=>
  refine F.ok scEnd (λvs H Q E h=>?_) (λcdv A outer s H vs Q E hr h=>?_)
  ·obtain⟨p,e,x,rows,es,rfl,_⟩:=h
   rfl
  ·obtain⟨p,e,x,rows,es,rfl,hR,ok,hn,hx,hd,pe,he,q⟩:=h;have hu:A.units+3+1<cLine:=by have:=hr.un;exact Y5 (Yx _ _) (show A.units+3+1+199<cLine from by simpa using this)
   have x2:=qE7 ok hx hd;refine⟨_,qb3 (qd8 (qs9 (qb7 qj3 (pv 1) (qd9 (v:=.int 2) (by rfl) hf ⟨_,rfl⟩) (qb4 _)) (ql2 (qT9 (xg0 hu (qa7 qc2 (pv 1) (qd9 (v:=.int 2) (by rfl) hf ⟨_,rfl⟩)) (pv 2))))).pt (qa8 qy2) qb8) qf7,?_⟩;refine⟨_,rfl,_,_,rfl,rfl,_,rfl,?_⟩;rw[Zv (show (x:Int)<2 by lia)];exact iteT (iteT (q H (But.refl e H) he))
 |succ d ih=>
  refine F.ok scEnd (λvs H Q E h=>?_) (λcdv A outer s H vs Q E hr h=>?_)
  ·obtain⟨p,e,x,rows,es,rfl,_⟩:=h
   rfl
  ·obtain⟨p,e,x,rows,es,rfl,hR,ok,hn,hx,hd,pe,he,q⟩:=h;have hu:A.units+3+1<cLine:=by have:=hr.un;exact Y5 (Yx _ (16*(d+1)+199)) (show A.units+3+1+(16*(d+1)+199)<cLine from by
    have h2:A.units+3+16*(d+1)+200<cLine:=this;lia)
   refine⟨_,qb3 (qd8 (qs9 (qb7 qj3 (pv 1) (qd9 (v:=.int 2) (by rfl) hf ⟨_,rfl⟩) (qb4 _)) (ql2 (qT9 (xg0 hu (qa7 qc2 (pv 1) (qd9 (v:=.int 2) (by rfl) hf ⟨_,rfl⟩)) (pv 2))))).pt (qa8 qy2) qb8)
    (qb3 (qq2 Y0 rfl (qw7 (pxN (ixS K rfl) (pv 0) (qa7 qc2 (pv 1) (qd9 (v:=.int 2) (by rfl) hf ⟨_,rfl⟩)))) (pgN 3 scEnd.nd)
     (qa8 (qd7 (pcN ih hr hE F.kp bE (qa0 (pv 0) (qa0 (pv 3) (qa0 (pv 2) qa1)))))))
    (qa8 (qW8 hu (pv 2) (qa7 qc2 (pv 1) (qd9 (v:=.int 2) (by rfl) hf ⟨_,rfl⟩)) qs7 (by rfl)))),?_⟩
   refine⟨_,rfl,_,_,rfl,rfl,_,rfl,?_⟩;unfold dfs at q;refine ite2 (λhc=>?_) (λhc=>?_)
   ·have x2:x<2:=by have:=ZH hc;lia
    rw[Zt (.inl x2)] at q;exact iteT (q H (But.refl e H) he)
   ·have x2:¬x<2:=λz=>hc (Zv (by lia));have ex:(x:Int)-2=((x-2:Nat):Int):=by lia
    have dg:DGet H e (.int ((x:Int)-2)) (valV (eK es) (Sum.inl ((x-2:Nat):Int))):=by rw[ex];exact DGet.k (k:=Sum.inl ((x-2:Nat):Int)) he
    refine⟨_,rfl,_,_,rfl,rfl,_,rfl,e,_,rfl,dg,_,rfl,?_⟩;rw[xg7];refine ite2 (λhm=>?_) (λhm=>?_)
    ·rw[Zt (.inr (ZH hm))] at q;exact q H (But.refl e H) he
    ·have hnm:x-2∉es:=λz=>hm (Zv z);rw[Zl (by rintro (z|z);exact x2 z;exact hnm z)] at q;have jB:x-2<rows.length:=by lia
     have hg:=qu1 jB;generalize rows.getD (x-2) []=r at q hg;obtain⟨bs,hp,j9,jE⟩:=id hR;have hdx:dp rows (x-2+2)<=d+1:=by rw[show x-2+2=x by lia];exact hd
     have hbx:bs[x-2]?=some (bs[x-2]'(by lia)):=by simp[show x-2<bs.length by lia]
     have kM:=jE (x-2) _ r hbx hg;have nbe:∀b∈bs,b≠e:=λb hb z=>by
      obtain⟨j,hj,ej⟩:=ZD.mp hb;have:=jE j b (rows[j]'(by lia)) (by rw[Zd hj,ej]) (Zd (by lia));rw[z,he] at this;cases this
     have npe:p≠e:=λz=>by
      rw[z,he] at hp;rcases hp with hp|hp<;>cases hp
     have hRm:∀H2,But e H H2->RowsS H2 p rows:=λH2 s2=>⟨bs,hp.imp (λh=>s2 _ _ h npe) (λh=>s2 _ _ h npe),j9,λi b r e1 e2=>s2 _ _ (jE i b r e1 e2) (nbe b (Zz e1))⟩;have ixx:∀Q':VK,Q' (.ref (bs[x-2]'(by lia))) H->rIxS K (.ref p) (.int ((x:Int)-2)) H Q':=λQ' hQ=>by
      rcases hp with h|h
      ·exact .inr ⟨p,_,((x-2:Nat):Int),.ref (bs[x-2]'(by lia)),rfl,Yh V.int ex,SqT.of h,qj4 (by rw[Zg,hbx];rfl),hQ⟩
      ·exact .inl ⟨p,_,((x-2:Nat):Int),.ref (bs[x-2]'(by lia)),rfl,Yh V.int ex,SqL.of h,qj4 (by rw[Zg,hbx];rfl),hQ⟩
     refine⟨_,rfl,_,rfl,_,_,rfl,rfl,ixx _ ⟨_,rfl,⟨_,SqT.of kM⟩,
      qI3 (K:=K) (xs:=vN r) (λi σ H2=>But e H H2/\H2 e=some (.dK (eK ((r.take i).foldl (dfs rows d) es)))/\∃v3,σ=[some (.ref p),some (.int (x:Nat)),some (.ref e),v3])
      ⟨But.refl e H,he,none,rfl⟩ (λi σ H2 _ ⟨s2,_⟩=>SqT.of (s2.tups he (λu z=>by cases z) _ _ kM)) ?_ ?_⟩⟩
     ·rintro i y σ H2 hy ⟨s2,vX,v3,rfl⟩;obtain⟨m,hm,rfl⟩:=qx5 hy;have hq:=Zz hm;obtain⟨b1,b2⟩:=qf3 ok hg hdx hq;refine⟨_,rfl,_,rfl,_,rfl,p,e,m,rows,(r.take i).foldl (dfs rows d) es,rfl,hRm H2 s2,ok,hn,b1,b2,qu5 ok hg hdx _ es (λz hz=>List.mem_of_mem_take hz) pe,vX,λH3 s3 he3=>⟨s2.trans s3,?_,_,rfl⟩⟩;have vV:=(gS_ hm).1;have hme:=(gS_ hm).2;rw[<- XN vV,List.foldl_append,hme];exact he3
     ·rintro σ H2 ⟨s2,vX,v3,rfl⟩;rw[qh6,W7] at vX;have pf:=qu5 ok hg hdx r es (λz hz=>hz) pe;have fin:=(qi3 ok (d+1) es x pe hx hd).1;unfold dfs at fin;rw[Zl (by rintro (z|z);exact x2 z;exact hnm z)] at fin;have eg:rows.getD (x-2) []=r:=by
       rw[Zw,hg];rfl
      rw[eg] at fin;have wT:x-2∉r.foldl (dfs rows d) es:=λz=>by
       have:=(Wc.mp fin.nd).2.2 (x-2) z (x-2) (by simp);exact this rfl
      have dq:DPut H2 e (.int ((x:Int)-2)) (.bl true) (upd H2 e (.dK (eK (r.foldl (dfs rows d) es++[x-2])))):=by
       rw[ex,<- xv0 wT];refine DPut.k (k:=Sum.inl ((x-2:Nat):Int)) vX ?_;unfold eK;rw[Zf];exact qj9 (by have:=xa5 pf;lia)
      exact⟨_,rfl,_,rfl,_,_,rfl,rfl,e,_,rfl,dq,q _ (s2.trans But.upd) qa4⟩
theorem scPlaces:FnScope ["rows", "top", "ended"] ["rows", "top"] (qa3 qz1):=qc5
def qz6 (d:Nat):Sp:=λvs H Q _=>∃(p:Addr) (x:Nat) (rows:List Row),vs=[.ref p,.int (x:Nat)]/\RowsS H p rows/\qd3 rows/\rows.length<=1190900/\x<rows.length+2/\dp rows x<=d /\
 ∀H' D,Same H H'->H' D=some (.lst (vN (dfs rows d [] x)))->Q (.ref D) H'
theorem q18 {f fE:Addr}{fd fdE:FuncData}(F:Fun K "places_as_ended" "places_as_ended" qz1 f fd) (B:Blt mg) (T:Cst mg) (hE:mg "end_rows" = some (.ref fE)) (FE:Fun K "end_rows" "end_rows" sEnd fE fdE) (bE:Binds K fdE ["rows", "number", "ended"] []) (d:Nat):FnOk P w K mg base CX0 (d+2) f fd ["rows", "top"] (qz6 d):=by
 have GE:FnOk P w K mg base CX0 (d+1) fE fdE ["rows", "number", "ended"] (xv1 d):=xv2 FE T hE bE d;refine F.ok scPlaces (λvs H Q E h=>?_) (λcdv A outer s H vs Q E hr h=>?_)
 ·obtain⟨p,x,rows,rfl,_⟩:=h
  rfl
 ·obtain⟨p,x,rows,rfl,hR,ok,hn,hx,hd,q⟩:=h;refine⟨_,qb3 (psN 2 scPlaces.nd q96)
   (qb3 (qd7 (pcN GE hr hE FE.kp bE (qa0 (pv 0) (qa0 (pv 1) (qa0 (pv 2) qa1)))))
   (qa8 (qa9 (qc4 (qR2 rfl) (by rfl) B.list PyProof.Rows.boot_list (qa0 (pv 2) qa1))))),?_⟩
  refine λe he=>⟨_,rfl,_,rfl,_,rfl,p,e,x,rows,[],rfl,hR.same (qb2 he),ok,hn,hx,hd,qr7 rows,qa4,λH2 s2 vX=>?_⟩;refine⟨_,rfl,e,_,rfl,vX,λl hl=>q _ l ?_ ?_⟩
  ·intro b o z;have nb:b≠e:=qa5 z he;exact qc9 (s2 b o (qc9 z he) nb) hl
  ·rw[qa4];unfold eK vN;rw[Z3]
   rfl
end
end Pr
namespace Qf
inductive Tr
 |z|o|nd (a b c d:Tr) deriving DecidableEq
namespace Tr
def kids:Tr->List Tr
 |nd a b c d=>[a,b,c,d]
 |_=>[]
def dep:Tr->Nat
 |nd a b c d=>1+mx [dep a,dep b,dep c,dep d]
 |_=>0
def Red:Tr->Prop
 |nd a b c d=>¬(a=z/\b=z/\c=z/\d=z)/\¬(a=o/\b=o/\c=o/\d=o)/\Red a/\Red b/\Red c/\Red d
 |_=>True
def post:Tr->List Tr->List Tr
 |nd a b c d,e=>if nd a b c d∈e then e else post d (post c (post b (post a e)))++[nd a b c d]
 |_,e=>e
def In (L:List Tr) (t:Tr):Prop:=t=z\/t=o\/t∈L
theorem In.app {L s:List Tr}{t:Tr}(h:In L t):In (L++s) t:=h.imp id λh=>h.imp id λh=>XD _ h
structure Ord (L:List Tr):Prop where
 nd:L.Nodup
 ch:∀(i:Nat) t,L[i]?=some t->(∃a b c d,t=.nd a b c d)/\∀s∈kids t,s=z\/s=o\/∃j:Nat,j<i/\L[j]?=some s
theorem ord_nil:Ord []:=⟨Vz,λi t h=>by simp at h⟩
theorem post_ext:∀(t:Tr) (e:List Tr),∃s,post t e=e++s
 |z,e=>⟨[],by simp[post]⟩
 |o,e=>⟨[],by simp[post]⟩
 |nd a b c d,e=>by
  unfold post;split
  ·exact⟨[],by simp⟩
  ·obtain⟨s1,h1⟩:=post_ext a e;obtain⟨s2,h2⟩:=post_ext b (post a e);obtain⟨s3,h3⟩:=post_ext c (post b (post a e));obtain⟨s4,h4⟩:=post_ext d (post c (post b (post a e)));exact⟨s1++s2++s3++s4++[nd a b c d],by rw[h4,h3,h2,h1];simp⟩
theorem In.post {L:List Tr}{t:Tr}(s:Tr) (h:In L t):In (post s L) t:=by
 obtain⟨u,e⟩:=post_ext s L;rw[e];exact h.app
theorem qh0:∀(t:Tr) (e:List Tr) (s:Tr),s∈post t e->s∈e\/sizeOf s<=sizeOf t
 |z,e,s,h=>.inl h
 |o,e,s,h=>.inl h
 |nd a b c d,e,s,h=>by
  unfold post at h;split at h
  ·exact .inl h
  ·have sz:sizeOf (nd a b c d)=1+sizeOf a+sizeOf b+sizeOf c+sizeOf d:=by simp
   rcases Z7.mp h with h|h
   ·rcases qh0 d _ s h with h|h
    ·rcases qh0 c _ s h with h|h
     ·rcases qh0 b _ s h with h|h
      ·rcases qh0 a _ s h with h|h
       ·exact .inl h
       ·exact .inr (by lia)
      ·exact .inr (by lia)
     ·exact .inr (by lia)
    ·exact .inr (by lia)
   ·have:s=nd a b c d:=by simpa using h
    rw[this];exact .inr (Ze _)
theorem not_below {a b c d:Tr}{e:List Tr}(h:nd a b c d∉e):nd a b c d∉post d (post c (post b (post a e))):=λh2=>by
 have sz:sizeOf (nd a b c d)=1+sizeOf a+sizeOf b+sizeOf c+sizeOf d:=by simp
 rcases qh0 d _ _ h2 with h2|h2
 ·rcases qh0 c _ _ h2 with h2|h2
  ·rcases qh0 b _ _ h2 with h2|h2
   ·rcases qh0 a _ _ h2 with h2|h2
    ·exact h h2
    ·lia
   ·lia
  ·lia
 ·lia
theorem post_ord:∀(t:Tr) (e:List Tr),Ord e->Ord (post t e)/\In (post t e) t
 |z,e,h=>⟨h,.inl rfl⟩
 |o,e,h=>⟨h,.inr (.inl rfl)⟩
 |nd a b c d,e,h=>by
  unfold post;split
  ·rename_i hm;exact⟨h,.inr (.inr hm)⟩
  ·rename_i hm;obtain⟨o1,i1⟩:=post_ord a e h;obtain⟨o2,i2⟩:=post_ord b _ o1;obtain⟨o3,i3⟩:=post_ord c _ o2;obtain⟨o4,i4⟩:=post_ord d _ o3;have i1:=((i1.post b).post c).post d;have i2:=(i2.post c).post d;have i3:=i3.post d;have nb:=not_below hm;generalize post d (post c (post b (post a e)))=L at o4 i1 i2 i3 i4 nb;refine⟨⟨?_,?_⟩,.inr (.inr (by simp))⟩
   ·rw[Wc];exact⟨o4.nd,by simp,λx hx y hy e=>nb (by
     have:y=nd a b c d:=by simpa using hy
     rw[<- this,<- e];exact hx)⟩
   ·intro i t ht;by_cases hi:i<L.length
    ·rw[ZF hi] at ht;obtain⟨h1,h2⟩:=o4.ch i t ht;refine⟨h1,λs hs=>(h2 s hs).imp id λh=>h.imp id λ⟨j,hj,e⟩=>⟨j,hj,?_⟩⟩;rw[ZF (by lia)];exact e
    ·have j9:=(gS_ ht).1;rw[ZC] at j9;have wJ:i=L.length:=by simp at j9;lia
     subst wJ;have et:t=nd a b c d:=by simpa using ht.symm
     subst et;refine⟨⟨a,b,c,d,rfl⟩,λs hs=>?_⟩;have jT:In L s:=by
      have:s=a\/s=b\/s=c\/s=d:=by simpa [kids] using hs
      rcases this with rfl|rfl|rfl|rfl<;>assumption
     refine jT.imp id λh=>h.imp id λhm=>?_;obtain⟨j,hj,e⟩:=ZD.mp hm;exact⟨j,hj,by rw[ZF hj,Zd hj,e]⟩
def name (L:List Tr):Tr->Nat
 |z=>0
 |o=>1
 |t=>L.idxOf t+2
def rowsOf (L:List Tr):List Row:=L.map λt=>(kids t).map (name L)
theorem qu6 (L:List Tr) (a b c d:Tr):name L (.nd a b c d)=L.idxOf (.nd a b c d)+2:=rfl
theorem name_at {L:List Tr}(h:Ord L){i:Nat}{t:Tr}(e:L[i]?=some t):name L t=i+2:=by
 obtain⟨⟨a,b,c,d,rfl⟩,_⟩:=h.ch i t e;rw[qu6];congr 1;have hl:=(gS_ e).1;have he:=(gS_ e).2;rw[<- he];exact h.nd.idxOf_getElem i hl
theorem qk0 {L:List Tr}(h:Ord L){t:Tr}(hi:In L t):(t=z/\name L t=0)\/(t=o/\name L t=1)\/∃i:Nat,L[i]?=some t/\name L t=i+2:=by
 rcases hi with rfl|rfl|hm
 ·exact .inl ⟨rfl,rfl⟩
 ·exact .inr (.inl ⟨rfl,rfl⟩)
 ·obtain⟨j,hj,e⟩:=ZD.mp hm;have e':L[j]?=some t:=by rw[Zd hj,e]
  exact .inr (.inr ⟨j,e',name_at h e'⟩)
theorem xa6 {L:List Tr}(h:Ord L){s t:Tr}(hs:In L s) (ht:In L t) (e:name L s=name L t):s=t:=by
 rcases qk0 h hs with ⟨rfl,e1⟩|⟨rfl,e1⟩|⟨i,e0,e1⟩
 ·rcases qk0 h ht with ⟨rfl,e2⟩|⟨rfl,e2⟩|⟨j,e3,e2⟩
  ·rfl
  ·lia
  ·lia
 ·rcases qk0 h ht with ⟨rfl,e2⟩|⟨rfl,e2⟩|⟨j,e3,e2⟩
  ·lia
  ·rfl
  ·lia
 ·rcases qk0 h ht with ⟨rfl,e2⟩|⟨rfl,e2⟩|⟨j,e3,e2⟩
  ·lia
  ·lia
  ·have:i=j:=by lia
   subst this;rw[e0] at e3;exact ZM e3
theorem name_app {L s:List Tr}{t:Tr}(h:In L t) (hz:Ord L):name (L++s) t=name L t:=by
 rcases qk0 hz h with ⟨rfl,_⟩|⟨rfl,_⟩|⟨i,e,_⟩
 ·rfl
 ·rfl
 ·obtain⟨⟨a,b,c,d,rfl⟩,_⟩:=hz.ch i t e;rw[qu6,qu6,List.idxOf_append,Zt (Zz e)]
theorem kid_in {L:List Tr}(h:Ord L){i:Nat}{t s:Tr}(e:L[i]?=some t) (hs:s∈kids t):In L s/\name L s<i+2:=by
 rcases (h.ch i t e).2 s hs with rfl|rfl|⟨j,hj,e2⟩
 ·exact⟨.inl rfl,by show 0<_;lia⟩
 ·exact⟨.inr (.inl rfl),by show 1<_;lia⟩
 ·exact⟨.inr (.inr (Zz e2)),by rw[name_at h e2];lia⟩
theorem rowsOf_len (L:List Tr):(rowsOf L).length=L.length:=by simp[rowsOf]
theorem rowsOf_at {L:List Tr}{i:Nat}{t:Tr}(e:L[i]?=some t):(rowsOf L)[i]?=some ((kids t).map (name L)):=by
 unfold rowsOf;rw[Zg,e];rfl
theorem qp2 {L:List Tr}{i:Nat}{r:Row}(e:(rowsOf L)[i]?=some r):∃t,L[i]?=some t/\r=(kids t).map (name L):=by
 unfold rowsOf at e;rw[Zg] at e;obtain⟨t,h1,h2⟩:=Zj.mp e;exact⟨t,h1,h2.symm⟩
theorem qu7 {L:List Tr}(h:Ord L):qd3 (rowsOf L):=λp r hp=>by
 obtain⟨t,ht,rfl⟩:=qp2 hp;obtain⟨⟨a,b,c,d,rfl⟩,_⟩:=h.ch p t ht;refine⟨rfl,λx hx=>?_⟩;obtain⟨s,hs,rfl⟩:=Yg.mp hx;exact (kid_in h ht hs).2
theorem qk1 {L:List Tr}(h:Ord L):∀{k l:List Tr},(∀s∈k,In L s)->(∀s∈l,In L s)->k.map (name L)=l.map (name L)->k=l
 |[],[],_,_,_=>rfl
 |[],_::_,_,_,e=>by simp at e
 |_::_,[],_,_,e=>by simp at e
 |a::k,b::l,h1,h2,e=>by
  simp only[ZE,Y1] at e;rw[xa6 h (h1 a ZB) (h2 b ZB) e.1,qk1 h (λs hs=>h1 s (Zk _ hs)) (λs hs=>h2 s (Zk _ hs)) e.2]
theorem qN5 {s t:Tr}(hs:∃a b c d,s=.nd a b c d) (ht:∃a b c d,t=.nd a b c d) (e:kids s=kids t):s=t:=by
 obtain⟨a,b,c,d,rfl⟩:=hs;obtain⟨a',b',c',d',rfl⟩:=ht;simpa [kids] using e
theorem qq7 {L:List Tr}(h:Ord L):(rowsOf L).Nodup:=by
 rw[nd_iff];intro i j jX hj e;rw[rowsOf_len] at hj;have ei:L[i]?=some L[i]:=Zd (by lia);have ej:L[j]?=some L[j]:=Zd hj;rw[rowsOf_at ei,rowsOf_at ej] at e;have:=qN5 (h.ch i _ ei).1 (h.ch j _ ej).1 (qk1 h (λs hs=>(kid_in h ei hs).1) (λs hs=>(kid_in h ej hs).1) (ZM e));have h2:=nd_iff.mp h.nd i j jX hj;rw[ei,ej] at h2;exact h2 (by rw[this])
end Tr
open Tr
def tr (rows:List Row):Nat->Nat->Tr
 |0,x=>if x=1 then .o else .z
 |d+1,x=>if x=0 then .z else if x=1 then .o else .nd (tr rows d ((rows.getD (x-2) []).getD 0 0)) (tr rows d ((rows.getD (x-2) []).getD 1 0)) (tr rows d ((rows.getD (x-2) []).getD 2 0)) (tr rows d ((rows.getD (x-2) []).getD 3 0))
theorem qu8 (rows:List Row) (d:Nat):tr rows d 0=.z:=by cases d<;>rfl
theorem qE8 (rows:List Row) (d:Nat):tr rows d 1=.o:=by cases d<;>rfl
theorem qp3 {r:Row}(h:r.length=4):∃a b c d,r=[a,b,c,d]:=by
 match r,h with
 |[a,b,c,d],_=>exact⟨a,b,c,d,rfl⟩
theorem q19 {rows:List Row}{d p a b c e:Nat}(hp:rows[p]?=some [a,b,c,e]):tr rows (d+1) (p+2)=.nd (tr rows d a) (tr rows d b) (tr rows d c) (tr rows d e):=by
 have:rows.getD p []=[a,b,c,e]:=by rw[Zw,hp];rfl
 show (if p+2=0 then _ else if p+2=1 then _ else _)=_;rw[Zl (by lia),Zl (by lia),show p+2-2=p by lia,this]
 rfl
theorem qn8 {rows:List Row}(ok:qd3 rows){x:Nat}(hx:x<rows.length+2) (h:¬x<2):∃p a b c d,x=p+2/\rows[p]?=some [a,b,c,d]:=by
 have hp:x-2<rows.length:=by lia
 have hg:rows[x-2]?=some rows[x-2]:=Zd hp;obtain⟨a,b,c,d,e⟩:=qp3 (ok _ _ hg).1;exact⟨x-2,a,b,c,d,by lia,by rw[hg,e]⟩
theorem qn9 {rows:List Row}(ok:qd3 rows):∀(d d' x:Nat),dp rows x<=d->dp rows x<=d'->x<rows.length+2->tr rows d x=tr rows d' x:=by
 intro d
 induction d with
 |zero=>
  intro d' x h1 h2 hx;have x2:=qE7 ok hx h1
  match x,x2 with
  |0,_=>rw[qu8,qu8]
  |1,_=>rw[qE8,qE8]
 |succ d ih=>
  intro d' x h1 h2 hx;by_cases x2:x<2
  ·match x,x2 with
   |0,_=>rw[qu8,qu8]
   |1,_=>rw[qE8,qE8]
  ·obtain⟨p,a,b,c,e,rfl,hp⟩:=qn8 ok hx x2
   match d',h2 with
   |0,h2=>exact absurd (qE7 ok hx h2) x2
   |d'+1,h2=>
    have q:=λy (hy:y∈[a,b,c,e])=>qf3 ok hp h1 hy;have q':=λy (hy:y∈[a,b,c,e])=>qf3 ok hp h2 hy;rw[q19 hp,q19 hp,ih d' a (q a (by simp)).2 (q' a (by simp)).2 (q a (by simp)).1,ih d' b (q b (by simp)).2 (q' b (by simp)).2 (q b (by simp)).1,ih d' c (q c (by simp)).2 (q' c (by simp)).2 (q c (by simp)).1,ih d' e (q e (by simp)).2 (q' e (by simp)).2 (q e (by simp)).1]
def T (rows:List Row) (x:Nat):Tr:=tr rows (dp rows x) x
theorem qh7 (rows:List Row):T rows 0=.z:=qu8 _ _
theorem qp4 (rows:List Row):T rows 1=.o:=qE8 _ _
theorem qo0 {rows:List Row}(ok:qd3 rows){p a b c e:Nat}(hp:rows[p]?=some [a,b,c,e]):T rows (p+2)=.nd (T rows a) (T rows b) (T rows c) (T rows e):=by
 have jJ:=(gS_ hp).1;obtain⟨d,hd⟩:∃d,dp rows (p+2)=d+1:=⟨_,by rw[qz0 ok hp];exact Nat.add_comm _ _⟩;have q:=λy (hy:y∈[a,b,c,e])=>qf3 ok hp (Vt hd) hy;unfold T;rw[hd,q19 hp,qn9 ok d _ a (q a (by simp)).2 (Ze _) (q a (by simp)).1,qn9 ok d _ b (q b (by simp)).2 (Ze _) (q b (by simp)).1,qn9 ok d _ c (q c (by simp)).2 (Ze _) (q c (by simp)).1,qn9 ok d _ e (q e (by simp)).2 (Ze _) (q e (by simp)).1]
theorem xB1 {rows:List Row}(ok:qd3 rows) (nd:rows.Nodup):∀(d x y:Nat),dp rows x<=d->x<rows.length+2->y<rows.length+2->T rows x=T rows y->x=y:=by
 intro d;have low:∀x y,x<2->y<rows.length+2->T rows x=T rows y->x=y:=λx y x2 hy e=>by
  by_cases y2:y<2
  ·match x,y,x2,y2 with
   |0,0,_,_=>rfl
   |1,1,_,_=>rfl
   |0,1,_,_=>rw[qh7,qp4] at e;cases e
   |1,0,_,_=>rw[qh7,qp4] at e;cases e
  ·obtain⟨p,a,b,c,f,rfl,hp⟩:=qn8 ok hy y2;rw[qo0 ok hp] at e
   match x,x2 with
   |0,_=>rw[qh7] at e;cases e
   |1,_=>rw[qp4] at e;cases e
 induction d with
 |zero=>exact λx y h hx hy e=>low x y (qE7 ok hx h) hy e
 |succ d ih=>
  intro x y h hx hy e;by_cases x2:x<2
  ·exact low x y x2 hy e
  ·by_cases y2:y<2
   ·exact (low y x y2 hx e.symm).symm
   ·obtain⟨p,a,b,c,f,rfl,hp⟩:=qn8 ok hx x2;obtain⟨p',a',b',c',f',rfl,hp'⟩:=qn8 ok hy y2;rw[qo0 ok hp,qo0 ok hp'] at e;have q:=λy (hy:y∈[a,b,c,f])=>qf3 ok hp h hy;have q':∀y∈[a',b',c',f'],y<rows.length+2:=λy hy=>by
     have:=(ok _ _ hp').2 y hy;have:=(gS_ hp').1;lia
    injection e with e1 e2 e3 e4
    have h1:=ih a a' (q a (by simp)).2 (q a (by simp)).1 (q' a' (by simp)) e1;have h2:=ih b b' (q b (by simp)).2 (q b (by simp)).1 (q' b' (by simp)) e2;have h3:=ih c c' (q c (by simp)).2 (q c (by simp)).1 (q' c' (by simp)) e3;have h4:=ih f f' (q f (by simp)).2 (q f (by simp)).1 (q' f' (by simp)) e4;subst h1 h2 h3 h4;have:p=p':=by
     rcases VS p p' with z|z|z
     ·exact absurd (hp.trans hp'.symm) (nd_iff.mp nd p p' z (gS_ hp').1)
     ·exact z
     ·exact absurd (hp'.trans hp.symm) (nd_iff.mp nd p' p z (gS_ hp).1)
    rw[this]
def tau (rows:List Row) (p:Nat):Tr:=T rows (p+2)
theorem xm1 {rows:List Row}(ok:qd3 rows) (nd:rows.Nodup){e:List Nat}(pe:Post rows e){p:Nat}(hp:p<rows.length):tau rows p∈e.map (tau rows)<->p∈e:=by
 constructor
 ·intro h;obtain⟨q,hq,e2⟩:=Yg.mp h;have:=xB1 ok nd _ (q+2) (p+2) (Ze _) (by have:=pe.lt q hq;lia) (by lia) e2;have:q=p:=by lia
  rw[<- this];exact hq
 ·exact λh=>Yg.mpr ⟨p,h,rfl⟩
theorem qN6 {rows:List Row}(ok:qd3 rows) (nd:rows.Nodup):∀(d:Nat) (e:List Nat) (x:Nat),Post rows e->x<rows.length+2->dp rows x<=d->(dfs rows d e x).map (tau rows)=post (T rows x) (e.map (tau rows)):=by
 intro d
 induction d with
 |zero=>
  intro e x pe hx hd;have x2:=qE7 ok hx hd
  match x,x2 with
  |0,_=>rw[qh7];rfl
  |1,_=>rw[qp4];rfl
 |succ d ih=>
  intro e x pe hx hd;by_cases x2:x<2
  ·have:dfs rows (d+1) e x=e:=by
    show (if x<2\/x-2∈e then e else _)=e;rw[Zt (.inl x2)]
   rw[this]
   match x,x2 with
   |0,_=>rw[qh7];rfl
   |1,_=>rw[qp4];rfl
  ·obtain⟨p,a,b,c,f,rfl,hp⟩:=qn8 ok hx x2;have jJ:=(gS_ hp).1;have hm:=xm1 ok nd pe jJ;have hg:rows.getD p []=[a,b,c,f]:=by rw[Zw,hp];rfl
   have et:tau rows p=.nd (T rows a) (T rows b) (T rows c) (T rows f):=qo0 ok hp;rw[qo0 ok hp];show (if p+2<2\/p+2-2∈e then e else (rows.getD (p+2-2) []).foldl (dfs rows d) e++[p+2-2]).map (tau rows)=(if _∈e.map (tau rows) then _ else _);rw[show p+2-2=p by lia,<- et,hg];by_cases hpe:p∈e
   ·rw[Zt (.inr hpe),Zt (hm.mpr hpe)]
   ·rw[Zl (by rintro (z|z);lia;exact hpe z),Zl (λz=>hpe (hm.mp z))];have q:=λy (hy:y∈[a,b,c,f])=>qf3 ok hp hd hy;obtain⟨qa,qa'⟩:=q a (by simp);obtain⟨qb,qb'⟩:=q b (by simp);obtain⟨qc,qc'⟩:=q c (by simp);obtain⟨qf,qf'⟩:=q f (by simp);have p1:=(qi3 ok d e a pe qa qa').1;have p2:=(qi3 ok d _ b p1 qb qb').1;have p3:=(qi3 ok d _ c p2 qc qc').1;show (dfs rows d (dfs rows d (dfs rows d (dfs rows d e a) b) c) f++[p]).map (tau rows)=_;rw[Z9,ih _ f p3 qf qf',ih _ c p2 qc qc',ih _ b p1 qb qb',ih _ a pe qa qa',et];show _++[tau rows p]=_;rw[et]
theorem qR8 {n top:Nat}{rows:List Row}(c:Canon n top rows):rows=rowsOf (post (T rows top) [])/\top=name (post (T rows top) []) (T rows top):=by
 have h:=qN6 c.rok c.unlike n [] top (qr7 rows) c.inn c.deep;rw[c.ends] at h;have hord:Ord (post (T rows top) [])/\In (post (T rows top) []) (T rows top):=post_ord _ _ ord_nil;have hpost:post (T rows top) []=(List.range rows.length).map (tau rows):=h.symm;obtain⟨ho,hi⟩:=hord;generalize post (T rows top) []=L at ho hi hpost;have lat:∀p,p<rows.length->L[p]?=some (tau rows p):=λp hp=>by
  rw[hpost,Zg,Xm hp];rfl
 have hL:L.length=rows.length:=by rw[hpost];simp
 have nmq:∀q,q<rows.length+2->name L (T rows q)=q:=λq hq=>by
  by_cases q2:q<2
  ·match q,q2 with
   |0,_=>rw[qh7];rfl
   |1,_=>rw[qp4];rfl
  ·have:=name_at ho (lat (q-2) (by lia));unfold tau at this;rw[show q-2+2=q by lia] at this;exact this
 refine⟨?_,(nmq top c.inn).symm⟩;refine We λp=>?_;by_cases hp:p<rows.length
 ·have hg:rows[p]?=some rows[p]:=Zd hp;obtain⟨a,b,e,f,er⟩:=qp3 (c.rok p _ hg).1;rw[er] at hg;rw[hg,rowsOf_at (lat p hp)];have et:tau rows p=.nd (T rows a) (T rows b) (T rows e) (T rows f):=qo0 c.rok hg;have lt:∀y∈[a,b,e,f],y<rows.length+2:=λy hy=>by
   have:=(c.rok _ _ hg).2 y hy;lia
  rw[et];show some [a,b,e,f]=some [name L (T rows a),name L (T rows b),name L (T rows e),name L (T rows f)];rw[nmq a (lt a (by simp)),nmq b (lt b (by simp)),nmq e (lt e (by simp)),nmq f (lt f (by simp))]
 ·rw[Y4 (by lia),Y4 (by rw[rowsOf_len];lia)]
theorem qp5 {L:List Tr}(h:Ord L):∀t:Tr,In L t->dp (rowsOf L) (name L t)=dep t
 |.z,_=>qM5 (by decide:(0:Nat)<2)
 |.o,_=>qM5 (by decide:(1:Nat)<2)
 |.nd a b c d,hi=>by
  rcases qk0 h hi with ⟨e,_⟩|⟨e,_⟩|⟨i,e,e2⟩
  ·cases e
  ·cases e
  ·have hk:=λs (hs:s∈kids (.nd a b c d))=>(kid_in h e hs).1;rw[e2,qz0 (qu7 h) (rowsOf_at e)];show 1+mx [_,_,_,_]=1+mx [dep a,dep b,dep c,dep d];rw[qp5 h a (hk a (by simp[kids])),qp5 h b (hk b (by simp[kids])),qp5 h c (hk c (by simp[kids])),qp5 h d (hk d (by simp[kids]))]
theorem qu9 {L:List Tr}(h:Ord L):∀t:Tr,In L t->T (rowsOf L) (name L t)=t
 |.z,_=>qh7 _
 |.o,_=>qp4 _
 |.nd a b c d,hi=>by
  rcases qk0 h hi with ⟨e,_⟩|⟨e,_⟩|⟨i,e,e2⟩
  ·cases e
  ·cases e
  ·have hk:=λs (hs:s∈kids (.nd a b c d))=>(kid_in h e hs).1;rw[e2,qo0 (qu7 h) (rowsOf_at e),qu9 h a (hk a (by simp[kids])),qu9 h b (hk b (by simp[kids])),qu9 h c (hk c (by simp[kids])),qu9 h d (hk d (by simp[kids]))]
def q20 (L:List Tr):Prop:=∀t∈L,Red t
theorem qo1:∀(t:Tr) (e:List Tr),Red t->q20 e->q20 (post t e)
 |.z,_,_,h=>h
 |.o,_,_,h=>h
 |.nd a b c d,e,hr,h=>by
  unfold post;split
  ·exact h
  ·have h4:=qo1 d _ hr.2.2.2.2.2 (qo1 c _ hr.2.2.2.2.1 (qo1 b _ hr.2.2.2.1 (qo1 a e hr.2.2.1 h)));intro s hs;rcases Z7.mp hs with hs|hs
   ·exact h4 s hs
   ·have:s=.nd a b c d:=by simpa using hs
    rw[this];exact hr
theorem qe8 {L:List Tr}{t:Tr}(h:name L t=0):t=.z:=by
 cases t with
 |z=>rfl
 |o=>cases h
 |nd a b c d=>rw[qu6] at h;lia
theorem qh1 {L:List Tr}{t:Tr}(h:name L t=1):t=.o:=by
 cases t with
 |z=>cases h
 |o=>rfl
 |nd a b c d=>rw[qu6] at h;lia
theorem qw1 {L:List Tr}(h:Ord L) (hr:q20 L):∀r∈rowsOf L,¬qE1 r:=λr hm=>by
 obtain⟨i,hi,e⟩:=ZD.mp hm;obtain⟨t,ht,rfl⟩:=qp2 (i:=i) (r:=r) (by rw[Zd hi,e]);obtain⟨⟨a,b,c,d,rfl⟩,_⟩:=h.ch i t ht;have rd:=hr _ (Zz ht);rintro (z|z)
 ·have z':[name L a,name L b,name L c,name L d]=[0,0,0,0]:=z;simp only[Y1,Ud] at z';exact rd.1 ⟨qe8 z'.1,qe8 z'.2.1,qe8 z'.2.2.1,qe8 z'.2.2.2⟩
 ·have z':[name L a,name L b,name L c,name L d]=[1,1,1,1]:=z;simp only[Y1,Ud] at z';exact rd.2.1 ⟨qh1 z'.1,qh1 z'.2.1,qh1 z'.2.2.1,qh1 z'.2.2.2⟩
theorem qR9 {n:Nat}(hn:n<=12){t:Tr}(hr:Red t) (hd:dep t<=n):Canon n (name (post t []) t) (rowsOf (post t [])):=by
 obtain⟨ho,hi⟩:=post_ord t [] ord_nil;have hred:=qo1 t [] hr (λs hs=>nomatch hs);have hT:=qu9 ho t hi;have wW:=qp5 ho t hi;have hpost:post t []=post t []:=rfl;generalize hL:post t []=L at ho hi hred hT wW;have ok:=qu7 ho;have ndr:=qq7 ho;have jT:name L t<(rowsOf L).length+2:=by
  rw[rowsOf_len];rcases qk0 ho hi with ⟨_,e⟩|⟨_,e⟩|⟨i,e,e2⟩
  ·lia
  ·lia
  ·have:=(gS_ e).1;lia
 refine⟨hn,ok,jT,by rw[wW];exact hd,qw1 ho hred,ndr,?_⟩;have hdt:=qN6 ok ndr n [] (name L t) (qr7 _) jT (by rw[wW];exact hd);rw[hT] at hdt;have e2:(dfs (rowsOf L) n [] (name L t)).map (tau (rowsOf L))=L:=by rw[hdt];exact hL
 have pe:=(qi3 ok n [] (name L t) (qr7 _) jT (by rw[wW];exact hd)).1;generalize dfs (rowsOf L) n [] (name L t)=E at e2 pe;have hE:E.length=L.length:=by rw[<- e2];simp
 refine We λi=>?_;by_cases wJ:i<E.length
 ·have hg:E[i]?=some E[i]:=Zd wJ;have jB:=pe.lt E[i] (Yr wJ);rw[rowsOf_len] at jB;have e3:L[i]?=some (tau (rowsOf L) E[i]):=by
   conv=>lhs;rw[<- e2]
   rw[Zg,hg];rfl
  have e4:tau (rowsOf L) E[i]=L[E[i]]:=by
   have ea:L[E[i]]?=some L[E[i]]:=Zd jB;have:=qu9 ho L[E[i]] (.inr (.inr (Yr jB)));rw[name_at ho ea] at this;exact this
  rw[e4] at e3;have:E[i]=i:=by
   rcases VS E[i] i with z|z|z
   ·exact absurd (by rw[e3];exact Zd jB) (nd_iff.mp ho.nd E[i] i z (by lia))
   ·exact z
   ·exact absurd (by rw[e3];exact (Zd jB).symm) (nd_iff.mp ho.nd i E[i] z jB)
  rw[hg,this,Xm (by rw[rowsOf_len];lia)]
 ·rw[Y4 (by lia),Y4 (by rw[YA,rowsOf_len];lia)]
end Qf
namespace Pr
open PySem L2 Qf
def TellAt (H:Hp) (t:Addr) (n top:Nat) (rows:List Row):Prop:=∃p:Addr,H t=some (.tup [.int (n:Nat),.int (top:Nat),.ref p])/\RowsAt H p rows
theorem TellAt.mono {H H':Hp}{t:Addr}{n top:Nat}{rows:List Row}(h:TellAt H t n top rows) (s:Tups H H'):TellAt H' t n top rows:=by
 obtain⟨p,h1,h2⟩:=h;exact⟨p,s _ _ h1,h2.mono s⟩
theorem xm2 {ys:List V}(h:∀(i:Nat) y,ys[i]?=some y->y=.bl true):ys=(List.replicate ys.length true).map V.bl:=by
 refine qi4 (by simp) λi x hx=>?_;have hi:=(gS_ hx).1;rw[h i x hx];simp[hi]
theorem q21 (k:Nat):(List.replicate k true).all id=true:=by
 rw[YK];intro x hx;exact (List.mem_replicate.mp hx).2
section
variable {P:Program}{w:World}{K:PySem.W.Frag}{mg:Str->Option Value}{base:Heap}
theorem scRow:FnScope ["thing", "before"] ["thing", "before"] (qa3 sRow):=qc5
def xv3:Sp:=λvs H Q _=>∃(b:Addr) (i:Nat) (r:Row),vs=[.ref b,.int (i:Nat)]/\H b=some (.tup (vN r))/\xu3 i r/\∀H',Same H H'->Q (.bl true) H'
theorem xv4 {f fN:Addr}{fd fdN:FuncData}(F:Fun K "is_row" "is_row" sRow f fd) (B:Blt mg) (hN:mg "is_number" = some (.ref fN)) (FN:Fun K "is_number" "is_number" qu2 fN fdN) (bN:Binds K fdN ["thing", "many"] []) (GN:FnOk P w K mg base CX0 2 fN fdN ["thing", "many"] qz5):FnOk P w K mg base CX0 3 f fd ["thing", "before"] xv3:=by
 refine F.ok scRow (λvs H Q E h=>?_) (λcdv A outer s H vs Q E hr h=>?_)
 ·obtain⟨b,i,r,rfl,_⟩:=h
  rfl
 ·obtain⟨b,i,r,rfl,hb,rk,q⟩:=h;refine⟨_,qb3 (qd8 (qs9 (qi9 (qf6 (qa6 qk5 (by rfl) B.isi Yv (qa0 (pv 0) (qa0 (qo8 (v:=.ty "tuple") (by rfl) B.tuple Yj rfl) qa1)))))
    (ql2 (qb7 xr9 (qa6 qd4 (by rfl) B.len YS (qa0 (pv 0) qa1)) qa2 (qb4 _)))).pt (qa8 (qa9 qs7)) qb8)
   (qa8 (qa9 (qa6 (qn1 rfl) (by rfl) B.all X9 (qa0 (qf1 ["thing", "before"] (qa3 sRow) rfl rfl rfl scRow.nd (piT K rfl (pv 0)) (λcl C fp s₀ H₀=>pcN GN hr hN FN.kp bN (qa0 (pv 0) (qa0 (pv 2) qa1)))) qa1)))),?_⟩
  refine⟨_,rfl,_,_,_,_,true,rfl,rfl,.inl (.tup hb),rfl,_,rfl,iteF ⟨_,rfl,b,_,rfl,.inr (SqT.of hb),rfl,_,rfl,xA0 (by rw[qh6,rk.1];rfl) ?_⟩⟩;refine⟨_,rfl,b,rfl,⟨_,SqT.of hb⟩,λD hD=>qg4 hD (λ_ z _=>z=.bl true) (qk6 (K:=K) hb) (by rw[qh6,rk.1];decide) (λ_ _ _ _ _ _ h=>h) ?_ ?_⟩
  ·intro j x H3 hj hx s3 Q' hq;obtain⟨m,hm,rfl⟩:=qx5 hx;exact⟨_,rfl,_,rfl,m,i,rfl,rk.2 m (Zz hm),hq _ _ (Same.refl _) rfl⟩
  ·intro ys H3 s3 vQ kE kN;have e:=xm2 kN;refine⟨D,List.replicate ys.length true,rfl,by rw[<- e];exact vQ,?_⟩;rw[q21];exact q H3 s3
theorem scRows:FnScope ["thing"] ["thing"] (qa3 q08):=qc5
def xg8:Sp:=λvs H Q _=>∃(p:Addr) (rows:List Row),vs=[.ref p]/\RowsAt H p rows/\qd3 rows/\rows.length<=900/\∀H',Same H H'->Q (.bl true) H'
theorem xm3 {f fR:Addr}{fd fdR:FuncData}(F:Fun K "are_rows" "are_rows" q08 f fd) (B:Blt mg) (hR:mg "is_row" = some (.ref fR)) (FR:Fun K "is_row" "is_row" sRow fR fdR) (bR:Binds K fdR ["thing", "before"] []) (GR:FnOk P w K mg base CX0 3 fR fdR ["thing", "before"] xv3):FnOk P w K mg base CX0 4 f fd ["thing"] xg8:=by
 refine F.ok scRows (λvs H Q E h=>?_) (λcdv A outer s H vs Q E hr h=>?_)
 ·obtain⟨p,rows,rfl,_⟩:=h
  rfl
 ·obtain⟨p,rows,rfl,jN,ok,hn,q⟩:=h;obtain⟨bs,hp,j9,jE⟩:=id jN;refine⟨_,qa8 (qa9 (qi6 (qa6 qk5 (by rfl) B.isi Yv (qa0 (pv 0) (qa0 (qo8 (v:=.ty "tuple") (by rfl) B.tuple Yj rfl) qa1)))
   (qm5 (qa6 (qn1 rfl) (by rfl) B.all X9 (qa0 (qy7 ["thing"] (qa3 q08) rfl rfl rfl scRows.nd (qM2 (by rfl) B.enum (qa0 (pv 0) qa1)) (λcl C fp s₀ H₀=>pcN GR hr hR FR.kp bR (qa0 (pv 1) (qa0 (pv 0) qa1)))) qa1))))),?_⟩
  refine⟨_,rfl,_,_,_,_,true,rfl,rfl,.inl (.tup hp),rfl,_,rfl,iteT ?_⟩;have jR:(bs.map V.ref).length=rows.length:=by rw[Zf];exact j9
  refine⟨_,rfl,p,rfl,⟨_,SqT.of hp⟩,λD hD=>qf2 hD (λ_=>true) (λ_=>.bl true) (q04 (K:=K) hp) (by rw[jR];exact qd5 (by lia)) ?_ ?_⟩
  ·rintro i x H2 hi ⟨t,y,rfl,hy,ht⟩ s2 os ho Q1 Q2 q1 q2;obtain⟨o1,o2,rfl⟩:=L2.os2 ho
   ·
    have wJ:i<rows.length:=by rw[<- jR];exact hi
    rw[Zg] at hy;obtain⟨b,hb,rfl⟩:=Zj.mp hy;have jG:rows[i]?=some rows[i]:=by simp[wJ]
    refine⟨t,_,rfl,SqT.of ht,rfl,_,_,rfl,_,_,rfl,rfl,?_⟩;refine iteT (B:=Q1 H2) ?_;exact⟨_,rfl,_,rfl,b,i,rows[i],rfl,s2 _ _ (jE i b _ hb jG),ok i _ jG,λH3 s3=>q2 rfl H3 s3⟩
  ·intro H2 s2 kS;refine⟨D,List.replicate (bs.map V.ref).length true,rfl,?_,?_⟩
   ·rw[kS];congr 2;rw[List.map_replicate,XT.mpr (λ_ _=>rfl)];refine qi4 (by simp) λi x hx=>?_;have hi:=(gS_ hx).1;rw[Zg] at hx;obtain⟨_,_,rfl⟩:=Zj.mp hx;simp at hi;rw[Zf,WM,Zt hi]
   ·rw[q21];exact q H2 s2
theorem scTelling:FnScope ["thing", "n", "top", "rows"] ["thing"] (qa3 qr9):=qc5
def qE9:Sp:=λvs H Q _=>∃(t:Addr) (n tp:Nat) (rows:List Row),vs=[.ref t]/\TellAt H t n tp rows/\n<=12/\qd3 rows/\rows.length<=900/\tp<rows.length+2/\dp rows tp<=n/\∀H',Same H H'->Q (.bl true) H'
theorem qS0 {f fS fR fN fD:Addr}{fd fdS fdR fdN fdD:FuncData}(F:Fun K "is_telling" "is_telling" qr9 f fd) (B:Blt mg)
  (hS:mg "is_size" = some (.ref fS)) (FS:Fun K "is_size" "is_size" q06 fS fdS) (bS:Binds K fdS ["thing"] []) (GS:FnOk P w K mg base CX0 2 fS fdS ["thing"] q12)
  (hR:mg "are_rows" = some (.ref fR)) (FR:Fun K "are_rows" "are_rows" q08 fR fdR) (bR:Binds K fdR ["thing"] []) (GR:FnOk P w K mg base CX0 4 fR fdR ["thing"] xg8)
  (hN:mg "is_number" = some (.ref fN)) (FN:Fun K "is_number" "is_number" qu2 fN fdN) (bN:Binds K fdN ["thing", "many"] []) (GN:FnOk P w K mg base CX0 2 fN fdN ["thing", "many"] qz5)
  (hD:mg "depths_of" = some (.ref fD)) (FD:Fun K "depths_of" "depths_of" q05 fD fdD) (bD:Binds K fdD ["rows"] []):FnOk P w K mg base CX0 5 f fd ["thing"] qE9:=by
 have GD:FnOk P w K mg base CX0 1 fD fdD ["rows"] xg6:=xm0 FD B;refine F.ok scTelling (λvs H Q E h=>?_) (λcdv A outer s H vs Q E hr h=>?_)
 ·obtain⟨t,n,tp,rows,rfl,_⟩:=h
  rfl
 ·obtain⟨t,n,tp,rows,rfl,⟨p,ht,jN⟩,hn,ok,hl,htp,hd,q⟩:=h;have jG:Room 1 _:=hr.mono (by decide);have vF:Room 2 _:=hr.mono (by decide);refine⟨_,qb3 (qd8 (qs9 (qi9 (qf6 (qa6 qk5 (by rfl) B.isi Yv (qa0 (pv 0) (qa0 (qo8 (v:=.ty "tuple") (by rfl) B.tuple Yj rfl) qa1)))))
    (ql2 (qb7 xr9 (qa6 qd4 (by rfl) B.len YS (qa0 (pv 0) qa1)) qa2 (qb4 _)))).pt (qa8 (qa9 qs7)) qb8)
   (qb3 (ql3 (pv 0) (qj0 rfl (qb6 (pgN 1 scTelling.nd) (qb6 (pgN 2 scTelling.nd) (qb6 (pgN 3 scTelling.nd) qf8)))))
   (qb3 (qd8 (qs9 (qi9 (qf6 (pcN GS vF hS FS.kp bS (qa0 (pv 1) qa1))))
    (qs9 (qi9 (qf6 (pcN GR hr hR FR.kp bR (qa0 (pv 3) qa1))))
    (ql2 (qi9 (qf6 (pcN GN vF hN FN.kp bN (qa0 (pv 2) (qa0 (qa6 qd4 (by rfl) B.len YS (qa0 (pv 3) qa1)) qa1)))))))).pt (qa8 (qa9 qs7)) qb8)
   (qa8 (qa9 (qe0 qq9 (pxN qf0 (pcN GD jG hD FD.kp bD (qa0 (pv 3) qa1)) (pv 2)) (pv 1) (qb4 _)))))),?_⟩
  refine⟨_,rfl,_,_,_,_,true,rfl,rfl,.inl (.tup ht),rfl,_,rfl,iteF ⟨_,rfl,t,_,rfl,.inr (SqT.of ht),rfl,_,rfl,iteF ?_⟩⟩;refine⟨_,rfl,t,_,rfl,SqT.of ht,rfl,_,_,rfl,_,_,rfl,_,_,rfl,rfl,?_⟩;refine⟨_,rfl,n,rfl,hn,_,rfl,iteF ⟨_,rfl,p,rows,rfl,jN,ok,hl,λH2 s2=>⟨_,rfl,iteF ?_⟩⟩⟩;obtain⟨bs,hp,j9,jE⟩:=id jN;refine⟨_,rfl,_,rfl,p,_,rfl,.inr (SqT.of (s2 _ _ hp)),tp,rows.length,by rw[Zf,j9];rfl,htp,_,rfl,iteF ?_⟩;refine⟨_,rfl,p,rows,rfl,jN.same s2,ok,hl,λH3 D s3 vQ=>?_⟩;refine⟨_,rfl,D,_,(tp:Int),.int (dp rows tp:Nat),rfl,rfl,SqL.of vQ,qE6 (xg5 htp),_,rfl,_,_,rfl,rfl,?_⟩;show Q (V.bl (decide ((dp rows tp:Int)<=(n:Int)))) H3;rw[Zv (by lia)];exact q H3 (s2.trans s3)
end
def qc6 (H:Hp) (t:Addr) (n top:Nat) (rows:List Row):Prop:=TellAt H t n top rows/\Canon n top rows/\rows.length<=900
def keyN (r:List Nat):List Key:=r.map λn:Nat=>Sum.inl (n:Int)
theorem qv0 (r:List Nat):(keyN r).map kV=vN r:=by unfold keyN vN;rw[Z3];rfl
theorem qz7 {l m:List Nat}(h:keyN l=keyN m):l=m:=by
 have:vN l=vN m:=by rw[<- qv0,<- qv0,h]
 rw[qq6,qq6] at this;exact q15 ((List.map_inj_right (λ_ _ z=>V.int.inj z)).mp this)
theorem qS1 {rows:List Row}(h:rows.Nodup):(rows.map keyN).Nodup:=by
 rw[nd_iff] at h ⊢;intro i j jX hj z;rw[Zf] at hj;refine h i j jX hj ?_;rw[Zg,Zg,Zd (by lia),Zd hj] at z;rw[Zd (by lia),Zd hj];congr 1;exact qz7 (ZM z)
theorem qS2 (ns:List Int):PyData.depthAll (ns.map PyData.int)<=1:=by
 induction ns with
 |nil=>simp[PyData.depthAll]
 |cons a ns ih=>
  rw[ZE];simp only[PyData.depthAll,PyData.depth];lia
theorem qN7 (ns:List Int):(dL ns).depth<=2:=by
 have:=qS2 ns;unfold dL;simp only[PyData.depth];lia
section
variable {P:Program}{w:World}{K:PySem.W.Frag}{mg:Str->Option Value}{base:Heap}
theorem scShape:FnScope ["thing", "top", "rows"] ["thing"] (qa3 qE2):=qc5
def q22:Sp:=λvs H Q _=>∃(t:Addr) (n tp:Nat) (rows:List Row),vs=[.ref t]/\qc6 H t n tp rows/\∀H',Same H H'->Q (.bl true) H'
theorem xa7 {f fT fP fA:Addr}{fd fdT fdP fdA:FuncData}(F:Fun K "is_shape" "is_shape" qE2 f fd) (B:Blt mg) (T:Cst mg)
  (hT:mg "is_telling" = some (.ref fT)) (FT:Fun K "is_telling" "is_telling" qr9 fT fdT) (bT:Binds K fdT ["thing"] []) (GT:FnOk P w K mg base CX0 5 fT fdT ["thing"] qE9)
  (hP:mg "is_plain" = some (.ref fP)) (FP:Fun K "is_plain" "is_plain" qM8 fP fdP) (bP:Binds K fdP ["row"] [])
  (hA:mg "places_as_ended" = some (.ref fA)) (FA:Fun K "places_as_ended" "places_as_ended" qz1 fA fdA) (bA:Binds K fdA ["rows", "top"] []) (GA:∀d,FnOk P w K mg base CX0 (d+2) fA fdA ["rows", "top"] (qz6 d)):FnOk P w K mg base CX0 15 f fd ["thing"] q22:=by
 have GP:FnOk P w K mg base CX0 2 fP fdP ["row"] q14:=xa3 FP T;refine F.ok scShape (λvs H Q E h=>?_) (λcdv A outer s H vs Q E hr h=>?_)
 ·obtain⟨t,n,tp,rows,rfl,_⟩:=h
  rfl
 ·obtain⟨t,n,tp,rows,rfl,⟨hTell,cn,hl⟩,q⟩:=h;obtain⟨p,ht,jN⟩:=id hTell;obtain⟨bs,hp,j9,jE⟩:=id jN;have vF:Room 2 _:=hr.mono (by decide);have hr5:Room 5 _:=hr.mono (by decide);have hrA:Room (n+2) _:=hr.mono (by have:=cn.size;lia);refine⟨_,qb3 (qd8 (qi9 (qf6 (pcN GT hr5 hT FT.kp bT (qa0 (pv 0) qa1)))) (qa8 (qa9 qs7)) qb8)
   (qb3 (ql3 (qL5 xf8 (pv 0) (qV5 qa2) qV4) (qj0 rfl (qb6 (pgN 1 scShape.nd) (qb6 (pgN 2 scShape.nd) qf8))))
   (qb3 (qd8 (PW.pt (qs9 (qf6 (qa6 (qD9 rfl) (by rfl) B.any PyProof.Rows.boot_any (qa0 (qf1 ["thing", "top", "rows"] (qa3 qE2) rfl rfl rfl scShape.nd (piT K rfl (pv 2)) (λcl C fp s₀ H₀=>pcN GP vF hP FP.kp bP (qa0 (pv 0) qa1))) qa1)))
    (ql2 (qb7 qj3 (qa6 qJ0 (by rfl) B.len YS (qa0 (qc4 (qY3 rfl hr) (by rfl) B.set PyProof.Rows.boot_set (qa0 (pv 2) qa1)) qa1)) (qa6 qd4 (by rfl) B.len YS (qa0 (pv 2) qa1)) (qb4 _))))) (qa8 (qa9 qs7)) qb8)
   (qa8 (qa9 (qe0 (qY4 hr) (pcN (GA n) hrA hA FA.kp bA (qa0 (pv 2) (qa0 (pv 1) qa1)))
    (qc4 (qR3 rfl) (by rfl) B.list PyProof.Rows.boot_list (qa0 (qc4 qE0 (by rfl) B.range PyProof.Rows.boot_range (qa0 (qa6 qd4 (by rfl) B.len YS (qa0 (pv 2) qa1)) qa1)) qa1)) (qb4 _)))))),?_⟩
  refine⟨_,rfl,t,n,tp,rows,rfl,hTell,cn.size,cn.rok,hl,cn.inn,cn.deep,λH1 s1=>⟨_,rfl,iteF ?_⟩⟩;have ht1:=s1 _ _ ht;refine⟨_,rfl,_,rfl,t,_,rfl,SqT.of ht1,(λz=>absurd (show HT.sIx 3 0 (some 1)=0 from z.1) (by decide)),λu hu=>?_⟩;refine⟨u,_,rfl,SqT.of qa4,rfl,_,_,rfl,_,_,rfl,rfl,?_⟩;have sA:Same H (upd H1 u (.tup [.int (tp:Nat),.ref p])):=s1.trans (qb2 hu);refine (λ(go:∀H2,Same H H2->_)=>go _ sA) ?_;intro H2 s2;have jQ:=s2 _ _ hp;have jR:(bs.map V.ref).length=rows.length:=by rw[Zf];exact j9
  refine⟨_,rfl,p,rfl,⟨_,SqT.of jQ⟩,λD hD=>qg4 hD (λ_ z _=>z=.bl false) (qk6 (K:=K) jQ) (by rw[jR];exact qd5 (by lia)) (λ_ _ _ _ _ _ h=>h) ?_ ?_⟩
  ·intro j x H3 hj hx s3 Q' hq;have kZ:j<rows.length:=by rw[<- jR];exact hj
   rw[Zg] at hx;obtain⟨b,hb,rfl⟩:=Zj.mp hx;have jG:rows[j]?=some rows[j]:=by simp[kZ]
   refine⟨_,rfl,b,rows[j],rfl,s3 _ _ (s2 _ _ (jE j b _ hb jG)),(cn.rok j _ jG).1,λH4 s4=>hq _ _ s4 ?_⟩;rw[Zu (cn.unplain _ (Yr kZ))]
  ·intro ys H3 s3 vQ kE kN;have e:ys=(List.replicate ys.length false).map V.bl:=by
    refine qi4 (by simp) λi x hx=>?_;have hi:=(gS_ hx).1;rw[kN i x hx];simp[hi]
   have s23:Same H H3:=s2.trans s3;refine⟨D,List.replicate ys.length false,rfl,by rw[<- e];exact vQ,_,rfl,?_⟩;have na:(List.replicate ys.length false).any id=false:=by
    rw[VM];intro x hx;rw[(List.mem_replicate.mp hx).2];decide
   rw[na];refine iteF ?_;have k6:=s23 _ _ hp;refine⟨_,rfl,p,bs,rows.map keyN,rfl,k6,by rw[Zf];exact j9,λi b ks e1 e2=>?_,qS1 cn.unlike,by rw[Zf];lia,λr hr'=>?_⟩
   ·rw[Zg] at e2;obtain⟨r0,hr0,rfl⟩:=Zj.mp e2;rw[qv0];exact s23 _ _ (jE i b r0 e1 hr0)
   ·have s4:Same H (upd H3 r (.ext (SetN r (rows.map keyN).length))):=s23.trans (qb2 hr');have kW:=s4 _ _ hp;refine⟨r,_,rfl,qa4,by rw[Zf];lia,_,rfl,p,_,rfl,.inr (SqT.of kW),_,_,rfl,rfl,_,rfl,?_⟩;have nl:decide (((rows.map keyN).length:Int)<((bs.map V.ref).length:Int))=false:=Zu (by rw[jR,Zf];lia);rw[nl];refine iteF ?_;refine (λ(go:∀H5,Same H H5->_)=>go _ s4) ?_;intro H5 s5;refine⟨_,rfl,_,rfl,p,tp,rows,rfl,(jN.same s5).s,cn.rok,(ZG hl (by decide)),cn.inn,cn.deep,λH6 D6 s6 wX=>?_⟩;have wF:=s6 _ _ (s5 _ _ hp);refine⟨_,rfl,p,_,rfl,.inr (SqT.of wF),_,rfl,λg hg=>⟨g,rows.length,rfl,by rw[qa4,jR],by lia,λl hl'=>?_⟩⟩;have wM:=qc9 (u:=.lst ((List.range rows.length).map λ(i:Nat)=>V.int (i:Int))) (qc9 (u:=.rng 0 ((bs.map V.ref).length:Int)) wX hg) hl';rw[cn.ends,qq6] at wM;have e9:((List.range rows.length).map λ(i:Nat)=>V.int (i:Int))=((List.range rows.length).map λn:Nat=>(n:Int)).map V.int:=qq6 _;refine⟨dL ((List.range rows.length).map λn:Nat=>(n:Int)),dL ((List.range rows.length).map λn:Nat=>(n:Int)),.lst wM (DatasAt.ints _),.lst qa4 (e9▸DatasAt.ints _),qM1 _,qM1 _,?_,?_⟩
    ·exact ZG (qN7 _) (by decide)
    ·rw[qY6,Zv rfl];exact q _ (s5.trans (s6.trans ((qb2 hg).trans (qb2 hl'))))
theorem xm4:FnScope ["shape"] ["shape"] (qa3 qE3):=qc5
def qJ2:Sp:=λvs H Q _=>∃(t:Addr) (n tp:Nat) (rows:List Row),vs=[.ref t]/\qc6 H t n tp rows/\∀H',Same H H'->Q .non H'
theorem xa8 {f fS:Addr}{fd fdS:FuncData}(F:Fun K "want_shape" "want_shape" qE3 f fd)
  (hS:mg "is_shape" = some (.ref fS)) (FS:Fun K "is_shape" "is_shape" qE2 fS fdS) (bS:Binds K fdS ["thing"] []) (GS:FnOk P w K mg base CX0 15 fS fdS ["thing"] q22):FnOk P w K mg base CX0 16 f fd ["shape"] qJ2:=by
 refine F.ok xm4 (λvs H Q E h=>?_) (λcdv A outer s H vs Q E hr h=>?_)
 ·obtain⟨t,n,tp,rows,rfl,_⟩:=h
  rfl
 ·obtain⟨t,n,tp,rows,rfl,hSh,q⟩:=h;refine⟨_,qa8 (qd8 (qi9 (qf6 (pcN GS hr hS FS.kp bS (qa0 (pv 0) qa1)))) qf7 qb8),?_⟩;exact⟨_,rfl,t,n,tp,rows,rfl,hSh,λH1 s1=>⟨_,rfl,iteF (q H1 s1)⟩⟩
end
end Pr
namespace L2
open PySem PySem.Spec PyProof.Rows
section
variable {prog:Program}{w:World}{κ:Type}[DecidableEq κ]{hk:HeapKind prog w κ}{A:Around}{E:Value->Shared->Prop}{s:Shared}{d a:Addr}{k:κ}{xs:List (κ×Addr×Value)}
end
section
variable {X:Cx}
end
end L2
namespace L2
open PySem PySem.Spec PyProof.Rows PySem.W
def Bare (h:Heap) (d:Addr) (tab:Array DictEntry) (ep:Nat):Prop:=∃o,h.get? d=some o/\o.ExactDict/\o.data=.dict tab ep
theorem Bare.stay {h h':Heap}{d:Addr}{tab:Array DictEntry}{ep:Nat}(x:Bare h d tab ep) (k:∀o,h.get? d=some o->h'.get? d=some o):Bare h' d tab ep:=let ⟨o,ho,r⟩:=x;⟨o,k o ho,r⟩
theorem Bare.ty {s:Shared}{d:Addr}{tab:Array DictEntry}{ep:Nat}(x:Bare s.heap d tab ep):s.TypeIs (.ref d) "dict":=let ⟨o,ho,hc,_⟩:=x;⟨o,ho,hc.1⟩
theorem Bare.lt {h:Heap}{d:Addr}{tab:Array DictEntry}{ep:Nat}(x:Bare h d tab ep):d<h.objs.size:=let ⟨_,ho,_⟩:=x;Zi ho
section
variable {prog:Program}{w:World}{A:Around}{E:Value->Shared->Prop}{s:Shared}{d it:Addr}{tab:Array DictEntry}{ep i:Nat}
theorem q23 {Q:Value->Shared->Prop}(lo:(d==sysModules)=false) (x:Bare s.heap d tab ep)
  (q:Q (.ref s.heap.objs.size) { s with heap:=s.heap.push { cls:=.type "dict_keyiterator",data:=.fields #[.ref d,.int 0 0,.int tab.size 0,.int ep 0] } }):wpAny (model prog w) A (pyIter (.ref d)) Q E s:=by
 obtain⟨o,ho,hc,kH⟩:=id x;refine VT x.ty F.slot_dict_iter (Z5 F.slot_dict_iter x.ty F.entry_dict_iter ?_ (F.args_dict_iter_1 _));show wpAny _ _ (Builtin.Dict.dictSlotNone _ _ >>= _) _ _ _;unfold Builtin.Dict.dictSlotNone;refine Za (Za (wpAny_notOrdered_dict x.ty (Zc ?_)));show wpAny _ _ (Builtin.Dict.showsAll d >>= _) _ _ s;unfold Builtin.Dict.showsAll;rw[Zl (by rw[lo];decide)];refine Za (Zc (Za (WT ho kH (Za (wpAny_dictEpoch ho kH ?_)))));refine Za (ZJ (Zc ⟨_,rfl, "dict_keyiterator",_,⟨_,Zh _ rfl,rfl⟩,YT.lookup,?_⟩));simpa [rawInt] using q
theorem q24 {Q:Option Value->Shared->Prop}(st:s.heap.IsKeyIter it d i tab.size ep) (x:Bare s.heap d tab ep) (hi:i<tab.size)
  (q:∀h',h'.IsKeyIter it d (i+1) tab.size ep->Heap.SameBut it s.heap h'->Q (some tab[i].key) { s with heap:=h' }):wpAny (model prog w) A (pyNext (.ref it)) Q E s:=by
 obtain⟨o,ho,hc,hd⟩:=id st;obtain⟨od,yF,kU,vY⟩:=id x;unfold pyNext;refine Za (XM (Z4 (name:=Str.ofString "__next__") st.typeIs YT (Z5 YT st.typeIs F.entry_dict_keyiterator_next ?_ (F.args_dict_keyiterator_next_1 _))));refine Za (Zc (Za (Za ?_)))
 first|(refine Za (Xd st.typeIs (Zc (Za (Wk ho hd ?_)))))|(refine Za (XO st.typeIs (Zc (Za (Wk ho hd ?_)))))
 simp only[show Builtin.Dict_items.ownsTuple "dict_keyiterator" = false by decide,Zr,Z2];show wpAny _ _ (if (Value.ref d==Value.none)=true then _ else _) _ _ s;rw[Zl (show ¬((Value.ref d==Value.none)=true) by exact Zq)];refine Za (Zc (Za (WT yF vY ?_)));rw[Zl (by simp)];refine Za (Zc (Za (wpAny_dictEpoch yF vY ?_)));rw[Zl (by simp)];refine Zc ?_;simp only[show ¬((i:Int)<0) by lia,Z2,ZA,Y2 hi];refine Za ?_
 first|(refine Za (Xd st.typeIs (Zc (Za (W2 st.typeIs ?_)))))|(refine Za (XO st.typeIs (Zc (Za (W2 st.typeIs ?_)))))
 show wpAny _ _ (setField (.ref it) 1 (rawInt ((i:Int)+1)) >>= _) _ _ s;refine Za (YR ho hd (by simp) ?_);have st':(s.heap.update it (Obj.mapFields (·.setIfInBounds 1 (rawInt ((i:Int)+1))))).IsKeyIter it d (i+1) tab.size ep:=⟨_,ZQ _ ho (YO (Z1 hd _)),(Wa ..).trans hc,by rw[Z1 hd];simp[rawInt]⟩;refine Za (ZX (Za (W2 (s:={ s with heap:=s.heap.update it (Obj.mapFields (·.setIfInBounds 1 (rawInt ((i:Int)+1)))) }) st'.typeIs ?_)));show wpAny _ _ (pure tab[i].key) _ _ _;exact Zc (Zc ⟨_,rfl,Zc (q _ st' (Yc ..))⟩)
theorem xa9 {Q:Option Value->Shared->Prop}(hh:A.handled=none) (st:s.heap.IsKeyIter it d tab.size tab.size ep) (x:Bare s.heap d tab ep)
  (q:∀h',Heap.ExtBut it s.heap h'->Q none { s with heap:=h' }):wpAny (model prog w) A (pyNext (.ref it)) Q E s:=by
 obtain⟨o,ho,hc,hd⟩:=id st;obtain⟨od,yF,kU,vY⟩:=id x;unfold pyNext;refine Za (XM (Z4 (name:=Str.ofString "__next__") st.typeIs YT (Z5 YT st.typeIs F.entry_dict_keyiterator_next ?_ (F.args_dict_keyiterator_next_1 _))));refine Za (Zc (Za (Za ?_)))
 first|(refine Za (Xd st.typeIs (Zc (Za (Wk ho hd ?_)))))|(refine Za (XO st.typeIs (Zc (Za (Wk ho hd ?_)))))
 simp only[show Builtin.Dict_items.ownsTuple "dict_keyiterator" = false by decide,Zr,Z2];show wpAny _ _ (if (Value.ref d==Value.none)=true then _ else _) _ _ s;rw[Zl (show ¬((Value.ref d==Value.none)=true) by exact Zq)];refine Za (Zc (Za (WT yF vY ?_)));rw[Zl (by simp)];refine Za (Zc (Za (wpAny_dictEpoch yF vY ?_)));rw[Zl (by simp)];refine Zc ?_;simp only[show ¬((tab.size:Int)<0) by lia,Z2,ZA,WU (Ze tab.size)];refine Za ?_
 first|(refine Za (Xd st.typeIs (Zc ?_)))|(refine Za (XO st.typeIs (Zc ?_)))
 show wpAny _ _ (setField (.ref it) 0 .none >>= _) _ _ s;refine Za (YR ho hd (by simp) ?_);show wpAny _ _ (newExc (.type "StopIteration") [] >>= _) _ _ _;refine Za ?_;simp only[newExc,newTuple];refine Za (ZJ ?_ (by size_fits));refine Za (m:=firstArgMember _ _) (Wj (a:=Value.none) (by first|rfl|(simp only[firstArgMember];rfl)) (ZJ ?_ (by size_fits)));simp only[raiseNew];refine Za (wpAny_handled ?_);rw[show A.in1.handled=none by exact hh];refine Za (Zc (wpAny_throw ?_));refine Za (XX (T:= "StopIteration") (b:=true) ⟨_,Zh _ rfl,rfl⟩ isSubtype_stop ?_);exact Zc (q _ (((Yc ..).extBut.push _).push _))
theorem qS3 (hh:A.handled=none) (jK:d≠it):Walks prog w A it [it,d] [it] tab.size (λi v=>∃e,tab[i]?=some e/\v=e.key) (λi h=>h.IsKeyIter it d i tab.size ep/\Bare h d tab ep) where
 sub:=λb hb=>by simp at hb;simp[hb]
 frame:=λ_ _ _ st k=>⟨st.1.at λo e=>k it (by simp) o e,st.2.stay λo e=>k d (by simp) o e⟩
 item:=λi s Q E hi st q=>q24 st.1 st.2 hi λh' st' sb=>q _ h' s.toks ⟨tab[i],by simp[hi],rfl⟩ ⟨st',st.2.stay λo e=>sb.extBut d o jK e⟩ λb o hb e=>sb.extBut b o (λh=>hb (by simp[h])) e
 done:=λs Q E st q=>xa9 hh st.1 st.2 λh' eb=>q h' s.toks λb o hb e=>eb b o (λh=>hb (by simp[h])) e
 self:=λ_ _ _ _ st q=>wpAny_pyIter_keyiter st.1 q
theorem xb0 (lo:(d==sysModules)=false):KdlSrc prog w "dict" d d tab.size (λi v=>∃e,tab[i]?=some e/\v=e.key) (λh=>Bare h d tab ep) where
 type:=λ_ x=>x.ty
 there:=λ_ x=>⟨x.lt,x.lt⟩
 keep:=λ_ _ x k=>x.stay λo e=>k d (.inl rfl) o e
 notList:=by decide
 notTuple:=by decide
 hint:=λ_ _ _ _ x q=>kdl_hint_dict x.ty q
 iter:=λ_ _ hh x=>⟨_,_,(λ_ _ q=>q23 lo x q),qS3 hh (Zp x.lt),⟨⟨_,Zh _ rfl,rfl,rfl⟩,x.stay λo e=>Zb _ e⟩⟩
theorem q25 (lo:(d==sysModules)=false):MeetsIn prog w (Builtin.«dict.__len__» ⟨[.ref d],[]⟩) (λ_ R s=>∃tab ep,Bare s.heap d tab ep/\R (.ok (.ret (.int tab.size s.toks))) { s with toks:=s.toks+1 }):=
 .of_wp λA R s ⟨tab,ep,⟨o,ho,hx,kH⟩,q⟩=>by
  show wpAny _ _ (dictSize d >>= _) _ _ s;unfold dictSize;refine Za (Za (WT ho kH (Zc ?_)));show wpAny _ _ (Builtin.Dict.pendingCount d >>= _) _ _ s;exact Za (wpAny_pendingCount_other lo (wpAny_ret_mkInt (by rw[Vu];exact q)))
theorem xb1 {Q:Value->Shared->Prop}(lo:(d==sysModules)=false) (x:Bare s.heap d tab ep) (fit:(tab.size:Int)<2^63) (q:Q (.int tab.size (s.toks+1)) { s with toks:=s.toks+1+1 }) :
  wpAny (model prog w) A (call (.builtin "len") [.ref d]) Q E s:=by
 refine Calls.call_function_entry kind_len plain_len entry_len (args_len1 _) ?_;unfold Builtin.«len»;refine Za (m:=oneArg "len" _) (Zc ?_);refine Za (m:=callSpecial? (.ref d) (Str.ofString "__len__")) (Z4 (name:=Str.ofString "__len__") x.ty F.slot_dict_len (call_meetsIn F.slot_dict_len x.ty F.entry_dict_len (F.args_dict_len_1 _) (q25 lo) ⟨tab,ep,x,?_⟩));show wpAny _ _ _ _ _ { s with toks:=s.toks+1 };refine Za (ZX (Zc (Za (Ve ?_))));show wpAny _ _ (if ((tab.size:Nat):Int)<0 then _ else _) _ _ _;rw[Zl (by lia)];show wpAny _ _ (if ((tab.size:Nat):Int)>=2^63 then _ else _) _ _ _;rw[Zl (by lia)];exact Za (wpAny_mkInt (Zc ⟨_,rfl,q⟩))
end
section
variable {X:Cx}
theorem q26:qe3 X (.builtin "len") (λxs H Q=>∃d kvs,xs=[V.ref d]/\H d=some (.dT kvs)/\Q (.int kvs.length) H):=by
 intro j8 s σ H xs us Q I r h;obtain⟨d,kvs,rfl,hd,q⟩:=h;obtain⟨u,rfl,ru⟩:=qg0 r;cases ru;obtain⟨z,lo,ys,rel,o,tab,ep,ho,hx,kH,ent,uni⟩:=(show ObjOk X.prog X.w H s.heap d (.dT kvs) from I.hok d _ hd);have hl:tab.size=kvs.length:=(size_of_entries ent).trans (Y7 rel).symm;have fit:(tab.size:Int)<2^63:=by rw[hl];rw[Wg] at z;lia
 refine xb1 lo ⟨o,ho,hx,kH⟩ fit ⟨.int kvs.length,H,I.tok _,?_,q⟩;rw[hl];exact⟨_,rfl⟩
end
section
variable {prog:Program}{w:World}{A:Around}{E:Value->Shared->Prop}{s:Shared}{T:String}{r d:Addr}{n:Nat}{P:Nat->Value->Prop}{OK:Heap->Prop}
theorem qJ3 {Q:List Value->Shared->Prop}(K:KdlSrc prog w T r d n P OK) (hh:A.handled=none) (hok:OK s.heap) (hn:n<=sizeLine)
  (hQ:∀(h':Heap) tk acc',(∀b o,s.heap.get? b=some o->h'.get? b=some o)->ItemsOf P acc' n->Q acc'.toList { s with heap:=h',toks:=tk }):wpAny (model prog w) A (collect (.ref r)) Q E s:=by
 have jB:=K.there _ hok;unfold collect;refine Za (VC (Z8 F.entry_proto_collect ?_));rw[ZW F.plain_proto_collect _];show wpAny _ A.in1 (newList [] >>= λl=>again (.builtin "list.__iadd__" ⟨[l,.ref r],[]⟩)) _ _ s;refine Za (ZJ ?_);refine Zc ⟨Yw F.plain_list_iadd _,Z8 F.entry_list_iadd ?_⟩;rw[ZW F.plain_list_iadd _];have hS₁:(s.heap.push { cls:=.type "list",data:=.seq ([]:List Value).toArray }).get? s.heap.objs.size=some { cls:=.type "list",data:=.seq ([]:List Value).toArray }:=Zh _ rfl;show wpAny _ A.in1 (Builtin.List.listExtendWith (.ref s.heap.objs.size) (.ref r) (.ref s.heap.objs.size)) _ _ _;refine kdl_extend (R:=wants (λv s'=>wpAny (model prog w) A (match v with|.ref a=>(do let ob <- load a;match ob.data with|.seq xs _=>pure xs.toList|_=>unsupported "internal:collect")|_=>unsupported "internal:collect") Q E s') E) (s:={ s with heap:=s.heap.push { cls:=.type "list",data:=.seq ([]:List Value).toArray } }) K hh (K.keep _ _ hok λb _ o e=>Zb _ e) s.heap.objs.size (XE jB.1) (XE jB.2) _ _ hS₁ (λh' tk acc' c' hk hS' jL=>?_) hn;show wpAny _ A (load s.heap.objs.size >>= _) _ _ _;refine Za (wpAny_load hS' ?_);exact Zc (hQ h' tk acc' (λb o e=>hk b o (Zp (Zi e)) (Zb _ e)) jL)
theorem qw2 {Q₁:Value->Shared->Prop}(K:KdlSrc prog w T r d n P OK) (hh:A.handled=none) (hok:OK s.heap) (hn:n<=sizeLine)
  (h:∀(h':Heap) tk acc,(∀b o,s.heap.get? b=some o->h'.get? b=some o)->ItemsOf P acc n->Q₁ (.ref h'.objs.size) { s with heap:=h'.push { cls:=.type "tuple",data:=.seq acc },toks:=tk }) :
  codeAny (model prog w) A (.call (.builtin "tuple.__new__") ⟨[.type "tuple",.ref r],[]⟩) (wants Q₁ E) s:=by
 refine Vi ?_;show wpAny _ A.in1 (do checkBuiltinCall "tuple.__new__" ⟨[.type "tuple",.ref r],[]⟩;again (.builtin "tuple.__new__" ⟨[.type "tuple",.ref r],[]⟩)) _ _ s;refine Za (Wj (F.newCall_tuple_1 _) (Zc ⟨Yw F.plain_tuple_new _,Z8 F.entry_tuple_new ?_⟩));rw[ZW F.plain_tuple_new _];have jO:=sub_tuple_self;have hinit:=init_tuple_lookup;have hmh:=madeHere_tuple;have hTI:=K.type s hok;have hnt:=K.notTuple
 wp_walk using Vs hTI,qJ3 (A:=A.in1) K hh hok hn
 intro h' tk acc hk jL;show wpAny _ _ (Builtin.Tuple.tupleExact acc.toList.toArray >>= λv=>ret v) _ _ _;unfold Builtin.Tuple.tupleExact;refine Za (ZJ ?_ (by show acc.toList.toArray.size<=sizeLine;simp only[Array.toArray_toList];rw[jL.1];exact hn));refine Zc ?_;have e:acc.toList.toArray=acc:=by simp
 rw[e];exact h h' tk acc hk jL
theorem q27 {Q:Value->Shared->Prop}(K:KdlSrc prog w T r d n P OK) (hh:A.handled=none) (hok:OK s.heap) (hn:n<=sizeLine)
  (h:∀(h':Heap) tk acc,(∀b o,s.heap.get? b=some o->h'.get? b=some o)->ItemsOf P acc n->Q (.ref h'.objs.size) { s with heap:=h'.push { cls:=.type "tuple",data:=.seq acc },toks:=tk }) :
  wpAny (model prog w) A (call (.type "tuple") [.ref r]) Q E s:=by
 refine callType_codes (Q₁:=λobj s₁=>s₁.TypeIs obj "tuple" /\ Q obj s₁) F.called_tuple (F.typeCall_tuple_1 _) F.entry_object_init
  (qw2 K hh hok hn λh' tk acc hk jL=>⟨⟨_,Zh _ rfl,rfl⟩,h h' tk acc hk jL⟩) λobj s₁ h₁=>?_
 exact⟨h₁.1,F.args_object_init_2 obj _,object_init_meets F.called_tuple.init.lookup F.called_tuple.made (by decide) prog w A.in1 _ s₁ ⟨h₁.1,rfl,h₁.2⟩⟩
end
section
variable {X:Cx}
theorem qF0 (hc:X.calm=true):qe3 X (.type "tuple") (λxs H Q=>∃(d:Addr) (kvs:List (List Key×V)),xs=[.ref d]/\H d=some (.dT kvs) /\
  ∀(l:Addr) (bs:List Addr),H l=none->bs.length=kvs.length->(∀(i:Nat) b kv,bs[i]?=some b->kvs[i]?=some kv->H b=some (.tup (kv.1.map kV)))->Q (.ref l) (upd H l (.tup (bs.map V.ref)))):=by
 intro j8 s σ H xs us Q I r h;obtain⟨d,kvs,rfl,hd,q⟩:=h;obtain⟨u,rfl,ru⟩:=qg0 r;cases ru;obtain⟨z,lo,ys,rel,o,tab,ep,ho,hx,kH,ent,uni⟩:=(show ObjOk X.prog X.w H s.heap d (.dT kvs) from I.hok d _ hd);have hl:kvs.length=ys.length:=Y7 rel;have ht:tab.size=ys.length:=size_of_entries ent;refine q27 (xb0 (tab:=tab) (ep:=ep) lo) (I.ok.hd hc) ⟨o,ho,hx,kH⟩ (by lia) λh' tk acc kp jL=>?_;have at_:∀(i:Nat) p y,kvs[i]?=some p->ys[i]?=some y->H y.2.1=some (.tup (p.1.map kV)):=by
  have gen:∀{l:List (List Key×V)}{m:List (List Key×Addr×Value)},Paired (λ(p:List Key×V) (q:List Key×Addr×Value)=>p.1=q.1/\H q.2.1=some (.tup (p.1.map kV))/\RelV p.2 q.2.2) l m->∀(i:Nat) p y,l[i]?=some p->m[i]?=some y->H y.2.1=some (.tup (p.1.map kV)):=by
   intro l m pr
   induction pr with
   |nil=>intro i p y h1;simp at h1
   |cons a1 a2 ih=>
    intro i p y h1 h2;cases i with
    |zero=>simp at h1 h2;subst h1;subst h2;exact a1.2.1
    |succ i=>exact ih i p y (by simpa using h1) (by simpa using h2)
  exact gen rel
 have jR:(ys.map (·.2.1)).length=kvs.length:=by rw[Zf,hl]
 have I1:=I.kept (t':=tk) kp;have hf:H h'.objs.size=none:=I1.hok.fresh (Ze _);refine⟨.ref h'.objs.size,_,I1.laid (a:=h'.objs.size) (o:=.tup ((ys.map (·.2.1)).map V.ref)) (t':=tk) (λb o e=>Zb _ e) (Ze _) (show ObjOk X.prog X.w _ _ _ (.tup ((ys.map (·.2.1)).map V.ref)) from ⟨by rw[Zf,jR];exact z,acc.toList,?_,by have:=IsTupX.new h' acc.toList.toArray;simpa using this⟩),rfl,q _ _ hf jR λi b kv e1 e2=>?_⟩
 ·refine qy9 (by simp[jL.1,ht]) λi x v h1 h2=>?_;rw[Zg,Zg] at h1;obtain⟨b,hb,rfl⟩:=Zj.mp h1;obtain⟨y,hy,rfl⟩:=Zj.mp hb;obtain⟨e,he,rfl⟩:=jL.2 i v (by simpa using h2);rw[entry_at ent i,hy] at he;have:=ZM he;subst this
  rfl
 ·rw[Zg] at e1;obtain⟨y,hy,rfl⟩:=Zj.mp e1;exact at_ i kv y e2 hy
open Classical in
noncomputable def qJ4 (h:Heap) (d:PyData) (w:Value):Bool:=decide (∃(e:PyData) (bs:List Addr),Reads h w e bs/\e.canLay0=true/\PyData.eqv e d=true)
open Classical in
theorem xb2 {h:Heap}{d d':PyData}{w:Value}{bs:List Addr}(rb:Reads h w d' bs) (c:d'.canLay0=true):qJ4 h d w=PyData.eqv d' d:=by
 unfold qJ4;cases hb:PyData.eqv d' d with
 |true=>exact Zv ⟨d',bs,rb,c,hb⟩
 |false=>
  refine Zu λ⟨e,bs',re,_,he⟩=>?_;have:=SeqAt.Reads.unique d' e w bs bs' c rb re;rw[<- this,hb] at he;cases he
theorem q28 {j8:List (Addr×Obj)}{s:Shared}{σ:St}{H:Hp}{v:Value}{d:PyData}{as:List Addr}(I:Inv X j8 σ H s) (un:X.A.units+64<cLine) (ra:Reads s.heap v d as) (c1:d.canLay0=true) (dd:d.depth<=50) :
  ∀{xs:List V}{ds:List PyData}{us:List Value},DatasAt H xs ds->Vals xs us->PyData.canLayAll0 ds=true->(∀w∈us,SeqAt.EqAt X.A.in1 s w v (qJ4 s.heap d w))/\us.any (qJ4 s.heap d)=ds.any λe=>PyData.eqv e d
 |_,_,_,.nil,.nil,_=>⟨λw hw=>(nomatch hw),rfl⟩
 |_,d'::ds',u0::us0,.cons hx hxs,.cons r0 rs,h3=>by
  have h3':d'.canLay0=true/\PyData.canLayAll0 ds'=true:=by simpa [PyData.canLayAll0] using h3
  obtain⟨e1,e2⟩:=q28 I un ra c1 dd hxs rs h3'.2;obtain⟨bs,rb⟩:=hx.reads I.hok r0;have eb:=xb2 (d:=d) rb h3'.1;refine⟨λw hw=>?_,?_⟩
  ·rcases Zn.mp hw with rfl|hw
   ·rw[eb];exact SeqAt.eqAt_reads d' d X.A.in1 s w v bs as rb ra h3'.1 c1 (by
     have:X.A.in1.units=X.A.units+1:=rfl;lia)
   ·exact e1 w hw
  ·rw[X6,X6,eb,e2]
theorem xv5 {k:Nat}(hr:Room k X.A):OpR X (compareOp .In) (λx y H Q=>∃(p:Addr) (xs:List V) (ds:List PyData) (d:PyData),y=.ref p/\H p=some (.tup xs)/\DatasAt H xs ds/\DataAt H x d/\d.canLay0=true/\PyData.canLayAll0 ds=true/\d.depth<=50 /\
  Q (.bl (ds.any λe=>PyData.eqv e d)) H):=by
 intro j8 s σ H x y v u Q I rx ry h;obtain⟨p,xs,ds,d,rfl,hp,v0,hd,c1,c2,dd,q⟩:=h;cases ry;obtain⟨as,ra⟩:=hd.reads I.hok rx;obtain⟨its,rv,pl,hz⟩:=I.tuple (SqT.of hp);have un:=hr.units;obtain⟨k1,k2⟩:=q28 (X:=X) I un ra c1 dd v0 rv c2;refine SeqAt.in_tupleAt (qJ4 s.heap d) pl (λw hw=>k1 w (by simpa using hw)) ⟨.bl _,H,I,rfl,?_⟩;rw[show its.toArray.any (qJ4 s.heap d)=its.any (qJ4 s.heap d) by simp,k2];exact q
end
end L2
namespace L2
open PySem
theorem xb3 {α:Type}{i1 i2:BEq α}(h1:@LawfulBEq α i1) (h2:@LawfulBEq α i2):i1=i2:=by
 have:∀a b,@BEq.beq α i1 a b=@BEq.beq α i2 a b:=λa b=>by
  rw[Xi,@X1 α i1 h1,@X1 α i2 h2]
 cases i1;cases i2;congr 1;funext a b;exact this a b
structure PEb (X:Cx) (e:Expr) (t:TE):Prop where
 go:PE X e t
structure PSb (X:Cx) (st:Stmt) (t:TS):Prop where
 go:PS X st t
inductive StB (X:Cx):List Stmt->TS->Prop
 |one {st:Stmt}{t:TS}(h:PSb X st t):StB X [st] t
 |cons {st:Stmt}{rest:List Stmt}{t u:TS}(h:PSb X st t) (r:StB X rest u):StB X (st::rest) (tSeq t u)
theorem StB.go {X:Cx}:∀{l:List Stmt}{t:TS},StB X l t->PSs X l t
 |_,_,.one h=>qa8 h.go
 |_,_,.cons h r=>qb3 h.go r.go
theorem seqE {X:Cx}{st:Stmt}{rest:List Stmt}{R:TS->Prop}(h:∃t,PSb X st t/\∃u,PSs X rest u/\R (tSeq t u)):∃t,PSs X (st::rest) t/\R t:=by
 obtain⟨t,h1,u,h2,h3⟩:=h;exact⟨_,qb3 h1.go h2,h3⟩
theorem qg5 {X:Cx}{st:Stmt}{R:TS->Prop}(h:∃t,PSb X st t/\R t):∃t,PSs X [st] t/\R t:=by
 obtain⟨t,h1,h3⟩:=h;exact⟨_,qa8 h1.go,h3⟩
inductive Ars2 (X:Cx):List Expr->TA->Prop
 |nil:Ars2 X [] tNil
 |cons {e:Expr}{es:List Expr}{te:TE}{t:TA}(h:PEb X e te) (r:Ars2 X es t) (hs:starEach (e::es) X.env=(false,eval e X.env)::starEach es X.env):Ars2 X (e::es) (qB8 te t)
theorem Ars2.go {X:Cx}:∀{es:List Expr}{t:TA},Ars2 X es t->PA X es t
 |_,_,.nil=>qa1
 |_,_,.cons h r hs=>qa0 h.go r.go hs
theorem qg6 {X:Cx}{i:Int}{j:Nat}{pos:Pos}:PEb X (.Constant (.int i) j pos) (tC (.int i)):=⟨qa2⟩
end L2
namespace Pr
open PySem L2 Qf
def PurseAt (H:Hp) (p:Addr):Prop:=∃a b:Int,H p=some (.lst [.int a,.int b])/\0<=a/\0<=b/\b<2^40
theorem PurseAt.same {H H':Hp}{p:Addr}(h:PurseAt H p) (s:Same H H'):PurseAt H' p:=by
 obtain⟨a,b,e,r⟩:=h;exact⟨a,b,s _ _ e,r⟩
def RowsL (H:Hp) (p:Addr) (rows:List Row):Prop:=∃bs:List Addr,H p=some (.lst (bs.map V.ref))/\bs.length=rows.length/\∀(i:Nat) b r,bs[i]?=some b->rows[i]?=some r->H b=some (.tup (vN r))
theorem RowsL.same {H H':Hp}{p:Addr}{rows:List Row}(h:RowsL H p rows) (s:Same H H'):RowsL H' p rows:=by
 obtain⟨bs,h1,h2,h3⟩:=h;exact⟨bs,s _ _ h1,h2,λi b r e1 e2=>s _ _ (h3 i b r e1 e2)⟩
def tabl {α κ:Type}(key:α->κ) (l:List α) (k:Nat):List (κ×V):=(l.zipIdx k).map λp=>(key p.1,V.int (p.2:Nat))
section
variable {α κ:Type}[DecidableEq α] [DecidableEq κ]{key:α->κ}
theorem qs1 (l:List α) (k:Nat):(tabl key l k).length=l.length:=by simp[tabl]
theorem q29 (a:α) (l:List α) (k:Nat):tabl key (a::l) k=(key a,V.int (k:Nat))::tabl key l (k+1):=by simp[tabl]
theorem q30 (l:List α) (a:α) (k:Nat):tabl key (l++[a]) k=tabl key l k++[(key a,V.int (k+l.length:Nat))]:=by simp[tabl,List.zipIdx_append]
theorem qz8 (inj:∀a b,key a=key b->a=b) (a:α):∀(l:List α) (k:Nat),valV (tabl key l k) (key a)=if a∈l then some (.int (k+l.idxOf a:Nat)) else none
 |[],k=>by simp[tabl,valV]
 |b::l,k=>by
  rw[q29];by_cases h:b=a
  ·subst h;rw[qr3 rfl,Zt ZB,List.idxOf_cons_self]
   rfl
  ·rw[qr4 (λz=>h (inj _ _ z)),qz8 inj a l (k+1)];by_cases hm:a∈l
   ·have e:(b::l).idxOf a=l.idxOf a+1:=by
     rw[List.idxOf_cons,beq_false_of_ne h]
     rfl
    rw[Zt hm,Zt (Zk _ hm),e];congr 3;lia
   ·rw[Zl hm,Zl (λz=>by rcases Zn.mp z with z|z;exact h z.symm;exact hm z)]
theorem xb4 (inj:∀a b,key a=key b->a=b){l:List α}{a:α}{k:Nat}(h:a∉l):putK (tabl key l k) (key a) (.int (k+l.length:Nat))=tabl key (l++[a]) k:=by
 unfold putK;rw[qm7,qz8 inj,Zl h,Zl (by decide),q30]
end
theorem RowsL.but {H H':Hp}{p e:Addr}{rows:List Row}{o:HO}(h:RowsL H p rows) (b:But e H H') (hpe:p≠e) (he:H e=some o) (no:∀u,o≠.tup u):RowsL H' p rows:=by
 obtain⟨bs,h1,h2,h3⟩:=h;exact⟨bs,b _ _ h1 hpe,h2,λi c r e1 e2=>b.tups he no _ _ (h3 i c r e1 e2)⟩
theorem qx6 {H:Hp}:∀{bs:List Addr}{rows:List Row},bs.length=rows.length->(∀(i:Nat) b r,bs[i]?=some b->rows[i]?=some r->H b=some (.tup (vN r))) ->
  DatasAt H (bs.map V.ref) (rows.map λr=>dT (r.map λx:Nat=>(x:Int)))
 |[],[],_,_=>.nil
 |b::bs,r::rows,hl,h=>by
  refine .cons ?_ (qx6 (by simpa using hl) λi c q e1 e2=>h (i+1) c q (by simpa using e1) (by simpa using e2));have h0:=h 0 b r rfl rfl;rw[qq6] at h0;exact .tup h0 (DatasAt.ints _)
theorem qo2:∀rows:List Row,PyData.canLayAll0 (rows.map λr=>dT (r.map λx:Nat=>(x:Int)))=true
 |[]=>rfl
 |r::rows=>by
  rw[ZE,PyData.canLayAll0,qY5,qo2 rows];rfl
theorem qx7:∀ns:List Int,PyData.depthAll (ns.map PyData.int)=0
 |[]=>rfl
 |n::ns=>by rw[ZE,PyData.depthAll,qx7 ns];rfl
theorem qx8:∀rows:List Row,PyData.depthAll (rows.map λr=>dT (r.map λx:Nat=>(x:Int)))<=1
 |[]=>by decide
 |r::rows=>by
  have:=qx8 rows;have e:(dT (r.map λx:Nat=>(x:Int))).depth=1:=by
   show PyData.depthAll _+1=1;rw[qx7]
  rw[ZE,PyData.depthAll,e];lia
theorem xb5 (cs:List Addr) (t:Addr):cs.map V.ref++[.ref t]=(cs++[t]).map V.ref:=by rw[Z9];rfl
def q31 (rows:List Row):List PyData:=rows.map λr=>dT (r.map λx:Nat=>(x:Int))
theorem qJ5 (m:List Row):PyData.eqv (.list (q31 m)) (.list [])=m.isEmpty:=by
 cases m with
 |nil=>rfl
 |cons a l=>simp[q31,PyData.eqv,PyData.eqvAll]
theorem qk7 {H:Hp}{p:Addr}{rows:List Row}(h:RowsL H p rows):DataAt H (.ref p) (.list (q31 rows)):=by
 obtain⟨bs,hp,hl,hr⟩:=h;exact .lst hp (qx6 hl hr)
theorem qi5 (rows:List Row):(PyData.list (q31 rows)).depth<=60:=by
 have:=qx8 rows;show PyData.depthAll _+1<=60;unfold q31;lia
def tK (rows:List Row):List (List Key×V):=tabl keyN rows 2
theorem xb6 {α:Type}{i1 i2:BEq α}(h1:@LawfulBEq α i1) (h2:@LawfulBEq α i2) (l:List α) (a:α):@List.idxOf α i1 a l=@List.idxOf α i2 a l:=by
 cases xb3 h1 h2
 rfl
theorem xg9 (rows:List Row) (r:Row):valV (tK rows) (keyN r)=if r∈rows then some (.int (rows.idxOf r+2:Nat)) else none:=by
 unfold tK;rw[qz8 (λa b=>qz7)];split
 ·rw[Nat.add_comm];exact Yh (λn:Nat=>some (V.int ((n+2:Nat):Int))) (xb6 (by infer_instance) (by infer_instance) _ _)
 ·rfl
theorem qh3 {H1 H2:Hp}{t n tp:Nat}{rows:List Row}(h:qc6 H1 t n tp rows) (s:Same H1 H2):qc6 H2 t n tp rows:=let ⟨⟨p,a,b⟩,c,d⟩:=h;⟨⟨p,s _ _ a,b.same s⟩,c,d⟩
end Pr
namespace Qf
open Tr
theorem qv1 {L:List Tr}{t:Tr}(h:In L t):post t L=L:=by
 cases t with
 |z=>rfl
 |o=>rfl
 |nd a b c d=>
  have hm:Tr.nd a b c d∈L:=by rcases h with h|h|h;cases h;cases h;exact h
  unfold post;rw[Zt hm]
theorem qx9 {L:List Tr}(h:Ord L){t:Tr}(hk:∀s∈kids t,In L s):rowsOf (L++[t])=rowsOf L++[(kids t).map (name L)]:=by
 unfold rowsOf;rw[Z9];congr 1
 ·refine Yz λu hu=>?_;obtain⟨i,hi,e⟩:=ZD.mp hu;exact Yz λs hs=>name_app (kid_in h (i:=i) (t:=u) (by rw[Zd hi,e]) hs).1 h
 ·show[(kids t).map (name (L++[t]))]=_;congr 1;exact Yz λs hs=>name_app (hk s hs) h
theorem xm5 {L:List Tr}(h:Ord L){a b c d:Tr}(hk:∀s∈kids (.nd a b c d),In L s):(kids (.nd a b c d)).map (name L)∈rowsOf L<->Tr.nd a b c d∈L:=by
 constructor
 ·intro hm;obtain⟨i,hi,e⟩:=ZD.mp hm;obtain⟨t,ht,er⟩:=qp2 (i:=i) (r:=(kids (.nd a b c d)).map (name L)) (by rw[Zd hi,e]);have:=qN5 ⟨a,b,c,d,rfl⟩ (h.ch i t ht).1 (qk1 h hk (λs hs=>(kid_in h ht hs).1) er);rw[this];exact Zz ht
 ·intro hm;obtain⟨i,hi,e⟩:=ZD.mp hm;exact Zz (rowsOf_at (i:=i) (t:=.nd a b c d) (by rw[Zd hi,e]))
theorem xm6 {L:List Tr}(h:Ord L){i:Nat}{t:Tr}(e:L[i]?=some t):(rowsOf L).idxOf ((kids t).map (name L))=i:=by
 have hl:=(gS_ e).1;have e2:=rowsOf_at e;have jI:i<(rowsOf L).length:=by rw[rowsOf_len];exact hl
 have e3:=(gS_ e2).2;rw[<- e3];exact (qq7 h).idxOf_getElem i jI
end Qf
namespace Pr
open PySem L2 Qf
theorem xh0 {H:Hp}{e u:Addr}{L:List Tr}(hO:Tr.Ord L){a b c d:Tr}(hm:Tr.nd a b c d∈L) (he:H e=some (.dT (tK (Tr.rowsOf L)))) (hu:H u=some (.tup (vN [Tr.name L a,Tr.name L b,Tr.name L c,Tr.name L d]))) :
  DGet H e (.ref u) (some (.int (Tr.name L (.nd a b c d):Nat))):=by
 obtain⟨i,hi,ei⟩:=ZD.mp hm;have ei':L[i]?=some (.nd a b c d):=by rw[Zd hi,ei]
 have hix:=xm6 hO ei';have hmr:(Tr.kids (.nd a b c d)).map (Tr.name L)∈Tr.rowsOf L:=Zz (Tr.rowsOf_at ei');have:=DGet.t (k:=keyN ((Tr.kids (.nd a b c d)).map (Tr.name L))) he (by rw[qv0];exact hu);rw[xg9,Zt hmr,hix] at this;rw[Tr.name_at hO ei'];exact this
end Pr
namespace Qf
open Tr
theorem qJ6 {rows:List Row}(ok:qd3 rows){q:Nat}(hq:q<rows.length+2):(T rows q=z<->q=0)/\(T rows q=o<->q=1):=by
 by_cases q2:q<2
 ·match q,q2 with
  |0,_=>rw[qh7];exact⟨⟨λ_=>rfl,λ_=>rfl⟩,⟨λh=>(nomatch h),λh=>(nomatch h)⟩⟩
  |1,_=>rw[qp4];exact⟨⟨λh=>(nomatch h),λh=>(nomatch h)⟩,⟨λ_=>rfl,λ_=>rfl⟩⟩
 ·obtain⟨p',a',b',c',d',rfl,hp'⟩:=qn8 ok hq q2;rw[qo0 ok hp'];exact⟨⟨λh=>(nomatch h),λh=>by lia⟩,⟨λh=>(nomatch h),λh=>by lia⟩⟩
theorem qk2 {n top:Nat}{rows:List Row}(c:Canon n top rows):dep (T rows top)<=n:=by
 obtain⟨er,et⟩:=qR8 c;obtain⟨ho,hi⟩:=post_ord (T rows top) [] ord_nil;have h:=qp5 ho _ hi;rw[<- er,<- et] at h;rw[<- h];exact c.deep
def qr (i:Nat):Tr->Tr
 |.nd a b c d=>[a,b,c,d].getD i .z
 |t=>t
theorem T_qr {rows:List Row}(ok:qd3 rows){p i:Nat}{r:Row}{x:Nat}(hp:rows[p]?=some r) (hi:i<4) (hx:r[i]?=some x):T rows x=qr i (T rows (p+2)):=by
 obtain⟨a,b,c,d,rfl⟩:=qp3 (ok p r hp).1;rw[qo0 ok hp]
 match i,hi with
 |0,_=>cases hx;rfl
 |1,_=>cases hx;rfl
 |2,_=>cases hx;rfl
 |3,_=>cases hx;rfl
theorem xh1 {i k:Nat}(hi:i<4):∀(t:Tr),dep t<=k+1->dep (qr i t)<=k
 |.z,_=>Zx _
 |.o,_=>Zx _
 |.nd a b c d,h=>by
  have h':mx [dep a,dep b,dep c,dep d]<=k:=by
   have:1+mx [dep a,dep b,dep c,dep d]<=k+1:=h;lia
  have m:∀x∈[dep a,dep b,dep c,dep d],x<=k:=λx hx=>ZG (qZ5 hx) h'
  match i,hi with
  |0,_=>exact m (dep a) (by simp)
  |1,_=>exact m (dep b) (by simp)
  |2,_=>exact m (dep c) (by simp)
  |3,_=>exact m (dep d) (by simp)
theorem dep0:∀{t:Tr},dep t<=0->t=.z\/t=.o
 |.z,_=>.inl rfl
 |.o,_=>.inr rfl
 |.nd a b c d,h=>by
  have:1+mx [dep a,dep b,dep c,dep d]<=0:=h;lia
def wdn:Tr->List Nat->Tr×List Nat
 |.nd a b c d,x::ds=>((wdn (qr x (.nd a b c d)) ds).1,x::(wdn (qr x (.nd a b c d)) ds).2)
 |t,_=>(t,[])
theorem qz9 (t:Tr):wdn t []=(t,[]):=by cases t<;>rfl
theorem qF1 {t:Tr}(h:t=.z\/t=.o) (ds:List Nat):wdn t ds=(t,[]):=by rcases h with rfl|rfl<;>cases ds<;>rfl
def cof (f:Nat->Nat):Nat->List Nat->Nat
 |k+1,d::ds=>2^k*f d+cof f k ds
 |_,_=>0
theorem q32 (f:Nat->Nat):∀(n:Nat) (l m:List Nat),l.length<=n->cof f n (l++m)=cof f n l+cof f (n-l.length) m
 |n,[],m,_=>by
  have:cof f n []=0:=by cases n<;>rfl
  rw[this];simp
 |n+1,d::l,m,h=>by
  have h':l.length<=n:=by simpa using h
  show 2^n*f d+cof f n (l++m)=2^n*f d+cof f n l+cof f (n+1-(l.length+1)) m;rw[q32 f n l m h',Nat.add_sub_add_right];lia
theorem qA0:∀(t:Tr) (l m:List Nat),((wdn t l).2=l/\wdn t (l++m)=((wdn (wdn t l).1 m).1,l++(wdn (wdn t l).1 m).2))\/(((wdn t l).1=.z\/(wdn t l).1=.o)/\wdn t (l++m)=wdn t l)
 |t,[],m=>by
  left;rw[qz9];exact⟨rfl,by simp⟩
 |.z,x::l,m=>.inr ⟨.inl rfl,rfl⟩
 |.o,x::l,m=>.inr ⟨.inr rfl,rfl⟩
 |.nd a b c d,x::l,m=>by
  rcases qA0 (qr x (.nd a b c d)) l m with ⟨h1,h2⟩|⟨h1,h2⟩
  ·left;refine⟨?_,?_⟩
   ·show x::(wdn (qr x (.nd a b c d)) l).2=x::l;rw[h1]
   ·show ((wdn (qr x (.nd a b c d)) (l++m)).1,x::(wdn (qr x (.nd a b c d)) (l++m)).2)=_;rw[h2]
    rfl
  ·right;refine⟨h1,?_⟩;show ((wdn (qr x (.nd a b c d)) (l++m)).1,x::(wdn (qr x (.nd a b c d)) (l++m)).2)=_;rw[h2]
   rfl
def dgp (r c k:Nat):Nat->List Nat
 |0=>[]
 |j+1=>(2*(r/2^(k+j)%2)+c/2^(k+j)%2)::dgp r c k j
theorem q33 (r c k:Nat):∀j,(dgp r c k j).length=j
 |0=>rfl
 |j+1=>by show (dgp r c k j).length+1=_;rw[q33]
theorem xh2 (r c k:Nat):∀j,∀d∈dgp r c k j,d<4
 |0,d,h=>by cases h
 |j+1,d,h=>by
  rcases Zn.mp h with rfl|h
  ·lia
  ·exact xh2 r c k j d h
end Qf
namespace L2
open PySem PySem.Spec PyProof.Rows
theorem xm7 {z:Str}{g:TG}{tb:TS}{D:Ends}{σ:St}{H:Hp}(Pv:Nat->St->Hp->Prop) (h0:Pv 0 σ H)
  (hs:∀i c σ H,z.cps[i]?=some c->Pv i σ H->g (.str ⟨#[c]⟩) σ H λσ2 H2=>tb { D with nx:=Pv (i+1),ct:=Pv (i+1),bk:=D.nx } σ2 H2) (hd:∀σ H,Pv z.cps.size σ H->D.nx σ H) :
  ∃W:Nat->Nat->St->Hp->Prop,(∃m,W 0 m σ H)/\∀i m σ H,W i m σ H ->
   ((Its z).stop i H/\D.nx σ H)\/((Its z).go i H/\∃N:St->Hp->Prop,(∀σ' H',N σ' H'->∃m',m'<m/\W (i+1) m' σ' H')/\∀x H',(Its z).yld i H x H'->g x σ H' λσ2 H2=>tb { D with nx:=N,ct:=N,bk:=D.nx } σ2 H2):=by
 refine⟨λi m σ H=>m=z.cps.size-i/\i<=z.cps.size/\Pv i σ H,⟨z.cps.size,by simp,Zx _,h0⟩,?_⟩;rintro i m σ H ⟨rfl,hi,p⟩;by_cases jB:i<z.cps.size
 ·refine .inr ⟨jB,Pv (i+1),λσ' H' p'=>⟨z.cps.size-(i+1),by lia,rfl,jB,p'⟩,λx H' y=>?_⟩;obtain⟨e,c,e1,e2⟩:=y;subst e e2;exact hs i c σ _ e1 p
 ·have e:i=z.cps.size:=by lia
  subst e;exact .inl ⟨Ze _,hd σ H p⟩
end L2
namespace Pr
open PySem L2 Qf
def txt (ds:List Nat):Str:=⟨(ds.map (48+·)).toArray⟩
theorem qA1 (ds:List Nat):(txt ds).length=ds.length:=by simp[txt,Str.length]
theorem qN8 (ds:List Nat):(txt ds).cps.size=ds.length:=by simp[txt]
theorem xh3 {ds:List Nat}{i c:Nat}(h:(txt ds).cps[i]?=some c):∃d,ds[i]?=some d/\c=48+d:=by
 have hc':(ds.map (48+·))[i]?=some c:=by simpa [txt] using h
 rw[Zg] at hc';obtain⟨d,hd,rfl⟩:=Zj.mp hc';exact⟨d,hd,rfl⟩
theorem q34 {d:Nat}(h:d<4):PySem.intText? ⟨#[48+d]⟩=some (d:Int):=by
 match d,h with
 |0,_|1,_|2,_|3,_=>decide +kernel
def four (c:Nat):Bool:=!(Builtin.Str.occurrences "0123" ⟨#[c]⟩ 0 ("0123" : Str).length 1).isEmpty
theorem xb7 {d:Nat}(h:d<4):four (48+d)=true:=by
 match d,h with
 |0,_|1,_|2,_|3,_=>decide +kernel
theorem qN9 {d:Nat}(h:d<4):((toString (d:Int):String):Str)=⟨#[48+d]⟩:=by
 match d,h with
 |0,_|1,_|2,_|3,_=>decide +kernel
def qd (r c k:Nat):Nat:=2*(r/2^k%2)+c/2^k%2
theorem xB2 (r c k:Nat):qd r c k<4:=by unfold qd;lia
theorem q35 (r k:Nat):Builtin.bitAnd ((r:Int)/2^((k:Nat):Int).toNat) 1=((r/2^k%2:Nat):Int):=by
 rw[PyProof.Rows.bitAnd_m1,ZA];have e:((2:Int)^k)=((2^k:Nat):Int):=by simp
 rw[e];lia
theorem qF2 (r c k:Nat):∀j,dgp r c k j=(List.range j).map λi=>qd r c (k+j-1-i)
 |0=>rfl
 |j+1=>by
  rw[WV,ZE,Z3];show qd r c (k+j)::dgp r c k j=_;rw[qF2 r c k j];congr 1;refine Yz λi _=>?_;show qd r c (k+j-1-i)=qd r c (k+(j+1)-1-(i+1));congr 1;lia
theorem qv2 {ds:List Nat}{i d:Nat}(h:ds[i]?=some d):ds.take (i+1)=ds.take i++[d]:=by rw[List.take_succ,h];rfl
theorem qO0 {f:Nat->Nat}{n i d:Nat}{ds:List Nat}(h:ds[i]?=some d) (hl:ds.length<=n):cof f n (ds.take (i+1))=cof f n (ds.take i)+2^(n-i-1)*f d:=by
 have hi:=(gS_ h).1;have ht:(ds.take i).length=i:=by rw[XW];lia
 rw[qv2 h,q32 f n _ _ (by lia),ht];congr 1;obtain⟨k,hk⟩:∃k,n-i=k+1:=⟨n-i-1,by lia⟩;rw[hk];show 2^k*f d+cof f k []=_;have:cof f k []=0:=by cases k<;>rfl
 rw[this]
 rfl
theorem xb8 {n i:Nat}(h:i<n):((2^(n-i):Nat):Int)/2=((2^(n-i-1):Nat):Int):=by
 have e:2^(n-i)=2^(n-i-1)*2:=by
  rw[<- YJ];congr 1;lia
 rw[e];lia
theorem qO1 {n:Nat}(h:n<=12):2^n<=4096:=XH (n:=2) (by decide) h
section
variable {P:Program}{w:World}{K:PySem.W.Frag}{mg:Str->Option Value}{base:Heap}
theorem xv6:FnScope ["n"] ["n"] (qa3 qR7):=qc5
def qO2:Sp:=λvs H Q _=>∃n:Nat,vs=[.int (n:Nat)]/\n<=12/\Q (.int ((2^n:Nat):Int)) H
theorem qJ7 {f:Addr}{fd:FuncData}(F:Fun K "side_of" "side_of" qR7 f fd):FnOk P w K mg base CX0 1 f fd ["n"] qO2:=by
 refine F.ok xv6 (λvs H Q E h=>?_) (λcdv A outer s H vs Q E hr h=>?_)
 ·obtain⟨n,rfl,_⟩:=h
  rfl
 ·obtain⟨n,rfl,h1,q⟩:=h;refine⟨_,qa8 (qa9 (qa7 qf9 qa2 (pv 0))),?_⟩;refine⟨_,rfl,_,_,rfl,rfl,⟨by lia,by lia,by decide⟩,?_⟩;show Q (V.int (1*2^((n:Nat):Int).toNat)) H;rw[Ue,ZA];have e:((2:Int)^n)=((2^n:Nat):Int):=by simp
  rw[e];exact q
theorem scAddr:FnScope ["n", "thing"] ["n", "thing"] (qa3 q07):=qc5
def xh4:Sp:=λvs H Q _=>∃(n:Nat) (ds:List Nat),vs=[.int (n:Nat),.str (txt ds)]/\n<=12/\(∀d∈ds,d<4)/\ds.length<=n/\∀H',Same H H'->Q (.bl true) H'
theorem xm8 {f:Addr}{fd:FuncData}(F:Fun K "is_address" "is_address" q07 f fd) (B:Blt mg) (jP:mg "str" = none):FnOk P w K mg base CX0 2 f fd ["n", "thing"] xh4:=by
 refine F.ok scAddr (λvs H Q E h=>?_) (λcdv A outer s H vs Q E hr h=>?_)
 ·obtain⟨n,x,rfl,_⟩:=h
  rfl
 ·obtain⟨n,ds,rfl,hn,v0,hl,q⟩:=h;refine⟨_,qa8 (qa9 (qi6 (qa6 qk5 (by rfl) B.isi Yv (qa0 (pv 1) (qa0 (qo8 (v:=.ty "str") (by rfl) jP PyProof.Rows.boot_str rfl) qa1)))
   (qi6 (qe0 qq9 (qa6 qC3 (by rfl) B.len YS (qa0 (pv 1) qa1)) (pv 0) (qb4 _))
   (qm5 (qa6 (qn1 rfl) (by rfl) B.all X9 (qa0 (qf1 ["n", "thing"] (qa3 q07) rfl rfl rfl scAddr.nd (xg4 (pv 1)) (λcl C fp s₀ H₀=>qe0 qU8 (pv 0) qw6 (by first|exact qb4 _|rfl|decide))) qa1)))))),?_⟩
  have hcs:(txt ds).cps.size=ds.length:=qN8 ds;refine⟨_,rfl,_,_,_,_,true,rfl,rfl,.inl (.str _),rfl,_,rfl,iteT ?_⟩;refine⟨_,rfl,txt ds,rfl,by rw[qA1];exact XB (qd5 (by lia)),_,rfl,_,_,rfl,rfl,_,rfl,?_⟩;rw[qA1,Zv (by lia)];refine iteT ?_;refine⟨_,rfl,txt ds,rfl,λD hD=>⟨λi m xs H2=>i<=ds.length/\m=ds.length-i/\xs=(List.replicate i true).map V.bl/\H2=upd H D (.lst xs),⟨_,Zx _,rfl,rfl,rfl⟩,?_⟩⟩;rintro i m xs H2 ⟨hi,rfl,rfl,rfl⟩;refine⟨qa4,qd5 (by simp;lia),?_⟩;by_cases he:i=ds.length
  ·refine .inl ⟨by show (txt ds).cps.size<=i;lia,D,List.replicate i true,rfl,qa4,?_⟩;have e1:(List.replicate i true).all id=true:=by simp
   rw[e1];exact q _ λb o e=>by rw[qb1 (qa5 e hD)];exact e
  ·refine .inr ⟨show i<(txt ds).cps.size by lia,?_⟩;rintro y H3 ⟨rfl,c,hcc,rfl⟩;obtain⟨d,hd,rfl⟩:=xh3 hcc;refine⟨_,rfl,_,_,rfl,rfl,qa4,ds.length-(i+1),by lia,by lia,rfl,?_,xj0⟩;have e4:(!(Builtin.Str.occurrences "0123" ⟨#[48+d]⟩ 0 ("0123" : Str).length 1).isEmpty)=true:=xb7 (v0 d (Zz hd));rw[e4,List.replicate_succ',Z9]
   rfl
theorem xm9:FnScope ["n", "address"] ["n", "address"] (qa3 qN0):=qc5
def q36:Sp:=λvs H Q _=>∃(n:Nat) (ds:List Nat),vs=[.int (n:Nat),.str (txt ds)]/\n<=12/\(∀d∈ds,d<4)/\ds.length<=n/\∀H',Same H H'->Q .non H'
theorem xb9 {f fA:Addr}{fd fdA:FuncData}(F:Fun K "want_address" "want_address" qN0 f fd) (hA:mg "is_address" = some (.ref fA)) (FA:Fun K "is_address" "is_address" q07 fA fdA) (bA:Binds K fdA ["n", "thing"] []) (GA:FnOk P w K mg base CX0 2 fA fdA ["n", "thing"] xh4) :
  FnOk P w K mg base CX0 3 f fd ["n", "address"] q36:=by
 refine F.ok xm9 (λvs H Q E h=>?_) (λcdv A outer s H vs Q E hr h=>?_)
 ·obtain⟨n,x,rfl,_⟩:=h
  rfl
 ·obtain⟨n,ds,rfl,hn,v0,hl,q⟩:=h;refine⟨_,qa8 (qd8 (qi9 (qf6 (pcN GA hr hA FA.kp bA (qa0 (pv 0) (qa0 (pv 1) qa1))))) qf7 qb8),?_⟩;exact⟨_,rfl,_,rfl,n,ds,rfl,hn,v0,hl,λH' sm=>⟨_,rfl,iteF (q H' sm)⟩⟩
theorem scCell:FnScope ["n", "row", "column", "side"] ["n", "row", "column"] (qa3 q99):=qc5
def xh5:Sp:=λvs H Q _=>∃(n:Nat) (r c:Int),vs=[.int (n:Nat),.int r,.int c]/\n<=12/\Q (.bl (decide ((0<=r/\r<((2^n:Nat):Int))/\0<=c/\c<((2^n:Nat):Int)))) H
theorem xn0 {f fW fS:Addr}{fd fdW fdS:FuncData}(F:Fun K "is_cell" "is_cell" q99 f fd) (B:Blt mg) (hW:mg "is_whole" = some (.ref fW)) (FW:Fun K "is_whole" "is_whole" qx3 fW fdW) (bW:Binds K fdW ["thing"] [])
  (hS:mg "side_of" = some (.ref fS)) (FS:Fun K "side_of" "side_of" qR7 fS fdS) (bS:Binds K fdS ["n"] []):FnOk P w K mg base CX0 2 f fd ["n", "row", "column"] xh5:=by
 have GW:FnOk P w K mg base CX0 1 fW fdW ["thing"] qz3:=qz4 FW B;have GS:FnOk P w K mg base CX0 1 fS fdS ["n"] qO2:=qJ7 FS;refine F.ok scCell (λvs H Q E h=>?_) (λcdv A outer s H vs Q E hr h=>?_)
 ·obtain⟨n,x,y,rfl,_⟩:=h
  rfl
 ·obtain⟨n,r,c,rfl,hn,q⟩:=h;refine⟨_,qb3 (psN 3 scCell.nd (pcN GS hr hS FS.kp bS (qa0 (pv 0) qa1)))
   (qa8 (qa9 (qi6 (pcN GW hr hW FW.kp bW (qa0 (pv 1) qa1))
    (qi6 (pcN GW hr hW FW.kp bW (qa0 (pv 2) qa1))
    (qi6 (qr2 qq9 qj3 qa2 (pv 1) (pv 3)) (qm5 (qr2 qq9 qj3 qa2 (pv 2) (pv 3)))))))),?_⟩
  refine⟨_,rfl,n,rfl,hn,?_⟩;refine⟨_,rfl,r,rfl,_,rfl,iteT ?_⟩;refine⟨_,rfl,c,rfl,_,rfl,iteT ?_⟩;refine⟨_,rfl,_,_,rfl,rfl,_,rfl,?_⟩;generalize ((2^n:Nat):Int)=m at q ⊢;have q':Q (.bl ((decide (0<=r)&&decide (r<m))&&(decide (0<=c)&&decide (c<m)))) H:=by
   simpa only [Bool.decide_and] using q
  refine ite2 (λa1=>⟨_,rfl,_,_,rfl,rfl,_,rfl,?_⟩) (λa1=>⟨_,rfl,iteF ?_⟩)
  ·rw[a1,Bool.true_and] at q';refine ite2 (λa2=>⟨_,rfl,_,_,rfl,rfl,_,rfl,?_⟩) (λa2=>?_)
   ·rw[a2,Bool.true_and] at q';refine ite2 (λa3=>⟨_,rfl,_,_,rfl,rfl,?_⟩) (λa3=>?_)
    ·rw[a3,Bool.true_and] at q';exact q'
    ·rw[Z0.mpr a3,Wf] at q';exact q'
   ·rw[Z0.mpr a2,Wf] at q';exact q'
  ·rw[Z0.mpr a1,Wf,Wf] at q';exact q'
theorem scBoxAt:FnScope ["n", "address", "row", "column", "side", "figure"] ["n", "address"] (qa3 qN1):=qc5
abbrev rwo (n:Nat) (ds:List Nat):Nat:=cof (· / 2) n ds
abbrev clo (n:Nat) (ds:List Nat):Nat:=cof (·%2) n ds
def q37:Sp:=λvs H Q _=>∃(n:Nat) (ds:List Nat),vs=[.int (n:Nat),.str (txt ds)]/\n<=12/\(∀d∈ds,d<4)/\ds.length<=n /\
 ∀p,H p=none->Q (.ref p) (upd H p (.tup (vN [rwo n ds,clo n ds,2^(n-ds.length)])))
theorem xc0 {f fS:Addr}{fd fdS:FuncData}(F:Fun K "box_at" "box_at" qN1 f fd) (B:Blt mg)
  (hS:mg "side_of" = some (.ref fS)) (FS:Fun K "side_of" "side_of" qR7 fS fdS) (bS:Binds K fdS ["n"] []):FnOk P w K mg base CX0 2 f fd ["n", "address"] q37:=by
 have GS:FnOk P w K mg base CX0 1 fS fdS ["n"] qO2:=qJ7 FS;refine F.ok scBoxAt (λvs H Q E h=>?_) (λcdv A outer s H vs Q E hr h=>?_)
 ·obtain⟨m,ds,rfl,_⟩:=h
  rfl
 ·obtain⟨n,ds,rfl,hn,v0,hl,q⟩:=h;refine⟨_,(qb3 (xl5 qa2 (pgN 2 scBoxAt.nd) (pgN 3 scBoxAt.nd))
   (qb3 (psN 4 scBoxAt.nd (pcN GS hr hS FS.kp bS (qa0 (pv 0) qa1)))
   (qb3 (qq2 Y0 rfl (xg4 (pv 1)) (pgN 5 scBoxAt.nd)
    (qb3 (psN 4 scBoxAt.nd (qa7 qj2 (pv 4) qa2))
    (qb3 (xf4 (i:=2) scBoxAt.nd rfl (Or.inl rfl) (qa7 qi7 (pv 4) (qa7 qj2 (qc4 qD8 (by rfl) B.int X8 (qa0 (pv 5) qa1)) qa2)) qU4)
    (qa8 (xf4 (i:=3) scBoxAt.nd rfl (Or.inl rfl) (qa7 qi7 (pv 4) (qa7 qU3 (qc4 qD8 (by rfl) B.int X8 (qa0 (pv 5) qa1)) qa2)) qU4)))))
   (qa8 (qa9 (qe1 (qa0 (pv 2) (qa0 (pv 3) (qa0 (pv 4) qa1)))))))) ),?_⟩
  refine⟨_,rfl,n,rfl,hn,?_⟩;have c0:∀g:Nat->Nat,cof g n []=0:=λg=>by cases n<;>rfl
  refine⟨_,rfl,txt ds,rfl,xm7 (λi σ H2=>H2=H/\∃v,σ=[some (.int (n:Nat)),some (.str (txt ds)),some (.int ((rwo n (ds.take i):Nat):Int)),some (.int ((clo n (ds.take i):Nat):Int)),some (.int ((2^(n-i):Nat):Int)),v]) ⟨rfl,none,by
   rw[Uf];show _=[some (V.int (n:Nat)),some (.str (txt ds)),some (.int ((cof (· / 2) n []:Nat):Int)),some (.int ((cof (·%2) n []:Nat):Int)),some (.int ((2^(n-0):Nat):Int)),none];rw[c0,c0]
   rfl⟩ ?_ ?_⟩
  ·rintro i c σ H2 hc ⟨rfl,v,rfl⟩;obtain⟨d,hd,rfl⟩:=xh3 hc;have hi:=(gS_ hd).1;have jV:d<4:=v0 d (Zz hd);have h1:rwo n (ds.take (i+1))=rwo n (ds.take i)+2^(n-i-1)*(d/2):=qO0 hd hl;have h2:clo n (ds.take (i+1))=clo n (ds.take i)+2^(n-i-1)*(d%2):=qO0 hd hl;have h3:=xb8 (n:=n) (i:=i) (by lia);have h4:2^(n-i-1)<=4096:=qO1 (by lia);have hb4:-(2^64)<((2^(n-i):Nat):Int)/2/\((2^(n-i):Nat):Int)/2<2^64:=by
    rw[h3];generalize 2^(n-i-1)=x at h4;lia
   refine⟨_,rfl,_,_,rfl,rfl,⟨by decide,by decide⟩,?_⟩;refine⟨_,rfl,_,rfl,_,rfl,_,d,rfl,q34 jV,(by show 1<=640;decide),_,_,rfl,rfl,⟨by decide,by decide⟩,_,_,rfl,rfl,.inl hb4,_,_,rfl,rfl,?_⟩;refine⟨_,rfl,_,rfl,_,rfl,_,d,rfl,q34 jV,(by show 1<=640;decide),_,_,rfl,rfl,_,_,rfl,rfl,.inl hb4,_,_,rfl,rfl,?_⟩;refine⟨rfl,some (.str ⟨#[48+d]⟩),?_⟩;rw[h1,h2];have e1:((rwo n (ds.take i):Nat):Int)+((2^(n-i-1):Nat):Int)*((d:Int)/2)=((rwo n (ds.take i)+2^(n-i-1)*(d/2):Nat):Int):=by
    rw[Vl,WC,W8]
    rfl
   have e2:((clo n (ds.take i):Nat):Int)+((2^(n-i-1):Nat):Int)*Builtin.bitAnd (d:Int) 1=((clo n (ds.take i)+2^(n-i-1)*(d%2):Nat):Int):=by
    rw[PyProof.Rows.bitAnd_m1,Vl,WC,W9]
    rfl
   rw[<- e1,<- e2,show n-(i+1)=n-i-1 from by lia,<- h3]
   rfl
  ·rintro σ H2 ⟨rfl,v,rfl⟩;refine⟨_,rfl,_,rfl,_,rfl,(by show 3<=sizeLine;decide),λp wE=>?_⟩;have e:ds.take (txt ds).cps.size=ds:=YL (by simp[txt]);rw[e,qN8];exact q p wE
end
end Pr
namespace L2
open PySem PySem.Spec PyProof.Rows
section
variable {X:Cx}{elts:List Expr}{x1:Nat}{tpos:Pos}
end
end L2
namespace Pr
open PySem L2 Qf
end Pr
namespace Sp
open PySem PySem.StrLaws Builtin Builtin.Str
end Sp
namespace Pr
open PySem L2 Qf Sp
theorem q38 (a b:List Nat):txt a++txt b=txt (a++b):=by
 show (⟨(txt a).cps++(txt b).cps⟩:Str)=_;simp[txt]
theorem q39 {a b:List Nat}(h:txt a=txt b):a=b:=by
 have h2:(txt a).cps.toList=(txt b).cps.toList:=by rw[h]
 simp only[txt] at h2;have:∀(l m:List Nat),l.map (48+·)=m.map (48+·)->l=m:=λl=>by
  induction l with
  |nil=>intro m e;cases m with
   |nil=>rfl
   |cons _ _=>simp at e
  |cons x l ih=>intro m e;cases m with
   |nil=>simp at e
   |cons y m=>
    simp only[ZE,Y1] at e;rw[ih m e.2,show x=y by lia]
 exact this a b h2
theorem xc1 {t:Tr}{ds:List Nat}{i d:Nat}{a b c e:Tr}(hd:ds[i]?=some d) (h:(wdn t (ds.take i)).2=ds.take i) (hp:(wdn t (ds.take i)).1=.nd a b c e):(wdn t (ds.take (i+1))).1=qr d (.nd a b c e)/\(wdn t (ds.take (i+1))).2=ds.take (i+1):=by
 rw[qv2 hd];rcases qA0 t (ds.take i) [d] with ⟨_,h2⟩|⟨z,_⟩
 ·rw[h2,hp];show (wdn (qr d (.nd a b c e)) []).1=_/\_++d::(wdn (qr d (.nd a b c e)) []).2=_;rw[qz9];exact⟨rfl,rfl⟩
 ·rw[hp] at z;rcases z with z|z<;>cases z
def vT (L:List (List Nat)):List V:=L.map λe=>V.str (txt e)
end Pr
namespace L2
open PySem
section
variable {X:Cx}
theorem qJ8 (ns:List Int):∀n,n<=ns.length->preSum (λi=>ns.getD i 0) n=(ns.take n).sum:=by
 intro n
 induction n with
 |zero=>intro _;simp[preSum]
 |succ n ih=>
  intro h;have hn:n<ns.length:=h;rw[preSum,ih (XB hn),WW hn,List.sum_append];simp[List.getD,hn]
theorem q40 (hc:X.calm=true):qe3 X (.builtin "sum") (λxs H Q=>∃(p:Addr) (ns:List Int),xs=[.ref p]/\H p=some (.lst (ns.map V.int))/\Q (.int ns.sum) H):=by
 intro j8 s σ H xs us Q I r h;obtain⟨p,ns,rfl,hp,q⟩:=h;obtain⟨u,rfl,rx⟩:=qg0 r;cases rx;obtain⟨z,its,n,rv,hl⟩:=I.hok p _ hp;have isl:s.heap.IsList p its.toArray:=⟨_,hl,rfl,_,rfl⟩;have j9:its.length=ns.length:=by have:=rv.length;simpa using this.symm
 have np:p≠s.heap.objs.size:=Zp (Zi hl);refine call_sum_walkAnyB (Xf isl ?_);refine⟨s.heap.objs.size,_,_,_,_,_,_,λi=>ns.getD i 0,rfl,(VD (A:=X.A.in1) (I.ok.hd hc) s.heap.objs.size p np its.toArray).toS,⟨⟨_,Zh _ rfl,rfl,rfl⟩,isl.at λo e=>Zb _ e⟩,?_,?_,?_⟩
 ·intro b hb;rw[ZS];rcases Zn.mp hb with rfl|hb
  ·exact Yq _
  ·have:b=p:=by simpa using hb
   subst this;exact ZZ (Zi hl)
 ·intro i v hv;have hv':its[i]?=some v:=by simpa using hv
  have hi:i<ns.length:=by rw[<- j9];exact (gS_ hv').1
  obtain⟨w',e1,t,e2⟩:=rv.get (x:=V.int (ns[i])) (i:=i) (by simp[hi]);rw[hv'] at e1;cases e1;exact .inl ⟨t,by rw[e2];simp[List.getD,hi]⟩
 ·intro s' t' mv;have es:its.toArray.size=ns.length:=by simpa using j9
  refine⟨.int ns.sum,H,qn0 I mv λb o e hb=>?_,⟨t',?_⟩,q⟩
  ·have:b=s.heap.objs.size:=by simpa using hb
   exact Yk _ (by rw[this] at e;exact Zi e)
  ·rw[es,qJ8 ns _ (Ze _),W7]
end
end L2
namespace Qf
open Tr
def nlf:Tr->Nat
 |.nd a b c d=>nlf a+nlf b+nlf c+nlf d
 |_=>1
def cntL (rows:List Row) (i:Nat):List Nat:=1::1::(List.range i).map λp=>nlf (T rows (p+2))
theorem xc2 (rows:List Row) (i:Nat):(cntL rows i).length=i+2:=by simp[cntL]
theorem q41 {rows:List Row}{i x:Nat}(h:x<i+2):(cntL rows i)[x]?=some (nlf (T rows x)):=by
 match x,h with
 |0,_=>rw[qh7];rfl
 |1,_=>rw[qp4];rfl
 |x+2,h=>
  show ((List.range i).map λp=>nlf (T rows (p+2)))[x]?=_;rw[Zg,Xm (by lia)]
  rfl
theorem q42 {rows:List Row}(ok:qd3 rows){i:Nat}{r:Row}(h:rows[i]?=some r):cntL rows (i+1)=cntL rows i++[(r.map λx=>nlf (T rows x)).sum]:=by
 obtain⟨a,b,c,d,rfl⟩:=qp3 (ok i r h).1;unfold cntL;rw[Xl,Z9];show 1::1::(_++[nlf (T rows (i+2))])=_;rw[qo0 ok h];show 1::1::(_++[nlf (T rows a)+nlf (T rows b)+nlf (T rows c)+nlf (T rows d)])=_;have:([a,b,c,d].map λx=>nlf (T rows x)).sum=nlf (T rows a)+nlf (T rows b)+nlf (T rows c)+nlf (T rows d):=by simp;lia
 rw[this]
 rfl
theorem xn1 (l:List Nat):(l.map λn:Nat=>(n:Int)).sum=((l.sum:Nat):Int):=by
 induction l with
 |nil=>rfl
 |cons a l ih=>rw[ZE,Wv,Wv,ih];lia
end Qf
namespace Pr
open PySem L2 Qf
section
variable {P:Program}{w:World}{K:PySem.W.Frag}{mg:Str->Option Value}{base:Heap}
abbrev nCo:List Str:=["top", "rows", "counts", "row"]
theorem scCo:FnScope nCo ["top", "rows"] (qa3 qu3):=qc5
def spCo:Sp:=λvs H Q _=>∃(p:Addr) (x:Nat) (rows:List Row),vs=[.int (x:Nat),.ref p]/\RowsAt H p rows/\qd3 rows/\rows.length<=900/\x<rows.length+2/\∀H',Same H H'->Q (.int (nlf (T rows x):Nat)) H'
theorem xB3 {f:Addr}{fd:FuncData}(F:Fun K "count_leaves" "count_leaves" qu3 f fd) (yA:mg "sum" = none):FnOk P w K mg base CX0 1 f fd ["top", "rows"] spCo:=by
 refine F.ok scCo (λvs H Q E h=>?_) (λcdv A outer s H vs Q E hr h=>?_)
 ·obtain⟨p,x,rows,rfl,_⟩:=h
  rfl
 ·obtain⟨p,x,rows,rfl,hR,ok,hn,hx,q⟩:=h;refine⟨_,qb3 (psN 2 scCo.nd (qg8 (qa0 qa2 (qa0 qa2 qa1))))
   (qb3 (qq2 Y0 rfl (qw7 (pv 1)) (pgN 3 scCo.nd)
    (qa8 (qd7 (qV8 Xg Xa Xb qg2 (pv 2) (qa0 (qa6 (q40 rfl) (by rfl) yA PyProof.Rows.boot_sum
     (qa0 (qf1 nCo (qa3 qu3) rfl rfl rfl scCo.nd (qw7 (pv 3)) (λcl C fp s₀ H₀=>pxN (ixL K rfl) (pv 3) (pv 0))) qa1)) qa1)))))
   (qa8 (qa9 (pxN (ixL K rfl) (pv 2) (pv 0))))),?_⟩
  refine⟨(by show 2<=sizeLine;decide),λD hD=>?_⟩;obtain⟨bs,hp,j9,jE⟩:=id hR;have kB:=qc9 (u:=.lst [.int 1,.int 1]) hp hD;have jR:(bs.map V.ref).length=rows.length:=by rw[Zf];exact j9
  refine⟨_,rfl,p,rfl,⟨_,SqT.of kB⟩,qI3 (K:=K) (a:=p) (xs:=bs.map V.ref) (λi σ H2=>Same H H2/\H2 D=some (.lst (vN (cntL rows i)))/\∃v2,σ=[some (.int (x:Nat)),some (.ref p),some (.ref D),v2])
   ⟨qb2 hD,qa4,none,rfl⟩ (λi σ H2 _ ⟨s2,_⟩=>SqT.of (s2 _ _ hp)) ?_ ?_⟩
  ·rintro i y σ H2 hy ⟨s2,kS,v2,rfl⟩;have hi:i<rows.length:=by rw[<- jR];exact (gS_ hy).1
   rw[Zg] at hy;obtain⟨b,hb,rfl⟩:=Zj.mp hy;have jG:rows[i]?=some rows[i]:=by simp[hi]
   have kM:=s2 _ _ (jE i b rows[i] hb jG);have rk:=ok i _ jG;generalize rows[i]=r at jG kM rk;refine⟨_,rfl,.inl ⟨rfl,_,SqL.of kS⟩,_,rfl,b,rfl,⟨_,SqT.of kM⟩,λD2 vR=>qg4 vR (λj z _=>∃x,r[j]?=some x/\z=.int (nlf (T rows x):Nat)) (qk6 (K:=K) kM) (by rw[qh6,rk.1];decide) (λ_ _ _ _ _ _ h=>h) ?_ ?_⟩
   ·intro j x H3 hj hx s3 Q' hq;obtain⟨m,hm,rfl⟩:=qx5 hx;have jB:=rk.2 m (Zz hm);exact⟨_,rfl,_,rfl,D,_,(m:Int),.int (nlf (T rows m):Nat),rfl,rfl,SqL.of (s3 _ _ kS),qE6 (q41 jB),hq _ _ (Same.refl _) ⟨m,hm,rfl⟩⟩
   ·intro ys H3 s3 vQ kE kN;have ey:ys=(r.map λx=>nlf (T rows x)).map (λn:Nat=>V.int (n:Int)):=by
     refine qi4 (by rw[kE,qh6,Zf,Zf]) λj x hx=>?_;obtain⟨m,hm,rfl⟩:=kN j x hx;rw[Zg,Zg,hm];rfl
    have e2:ys=((r.map λx=>nlf (T rows x)).map (λn:Nat=>(n:Int))).map V.int:=ey.trans (qq6 _);refine⟨D2,(r.map λx=>nlf (T rows x)).map (λn:Nat=>(n:Int)),rfl,e2▸vQ,?_⟩;rw[xn1];have jV:=s3 _ _ kS;refine⟨D,_,_,rfl,rfl,jV,?_,?_⟩
    ·rw[qh6,xc2];exact qd5 (by lia)
    ·have nD:∀b o,H b=some o->b≠D:=λb o e=>qa5 e hD;refine⟨λb o e=>by rw[qb1 (nD b o e)];exact s3 _ _ (s2 _ _ e),?_,_,rfl⟩;rw[qa4,q42 ok jG];unfold vN;rw[Z9]
     rfl
  ·rintro σ H2 ⟨s2,kS,v2,rfl⟩;rw[jR] at kS;exact⟨_,rfl,_,rfl,D,_,(x:Int),.int (nlf (T rows x):Nat),rfl,rfl,SqL.of kS,qE6 (q41 hx),q H2 s2⟩
theorem scWL:FnScope ["shape", "most"] ["shape", "most"] (qa3 qN3):=qc5
def spWL:Sp:=λvs H Q _=>∃(t:Addr) (n tp m:Nat) (rows:List Row),vs=[.ref t,.int (m:Nat)]/\qc6 H t n tp rows/\nlf (T rows tp)<=m/\∀H',Same H H'->Q .non H'
theorem xB4 {f fC:Addr}{fd fdC:FuncData}(F:Fun K "want_leaves" "want_leaves" qN3 f fd) (hC:mg "count_leaves" = some (.ref fC)) (FC:Fun K "count_leaves" "count_leaves" qu3 fC fdC) (bC:Binds K fdC ["top", "rows"] []) (GC:FnOk P w K mg base CX0 1 fC fdC ["top", "rows"] spCo) :
  FnOk P w K mg base CX0 2 f fd ["shape", "most"] spWL:=by
 refine F.ok scWL (λvs H Q E h=>?_) (λcdv A outer s H vs Q E hr h=>?_)
 ·obtain⟨t,n,tp,m,rows,rfl,_⟩:=h
  rfl
 ·obtain⟨t,n,tp,m,rows,rfl,hS,hm,q⟩:=h;obtain⟨⟨p,ht,hR⟩,cn,hl⟩:=id hS;refine qg5 ⟨_,⟨qd8 (qb7 q85 (PEb.go ⟨pcN GC hr hC FC.kp bC (Ars2.go (.cons ⟨pxN qc8 (pv 0) qa2⟩ (.cons ⟨pxN qc8 (pv 0) qa2⟩ .nil rfl) rfl))⟩) (pv 1) (qb4 _)) qf7 qb8⟩,?_⟩;refine⟨_,rfl,t,_,1,.int (tp:Nat),rfl,rfl,SqT.of ht,rfl,_,rfl,t,_,2,.ref p,rfl,rfl,SqT.of ht,rfl,p,tp,rows,rfl,hR,cn.rok,hl,cn.inn,λH1 s1=>?_⟩;refine⟨_,rfl,_,_,rfl,rfl,_,rfl,?_⟩;rw[Zu (show ¬((m:Int)<(nlf (T rows tp):Nat)) by lia)];exact iteF (q H1 s1)
theorem scCs:FnScope ["shape"] ["shape"] (qa3 qz2):=qc5
def spCs:Sp:=λvs H Q _=>∃(t:Addr) (n tp:Nat) (rows:List Row),vs=[.ref t]/\qc6 H t n tp rows/\nlf (T rows tp)<=2000/\∀H',Same H H'->Q .non H'
theorem xB5 {f fC:Addr}{fd fdC:FuncData}(F:Fun K "want_coarse" "want_coarse" qz2 f fd) (hmo:∃t,mg "MOST_LEAVES" = some (.int 2000 t)) (hC:mg "want_leaves" = some (.ref fC)) (FC:Fun K "want_leaves" "want_leaves" qN3 fC fdC) (bC:Binds K fdC ["shape", "most"] []) (GC:FnOk P w K mg base CX0 2 fC fdC ["shape", "most"] spWL) :
  FnOk P w K mg base CX0 3 f fd ["shape"] spCs:=by
 obtain⟨tm,hmo⟩:=hmo;refine F.ok scCs (λvs H Q E h=>?_) (λcdv A outer s H vs Q E hr h=>?_)
 ·obtain⟨t,n,tp,rows,rfl,_⟩:=h
  rfl
 ·obtain⟨t,n,tp,rows,rfl,hS,hm,q⟩:=h;refine⟨_,qa8 (qd7 (pcN GC hr hC FC.kp bC (qa0 (pv 0) (qa0 (qd9 (v:=.int 2000) (by rfl) hmo ⟨_,rfl⟩) qa1)))),?_⟩;exact⟨_,rfl,t,n,tp,2000,rows,rfl,hS,hm,q⟩
end
end Pr
namespace Qf
open Tr
def lvT:Tr->List (List Nat×Bool)
 |.z=>[([],false)]
 |.o=>[([],true)]
 |.nd a b c d=>(lvT a).map (λe=>(0::e.1,e.2))++(lvT b).map (λe=>(1::e.1,e.2))++(lvT c).map (λe=>(2::e.1,e.2))++(lvT d).map (λe=>(3::e.1,e.2))
def preL (ad:List Nat) (L:List (List Nat×Bool)):List (List Nat×Bool):=L.map λe=>(ad++e.1,e.2)
theorem qk3:∀t:Tr,(lvT t).length=nlf t
 |.z=>rfl
 |.o=>rfl
 |.nd a b c d=>by
  show (_++_++_++_:List _).length=nlf a+nlf b+nlf c+nlf d;simp only[ZC,Zf];rw[qk3 a,qk3 b,qk3 c,qk3 d]
theorem xn2 (ad:List Nat) (a b c d:Tr):preL ad (lvT (.nd a b c d))=preL (ad++[0]) (lvT a)++preL (ad++[1]) (lvT b)++preL (ad++[2]) (lvT c)++preL (ad++[3]) (lvT d):=by
 show List.map _ (_++_++_++_)=_;unfold preL;simp only[Z9,Z3,Function.comp_def,Ys,List.singleton_append]
theorem xc3 (ad:List Nat) (L:List (List Nat×Bool)):(preL ad L).length=L.length:=by unfold preL;rw[Zf]
theorem q43 {f:Nat->Nat}(hf:∀d,d<4->f d<=1):∀(ds:List Nat) (n:Nat),(∀d∈ds,d<4)->ds.length<=n->∃q,cof f n ds=2^(n-ds.length)*q/\q<2^ds.length
 |[],n,_,_=>⟨0,by cases n<;>rfl,by simp⟩
 |d::ds,0,_,h=>by simp at h
 |d::ds,n+1,hd,h=>by
  have h':ds.length<=n:=by simpa using h
  obtain⟨q,e,hq⟩:=q43 hf ds n (λx hx=>hd x (Zk _ hx)) h';refine⟨2^ds.length*f d+q,?_,?_⟩
  ·show 2^n*f d+cof f n ds=2^(n+1-(ds.length+1))*_;rw[e,Nat.add_sub_add_right,Wh,<- Y8,<- Vf,Nat.sub_add_cancel h']
  ·have:=hf d (hd d (by simp));show _<2^(ds.length+1);rw[YJ];have h2:2^ds.length*f d<=2^ds.length*1:=Nat.mul_le_mul_left _ this;lia
theorem qO3 {f:Nat->Nat}(hf:∀d,d<4->f d<=1){ds:List Nat}{n:Nat}(hd:∀d∈ds,d<4) (h:ds.length<=n):cof f n ds+2^(n-ds.length)<=2^n:=by
 obtain⟨q,e,hq⟩:=q43 hf ds n hd h;have e2:2^n=2^(n-ds.length)*2^ds.length:=by rw[<- Vf,Nat.sub_add_cancel h]
 rw[e,e2,<- Nat.mul_succ];exact Nat.mul_le_mul_left _ hq
theorem q44:∀d,d<4->d/2<=1:=λd h=>by lia
theorem xh6:∀d,d<4->d%2<=1:=λd h=>by lia
end Qf
namespace Qf
open Tr L2
def plT (b:Bool):Tr:=if b then .o else .z
theorem lvT_nd {a b c d:Tr}{e:List Nat×Bool}:e∈lvT (.nd a b c d)<->∃x l,x<4/\e.1=x::l/\(l,e.2)∈lvT (qr x (.nd a b c d)):=by
 have key:∀(x:Nat) (t:Tr),e∈(lvT t).map (λe=>(x::e.1,e.2))<->∃l,e.1=x::l/\(l,e.2)∈lvT t:=λx t=>by
  rw[Yg];constructor
  ·rintro⟨f,hf,rfl⟩;exact⟨f.1,rfl,hf⟩
  ·rintro⟨l,h1,h2⟩;exact⟨_,h2,Ui h1.symm rfl⟩
 show e∈_++_++_++_<->_;simp only[Z7,key];constructor
 ·rintro (((⟨l,h⟩|⟨l,h⟩)|⟨l,h⟩)|⟨l,h⟩)
  ·exact⟨0,l,by decide,h⟩
  ·exact⟨1,l,by decide,h⟩
  ·exact⟨2,l,by decide,h⟩
  ·exact⟨3,l,by decide,h⟩
 ·rintro⟨x,l,hx,h⟩
  match x,hx with
  |0,_=>exact .inl (.inl (.inl ⟨l,h⟩))
  |1,_=>exact .inl (.inl (.inr ⟨l,h⟩))
  |2,_=>exact .inl (.inr ⟨l,h⟩)
  |3,_=>exact .inr ⟨l,h⟩
theorem qO4 {x m:Nat}{a b c d:Tr}(hx:x<4) (h:dep (.nd a b c d)<=m+1):dep (qr x (.nd a b c d))<=m:=xh1 hx _ h
theorem qy0:∀(m:Nat) (t:Tr) (e:List Nat×Bool),dep t<=m->e∈lvT t->(∀d∈e.1,d<4)/\e.1.length<=m
 |m,.z,e,_,h=>by
  have:e=([],false):=by simpa [lvT] using h
  subst this;exact⟨λd h=>(nomatch h),Zx _⟩
 |m,.o,e,_,h=>by
  have:e=([],true):=by simpa [lvT] using h
  subst this;exact⟨λd h=>(nomatch h),Zx _⟩
 |0,.nd a b c d,e,hd,h=>by rcases dep0 hd with z|z<;>cases z
 |m+1,.nd a b c d,e,hd,h=>by
  obtain⟨x,l,hx,h1,h2⟩:=lvT_nd.mp h;obtain⟨i1,i2⟩:=qy0 m _ _ (qO4 hx hd) h2;rw[h1];refine⟨λq hq=>?_,by rw[ZV];exact V2 i2⟩;rcases Zn.mp hq with rfl|z
  ·exact hx
  ·exact i1 q z
def inB (n:Nat) (ad:List Nat) (r c:Nat):Prop:=cof (· / 2) n ad<=r/\r<cof (· / 2) n ad+2^(n-ad.length)/\cof (·%2) n ad<=c/\c<cof (·%2) n ad+2^(n-ad.length)
theorem q45 (f:Nat->Nat) (n:Nat):cof f n []=0:=by cases n<;>rfl
theorem qF3 (r m:Nat):r%2^(m+1)=2^m*(r/2^m%2)+r%2^m:=by
 rw[YJ,Nat.mod_mul,Nat.add_comm]
theorem qF4:∀(n:Nat) (t:Tr) (r c:Nat),dep t<=n->(∃ad b,(ad,b)∈lvT t/\wdn t (dgp r c 0 n)=(plT b,ad))/\∀ad b,(ad,b)∈lvT t->(wdn t (dgp r c 0 n)=(plT b,ad)<->inB n ad (r%2^n) (c%2^n)):=by
 have plain:∀(b0:Bool) (t:Tr),t=plT b0->lvT t=[([],b0)]->∀n r c,(∃ad b,(ad,b)∈lvT t/\wdn t (dgp r c 0 n)=(plT b,ad))/\∀ad b,(ad,b)∈lvT t->(wdn t (dgp r c 0 n)=(plT b,ad)<->inB n ad (r%2^n) (c%2^n)):=λb0 t ht hl n r c=>by
  have e:wdn t (dgp r c 0 n)=(plT b0,[]):=by
   rw[qF1 (by rw[ht];cases b0;exact .inl rfl;exact .inr rfl),ht]
  refine⟨⟨[],b0,by rw[hl];simp,e⟩,λad b h=>?_⟩;rw[hl] at h;have h':ad=[]/\b=b0:=by simpa using h
  obtain⟨rfl,rfl⟩:=h';refine⟨λ_=>?_,λ_=>e⟩;unfold inB;rw[q45,q45];have:=Xk r (Xr (n:=n) (show 0<2 by decide));have:=Xk c (Xr (n:=n) (show 0<2 by decide));simp;lia
 intro n
 induction n with
 |zero=>
  intro t r c hd;rcases dep0 hd with rfl|rfl
  ·exact plain false _ rfl rfl _ _ _
  ·exact plain true _ rfl rfl _ _ _
 |succ m ih=>
  intro t r c hd;cases t with
  |z=>exact plain false _ rfl rfl _ _ _
  |o=>exact plain true _ rfl rfl _ _ _
  |nd p q s u=>
   have ed:dgp r c 0 (m+1)=(2*(r/2^m%2)+c/2^m%2)::dgp r c 0 m:=by
    show (2*(r/2^(0+m)%2)+c/2^(0+m)%2)::dgp r c 0 m=_;rw[Vv]
   have ew:wdn (.nd p q s u) (dgp r c 0 (m+1))=((wdn (qr (2*(r/2^m%2)+c/2^m%2) (.nd p q s u)) (dgp r c 0 m)).1,(2*(r/2^m%2)+c/2^m%2)::(wdn (qr (2*(r/2^m%2)+c/2^m%2) (.nd p q s u)) (dgp r c 0 m)).2):=by rw[ed];rfl
   rw[ew];have yC:2*(r/2^m%2)+c/2^m%2<4:=by lia
   constructor
   ·obtain⟨⟨ad,b,h1,h2⟩,_⟩:=ih _ r c (qO4 yC hd);refine⟨_::ad,b,lvT_nd.mpr ⟨_,ad,yC,rfl,h1⟩,?_⟩;rw[h2]
   ·intro ad b h;obtain⟨x,l,hx,rfl,h2⟩:=lvT_nd.mp h;obtain⟨_,hi⟩:=ih (qr x (.nd p q s u)) r c (qO4 hx hd);have hil:=hi l b h2;obtain⟨a1,a2⟩:=qy0 m _ _ (qO4 hx hd) h2;have c1:=qO3 q44 a1 a2;have c2:=qO3 xh6 a1 a2;have lr:=Xk r (Xr (n:=m) (show 0<2 by decide));have lc:=Xk c (Xr (n:=m) (show 0<2 by decide));have hir:inB (m+1) (x::l) (r%2^(m+1)) (c%2^(m+1))<->(r/2^m%2=x/2/\c/2^m%2=x%2)/\inB m l (r%2^m) (c%2^m):=by
     unfold inB;rw[qF3 r m,qF3 c m,show m+1-(x::l).length=m-l.length by simp];show (2^m*(x/2)+cof (· / 2) m l<=_/\_<2^m*(x/2)+cof (· / 2) m l+_/\2^m*(x%2)+cof (·%2) m l<=_/\_<2^m*(x%2)+cof (·%2) m l+_)<->_;generalize cof (· / 2) m l=A at *;generalize cof (·%2) m l=B at *;generalize 2^(m-l.length)=S at *;generalize r%2^m=R at *;generalize c%2^m=C at *;have vF:r/2^m%2=0\/r/2^m%2=1:=by lia
     have hc2:c/2^m%2=0\/c/2^m%2=1:=by lia
     generalize r/2^m%2=ρ at *;generalize c/2^m%2=γ at *;generalize 2^m=M at *;have hx2:x/2=0\/x/2=1:=by lia
     have hx3:x%2=0\/x%2=1:=by lia
     generalize x/2=X2 at *;generalize x%2=X3 at *;rcases vF with rfl|rfl<;>rcases hc2 with rfl|rfl<;>rcases hx2 with rfl|rfl<;>rcases hx3 with rfl|rfl<;>simp only[Nat.mul_zero,Nat.mul_one,Vv,true_and,Ud,false_and,and_false,iff_false,reduceCtorEq,Nat.one_ne_zero,Nat.zero_ne_one,eq_self]<;>lia
    rw[hir,<- hil];constructor
    ·intro e;have e1:=Yh Prod.fst e;have e2:=Yh Prod.snd e;obtain⟨e3,e4⟩:=List.cons.inj e2;have e3:2*(r/2^m%2)+c/2^m%2=x:=e3;rw[e3] at e1 e4;exact⟨by lia,Ui e1 e4⟩
    ·rintro⟨e1,e2⟩;have e3:2*(r/2^m%2)+c/2^m%2=x:=by lia
     rw[e3,e2]
def lfAd (t:Tr) (n r c:Nat):List Nat:=(wdn t (dgp r c 0 n)).2
theorem qJ9 {n:Nat}{t:Tr}{r c:Nat}(hd:dep t<=n) (hr:r<2^n) (hc:c<2^n):∃b,(lfAd t n r c,b)∈lvT t/\(wdn t (dgp r c 0 n)).1=plT b/\inB n (lfAd t n r c) r c:=by
 obtain⟨⟨ad,b,h1,h2⟩,h3⟩:=qF4 n t r c hd;have e:lfAd t n r c=ad:=by unfold lfAd;rw[h2]
 refine⟨b,by rw[e];exact h1,by rw[h2],?_⟩;rw[e];have:=(h3 ad b h1).mp h2
 rwa [Xs hr,Xs hc] at this
theorem xn3 {n:Nat}{t:Tr}{r c:Nat}{ad:List Nat}{b:Bool}(hd:dep t<=n) (hr:r<2^n) (hc:c<2^n) (h:(ad,b)∈lvT t) (hi:inB n ad r c):lfAd t n r c=ad/\(wdn t (dgp r c 0 n)).1=plT b:=by
 have:=((qF4 n t r c hd).2 ad b h).mpr (by rw[Xs hr,Xs hc];exact hi);unfold lfAd;rw[this];exact⟨rfl,rfl⟩
theorem qv3:∀t:Tr,((lvT t).map (·.1)).Pairwise (·<·)
 |.z=>WN _ _
 |.o=>WN _ _
 |.nd a b c d=>by
  have one:∀(x:Nat) (t:Tr),((lvT t).map (·.1)).Pairwise (·<·)->(((lvT t).map (λe=>(x::e.1,e.2))).map (·.1)).Pairwise (·<·):=λx t h=>by
   rw[Z3,List.pairwise_map] at *;exact h.imp λ{u v} z=>by
    show x::u.1<x::v.1;rw[ZU];exact .inr ⟨rfl,z⟩
  have two:∀{x y:Nat}{s t:Tr}{u v:List Nat},x<y->u∈((lvT s).map (λe=>(x::e.1,e.2))).map (·.1)->v∈((lvT t).map (λe=>(y::e.1,e.2))).map (·.1)->u<v:=λ{x y s t u v} h hu hv=>by
   rw[Z3] at hu hv;obtain⟨e,_,rfl⟩:=Yg.mp hu;obtain⟨f,_,rfl⟩:=Yg.mp hv;show x::e.1<y::f.1;rw[ZU];exact .inl h
  show ((_++_++_++_:List _).map _).Pairwise _;rw[Z9,Z9,Z9];refine YW.mpr ⟨YW.mpr ⟨YW.mpr ⟨one 0 a (qv3 a),one 1 b (qv3 b),λu hu v hv=>two (by decide) hu hv⟩,one 2 c (qv3 c),λu hu v hv=>?_⟩,one 3 d (qv3 d),λu hu v hv=>?_⟩
  ·rcases Z7.mp hu with hu|hu
   ·exact two (by decide) hu hv
   ·exact two (by decide) hu hv
  ·rcases Z7.mp hu with hu|hu
   ·rcases Z7.mp hu with hu|hu
    ·exact two (by decide) hu hv
    ·exact two (by decide) hu hv
   ·exact two (by decide) hu hv
theorem xh7:∀{l m:List (List Nat)},l.Pairwise (·<·)->m.Pairwise (·<·)->(∀x,x∈l<->x∈m)->l=m
 |[],[],_,_,_=>rfl
 |[],y::m,_,_,h=>absurd ((h y).mpr (by simp)) (by simp)
 |x::l,[],_,_,h=>absurd ((h x).mp (by simp)) (by simp)
 |x::l,y::m,hl,hm,h=>by
  obtain⟨l1,l2⟩:=YD.mp hl;obtain⟨m1,m2⟩:=YD.mp hm;have e:x=y:=by
   rcases Zn.mp ((h x).mp (by simp)) with z|z
   ·exact z
   ·rcases Zn.mp ((h y).mpr (by simp)) with z2|z2
    ·exact z2.symm
    ·exact absurd (VX (m1 x z) (l1 y z2)) (Xe _)
  subst e;rw[xh7 l2 m2 λz=>?_];constructor
  ·intro hz;rcases Zn.mp ((h z).mp (by simp[hz])) with e|e
   ·subst e;exact absurd (l1 z hz) (Xe _)
   ·exact e
  ·intro hz;rcases Zn.mp ((h z).mpr (by simp[hz])) with e|e
   ·subst e;exact absurd (m1 z hz) (Xe _)
   ·exact e
def abI (i:Int):Int:=if i<0 then -i else i
def mxI (i j:Int):Int:=if j>i then j else i
def dst (r c a b:Nat):Int:=mxI (abI ((a:Int)-r)) (abI ((b:Int)-c))
def key3 (x y z:Int):List (List Int):=[[x],[y],[z]]
theorem qA2 {x y z x' y' z':Int}:key3 x y z<key3 x' y' z'<->x<x'\/x=x'/\(y<y'\/y=y'/\z<z'):=by
 unfold key3;simp[ZU]
theorem qs2 {x y z x' y' z':Int}(h:key3 x y z=key3 x' y' z'):x=x'/\y=y'/\z=z':=by
 unfold key3 at h;simpa using h
def lfF (n r c:Nat) (ad:List Nat):Int:=best [0,(cof (· / 2) n ad:Nat)-(r:Int),(cof (·%2) n ad:Nat)-(c:Int),1-((2^(n-ad.length):Nat):Int)-((cof (· / 2) n ad:Nat)-(r:Int)),1-((2^(n-ad.length):Nat):Int)-((cof (·%2) n ad:Nat)-(c:Int))] 4
def lfR (n r c:Nat) (ad:List Nat):Int:=mxI (cof (· / 2) n ad:Nat) ((r:Int)-lfF n r c ad)
def lfC (n r c:Nat) (ad:List Nat):Int:=mxI (cof (·%2) n ad:Nat) ((c:Int)-lfF n r c ad)
def kF (n r c:Nat) (ad:List Nat):List (List Int):=key3 (lfF n r c ad) (lfR n r c ad) (lfC n r c ad)
def kC (r c a b:Nat):List (List Int):=key3 (dst r c a b) a b
theorem xB6 (a b c d e:Int):(a<=best [a,b,c,d,e] 4/\b<=best [a,b,c,d,e] 4/\c<=best [a,b,c,d,e] 4/\d<=best [a,b,c,d,e] 4/\e<=best [a,b,c,d,e] 4)/\(best [a,b,c,d,e] 4=a\/best [a,b,c,d,e] 4=b\/best [a,b,c,d,e] 4=c\/best [a,b,c,d,e] 4=d\/best [a,b,c,d,e] 4=e):=by
 have e0:best [a,b,c,d,e] 0=a:=rfl;have step:∀k x,[a,b,c,d,e].getD (k+1) 0=x->(best [a,b,c,d,e] k<=best [a,b,c,d,e] (k+1)/\x<=best [a,b,c,d,e] (k+1))/\(best [a,b,c,d,e] (k+1)=best [a,b,c,d,e] k\/best [a,b,c,d,e] (k+1)=x):=λk x h=>by
  have:best [a,b,c,d,e] (k+1)=if x>best [a,b,c,d,e] k then x else best [a,b,c,d,e] k:=by rw[<- h];rfl
  rw[this];by_cases z:x>best [a,b,c,d,e] k
  ·rw[Zt z];exact⟨⟨by lia,by lia⟩,.inr rfl⟩
  ·rw[Zl z];exact⟨⟨by lia,by lia⟩,.inl rfl⟩
 have s1:=step 0 b rfl;have s2:=step 1 c rfl;have s3:=step 2 d rfl;have s4:=step 3 e rfl;simp only[Nat.reduceAdd] at s1 s2 s3 s4;rw[e0] at s1;lia
theorem xn4 (i j:Int):i<=mxI i j/\j<=mxI i j/\(mxI i j=i\/mxI i j=j):=by
 unfold mxI;split
 ·exact⟨by lia,Vg _,.inr rfl⟩
 ·exact⟨Vg _,by lia,.inl rfl⟩
theorem xh8 {i f:Int}:abI i<=f<->i<=f/\-i<=f:=by
 unfold abI;split<;>lia
theorem dst_le {r c a b:Nat}{f:Int}:dst r c a b<=f<->(a:Int)-r<=f/\(r:Int)-a<=f/\(b:Int)-c<=f/\(c:Int)-b<=f:=by
 unfold dst;obtain⟨h1,h2,h3⟩:=xn4 (abI ((a:Int)-r)) (abI ((b:Int)-c));have e:mxI (abI ((a:Int)-r)) (abI ((b:Int)-c))<=f<->abI ((a:Int)-r)<=f/\abI ((b:Int)-c)<=f:=⟨λh=>⟨Int.le_trans h1 h,Int.le_trans h2 h⟩,λh=>by rcases h3 with e|e<;>rw[e];exact h.1;exact h.2⟩;rw[e,xh8,xh8];clear h1 h2 h3 e;lia
theorem xh9 {n r c:Nat}{ad:List Nat}(h4:∀d∈ad,d<4) (hl:ad.length<=n) (hr:r<2^n) (hc:c<2^n) :
  (∃a b:Nat,inB n ad a b/\a<2^n/\b<2^n/\kF n r c ad=kC r c a b)/\∀a b,inB n ad a b->¬kC r c a b<kF n r c ad:=by
 have c1:=qO3 q44 h4 hl;have c2:=qO3 xh6 h4 hl;have hs:0<2^(n-ad.length):=Xr (by decide);unfold kF kC lfR lfC inB;have hb:=xB6 0 ((cof (· / 2) n ad:Nat)-(r:Int)) ((cof (·%2) n ad:Nat)-(c:Int)) (1-((2^(n-ad.length):Nat):Int)-((cof (· / 2) n ad:Nat)-(r:Int))) (1-((2^(n-ad.length):Nat):Int)-((cof (·%2) n ad:Nat)-(c:Int)));change (_<=lfF n r c ad/\_<=lfF n r c ad/\_<=lfF n r c ad/\_<=lfF n r c ad/\_<=lfF n r c ad)/\(lfF n r c ad=_\/lfF n r c ad=_\/lfF n r c ad=_\/lfF n r c ad=_\/lfF n r c ad=_) at hb;generalize lfF n r c ad=f at *;generalize cof (· / 2) n ad=A at *;generalize cof (·%2) n ad=B at *;generalize 2^(n-ad.length)=S at *;generalize 2^n=N at *;obtain⟨⟨b1,b2,b3,b4,b5⟩,hb⟩:=hb;obtain⟨m1,m2,m3⟩:=xn4 A ((r:Int)-f);obtain⟨k1,k2,k3⟩:=xn4 B ((c:Int)-f);generalize mxI A ((r:Int)-f)=R at *;generalize mxI B ((c:Int)-f)=C at *;have low:∀a b:Nat,A<=a->a<A+S->B<=b->b<B+S->f<=dst r c a b:=λa b h1 h2 h3 h4=>by
  obtain⟨d1,d2,d3,d4⟩:=dst_le.mp (Vg (dst r c a b));generalize dst r c a b=d at d1 d2 d3 d4 ⊢;clear m1 m2 m3 k1 k2 k3 b1 b2 b3 b4 b5 c1 c2;rcases hb with e|e|e|e|e
  ·lia
  ·lia
  ·lia
  ·lia
  ·lia
 clear hb;constructor
 ·have hR:R<(A:Int)+S:=by rcases m3 with e|e<;>lia
  have hC:C<(B:Int)+S:=by rcases k3 with e|e<;>lia
  obtain⟨x,rfl⟩:∃x:Nat,R=x:=⟨R.toNat,by lia⟩;obtain⟨y,rfl⟩:∃y:Nat,C=y:=⟨C.toNat,by lia⟩;have l1:A<=x:=by lia
  have l2:x<A+S:=by lia
  have l3:B<=y:=by lia
  have l4:y<B+S:=by lia
  have lw:=low x y l1 l2 l3 l4;have up:dst r c x y<=f:=dst_le.mpr ⟨by rcases m3 with e|e<;>lia,by lia,by rcases k3 with e|e<;>lia,by lia⟩;refine⟨x,y,⟨l1,l2,l3,l4⟩,by lia,by lia,?_⟩;rw[show dst r c x y=f by lia]
 ·rintro a b ⟨h1,h2,h3,h4⟩ z;have lw:=low a b h1 h2 h3 h4;clear low;rw[qA2] at z;obtain⟨d1,d2,d3,d4⟩:=dst_le.mp (Vg (dst r c a b));generalize dst r c a b=d at *;have z':d=f/\((a:Int)<R\/(a:Int)=R/\(b:Int)<C):=by
   rcases z with z|z
   ·lia
   ·exact z
  obtain⟨rfl,z'⟩:=z';have hRa:R<=(a:Int):=by rcases m3 with e|e<;>lia
  have hCb:C<=(b:Int):=by rcases k3 with e|e<;>lia
  clear m1 m2 m3 k1 k2 k3 b1 b2 b3 b4 b5 c1 c2 d1 d2 d3 d4;lia
end Qf
namespace L2
open PySem PySem.Spec PyProof.Rows
section
variable {prog:Program}{w:World}{A:Around}{E:Value->Shared->Prop}{s:Shared}
end
section
variable {X:Cx}{elts:List Expr}{x1:Nat}{tpos:Pos}
end
theorem q46 {K:PySem.W.Frag}{a:Addr}{xs:List V}{g:TG}{tb:TS}{D:Ends}{σ:St}{H:Hp}(Pv:Nat->St->Hp->Prop) (hk:∀i σ H2,Pv i σ H2->H2 a=some (.tup xs)) (h0:Pv 0 σ H)
  (hs:∀i x σ H p,xs[i]?=some x->Pv i σ H->H p=none->g (.ref p) σ (upd H p (.tup [.int i,x])) λσ2 H2=>tb { D with nx:=Pv (i+1),ct:=Pv (i+1),bk:=D.nx } σ2 H2) (hd:∀σ H,Pv xs.length σ H->D.nx σ H) :
  ∃W:Nat->Nat->St->Hp->Prop,(∃m,W 0 m σ H)/\∀i m σ H,W i m σ H ->
   ((Ite K a).stop i H/\D.nx σ H)\/((Ite K a).go i H/\∃N:St->Hp->Prop,(∀σ' H',N σ' H'->∃m',m'<m/\W (i+1) m' σ' H')/\∀x H',(Ite K a).yld i H x H'->g x σ H' λσ2 H2=>tb { D with nx:=N,ct:=N,bk:=D.nx } σ2 H2):=by
 refine⟨λi m σ H=>m=xs.length-i/\i<=xs.length/\Pv i σ H,⟨xs.length,by simp,Zx _,h0⟩,?_⟩;rintro i m σ H ⟨rfl,hi,p⟩;have hq:SqT K H a xs:=SqT.of (hk i σ H p);by_cases jB:i<xs.length
 ·refine .inr ⟨⟨xs,xs[i],hq,by simp[jB]⟩,Pv (i+1),λσ' H' p'=>⟨xs.length-(i+1),by lia,rfl,jB,p'⟩,λx H' y=>?_⟩;obtain⟨b,c,e0,e1,e2,e3⟩:=y;subst e2 e3;exact hs i c σ _ b (e1 xs hq) p e0
 ·have e:i=xs.length:=by lia
  subst e;exact .inl ⟨⟨xs,hq,Ze _⟩,hd σ H p⟩
section
variable {X:Cx}
end
end L2
namespace Pr
open PySem L2 Qf
theorem qq8 {f:St->Hp->Prop}{σ σ':St}{H:Hp}(e:σ=σ') (h:f σ' H):f σ H:=by rw[e];exact h
def LvL (H:Hp) (lp:Addr) (L:List (List Nat×Bool)):Prop:=∃bs:List Addr,H lp=some (.lst (bs.map V.ref))/\bs.length=L.length/\∀(i:Nat) b e,bs[i]?=some b->L[i]?=some e->H b=some (.tup [.str (txt e.1),.bl e.2])
theorem LvL.same {H H':Hp}{lp:Addr}{L:List (List Nat×Bool)}(h:LvL H lp L) (s:Same H H'):LvL H' lp L:=by
 obtain⟨bs,h0,h1,h2⟩:=h;exact⟨bs,s _ _ h0,h1,λi b e e1 e2=>s _ _ (h2 i b e e1 e2)⟩
theorem LvL.push {H:Hp}{lp k:Addr}{L:List (List Nat×Bool)}{e:List Nat×Bool}{bs:List Addr}(h0:H lp=some (.lst (bs.map V.ref))) (h1:bs.length=L.length) (h2:∀(i:Nat) b e,bs[i]?=some b->L[i]?=some e->H b=some (.tup [.str (txt e.1),.bl e.2])) (hk:H k=none) :
  LvL (upd (upd H k (.tup [.str (txt e.1),.bl e.2])) lp (.lst (bs.map V.ref++[.ref k]))) lp (L++[e]):=by
 have npk:lp≠k:=qa5 h0 hk;refine⟨bs++[k],by rw[qa4,Z9];rfl,by rw[ZC,ZC,h1];rfl,λi b x e1 e2=>?_⟩;by_cases hi:i<bs.length
 ·rw[ZF hi] at e1;rw[ZF (by lia)] at e2;have z:=h2 i b x e1 e2;rw[qb1 (λw=>by rw[w,h0] at z;cases z),qb1 (qa5 z hk)];exact z
 ·have jB:=(gS_ e1).1;rw[ZC] at jB;have hi':i=bs.length:=by simp at jB;lia
  subst hi';rw[h1] at e2;have z1:b=k:=by simpa using e1.symm
  have z2:x=e:=by simpa using e2.symm
  subst z1;subst z2;rw[qb1 npk.symm,qa4]
section
variable {P:Program}{w:World}{K:PySem.W.Frag}{mg:Str->Option Value}{base:Heap}
abbrev nGL:List Str:=["rows", "number", "address", "leaves", "at", "quarter"]
abbrev nGL4:List Str:=["rows", "number", "address", "leaves"]
theorem scGL:FnScope nGL nGL4 (qa3 qs0):=qc5
def spGL (d:Nat):Sp:=λvs H Q _=>∃(rp lp:Addr) (x:Nat) (ad:List Nat) (L:List (List Nat×Bool)) (rows:List Row),vs=[.ref rp,.int (x:Nat),.str (txt ad),.ref lp]/\RowsAt H rp rows/\qd3 rows/\x<rows.length+2/\Tr.dep (T rows x)<=d/\LvL H lp L/\ad.length+d<=100/\L.length+nlf (T rows x)<=100000 /\
 ∀(H':Hp),But lp H H'->LvL H' lp (L++preL ad (lvT (T rows x)))->Q .non H'
theorem xB7 {f:Addr}{fd:FuncData}(F:Fun K "gather_leaves" "gather_leaves" qs0 f fd) (Tc:Cst mg) (jP:mg "str" = none) (hen:mg "enumerate" = none) (hfu:∃t,mg "FULL" = some (.int 1 t)) (hG:mg "gather_leaves" = some (.ref f)) (bG:Binds K fd nGL4 []):∀d,FnOk P w K mg base CX0 (d+1) f fd nGL4 (spGL d):=by
 obtain⟨tf,hfi⟩:=Tc.first;obtain⟨tu,hfu⟩:=hfu;have early:∀{x lp k:Nat}{ad:List Nat}{L:List (List Nat×Bool)}{rows:List Row}{H:Hp}{Q:VK}{bs:List Addr},x<2->H k=none->H lp=some (.lst (bs.map V.ref))->bs.length=L.length->(∀(i:Nat) b e,bs[i]?=some b->L[i]?=some e->H b=some (.tup [.str (txt e.1),.bl e.2])) ->
   (∀(H':Hp),But lp H H'->LvL H' lp (L++preL ad (lvT (T rows x)))->Q .non H')->Q .non (upd (upd H k (.tup [.str (txt ad),.bl (decide (V.int (x:Nat)=V.int 1))])) lp (.lst (bs.map V.ref++[.ref k]))):=λ{x lp k ad L rows H Q bs} x2 hk h0 h1 h2 q=>by
  refine q _ (λb o e ne=>by rw[qb1 ne,qb1 (qa5 e hk)];exact e) ?_;have e:preL ad (lvT (T rows x))=[(ad,decide (V.int (x:Nat)=V.int 1))]:=by
   have:x=0\/x=1:=by lia
   rcases this with rfl|rfl
   ·rw[qh7];show[(ad++[],false)]=_;rw[YZ];rfl
   ·rw[qp4];show[(ad++[],true)]=_;rw[YZ];rfl
  rw[e];exact LvL.push (e:=(ad,decide (V.int (x:Nat)=V.int 1))) h0 h1 h2 hk
 intro d
 induction d with
 |zero=>
  refine F.ok scGL (λvs H Q E h=>?_) (λcdv A outer s H vs Q E hr h=>?_)
  ·obtain⟨rp,lp,x,ad,L,rows,rfl,_⟩:=h
   rfl
  ·obtain⟨rp,lp,x,ad,L,rows,rfl,hR,ok,hx,hd,kY,vH,hL,q⟩:=h;have x2:x<2:=by
    rcases dep0 hd with z|z
    ·have:=(qJ6 ok hx).1.mp z;lia
    ·have:=(qJ6 ok hx).2.mp z;lia
   obtain⟨bs,h0,h1,h2⟩:=kY;refine seqE ⟨_,⟨qd8 (qb7 qj3 (pv 1) (qd9 (v:=.int 2) (by rfl) hfi ⟨_,rfl⟩) (qb4 _)) (StB.go (.cons ⟨qd7 (qV8 Xg Xa Xb qg2 (pv 3) (qa0 (PEb.go ⟨qe1 (qa0 (pv 2) (qa0 (qe0 qw0 (pv 1) (qd9 (v:=.int 1) (by rfl) hfu ⟨_,rfl⟩) (qb4 _)) qa1))⟩) qa1))⟩ (.one ⟨qy2⟩))) qb8⟩,?_⟩;refine⟨_,qf7,?_⟩;refine⟨_,rfl,_,_,rfl,rfl,_,rfl,?_⟩;rw[Zv (show (x:Int)<2 by lia)];refine iteT ?_;refine⟨_,rfl,.inl ⟨rfl,_,SqL.of h0⟩,_,rfl,_,rfl,rfl,(by show 2<=sizeLine;decide),λk hk=>⟨lp,_,_,rfl,rfl,qc9 h0 hk,?_,early x2 hk h0 h1 h2 q⟩⟩;rw[Zf,h1];exact qj9 (by lia)
 |succ d ih=>
  refine F.ok scGL (λvs H Q E h=>?_) (λcdv A outer s H vs Q E hr h=>?_)
  ·obtain⟨rp,lp,x,ad,L,rows,rfl,_⟩:=h
   rfl
  ·obtain⟨rp,lp,x,ad,L,rows,rfl,hR,ok,hx,hd,kY,vH,hL,q⟩:=h;obtain⟨bs,h0,h1,h2⟩:=id kY;refine seqE ⟨_,⟨qd8 (qb7 qj3 (pv 1) (qd9 (v:=.int 2) (by rfl) hfi ⟨_,rfl⟩) (qb4 _)) (StB.go (.cons ⟨qd7 (qV8 Xg Xa Xb qg2 (pv 3) (qa0 (PEb.go ⟨qe1 (qa0 (pv 2) (qa0 (qe0 qw0 (pv 1) (qd9 (v:=.int 1) (by rfl) hfu ⟨_,rfl⟩) (qb4 _)) qa1))⟩) qa1))⟩ (.one ⟨qy2⟩))) qb8⟩,?_⟩;refine qg5 ⟨_,⟨qq2 Y0 rfl (qM2 (by rfl) hen (qa0 (PEb.go ⟨pxN qc8 (pv 0) (qa7 qc2 (pv 1) (qd9 (v:=.int 2) (by rfl) hfi ⟨_,rfl⟩))⟩) qa1)) (qj0 rfl (qb6 (pgN 4 scGL.nd) (qb6 (pgN 5 scGL.nd) qf8)))
    (StB.go (.one ⟨qd7 (pcN ih hr hG F.kp bG (Ars2.go (.cons ⟨pv 0⟩ (.cons ⟨pv 5⟩ (.cons ⟨qa7 qx0 (pv 2) (PEb.go ⟨qc4 qB7 (by rfl) jP PyProof.Rows.boot_str (qa0 (pv 4) qa1)⟩)⟩ (.cons ⟨pv 3⟩ .nil rfl) rfl) rfl) rfl)))⟩))⟩,?_⟩
   refine⟨_,rfl,_,_,rfl,rfl,_,rfl,?_⟩;refine ite2 (λhc=>?_) (λhc=>?_)
   ·have x2:x<2:=by have:=ZH hc;lia
    refine⟨_,rfl,.inl ⟨rfl,_,SqL.of h0⟩,_,rfl,_,rfl,rfl,(by show 2<=sizeLine;decide),λk hk=>⟨lp,_,_,rfl,rfl,qc9 h0 hk,?_,early x2 hk h0 h1 h2 q⟩⟩;rw[Zf,h1];exact qj9 (by lia)
   ·have x2:¬x<2:=λz=>hc (Zv (by lia));obtain⟨pl,a0,a1,a2,a3,rfl,jJ⟩:=qn8 ok hx x2;have eT:T rows (pl+2)=.nd (T rows a0) (T rows a1) (T rows a2) (T rows a3):=qo0 ok jJ;obtain⟨rs,hrp,vC,jE⟩:=id hR;have hpr1:=(gS_ jJ).1;have vG:rs[pl]?=some (rs[pl]'(by lia)):=Zd (by lia);have hra:=jE pl _ _ vG jJ;generalize rs[pl]'(by lia)=ra at vG hra
    let pt:Nat->List (List Nat×Bool):=λk=>preL (ad++[k]) (lvT (T rows ([a0,a1,a2,a3].getD k 0)))
    have eP:preL ad (lvT (T rows (pl+2)))=(List.range 4).flatMap pt:=by
     rw[eT,xn2];show _=pt 0++(pt 1++(pt 2++(pt 3++[])));rw[YZ,Ys,Ys]
     rfl
    have yI:∀i,i<=4->((List.range i).flatMap pt).length+(if i<4 then nlf (T rows ([a0,a1,a2,a3].getD i 0)) else 0)<=nlf (T rows (pl+2)):=λi hi=>by
     have hp:∀k,(pt k).length=nlf (T rows ([a0,a1,a2,a3].getD k 0)):=λk=>by rw[xc3,qk3]
     have en:nlf (T rows (pl+2))=nlf (T rows a0)+nlf (T rows a1)+nlf (T rows a2)+nlf (T rows a3):=by rw[eT];rfl
     have q0:=hp 0;have q1:=hp 1;have q2:=hp 2;have q3:=hp 3;simp only[List.getD_cons_zero,List.getD_cons_succ] at q0 q1 q2 q3
     match i,hi with
     |0,_=>show 0+nlf (T rows a0)<=_;lia
     |1,_=>show (pt 0++[]).length+nlf (T rows a1)<=_;rw[ZC];simp only[Wz];lia
     |2,_=>show (pt 0++(pt 1++[])).length+nlf (T rows a2)<=_;simp only[ZC,Wz];lia
     |3,_=>show (pt 0++(pt 1++(pt 2++[]))).length+nlf (T rows a3)<=_;simp only[ZC,Wz];lia
     |4,_=>show (pt 0++(pt 1++(pt 2++(pt 3++[])))).length+0<=_;simp only[ZC,Wz];lia
    rw[eP] at q;refine⟨_,rfl,_,rfl,_,_,rfl,rfl,rp,_,((pl:Nat):Int),.ref ra,rfl,Yh V.int (by lia),SqT.of hrp,qj4 (by rw[Zg,vG];rfl),ra,rfl,⟨_,SqT.of hra⟩,q46 (K:=K) (xs:=vN [a0,a1,a2,a3]) (λi σ H2=>But lp H H2/\LvL H2 lp (L++(List.range i).flatMap pt)/\∃v4 v5,σ=[some (.ref rp),some (.int ((pl+2:Nat):Int)),some (.str (txt ad)),some (.ref lp),v4,v5])
     (λi σ H2 ⟨B2,_⟩=>B2.tups h0 (λu z=>nomatch z) _ _ hra) ⟨But.refl _ _,by simpa using kY,none,none,rfl⟩ ?_ ?_⟩
    ·rintro i y σ H2 p hy ⟨B2,jI,v4,v5,rfl⟩ wE;obtain⟨m,hm,rfl⟩:=qx5 hy;have yK:i<4:=(gS_ hm).1;have T2:Tups H H2:=B2.tups h0 (λu z=>nomatch z);have em:[a0,a1,a2,a3].getD i 0=m:=by rw[Zw,hm];rfl
     have hle':=yI i (by lia);rw[Zt yK,em] at hle';have s3:=qb2 (o:=.tup [V.int (i:Nat),V.int (m:Nat)]) wE;have vO:=jI.same s3;have B3:But lp H (upd H2 p (.tup [V.int (i:Nat),V.int (m:Nat)])):=B2.trans (But.of s3);have hup:upd H2 p (.tup [V.int (i:Nat),V.int (m:Nat)]) p=some (.tup [V.int (i:Nat),V.int (m:Nat)]):=qa4;generalize upd H2 p (.tup [V.int (i:Nat),V.int (m:Nat)])=H3 at s3 vO B3 hup ⊢;have T3:Tups H H3:=B3.tups h0 (λu z=>nomatch z);have hkl:m<rows.length+2:=by
      have:=(ok pl _ jJ).2 m (Zz hm);lia
     have hTk:=T_qr ok jJ yK hm;refine⟨p,_,rfl,SqT.of hup,rfl,_,_,rfl,_,_,rfl,rfl,?_⟩;refine qq8 (σ':=[some (.ref rp),some (.int ((pl+2:Nat):Int)),some (.str (txt ad)),some (.ref lp),some (.int (i:Nat)),some (.int (m:Nat))]) rfl ?_;refine⟨_,rfl,_,rfl,_,rfl,_,rfl,(i:Int),rfl,?_,_,_,rfl,rfl,?_,_,rfl,?_⟩
     ·match i,yK with
      |0,_|1,_|2,_|3,_=>decide +kernel
     ·rw[qN9 yK,qA1];show ad.length+1<=sizeLine;exact XB (qd5 (by lia))
     ·rw[qN9 yK];refine⟨rp,lp,m,ad++[i],L++(List.range i).flatMap pt,rows,?_,hR.mono T3,ok,hkl,?_,vO,?_,?_,λH4 B4 hl4=>?_⟩
      ·rw[<- q38];rfl
      ·rw[hTk];exact xh1 yK _ hd
      ·rw[ZC];show ad.length+1+d<=100;lia
      ·rw[ZC];lia
      ·refine⟨B3.trans B4,?_,_,_,rfl⟩;rw[Xl,List.flatMap_append,<- Ys];have e1:([i]:List Nat).flatMap pt=preL (ad++[i]) (lvT (T rows m)):=by
        show pt i++[]=_;rw[YZ];show preL (ad++[i]) (lvT (T rows ([a0,a1,a2,a3].getD i 0)))=_;rw[em]
       rw[e1];exact hl4
    ·rintro σ H2 ⟨B2,jI,v4,v5,rfl⟩;exact q H2 B2 jI
end
end Pr
namespace L2
open PySem PySem.Spec PyProof.Rows PySem.W
section
variable {X:Cx}
theorem q47 (a b c d e:Value):argsOk "max" ⟨[a,b,c,d,e],[]⟩:=by unfold argsOk;kernel_rfl
theorem q48 (hc:X.calm=true):qe3 X (.builtin "max") (λxs H Q=>∃(a b c d e:Int),xs=[.int a,.int b,.int c,.int d,.int e]/\Q (.int (best [a,b,c,d,e] 4)) H):=by
 intro j8 s σ H xs us Q I r h;obtain⟨a,b,c,d,e,rfl,q⟩:=h;have rv:=r;have j9:us.length=5:=rv.length.symm;obtain⟨u1,u2,u3,u4,u5,rfl⟩:=L2.os5 j9
 ·
  have jM:(toString "max" ++ toString ".loop" : String) = "max.loop":=by decide
  refine call_function_tree PySem.F.kind_max PySem.F.plain_max PySem.F.entry_max (q47 _ _ _ _ _) ?_;show wpAny _ X.A.in1 (Builtin.Builtins.bindParams "max" ["key", "default"] 0 ⟨[],[]⟩ >>= _) _ _ s;refine Za (Wj (show Builtin.Builtins.bindParams "max" ["key", "default"] 0 ⟨[],[]⟩=pure [none,none] from rfl) ?_);show wpAny _ X.A.in1 (newTuple [u1,u2,u3,u4,u5] >>= _) _ _ s;refine Za (ZJ ?_);have hT:(s.heap.push { cls:=.type "tuple",data:=.seq #[u1,u2,u3,u4,u5] }).IsTuple s.heap.objs.size #[u1,u2,u3,u4,u5]:=⟨_,Zh _ rfl,rfl,0,rfl⟩;have hsz:(s.heap.push { cls:=.type "tuple",data:=.seq #[u1,u2,u3,u4,u5] }).objs.size=s.heap.objs.size+1:=ZS ..;have item:∀(i:Nat) (v:Value),(#[u1,u2,u3,u4,u5]:Array Value)[i]?=some v->∃t,v=.int ([a,b,c,d,e].getD i 0) t:=λi v hv=>by
   have hv':[u1,u2,u3,u4,u5][i]?=some v:=by simpa using hv
   have hi:i<5:=(gS_ hv').1;obtain⟨w',e1,t,e2⟩:=rv.get (x:=V.int ([a,b,c,d,e].getD i 0)) (i:=i) (by
    match i,hi with
    |0,_|1,_|2,_|3,_|4,_=>rfl)
   rw[hv'] at e1;cases e1;exact⟨t,e2⟩
  refine Za (Yp (Xu hT (Q:=λit s₂=>it=.ref (s.heap.objs.size+1)/\s₂=_) ⟨by rw[hsz],rfl⟩) (λit s₂ h₂=>?_) λ_ _ e=>e);obtain⟨rfl,rfl⟩:=h₂;have W:=Walks.tuple (prog:=X.prog) (w:=X.w) (A:=X.A.in1) (I.ok.hd hc) (s.heap.objs.size+1) s.heap.objs.size (Zp (Yq _)) #[u1,u2,u3,u4,u5];refine Za (ZJ ?_);rw[jM];refine Zc ⟨Yw PySem.F.plain_max_loop _,codeAny_max_loop_first W (λi j=>decide ([a,b,c,d,e].getD i 0>[a,b,c,d,e].getD j 0)) ?_ _ ?_ (by show 0<5;decide) ?_ (Zh _ rfl) λv h' tk hP hk=>?_⟩
  ·intro i j vi vj s' Q' E' hi hj hq;obtain⟨t,rfl⟩:=item i vi hi;obtain⟨t',rfl⟩:=item j vj hj;exact gt_int hq
  ·intro hm;simp only[ZS] at hm;have:s.heap.objs.size+1+1=s.heap.objs.size+1\/s.heap.objs.size+1+1=s.heap.objs.size:=by simpa using hm
   lia
  ·refine W.frame _ _ _ ?_ λb _ o e=>Zb _ e;refine⟨⟨{ cls:=.type "tuple_iterator",data:=.fields #[.ref s.heap.objs.size,.int 0 0] },?_,rfl,rfl⟩,hT.push _⟩;rw[<- hsz];exact Zh _ rfl
  ·obtain⟨t,rfl⟩:=item _ v hP;have eb:=(qy8 [a,b,c,d,e] 4).1;refine⟨.int _,H,I.kept (h':=h') (t':=tk) (λb' o e'=>hk b' o (λz=>?_) (λz=>?_) (Zb _ (Zb _ (Zb _ e')))),⟨t,rfl⟩,?_⟩
   ·have h1:b'=s.heap.objs.size+1:=by simpa using z
    rw[h1] at e';exact absurd (Zi e') (Uh.mpr (Xq _))
   ·have h1:b'=s.heap.objs.size+1+1:=by rw[z];simp only[ZS]
    rw[h1] at e';exact absurd (Zi e') (Uh.mpr (ZG (Xq _) (Xq _)))
   ·show Q (.int ([a,b,c,d,e].getD (argBest (λi j=>decide ([a,b,c,d,e].getD i 0>[a,b,c,d,e].getD j 0)) 4) 0)) H;rw[eb];exact q
theorem loc3 {K:PySem.W.Frag}{y:V}{os σ:St}{H:Hp}{R:St->Hp->Prop}(ho:os.length=3) (h:gTup K 3 (qe5 (qd1 0) (qe5 (qd1 1) (qe5 (qd1 2) gNil))) y (os++σ) H R) :
  gTup K 3 (qe5 (qd1 0) (qe5 (qd1 1) (qe5 (qd1 2) gNil))) y (os++σ) H λσ' H'=>(∃os':St,os'.length=3/\σ'=os'++σ)/\R σ' H':=by
 obtain⟨o1,o2,o3,rfl⟩:=L2.os3 ho
 ·
  obtain⟨a,xs,e1,e2,e3,v,r,e4,v2,r2,e5,v3,r3,e6,e8,q⟩:=h;exact⟨a,xs,e1,e2,e3,v,r,e4,v2,r2,e5,v3,r3,e6,e8,⟨[some v,some v2,some v3],rfl,rfl⟩,q⟩
theorem xi0 {x y u:Str}{p1 p2 p3 tpos:Pos}{k:Nat}{scope:Scope}{cl:List (Str×Addr)}{C:Addr}{fp:List Addr}{s₀:Shared}{H₀:Hp}(hc:X.calm=true) (hN:X.N.Nodup) (hd:[x,y,u].Nodup) (s3:∀z∈X.N,scope.names.lookup z≠some .local)
  (hx:scope.names.lookup x=some .local) (hy:scope.names.lookup y=some .local) (hu:scope.names.lookup u=some .local) :
  PG (qb0 X scope cl C [x,y,u] fp s₀ H₀) (.Tuple [.Name x p1,.Name y p2,.Name u p3] k tpos) (gTup X.K 3 (qe5 (qd1 0) (qe5 (qd1 1) (qe5 (qd1 2) gNil)))):=by
 have lx:(qb0 X scope cl C [x,y,u] fp s₀ H₀).env.scope.names.lookup x=some .local:=Yt hx;have ly:(qb0 X scope cl C [x,y,u] fp s₀ H₀).env.scope.names.lookup y=some .local:=Yt hy;have lu:(qb0 X scope cl C [x,y,u] fp s₀ H₀).env.scope.names.lookup u=some .local:=Yt hu;have nd:(qb0 X scope cl C [x,y,u] fp s₀ H₀).N.Nodup:=by
  show ([x,y,u]++X.N).Nodup;rw[Wc];refine⟨hd,hN,λa ha b hb e=>?_⟩;subst e;have hl:scope.names.lookup a=some .local:=by
   have:a=x\/a=y\/a=u:=by simpa using ha
   rcases this with rfl|rfl|rfl<;>assumption
  exact s3 a hb hl
 exact qj0 (X:=qb0 X scope cl C [x,y,u] fp s₀ H₀) hc (qb6 (qh2 (i:=0) nd rfl (.inl lx) (.inr lx)) (qb6 (qh2 (i:=1) nd rfl (.inl ly) (.inr ly)) (qb6 (qh2 (i:=2) nd rfl (.inl lu) (.inr lu)) qf8)))
theorem qS4 {x y u:Str}{p1 p2 p3 tpos pos:Pos}{k:Nat}{elt iter c:Expr}{scope:Scope}{wi:TI}{tt:TT}{te:TE}(N:List Str) (sc:Scope) (kI:X.N=N) (jY:X.env.scope=sc) (hc:X.calm=true) (hN:X.N.Nodup) (hi:PI X (.Tuple [.Name x p1,.Name y p2,.Name u p3] k tpos) iter wi)
  (ht:∀cl C fp s₀ H₀,PT (qb0 X scope cl C [x,y,u] fp s₀ H₀) c tt) (he:∀cl C fp s₀ H₀,PE (qb0 X scope cl C [x,y,u] fp s₀ H₀) elt te) (hd:[x,y,u].Nodup:=by decide)
  (jD:scope.kind=.function:=by rfl) (jA:scope.names.all (λy=>y.2 != .cell)=true:=by decide +kernel) (jC:scope.names.all (λy=>y.2 != .local||scope.names.lookup y.1==some .local)=true:=by decide +kernel)
  (hx:scope.names.lookup x=some .local:=by rfl) (hy:scope.names.lookup y=some .local:=by rfl) (hu:scope.names.lookup u=some .local:=by rfl) (jF:N.all (λy=>scope.names.lookup y != some .local)=true:=by decide +kernel)
  (hfr:scope.names.all (λp=>p.2 != .free||(sc.names.lookup p.1==some .cell||sc.names.lookup p.1==some .free))=true:=by decide +kernel)
  (hs:∀x,foldedSetIterable iter X.env x=pure x:=by intro _;rfl):PE X (.ListComp elt [⟨.Tuple [.Name x p1,.Name y p2,.Name u p3] k tpos,iter,[c],0⟩] scope pos) (qj6 3 wi (gTup X.K 3 (qe5 (qd1 0) (qe5 (qd1 1) (qe5 (qd1 2) gNil)))) tt te):=by
 obtain⟨s1,s2,s3,s4⟩:=qe7 kI jY jA jC jF hfr;exact qr6 (nn:=[x,y,u]) (λenv=>isTrue c env (eval c env)) hc hi (λit acc env=>qr5 elt _ iter c scope pos it acc env) (λcl C fp s₀ H₀=>xi0 hc hN hd s3 hx hy hu) (λy os σ H R ho h=>loc3 ho h) (λcl C fp s₀ H₀ j8 s σ H Q I h=>ht cl C fp s₀ H₀ j8 s σ H Q I h) he jD s1 s2 s3 s4 hs
end
end L2
namespace PyProof.Rows
open PySem
def xn5:Bool->Keyed->Array Keyed->Nat->Nat->Nat->StateT SortSt Sem (Option Nat):=sortPriv% PySem.Builtin.gallop
def KLt (prog:Program) (w:World) (A:Around) (s:Shared) (κ:KeyKind) (kd:SortKind):Prop:=
 ∀(E:Value->Shared->Prop) (x y:Value) (a b:κ.α) (Q:Bool->Shared->Prop),κ.keyOf x=some a->κ.keyOf y=some b->Q (κ.blt a b) s->wpAny (model prog w) A (keyLt' kd x y) Q E s
section
variable {prog:Program}{w:World}{A:Around}{E:Value->Shared->Prop}{s:Shared}{κ:KeyKind}
theorem qv4 {kd:SortKind}(hO:KLt prog w A s κ kd){st:SortSt}{x y:Keyed}{a b:κ.α}{Q:Option Bool->SortSt->Prop}(hk:kindOf st=kd) (ha:κ.keyOf x.1=some a) (hb:κ.keyOf y.1=some b) (h:Q (some (κ.blt a b)) st) :
  wpS (model prog w) A E s (lt' x y) Q st:=by
 rw[lt'_eq];refine Zm (Vc ?_);rw[hk];refine Zm (V3 (XM (hO _ _ _ a b _ ha hb ⟨rfl,?_⟩)));exact Zy h
theorem qb5 {st:SortSt}{arr:Array Keyed}{i:Nat}{x:Keyed}{Q:Keyed->SortSt->Prop}(hi:arr[i]?=some x) (h:Q x st):wpS (model prog w) A E s (elem' arr i) Q st:=by
 rw[elem'_eq,hi];exact Zy h
def asks (left:Bool) (k x:κ.α):Bool:=if left then κ.blt x k else !κ.blt k x
theorem qf4 {kd:SortKind}(hO:KLt prog w A s κ kd){left:Bool}{key:Keyed}{k:κ.α}{arr:Array Keyed}{base n hint c:Nat}{st:SortSt}{Q:Option Nat->SortSt->Prop}(hk:kindOf st=kd) (kR:κ.keyOf key.1=some k)
  (harr:∀i,i<n->∃x a,arr[base+i]?=some x/\κ.keyOf x.1=some a/\asks left k a=decide (i<c)) (hh:hint<n) (hc:c<=n) (h:Q (some c) st):wpS (model prog w) A E s (xn5 left key arr base n hint) Q st:=by
 have bey:∀(i:Nat) (Q':Option Bool->SortSt->Prop),i<n->Q' (some (decide (i<c))) st->wpS (model prog w) A E s (elem' arr (base+i) >>= λx=>if left=true then lt' x key else lt' key x >>= λr=>pure (Option.map (λx=>!x) r)) Q' st:=λi Q' hi hq=>by
  obtain⟨x,a,e1,e2,e3⟩:=harr i hi;refine Zm (qb5 e1 ?_);unfold asks at e3;cases left with
  |true=>
   rw[Zt rfl] at e3 ⊢;refine qv4 hO hk e2 kR ?_;rw[e3];exact hq
  |false=>
   rw[Zl (by decide)] at e3 ⊢;refine Zm (qv4 hO hk kR e2 (Zy ?_));show Q' (some (!κ.blt k a)) st;rw[e3];exact hq
 refine Zm (bey hint _ hh ?_);have fin:∀lo hi,lo<=c->c<=hi->hi<=n->∀(f:Nat->Option (Option Nat)×Nat×Nat->StateT SortSt Sem (ForInStep (Option (Option Nat)×Nat×Nat))) (g:Option (Option Nat)×Nat×Nat->StateT SortSt Sem (Option Nat)),
   (∀x lo hi,lo<hi->hi<=n->∀Q',(∀b,Q' (ForInStep.yield (none,if decide (lo+(hi-lo)/2<c)=true then (lo+(hi-lo)/2+1,hi) else (lo,lo+(hi-lo)/2))) b\/b≠st)->wpS (model prog w) A E s (f x (none,lo,hi)) Q' st) ->
   (∀x lo hi,lo>=hi->f x (none,lo,hi)=pure (ForInStep.done (none,lo,hi)))->(∀lo hi,g (none,lo,hi)=pure (some hi))->wpS (model prog w) A E s (forIn [:n] (none,lo,hi) f >>= g) Q st:=by
  intro lo hi h1 h2 h3 f g hf hf2 hg;refine Zm (Ww (Xc (I:=λx cc st'=>st'=st/\∃lo hi,cc=(none,lo,hi)/\lo<=c/\c<=hi/\hi<=n/\hi-lo<=n-x) (Q:=λcc st'=>st'=st/\∃lo,cc=(none,lo,c)) ?step ?fin ⟨rfl,lo,hi,rfl,h1,h2,h3,by lia⟩) ?post)
  case post=>
   rintro cc st' ⟨rfl,lo,rfl⟩;rw[hg];exact Zy h
  case fin=>
   rintro cc st' ⟨rfl,lo,hi,rfl,g1,g2,g3,g4⟩;have:hi=c:=by lia
   exact⟨rfl,lo,by rw[this]⟩
  case step=>
   rintro x cc st' _ hx ⟨rfl,lo,hi,rfl,g1,g2,g3,g4⟩;by_cases wK:lo>=hi
   ·rw[hf2 x lo hi wK];have:hi=c:=by lia
    exact Zy ⟨rfl,lo,by rw[this]⟩
   ·refine hf x lo hi (by lia) g3 _ λb=>?_;by_cases hbst:b=st'
    ·left;subst hbst;by_cases hm:lo+(hi-lo)/2<c
     ·rw[Zv hm];exact⟨rfl,_,_,rfl,by lia,g2,g3,by lia⟩
     ·rw[Zu hm];exact⟨rfl,_,_,rfl,g1,by lia,by lia,by lia⟩
    ·exact .inr hbst
 have go:∀(x lo hi:Nat),lo<hi->hi<=n->∀(Q':ForInStep (Option (Option Nat)×Nat×Nat)->SortSt->Prop),(∀b,Q' (ForInStep.yield (none,if decide (lo+(hi-lo)/2<c)=true then (lo+(hi-lo)/2+1,hi) else (lo,lo+(hi-lo)/2))) b\/b≠st) ->
   ∀F:Option Bool->StateT SortSt Sem (ForInStep (Option (Option Nat)×Nat×Nat)),(∀b:Bool,F (some b)=if b=true then pure (ForInStep.yield (none,lo+(hi-lo)/2+1,hi)) else pure (ForInStep.yield (none,lo,lo+(hi-lo)/2))) ->
   wpS (model prog w) A E s ((elem' arr (base+(lo+(hi-lo)/2)) >>= λx=>if left=true then lt' x key else lt' key x >>= λr=>pure (Option.map (λx=>!x) r)) >>= F) Q' st:=by
  intro x lo hi jB hn Q' hq F hF;refine Zm (bey _ _ (by lia) ?_);rw[hF];have q:=(hq st).resolve_right (λz=>z rfl);by_cases hm:lo+(hi-lo)/2<c
  ·rw[Zv hm] at q ⊢;exact Zy q
  ·rw[Zu hm] at q ⊢;exact Zy q
 by_cases hr:hint<c
 ·rw[Zv hr];dsimp only;rw[Zt rfl];refine Zm (Ww (Xc (I:=λx cc st'=>st'=st/\∃l o,cc=(none,l,o)/\l<o/\hint+l<c/\x<o) (Q:=λcc st'=>st'=st/\∃l o,cc=(none,l,o)/\hint+l<c/\(n-hint<=o\/c<=hint+o)) ?step ?fin ⟨rfl,0,1,rfl,by lia,by lia,by lia⟩) ?post)
  case fin=>
   rintro cc st' ⟨rfl,l,o,rfl,g1,g2,g3⟩;exact⟨rfl,l,o,rfl,g2,.inl (by lia)⟩
  case step=>
   rintro x cc st' _ hx ⟨rfl,l,o,rfl,g1,g2,g3⟩;dsimp only;by_cases ho:o>=n-hint
   ·rw[Zt ho];exact Zy ⟨rfl,l,o,rfl,g2,.inl ho⟩
   ·rw[Zl ho];refine Zm (bey (hint+o) _ (by lia) ?_);by_cases hm:hint+o<c
    ·rw[Zv hm];exact Zy ⟨rfl,o,2*o+1,rfl,by lia,hm,by lia⟩
    ·rw[Zu hm];exact Zy ⟨rfl,l,o,rfl,g2,.inr (by lia)⟩
  case post=>
   rintro cc st' ⟨rfl,l,o,rfl,g2,g3⟩;dsimp only;refine fin (hint+l+1) (hint+min o (n-hint)) (by lia) (by lia) (by lia) _ _ (λx lo hi jB hn' Q' hq=>?_) (λx lo hi wK=>?_) (λlo hi=>rfl)
   ·dsimp only;rw[Zl (by lia)];exact go x lo hi jB hn' Q' hq _ (λb=>rfl)
   ·dsimp only;rw[Zt wK]
 ·rw[Zu hr];dsimp only;rw[Zl (by decide)];refine Zm (Ww (Xc (I:=λx cc st'=>st'=st/\∃l o,cc=(none,l,o)/\l<o/\c<=hint-l/\l<=hint/\x<o) (Q:=λcc st'=>st'=st/\∃l o,cc=(none,l,o)/\c<=hint-l/\l<=hint/\(hint+1<=o\/(o<=hint/\hint-o<c))) ?step ?fin ⟨rfl,0,1,rfl,by lia,by lia,by lia,by lia⟩) ?post)
  case fin=>
   rintro cc st' ⟨rfl,l,o,rfl,g1,g2,g3,g4⟩;exact⟨rfl,l,o,rfl,g2,g3,.inl (by lia)⟩
  case step=>
   rintro x cc st' _ hx ⟨rfl,l,o,rfl,g1,g2,g3,g4⟩;dsimp only;by_cases ho:o>=hint+1
   ·rw[Zt ho];exact Zy ⟨rfl,l,o,rfl,g2,g3,.inl ho⟩
   ·rw[Zl ho];refine Zm (bey (hint-o) _ (by lia) ?_);by_cases hm:hint-o<c
    ·rw[Zv hm];exact Zy ⟨rfl,l,o,rfl,g2,g3,.inr ⟨by lia,hm⟩⟩
    ·rw[Zu hm];exact Zy ⟨rfl,o,2*o+1,rfl,by lia,by lia,by lia,by lia⟩
  case post=>
   rintro cc st' ⟨rfl,l,o,rfl,g2,g3,g5⟩;dsimp only;refine fin (hint+1-min o (hint+1)) (hint-l) (by lia) (by lia) (by lia) _ _ (λx lo hi jB hn' Q' hq=>?_) (λx lo hi wK=>?_) (λlo hi=>rfl)
   ·dsimp only;rw[Zl (by lia)];exact go x lo hi jB hn' Q' hq _ (λb=>rfl)
   ·dsimp only;rw[Zt wK]
end
def SrtK (κ:KeyKind) (xs:Array Keyed) (lo hi:Nat):Prop:=∀i j,lo<=i->i<=j->j<hi->κ.kle (KK κ xs i) (KK κ xs j)
structure Mv (st st':SortSt) (lo hi:Nat):Prop where
 perm:(arrOf st').Perm (arrOf st)
 kind:kindOf st'=kindOf st
 fail:failedOf st'=failedOf st
 pend:pendingOf st'=pendingOf st
 out:∀k:Nat,k<lo\/hi<=k->(arrOf st')[k]?=(arrOf st)[k]?
theorem Mv.refl (st:SortSt) (lo hi:Nat):Mv st st lo hi:=⟨.refl _,rfl,rfl,rfl,λ_ _=>rfl⟩
theorem Mv.trans {a b c:SortSt}{lo hi:Nat}(h:Mv a b lo hi) (k:Mv b c lo hi):Mv a c lo hi:=
 ⟨k.perm.trans h.perm,k.kind.trans h.kind,k.fail.trans h.fail,k.pend.trans h.pend,λi hi=>(k.out i hi).trans (h.out i hi)⟩
theorem Mv.size {a b:SortSt}{lo hi:Nat}(h:Mv a b lo hi):(arrOf b).size=(arrOf a).size:=h.perm.size_eq
theorem qh8 {κ:KeyKind}{xs ys:Array Keyed}(h:KeysOf κ ys) (p:xs.Perm ys):KeysOf κ xs:=λq hq=>h q ((Wl.mp p).mem_iff.mp hq)
theorem xi1 {κ:KeyKind}{xs:Array Keyed}(h:KeysOf κ xs){i:Nat}(hi:i<xs.size):∃x p a,xs[i]?=some (x,p)/\κ.keyOf x=some a/\KK κ xs i=a:=by
 obtain⟨a,ha⟩:=h xs[i] (by simp);have e:xs[i]?=some xs[i]:=ZN _ i hi;refine⟨xs[i].1,xs[i].2,a,by rw[e],ha,?_⟩;unfold KK;rw[e];simp[ha]
section
variable {prog:Program}{w:World}{A:Around}{E:Value->Shared->Prop}{s:Shared}{κ:KeyKind}
theorem qp6 {kd:SortKind}(hO:KLt prog w A s κ kd){st:SortSt}{i j:Nat}{Q:Option Bool->SortSt->Prop}(hk:kindOf st=kd) (h0:KeysOf κ (arrOf st)) (hi:i<(arrOf st).size) (hj:j<(arrOf st).size)
  (h:Q (some (κ.blt (KK κ (arrOf st) i) (KK κ (arrOf st) j))) st):wpS (model prog w) A E s (ltAt' i j) Q st:=by
 obtain⟨x,p,a,e1,e2,e3⟩:=xi1 h0 hi;obtain⟨y,q,b,f1,f2,f3⟩:=xi1 h0 hj;rw[e3,f3] at h;rw[ltAt'_eq];refine Zm (Vc ?_);exact Zm (qb5 e1 (Zm (qb5 f1 (qv4 hO hk e2 f2 h))))
theorem xc4 {kd:SortKind}(hO:KLt prog w A s κ kd){st:SortSt}{lo n ok:Nat}{Q:Bool->SortSt->Prop}(hk:kindOf st=kd) (h0:KeysOf κ (arrOf st)) (hn:lo+n<=(arrOf st).size) (hok:ok<=n) (hs:SrtK κ (arrOf st) lo (lo+ok))
  (h:∀st',Mv st st' lo (lo+n)->SrtK κ (arrOf st') lo (lo+n)->Q true st'):wpS (model prog w) A E s (binarySort' lo n ok) Q st:=by
 refine Zm (Ww (Xc (I:=λk c st'=>c=(none,())/\Mv st st' lo (lo+n)/\SrtK κ (arrOf st') lo (lo+min k n)) (Q:=λc st'=>c=(none,())/\Mv st st' lo (lo+n)/\SrtK κ (arrOf st') lo (lo+n)) ?step ?fin ?init) ?post)
 case post=>
  rintro c st' ⟨rfl,m,o⟩;exact Zy (h st' m o)
 case init=>
  refine⟨rfl,Mv.refl _ _ _,λi j h1 h2 h3=>?_⟩;by_cases z:ok=0
  ·have:i=j:=by lia
   rw[this];exact YU _
  ·exact hs i j h1 h2 (by lia)
 case fin=>
  rintro c st' ⟨rfl,m,o⟩;exact⟨rfl,m,λi j h1 h2 h3=>o i j h1 h2 (by lia)⟩
 case step=>
  rintro k c st1 hk1 hkn ⟨rfl,m1,o1⟩;have hsz:lo+k<(arrOf st1).size:=by rw[m1.size];lia
  have hk':kindOf st1=kd:=m1.kind.trans hk;have h0':KeysOf κ (arrOf st1):=qh8 h0 m1.perm;have o2:SrtK κ (arrOf st1) lo (lo+k):=λi j h1 h2 h3=>o1 i j h1 h2 (by lia);refine Zm (Ww (Xc (I:=λx c st2=>st2=st1/\∃l r,c=(none,l,r)/\l<=r/\r<=k/\r-l<=k-x/\(∀i,i<l->κ.kle (KK κ (arrOf st1) (lo+i)) (KK κ (arrOf st1) (lo+k)))/\(∀i,r<=i->i<k->κ.klt (KK κ (arrOf st1) (lo+k)) (KK κ (arrOf st1) (lo+i))))
   (Q:=λc st2=>st2=st1/\∃l r,c=(none,l,r)/\l<=k/\(∀i,i<l->κ.kle (KK κ (arrOf st1) (lo+i)) (KK κ (arrOf st1) (lo+k)))/\(∀i,l<=i->i<k->κ.klt (KK κ (arrOf st1) (lo+k)) (KK κ (arrOf st1) (lo+i)))) ?istep ?ifin ⟨rfl,0,k,rfl,by lia,by lia,by lia,λi hi=>by lia,λi h1 h2=>by lia⟩) ?ipost)
  case ifin=>
   rintro c st2 ⟨rfl,l,r,rfl,g1,g2,g3,g4,g5⟩;have:r=l:=by lia
   exact⟨rfl,l,r,rfl,by lia,g4,by rw[this] at g5;exact g5⟩
  case istep=>
   rintro x c st2 _ hx ⟨rfl,l,r,rfl,g1,g2,g3,g4,g5⟩;dsimp only;by_cases wK:l>=r
   ·rw[Zt wK];have:r=l:=by lia
    exact Zy ⟨rfl,l,r,rfl,by lia,g4,by rw[this] at g5;exact g5⟩
   ·rw[Zl wK];refine Zm (qp6 hO hk' h0' hsz (show lo+(l+r)/2<_ by lia) ?_);cases hb:κ.blt (KK κ (arrOf st2) (lo+k)) (KK κ (arrOf st2) (lo+(l+r)/2))
    ·refine Zy ⟨rfl,(l+r)/2+1,r,rfl,by lia,by lia,by lia,λi hi=>?_,g5⟩;exact ZR (o2 (lo+i) (lo+(l+r)/2) (by lia) (by lia) (by lia)) (show κ.kle _ _ from hb)
    ·refine Zy ⟨rfl,l,(l+r)/2,rfl,by lia,by lia,by lia,g4,λi h1 h2=>?_⟩;exact Wx hb (o2 (lo+(l+r)/2) (lo+i) (by lia) (by lia) (by lia))
  case ipost=>
   rintro c st2 ⟨rfl,l,r,rfl,g1,g4,g5⟩;dsimp only;have ed:lo+k-(lo+l)=k-l:=by lia
   have es:lo+k-(k-l)=lo+l:=by lia
   refine Zm (m:=moveDown' (lo+k) (lo+l)) ?_;rw[moveDown'_eq];refine XQ (Zy ⟨rfl,m1.trans ⟨bubble_perm _ _ _,rfl,rfl,rfl,λi hi=>?_⟩,λi j h1 h2 h3=>?_⟩)
   ·show (bubble (arrOf st2) (lo+k) (lo+k-(lo+l)))[i]?=_;rw[ed,getElem?_bubble hsz _ (by lia),es,Zl (by lia),Zl (by lia)]
   ·show κ.kle (KK κ (bubble (arrOf st2) (lo+k) (lo+k-(lo+l))) i) (KK κ (bubble (arrOf st2) (lo+k) (lo+k-(lo+l))) j);have h3':j<lo+(k+1):=by lia
    have low:∀i,lo<=i->i<lo+l->κ.kle (KK κ (arrOf st2) i) (KK κ (arrOf st2) (lo+k)):=λi a b=>by
     have:=g4 (i-lo) (by lia)
     rwa [show lo+(i-lo)=i by lia] at this
    have high:∀i,lo+l<=i->i<lo+k->κ.kle (KK κ (arrOf st2) (lo+k)) (KK κ (arrOf st2) i):=λi a b=>by
     have:=Z6 (g5 (i-lo) (by lia) (by lia))
     rwa [show lo+(i-lo)=i by lia] at this
    rw[ed,KK_bubble hsz (by lia),KK_bubble hsz (by lia),es]
    repeat' split
    all_goals first
     |(exfalso;lia)
     |exact YU _
     |exact low _ (by lia) (by lia)
     |exact high _ (by lia) (by lia)
     |exact o2 _ _ (by lia) (by lia) (by lia)
theorem qO5 {kd:SortKind}(hO:KLt prog w A s κ kd){st:SortSt}{lo a nrem:Nat}{Q:Option (Option Nat)×Nat->SortSt->Prop}(hk:kindOf st=kd) (h0:KeysOf κ (arrOf st)) (hn:lo+nrem<=(arrOf st).size) (ha:1<=a) (han:a<=nrem) (hs:SrtK κ (arrOf st) lo (lo+a))
  (h:∀n,a<=n->n<=nrem->SrtK κ (arrOf st) lo (lo+n)->(n=nrem\/κ.klt (KK κ (arrOf st) (lo+n)) (KK κ (arrOf st) (lo+n-1)))->Q (none,n) st)
  (f:Nat->Option (Option Nat)×Nat->StateT SortSt Sem (ForInStep (Option (Option Nat)×Nat)))
  (hf:∀x n (Q':ForInStep (Option (Option Nat)×Nat)->SortSt->Prop),lo+n<(arrOf st).size->1<=n->Q' (if κ.blt (KK κ (arrOf st) (lo+n)) (KK κ (arrOf st) (lo+n-1))=true then .done (none,n) else .yield (none,n+1)) st->wpS (model prog w) A E s (f x (none,n)) Q' st) :
  wpS (model prog w) A E s (forIn [a:nrem] (none,a) f) Q st:=by
 refine Ww (Xc (I:=λx c st'=>st'=st/\c=(none,x)/\a<=x/\x<=nrem/\SrtK κ (arrOf st) lo (lo+x)) (Q:=λc st'=>st'=st/\∃n,c=(none,n)/\a<=n/\n<=nrem/\SrtK κ (arrOf st) lo (lo+n)/\(n=nrem\/κ.klt (KK κ (arrOf st) (lo+n)) (KK κ (arrOf st) (lo+n-1)))) ?step ?fin ⟨rfl,rfl,Ze _,han,hs⟩) ?post
 case post=>
  rintro c st' ⟨rfl,n,rfl,g1,g2,g3,g4⟩;exact h n g1 g2 g3 g4
 case fin=>
  rintro c st' ⟨rfl,rfl,g1,g2,g3⟩;exact⟨rfl,_,rfl,g1,g2,g3,.inl (by lia)⟩
 case step=>
  rintro x c st' h1 h2 ⟨rfl,rfl,g1,g2,g3⟩;refine hf x x _ (by lia) (by lia) ?_;cases hb:κ.blt (KK κ (arrOf st') (lo+x)) (KK κ (arrOf st') (lo+x-1))
  ·refine⟨rfl,rfl,by lia,by lia,λi j h3 h4 h5=>?_⟩;by_cases hj:j=lo+x
   ·by_cases hi:i=lo+x
    ·rw[hi,hj];exact YU _
    ·rw[hj];exact ZR (g3 i (lo+x-1) h3 (by lia) (by lia)) (show κ.kle _ _ from hb)
   ·exact g3 i j h3 h4 (by lia)
  ·exact⟨rfl,x,rfl,g1,g2,g3,.inr hb⟩
end
def qF5 (κ:KeyKind) (xs:Array Keyed) (lo m:Nat):Prop:=∀i j,lo<=i->i<=j->j<lo+m->κ.kle (KK κ xs j) (KK κ xs i)
def EqK (κ:KeyKind) (xs:Array Keyed) (lo m q:Nat):Prop:=∀i,lo+m-(q+1)<=i->i<lo+m->KK κ xs i=KK κ xs (lo+m-1)
section
variable {prog:Program}{w:World}{A:Around}{E:Value->Shared->Prop}{s:Shared}{κ:KeyKind}
theorem qs3 {st:SortSt}{i j:Nat}{Q:Unit->SortSt->Prop}(h:Q () (setArr st (mirror (arrOf st) i j ((j-i)/2)))):wpS (model prog w) A E s (reverseSlice' i j) Q st:=by
 rw[reverseSlice'_eq];exact XQ h
theorem Mv.rev {st st':SortSt}{lo hi i j:Nat}(h:Mv st st' lo hi) (hi1:lo<=i) (hj:j<=hi) (hs:j<=(arrOf st').size):Mv st (setArr st' (mirror (arrOf st') i j ((j-i)/2))) lo hi:=
 h.trans ⟨mirror_perm _ _ _ _,rfl,rfl,rfl,λk hk=>by
  show (mirror (arrOf st') i j ((j-i)/2))[k]?=_;rw[getElem?_mirror_all hs,Zl (by lia)]⟩
theorem xc5 {st:SortSt}{lo m:Nat}(h:qF5 κ (arrOf st) lo m) (hs:lo+m<=(arrOf st).size):SrtK κ (arrOf (setArr st (mirror (arrOf st) lo (lo+m) ((lo+m-lo)/2)))) lo (lo+m):=λi j h1 h2 h3=>by
 show κ.kle (KK κ (mirror (arrOf st) lo (lo+m) ((lo+m-lo)/2)) i) (KK κ (mirror (arrOf st) lo (lo+m) ((lo+m-lo)/2)) j);rw[KK_mirror hs,KK_mirror hs,Zt (by lia),Zt (by lia)];exact h _ _ (by lia) (by lia) (by lia)
theorem xi2 {st:SortSt}{lo m q:Nat}(h:EqK κ (arrOf st) lo m q) (hs:lo+m<=(arrOf st).size) (k:Nat):KK κ (arrOf (setArr st (mirror (arrOf st) (lo+m-(q+1)) (lo+m) ((lo+m-(lo+m-(q+1)))/2)))) k=KK κ (arrOf st) k:=
 KK_mirror_equal (xs:=arrOf st) hs (λi h1 h2=>h i h1 h2) k
theorem xn6 {G0:Prop}{P G:SortSt->Prop}(a:(∀m,P m->G m)->G0) (b:∀m,P m->G m):G0:=a b
theorem xc6 {kd:SortKind}(hO:KLt prog w A s κ kd){st:SortSt}{lo nrem:Nat}{Q:Option Nat->SortSt->Prop}(hk:kindOf st=kd) (h0:KeysOf κ (arrOf st)) (hn:lo+nrem<=(arrOf st).size) (h1:1<=nrem)
  (h:∀m st',1<=m->m<=nrem->Mv st st' lo (lo+nrem)->SrtK κ (arrOf st') lo (lo+m)->Q (some m) st'):wpS (model prog w) A E s (countRun' lo nrem) Q st:=by
 refine Zm (qO5 hO hk h0 hn (Ze 1) h1 ?_ (λn g1 g2 g3 g4=>?_) _ (λx n Q' e1 e2 hq=>?_))
 ·intro i j a b c;have:i=j:=by lia
  rw[this];exact YU _
 ·dsimp only;by_cases hnn:n=nrem
  ·rw[Zt (by simp[hnn])];exact Zy (h n st g1 g2 (Mv.refl _ _ _) g3)
  ·rw[Zl (by simp[hnn])];have jB:κ.klt (KK κ (arrOf st) (lo+n)) (KK κ (arrOf st) (lo+n-1)):=g4.resolve_left hnn;refine' xn6 (P:=λst1=>Mv st st1 lo (lo+nrem)/\qF5 κ (arrOf st1) lo (n+1)) (G:=_) (λkey=>?ka) (λst1 hP=>?kb)
   case ka=>
    by_cases hn1:n>1
    case pos=>
     rw[Zt hn1];refine Zm (qp6 hO hk h0 (by lia) (by lia) ?_);cases hb:κ.blt (KK κ (arrOf st) lo) (KK κ (arrOf st) (lo+n-1))
     case true=>exact Zy (h n st g1 g2 (Mv.refl _ _ _) g3)
     dsimp only;rw[Zl (by decide)];refine Zm (qs3 ?_);have mv:=(Mv.refl st lo (lo+nrem)).rev (i:=lo) (j:=lo+n) (Ze _) (by lia) (by lia);have alle:∀i,lo<=i->i<lo+n->KK κ (arrOf st) i=KK κ (arrOf st) (lo+n-1):=λi a b=>
      KeyOrd.kle_antisymm (g3 i (lo+n-1) a (by lia) (by lia)) (ZR (show κ.kle _ _ from hb) (g3 lo i (Ze _) a b))
     have kk:∀k,KK κ (arrOf (setArr st (mirror (arrOf st) lo (lo+n) ((lo+n-lo)/2)))) k=KK κ (arrOf st) k:=KK_mirror_equal (xs:=arrOf st) (by lia) alle;have hf:qF5 κ (arrOf (setArr st (mirror (arrOf st) lo (lo+n) ((lo+n-lo)/2)))) lo (n+1):=λi j a b c=>by
      rw[kk,kk];by_cases ej:j=lo+n
      ·by_cases ei:i=lo+n
       ·rw[ei,ej];exact YU _
       ·rw[ej,alle i a (by lia)];exact Z6 jB
      ·rw[alle i a (by lia),alle j (by lia) (by lia)];exact YU _
     generalize setArr st (mirror (arrOf st) lo (lo+n) ((lo+n-lo)/2))=st1 at mv hf ⊢;exact key st1 ⟨mv,hf⟩
    case neg=>
     rw[Zl hn1];have hf:qF5 κ (arrOf st) lo (n+1):=λi j a b c=>by
      by_cases e:i=j
      ·rw[e];exact YU _
      ·have e1:i=lo+n-1:=by lia
       have e2:j=lo+n:=by lia
       rw[e1,e2];exact Z6 jB
     have mv:=Mv.refl st lo (lo+nrem);exact key st ⟨mv,hf⟩
   case kb=>
    obtain⟨mv,hf⟩:=hP;refine Zm (V3 (Y6 ⟨rfl,?_⟩));refine Zm (Ww (Xc (I:=λx c st2=>∃q,c=(none,x,q)/\Mv st st2 lo (lo+nrem)/\n+1<=x/\x<=nrem/\qF5 κ (arrOf st2) lo x/\EqK κ (arrOf st2) lo x q/\q+1<=x) (Q:=λc st2=>∃m q,c=(none,m,q)/\Mv st st2 lo (lo+nrem)/\n+1<=m/\m<=nrem/\qF5 κ (arrOf st2) lo m/\EqK κ (arrOf st2) lo m q/\q+1<=m) ?step ?fin ?init) ?post)
    case init=>
     refine⟨0,rfl,mv,Ze _,by lia,hf,λi a b=>?_,by lia⟩;rw[show i=lo+(n+1)-1 by lia]
    case fin=>
     rintro c st2 ⟨q,rfl,r1,r2,r3,r4,r5,r6⟩;exact⟨_,q,rfl,r1,r2,r3,r4,r5,r6⟩
    case step=>
     rintro x c st2 a b ⟨q,rfl,m2,c1,c2,f2,e2,c3⟩;dsimp only;have hk2:=m2.kind.trans hk;have h02:=qh8 h0 m2.perm;have sz2:=m2.size;refine Zm (qp6 hO hk2 h02 (by lia) (by lia) ?_);cases hb:κ.blt (KK κ (arrOf st2) (lo+x)) (KK κ (arrOf st2) (lo+x-1))
     ·dsimp only;rw[Zl (by decide)];refine Zm (qp6 hO hk2 h02 (by lia) (by lia) ?_);cases vA:κ.blt (KK κ (arrOf st2) (lo+x-1)) (KK κ (arrOf st2) (lo+x))
      ·dsimp only;rw[Zl (by decide)];have eqk:KK κ (arrOf st2) (lo+x)=KK κ (arrOf st2) (lo+x-1):=κ.total _ _ hb vA;refine Zy ⟨q+1,rfl,m2,by lia,by lia,λi j d1 d2 d3=>?_,λi d1 d2=>?_,by lia⟩
       ·by_cases ej:j=lo+x
        ·by_cases ei:i=lo+x
         ·rw[ei,ej];exact YU _
         ·rw[ej,eqk];exact f2 i (lo+x-1) d1 (by lia) (by lia)
        ·exact f2 i j d1 d2 (by lia)
       ·rw[show lo+(x+1)-1=lo+x by lia];by_cases ei:i=lo+x
        ·rw[ei]
        ·rw[eqk];exact e2 i (by lia) (by lia)
      ·exact Zy ⟨x,q,rfl,m2,c1,c2,f2,e2,c3⟩
     ·dsimp only;rw[Zt rfl];have nf:∀st3:SortSt,(∀k,KK κ (arrOf st3) k=KK κ (arrOf st2) k)->qF5 κ (arrOf st3) lo (x+1):=λst3 kk i j d1 d2 d3=>by
       rw[kk,kk];by_cases ej:j=lo+x
       ·by_cases ei:i=lo+x
        ·rw[ei,ej];exact YU _
        ·rw[ej];exact ZR (Z6 hb) (f2 i (lo+x-1) d1 (by lia) (by lia))
       ·exact f2 i j d1 d2 (by lia)
      have ne:∀st3:SortSt,EqK κ (arrOf st3) lo (x+1) 0:=λst3 i d1 d2=>by rw[show i=lo+(x+1)-1 by lia]
      by_cases hq:q>0
      ·rw[Zt hq];exact Zm (qs3 (Zy ⟨0,rfl,m2.rev (by lia) (by lia) (by lia),by lia,by lia,nf _ (xi2 e2 (by lia)),ne _,by lia⟩))
      ·rw[Zl hq];exact Zy ⟨0,rfl,m2,by lia,by lia,nf _ (λ_=>rfl),ne _,by lia⟩
    case post=>
     rintro c st2 ⟨m,q,rfl,m2,c1,c2,f2,e2,c3⟩;dsimp only;have sz2:=m2.size;by_cases hq:q>0
     case' neg=>
      rw[Zl hq];have m3:=m2;have f3:=f2;generalize st2=st3 at m3 f3 ⊢
     case' pos=>
      rw[Zt hq];refine Zm (qs3 ?_);have m3:=m2.rev (i:=lo+m-(q+1)) (j:=lo+m) (by lia) (by lia) (by lia);have kk:=xi2 e2 (by lia);have f3:qF5 κ (arrOf (setArr st2 (mirror (arrOf st2) (lo+m-(q+1)) (lo+m) ((lo+m-(lo+m-(q+1)))/2)))) lo m:=λi j d1 d2 d3=>by rw[kk,kk];exact f2 i j d1 d2 d3
      generalize setArr st2 (mirror (arrOf st2) (lo+m-(q+1)) (lo+m) ((lo+m-(lo+m-(q+1)))/2))=st3 at m3 f3 ⊢
     all_goals
      refine Zm (qs3 ?_);have m4:=m3.rev (i:=lo) (j:=lo+m) (Ze _) (by lia) (by rw[m3.size];lia);have o4:=xc5 f3 (by rw[m3.size];lia);have hk4:=m4.kind.trans hk;have h04:=qh8 h0 m4.perm;have z4:=m4.size;generalize setArr st3 (mirror (arrOf st3) lo (lo+m) ((lo+m-lo)/2))=st4 at m4 o4 hk4 h04 z4 ⊢;refine Zm (qO5 hO hk4 h04 (by lia) (show 1<=m by lia) c2 o4 (λk k1 k2 k3 _=>?_) _ (λx k Q' e1 e2 hq=>?_))
      ·exact Zy (h k st4 (by lia) k2 m4 k3)
      ·refine Zm (qp6 hO hk4 h04 e1 (by lia) ?_);cases hb:κ.blt (KK κ (arrOf st4) (lo+k)) (KK κ (arrOf st4) (lo+k-1))
       ·rw[hb] at hq;exact Zy hq
       ·rw[hb] at hq;exact Zy hq
 ·refine Zm (qp6 hO hk h0 e1 (by lia) ?_);cases hb:κ.blt (KK κ (arrOf st) (lo+n)) (KK κ (arrOf st) (lo+n-1))
  ·rw[hb] at hq;exact Zy hq
  ·rw[hb] at hq;exact Zy hq
end
def kv (κ:KeyKind) (p:Keyed):κ.α:=(κ.keyOf p.1).getD κ.dflt
def Asc (κ:KeyKind) (l:List Keyed):Prop:=l.Pairwise λx y=>κ.kle (kv κ x) (kv κ y)
structure Mg (κ:KeyKind) (all out a b:List Keyed):Prop where
 perm:(out++(a++b)).Perm all
 so:Asc κ out
 sa:Asc κ a
 sb:Asc κ b
 la:∀x∈out,∀y∈a,κ.kle (kv κ x) (kv κ y)
 lb:∀x∈out,∀y∈b,κ.kle (kv κ x) (kv κ y)
theorem Mg.takeA {κ:KeyKind}{all out a b:List Keyed}{x:Keyed}(m:Mg κ all out (x::a) b) (h:∀y∈b,κ.kle (kv κ x) (kv κ y)):Mg κ all (out++[x]) a b where
 perm:=by simpa using m.perm
 so:=YW.mpr ⟨m.so,by simp,λp hp q hq=>by
  have:q=x:=by simpa using hq
  rw[this];exact m.la p hp x (by simp)⟩
 sa:=(YD.mp m.sa).2
 sb:=m.sb
 la:=λp hp y hy=>by
  rcases Z7.mp hp with z|z
  ·exact m.la p z y (Zk _ hy)
  ·have:p=x:=by simpa using z
   rw[this];exact (YD.mp m.sa).1 y hy
 lb:=λp hp y hy=>by
  rcases Z7.mp hp with z|z
  ·exact m.lb p z y hy
  ·have:p=x:=by simpa using z
   rw[this];exact h y hy
theorem Mg.swap {κ:KeyKind}{all out a b:List Keyed}(m:Mg κ all out a b):Mg κ all out b a where
 perm:=(W3 out List.perm_append_comm).trans m.perm
 so:=m.so
 sa:=m.sb
 sb:=m.sa
 la:=m.lb
 lb:=m.la
theorem Mg.takeB {κ:KeyKind}{all out a b:List Keyed}{x:Keyed}(m:Mg κ all out a (x::b)) (h:∀y∈a,κ.kle (kv κ x) (kv κ y)):Mg κ all (out++[x]) a b:=(m.swap.takeA h).swap
theorem Mg.doneB {κ:KeyKind}{all out a:List Keyed}(m:Mg κ all out a []):(out++a).Perm all/\Asc κ (out++a):=
 ⟨by simpa using m.perm,YW.mpr ⟨m.so,m.sa,m.la⟩⟩
theorem Mg.doneAB {κ:KeyKind}{all out a b:List Keyed}(m:Mg κ all out a b) (h:∀y∈b,∀x∈a,κ.kle (kv κ y) (kv κ x)):(out++(b++a)).Perm all/\Asc κ (out++(b++a)):=
 ⟨m.swap.perm,YW.mpr ⟨m.so,YW.mpr ⟨m.sb,m.sa,h⟩,λx hx y hy=>(Z7.mp hy).elim (m.lb x hx y) (m.la x hx y)⟩⟩
def xc7:Array Keyed->Array Keyed->StateT SortSt Sem (Array Keyed):=sortPriv% PySem.Builtin.mergeLo
abbrev qo3 (st:SortSt) (g:Nat):SortSt:=SortSt.mk' (kindOf st) (arrOf st) (pendingOf st) g (failedOf st)
theorem Mg.takesA {κ:KeyKind}{all b:List Keyed}:∀{out l a:List Keyed},Mg κ all out (l++a) b->(∀x∈l,∀y∈b,κ.kle (kv κ x) (kv κ y))->Mg κ all (out++l) a b
 |out,[],a,m,_=>by rw[YZ];exact m
 |out,x::l,a,m,h=>by
  have:=(m.takeA (λy hy=>h x (by simp) y hy)).takesA (λz hz=>h z (by simp[hz]))
  rwa [Ys] at this
theorem Mg.takesB {κ:KeyKind}{all out l a b:List Keyed}(m:Mg κ all out a (l++b)) (h:∀x∈l,∀y∈a,κ.kle (kv κ x) (kv κ y)):Mg κ all (out++l) a b:=(m.swap.takesA h).swap
theorem qF6 {p:Nat->Bool}:∀n:Nat,(∀i j,i<=j->j<n->p j=true->p i=true)->∃c,c<=n/\∀i,i<n->p i=decide (i<c)
 |0,_=>⟨0,Ze _,λi hi=>absurd hi (XA _)⟩
 |n+1,h=>by
  obtain⟨c,c1,c2⟩:=qF6 n (λi j a b e=>h i j a (by lia) e);cases e:p n with
  |true=>
   exact⟨n+1,Ze _,λi hi=>by rw[h i n (by lia) (by lia) e,Zv hi]⟩
  |false=>
   refine⟨c,by lia,λi hi=>?_⟩;by_cases en:i=n
   ·rw[en,e,Zu (by lia)]
   ·exact c2 i (by lia)
theorem q49 {a:Array Keyed}{i:Nat}(h:i<a.size):a.toList.drop i=a[i]::a.toList.drop (i+1):=by
 rw[Wr (by simpa using h)];simp
theorem qo4 {κ:KeyKind}{a:Array Keyed}(h:KeysOf κ a){i:Nat}(hi:i<a.size):κ.keyOf a[i].1=some (kv κ a[i]):=by
 obtain⟨x,e⟩:=h a[i] (by simp);rw[e];unfold kv;rw[e];rfl
theorem qh9 {κ:KeyKind}{a:Array Keyed}(h:Asc κ a.toList){i j:Nat}(jX:i<=j) (hj:j<a.size):κ.kle (kv κ a[i]) (kv κ a[j]):=by
 rcases WJ jX with z|z
 ·have:=Xy.mp h i j (by simp;lia) (by simpa using hj) z;simpa using this
 ·subst z;exact YU _
theorem qk8 {a:Array Keyed}{i:Nat}{x:Keyed}(h:x∈a.toList.drop i):∃j,∃hj:j<a.size,i<=j/\a[j]=x:=by
 obtain⟨k,hk,e⟩:=XU h;have hk':i+k<a.size:=by simp at hk;lia
 exact⟨i+k,hk',by lia,by rw[<- e];simp⟩
theorem qF7 {κ:KeyKind}{a:Array Keyed}(ka:KeysOf κ a) (sa:Asc κ a.toList) (k:κ.α){base n:Nat}(hn:base+n<=a.size) :
  ∃c,c<=n/\(∀i,i<n->∃x y,a[base+i]?=some x/\κ.keyOf x.1=some y/\asks false k y=decide (i<c))/\∀i,(h:base+i<a.size)->i<n->(i<c->κ.kle (kv κ a[base+i]) k)/\(c<=i->κ.klt k (kv κ a[base+i])):=by
 have key:∀i,(h:base+i<a.size)->KK κ a (base+i)=kv κ a[base+i]:=λi h=>by unfold KK kv;rw[ZN a _ h]
 obtain⟨c,c1,c2⟩:=qF6 (p:=λi=>!κ.blt k (KK κ a (base+i))) n (λi j jX hj e=>by
  simp only[Wb] at e ⊢;rw[key _ (by lia)] at e ⊢;exact ZR (qh9 sa (by lia) (by lia)) e)
 refine⟨c,c1,λi hi=>⟨_,_,ZN a _ (by lia),qo4 ka (by lia),?_⟩,λi h hi=>⟨λhc=>?_,λhc=>?_⟩⟩
 ·rw[<- c2 i hi,key i (by lia)];rfl
 ·have e:=c2 i hi;rw[key i h,Zv hc] at e;exact (Wb _).mp e
 ·have e:=c2 i hi;rw[key i h,Zu (by lia)] at e;exact (Bool.not_eq_false' _).mp e
theorem qO6 {κ:KeyKind}{a:Array Keyed}(ka:KeysOf κ a) (sa:Asc κ a.toList) (k:κ.α){base n:Nat}(hn:base+n<=a.size) :
  ∃c,c<=n/\(∀i,i<n->∃x y,a[base+i]?=some x/\κ.keyOf x.1=some y/\asks true k y=decide (i<c))/\∀i,(h:base+i<a.size)->i<n->(i<c->κ.klt (kv κ a[base+i]) k)/\(c<=i->κ.kle k (kv κ a[base+i])):=by
 have key:∀i,(h:base+i<a.size)->KK κ a (base+i)=kv κ a[base+i]:=λi h=>by unfold KK kv;rw[ZN a _ h]
 obtain⟨c,c1,c2⟩:=qF6 (p:=λi=>κ.blt (KK κ a (base+i)) k) n (λi j jX hj e=>by
  rw[key _ (by lia)] at e ⊢;exact KeyOrd.klt_of_kle_of_klt (qh9 sa (by lia) (by lia)) e)
 refine⟨c,c1,λi hi=>⟨_,_,ZN a _ (by lia),qo4 ka (by lia),?_⟩,λi h hi=>⟨λhc=>?_,λhc=>?_⟩⟩
 ·rw[<- c2 i hi,key i (by lia)];rfl
 ·have e:=c2 i hi;rw[key i h,Zv hc] at e;exact e
 ·have e:=c2 i hi;rw[key i h,Zu (by lia)] at e;exact e
def Mp (κ:KeyKind) (a b out:Array Keyed) (ia ib:Nat):Prop:=Mg κ (a.toList++b.toList) out.toList (a.toList.drop ia) (b.toList.drop ib)
abbrev Rd (κ:KeyKind) (a b out:Array Keyed):Prop:=out.toList.Perm (a.toList++b.toList)/\Asc κ out.toList
section
variable {κ:KeyKind}{a b out:Array Keyed}{ia ib:Nat}
theorem Mp.ta (sb:Asc κ b.toList) (m:Mp κ a b out ia ib) (wI:ia<a.size) (wH:ib<b.size) (h:κ.kle (kv κ a[ia]) (kv κ b[ib])):Mp κ a b (out.push a[ia]) (ia+1) ib:=by
 unfold Mp at m ⊢;rw[q49 wI] at m;rw[Xh];refine m.takeA λy hy=>?_;obtain⟨j,hj,h1,rfl⟩:=qk8 hy;exact ZR h (qh9 sb h1 hj)
theorem Mp.tb (sa:Asc κ a.toList) (m:Mp κ a b out ia ib) (wI:ia<a.size) (wH:ib<b.size) (h:κ.kle (kv κ b[ib]) (kv κ a[ia])):Mp κ a b (out.push b[ib]) ia (ib+1):=by
 unfold Mp at m ⊢;rw[q49 wH] at m;rw[Xh];refine m.takeB λy hy=>?_;obtain⟨j,hj,h1,rfl⟩:=qk8 hy;exact ZR h (qh9 sa h1 hj)
theorem qO7 {a:Array Keyed}{i k:Nat}(h:i+k<=a.size):a.toList.drop i=(a.extract i (i+k)).toList++a.toList.drop (i+k):=by
 rw[XI,List.extract_eq_drop_take,<- Ug,show i+k-i=k by lia,Y3]
theorem q50 {a:Array Keyed}{i k:Nat}(h:i+k<=a.size){x:Keyed}(hx:x∈(a.extract i (i+k)).toList):∃j,∃hj:i+j<a.size,j<k/\a[i+j]=x:=by
 obtain⟨j,hj,e⟩:=XU hx;have hj':j<k:=by simp at hj;lia
 exact⟨j,by lia,hj',by rw[<- e];simp⟩
theorem Mp.as (sb:Asc κ b.toList) (m:Mp κ a b out ia ib){k:Nat}(hk:ia+k<=a.size) (wH:ib<b.size) (h:∀i,(hi:ia+i<a.size)->i<k->κ.kle (kv κ a[ia+i]) (kv κ b[ib])):Mp κ a b (out++a.extract ia (ia+k)) (ia+k) ib:=by
 unfold Mp at m ⊢;rw[qO7 hk] at m;rw[Ye];refine m.takesA λx hx y hy=>?_;obtain⟨i,hi,yJ,rfl⟩:=q50 hk hx;obtain⟨j,hj,h1,rfl⟩:=qk8 hy;exact ZR (h i hi yJ) (qh9 sb h1 hj)
theorem Mp.bs (sa:Asc κ a.toList) (m:Mp κ a b out ia ib){k:Nat}(hk:ib+k<=b.size) (wI:ia<a.size) (h:∀i,(hi:ib+i<b.size)->i<k->κ.kle (kv κ b[ib+i]) (kv κ a[ia])):Mp κ a b (out++b.extract ib (ib+k)) ia (ib+k):=by
 unfold Mp at m ⊢;rw[qO7 hk] at m;rw[Ye];refine m.takesB λx hx y hy=>?_;obtain⟨i,hi,yJ,rfl⟩:=q50 hk hx;obtain⟨j,hj,h1,rfl⟩:=qk8 hy;exact ZR (h i hi yJ) (qh9 sa h1 hj)
theorem qA3 {a:Array Keyed}{i:Nat}:(a.extract i a.size).toList=a.toList.drop i:=by
 rw[XI,List.extract_eq_drop_take,YL (by simp)]
theorem Mp.done (m:Mp κ a b out ia ib) (h:ib=b.size):Rd κ a b (out++a.extract ia a.size++b.extract ib b.size):=by
 unfold Mp at m;have e:b.toList.drop ib=[]:=by rw[h];simp
 rw[e] at m;show (out++a.extract ia a.size++b.extract ib b.size).toList.Perm _/\Asc κ (out++a.extract ia a.size++b.extract ib b.size).toList;rw[Ye,Ye,qA3,qA3,e,YZ];exact m.doneB
def ap1 {α:Type}{β:Type _}(f:α->β) (x:α):β:=f x
def ap2 {α γ:Type}{β:Type _}(f:α->γ->β) (x:α) (y:γ):β:=f x y
theorem qc1 {M:Model}{A:Around}{E:Value->Shared->Prop}{s:Shared}{σ α:Type}{c:Prop}[Decidable c]{x y:StateT σ Sem α}{Q:α->σ->Prop}{st:σ}(h:c) (k:wpS M A E s x Q st):wpS M A E s (if c then x else y) Q st:=by rw[Zt h];exact k
theorem qc0 {M:Model}{A:Around}{E:Value->Shared->Prop}{s:Shared}{σ α:Type}{c:Prop}[Decidable c]{x y:StateT σ Sem α}{Q:α->σ->Prop}{st:σ}(h:¬c) (k:wpS M A E s y Q st):wpS M A E s (if c then x else y) Q st:=by rw[Zl h];exact k
theorem qp7 {M:Model}{A:Around}{E:Value->Shared->Prop}{s:Shared}{σ α:Type}{c:Prop}[Decidable c]{x y:StateT σ Sem α}{Q:α->σ->Prop}{st:σ}(h:c->wpS M A E s x Q st) (k:¬c->wpS M A E s y Q st):wpS M A E s (if c then x else y) Q st:=
 if e:c then qc1 e (h e) else qc0 e (k e)
theorem qk9 {M:Model}{A:Around}{E:Value->Shared->Prop}{s:Shared}{σ β γ:Type}{a b:Nat}{f:Nat->β->StateT σ Sem (ForInStep β)}{k:β->StateT σ Sem γ}{Q0:γ->σ->Prop}(I:Nat->β->σ->Prop){Q:β->σ->Prop}
  (step:∀(i:Nat) (c:β) (st:σ),a<=i->i<b->I i c st->wpS M A E s (ap2 f i c) (λr st'=>match r with|ForInStep.done c'=>Q c' st'|ForInStep.yield c'=>I (i+1) c' st') st)
  (fin:∀(c:β) (st:σ),I (max a b) c st->Q c st){c:β}{st:σ}(init:I a c st) (post:∀c' st',Q c' st'->wpS M A E s (ap1 k c') Q0 st'):wpS M A E s (forIn [a:b] c f >>= k) Q0 st:=Zm (Ww (Xc I step fin init) post)
theorem xi3 {G0:Prop}{P G:Nat->Prop}(a:(∀m,P m->G m)->G0) (b:∀m,P m->G m):G0:=a b
theorem xn7 {G0:Prop}{P G:Nat->Array Keyed->Prop}(a:(∀m o,P m o->G m o)->G0) (b:∀m o,P m o->G m o):G0:=a b
theorem Mp.last (m:Mp κ a b out ia ib) (na:0<a.size) (h2:∀j,(hj:j<b.size)->κ.klt (kv κ b[j]) (kv κ a[a.size-1])) (h:ia+1=a.size):Rd κ a b (out++b.extract ib b.size++a.extract ia a.size):=by
 show (out++b.extract ib b.size++a.extract ia a.size).toList.Perm _/\Asc κ (out++b.extract ib b.size++a.extract ia a.size).toList;rw[Ye,Ye,qA3,qA3,Ys];refine Mg.doneAB m λy hy x hx=>?_;obtain⟨i,hi,h3,rfl⟩:=qk8 hx;obtain⟨j,hj,_,rfl⟩:=qk8 hy;have:i=a.size-1:=by lia
 subst this;exact Z6 (h2 j hj)
end
def LoI (κ:KeyKind) (a b:Array Keyed) (st:SortSt) (x:Nat) (out:Array Keyed) (ia ib:Nat) (st':SortSt):Prop:=(∃g,st'=qo3 st g)/\Mp κ a b out ia ib/\ia+1<a.size/\ib<b.size/\x<=ia+ib
def LoD (κ:KeyKind) (a b:Array Keyed) (st:SortSt) (o:Option (Array Keyed)) (st':SortSt):Prop:=∃r,o=some r/\(∃g,st'=qo3 st g)/\Rd κ a b r
theorem LoI.of {κ:KeyKind}{a b out:Array Keyed}{st:SortSt}{x g ia ib:Nat}(m:Mp κ a b out ia ib) (h1:ia+1<a.size) (h2:ib<b.size) (h3:x<=ia+ib):LoI κ a b st x out ia ib (qo3 st g):=⟨⟨g,rfl⟩,m,h1,h2,h3⟩
theorem LoI.mono {κ:KeyKind}{a b out:Array Keyed}{st st':SortSt}{x y ia ib:Nat}(j:LoI κ a b st x out ia ib st') (h:y<=x):LoI κ a b st y out ia ib st':=⟨j.1,j.2.1,j.2.2.1,j.2.2.2.1,ZG h j.2.2.2.2⟩
section
variable {prog:Program}{w:World}{A:Around}{E:Value->Shared->Prop}{s:Shared}{κ:KeyKind}
theorem qK0 {kd:SortKind}(hO:KLt prog w A s κ kd){st:SortSt}{a b:Array Keyed}{Q:Array Keyed->SortSt->Prop}(wG:kindOf st=kd) (ka:KeysOf κ a) (kb:KeysOf κ b) (sa:Asc κ a.toList) (sb:Asc κ b.toList)
  (na:0<a.size) (nb:0<b.size) (h1:κ.klt (kv κ b[0]) (kv κ a[0])) (h2:∀j,(hj:j<b.size)->κ.klt (kv κ b[j]) (kv κ a[a.size-1]))
  (h:∀out g,Rd κ a b out->Q out (qo3 st g)):wpS (model prog w) A E s (xc7 a b) Q st:=by
 have hk:∀g,kindOf (qo3 st g)=kd:=λg=>wG;refine Zm (V3 (Y6 ⟨rfl,?_⟩));refine Zm (qb5 (ZN b 0 nb) ?_);have m0:Mp κ a b #[b[0]] 0 1:=by
  refine Mp.tb (out:=#[]) (ib:=0) sa ⟨by simp,by simp[Asc],by simpa using sa,by simpa using sb,by simp,by simp⟩ na nb (Z6 h1)
 by_cases e0:1=b.size
 ·exact qc1 (by simp[<- e0]) (Zy (h _ (gallopOf st) (m0.done e0)))
 refine qc0 (by simpa using e0) ?_;by_cases e1:0+1=a.size
 ·exact qc1 (by simp[<- e1]) (Zy (h _ (gallopOf st) (m0.last na h2 e1)))
 refine qc0 (by simpa using e1) ?_;refine Zm (Vc ?_);refine qk9 (I:=λx c st'=>LoI κ a b st x c.2.1 c.2.2.1 c.2.2.2.1 st') (Q:=λc st'=>LoD κ a b st c.1 st') ?step ?fin (LoI.of (g:=gallopOf st) (ia:=0) (ib:=1) m0 (by lia) (by lia) (by lia)) ?post
 case post=>
  rintro⟨c1,c2⟩ st' ⟨r,e,⟨g,rfl⟩,hr⟩;cases (show c1=some r from e);exact Zy (h r g hr)
 case fin=>
  rintro c st' ⟨_,m,y1,y2,y3⟩;lia
 case step=>
  rintro x c st' _ hx ⟨⟨g,rfl⟩,m0,y1,y2,y3⟩;refine qk9 (I:=λy c st'=>LoI κ a b st (x+y) c.2.1 c.2.2.1 c.2.2.2.1 st') (Q:=λc st'=>c.1=none/\LoI κ a b st (x+1) c.2.1 c.2.2.1 c.2.2.2.1 st'\/LoD κ a b st c.1 st') ?step ?fin (LoI.of (g:=g) m0 y1 y2 (by lia)) ?post
  case fin=>
   rintro c st' ⟨_,m,y1,y2,y3⟩;lia
  case step=>
   rintro y c st' _ hy ⟨⟨g,rfl⟩,m,y1,y2,y3⟩;refine Zm (qb5 (ZN b c.2.2.2.1 y2) ?_);refine Zm (qb5 (ZN a c.2.2.1 (by lia)) ?_);refine Zm (qv4 hO (hk g) (qo4 kb y2) (qo4 ka (by lia)) ?_);by_cases hb:κ.blt (kv κ b[c.2.2.2.1]) (kv κ (a[c.2.2.1]'(by lia)))=true
   ·refine qc1 hb ?_;refine Zm (qb5 (ZN b c.2.2.2.1 y2) ?_);have m1:=m.tb sa (by lia) y2 (Z6 hb);by_cases e1:c.2.2.2.1+1=b.size
    ·exact qc1 (by simp[e1]) (Zy (.inr ⟨_,rfl,⟨_,rfl⟩,m1.done e1⟩))
    have j:=LoI.of (st:=st) (g:=g) (x:=x+(y+1)) m1 y1 (by lia) (by lia);exact qc0 (by simp[e1]) (qp7 (λ_=>Zy (.inl ⟨rfl,j.mono (by lia)⟩)) λ_=>Zy j)
   ·refine qc0 hb ?_;refine Zm (qb5 (ZN a c.2.2.1 (by lia)) ?_);have m1:=m.ta sb (by lia) y2 (eq_false_of_ne_true hb);by_cases e1:c.2.2.1+1+1=a.size
    ·exact qc1 (by simp[e1]) (Zy (.inr ⟨_,rfl,⟨_,rfl⟩,m1.last na h2 e1⟩))
    have j:=LoI.of (st:=st) (g:=g) (x:=x+(y+1)) m1 (by lia) y2 (by lia);exact qc0 (by simp[e1]) (qp7 (λ_=>Zy (.inl ⟨rfl,j.mono (by lia)⟩)) λ_=>Zy j)
  case post=>
   rintro⟨c1,c2⟩ st' (⟨e,⟨g,rfl⟩,m,y1,y2,y3⟩|⟨r,e,hg,hr⟩)
   ·cases (show c1=none from e);refine Zm (V3 (Y6 ⟨rfl,?_⟩));refine qk9 (I:=λy c st'=>LoI κ a b st (x+1+y) c.2.1 c.2.2.1 c.2.2.2.1 st') (Q:=λc st'=>c.1=none/\LoI κ a b st (x+1) c.2.1 c.2.2.1 c.2.2.2.1 st'\/LoD κ a b st c.1 st') ?step ?fin (LoI.of (g:=g) m y1 y2 y3) ?post
    case fin=>
     rintro c st' ⟨_,m,y1,y2,y3⟩;lia
    case post=>
     rintro⟨c1,c2⟩ st' (⟨e,⟨g,rfl⟩,m,y1,y2,y3⟩|⟨r,e,hg,hr⟩)
     ·cases (show c1=none from e);exact Zm (XQ (Zy ⟨⟨_,rfl⟩,m,y1,y2,y3⟩))
     ·cases (show c1=some r from e);exact Zy ⟨r,rfl,hg,hr⟩
    case step=>
     rintro y c st' _ hy ⟨⟨g,rfl⟩,m1,y1,y2,y3⟩;refine' xi3 (P:=λ_=>True) (G:=_) (λkey=>?ka) (λm _=>?kb)
     case ka=>
      by_cases hc:c.2.2.2.2.1>1
      case neg=>
       refine qc0 hc ?_;generalize c.2.2.2.2.1=mg;exact key mg trivial
      case pos=>exact qc1 hc (key _ trivial)
     case kb=>
      refine Zm (XQ ?_);refine Zm (qb5 (ZN b c.2.2.2.1 y2) ?_);obtain⟨k,c1,c2,c3⟩:=qF7 ka sa (kv κ b[c.2.2.2.1]) (base:=c.2.2.1) (n:=a.size-c.2.2.1) (by lia);refine Zm (qf4 hO (hk m) (qo4 kb y2) c2 (by lia) c1 ?_);have lc:k<a.size-c.2.2.1:=by
       rcases Nat.lt_or_ge k (a.size-c.2.2.1) with z|z
       ·exact z
       ·have:=(c3 (a.size-1-c.2.2.1) (by lia) (by lia)).1 (by lia);have e:a[c.2.2.1+(a.size-1-c.2.2.1)]'(by lia)=a[a.size-1]:=by congr 1;lia
        rw[e] at this;exact absurd (h2 c.2.2.2.1 y2) (W4 this)
      refine' xn7 (P:=λia1 out1=>∃hz:ia1+1<a.size,c.2.2.1<=ia1/\Mp κ a b out1 ia1 c.2.2.2.1/\κ.klt (kv κ (b[c.2.2.2.1]'y2)) (kv κ (a[ia1]'(by lia)))) (G:=_) (λkey=>?kc) (λia1 out1 hP=>?kd)
      case kc=>
       by_cases hc:k>0
       case neg=>
        refine qc0 hc ?_;have q2:κ.klt (kv κ b[c.2.2.2.1]) (kv κ a[c.2.2.1]):=(c3 0 (by lia) (by lia)).2 (by lia);have key':=key c.2.2.1 c.2.1 ⟨y1,Ze _,m1,q2⟩;generalize c.2.2.1=ia at key' ⊢;generalize c.2.1=out at key' ⊢;exact key'
       case pos=>
        refine qc1 hc ?_;have m2:=m1.as sb (k:=k) (by lia) y2 (λi hi hic=>(c3 i hi (by lia)).1 hic);have q2:κ.klt (kv κ b[c.2.2.2.1]) (kv κ a[c.2.2.1+k]):=(c3 k (by lia) (by lia)).2 (Ze _);by_cases e2:c.2.2.1+k+1=a.size
        ·exact qc1 (by simp[e2]) (Zy (.inr ⟨_,rfl,⟨_,rfl⟩,m2.last na h2 e2⟩))
        exact qc0 (by simp[e2]) (qc0 (by simp;lia) (key _ _ ⟨by lia,by lia,m2,q2⟩))
      case kd=>
       obtain⟨hz,wK,m2,q2⟩:=hP;refine Zm (qb5 (ZN b c.2.2.2.1 y2) ?_);have m3:=m2.tb sa (by lia) y2 (Z6 q2);by_cases e3:c.2.2.2.1+1=b.size
       ·exact qc1 (by simp[e3]) (Zy (.inr ⟨_,rfl,⟨_,rfl⟩,m3.done e3⟩))
       refine qc0 (by simp[e3]) ?_;refine Zm (qb5 (ZN a ia1 (by lia)) ?_);obtain⟨d,d1,d2,d3⟩:=qO6 kb sb (kv κ a[ia1]) (base:=c.2.2.2.1+1) (n:=b.size-(c.2.2.2.1+1)) (by lia);refine Zm (qf4 hO (hk m) (qo4 ka (by lia)) d2 (by lia) d1 ?_);by_cases hd:d>0
       case' neg=>
        refine qc0 hd ?_;have m4:=m3;have q4:κ.kle (kv κ a[ia1]) (kv κ b[c.2.2.2.1+1]):=(d3 0 (by lia) (by lia)).2 (by lia)
       case' pos=>
        refine qc1 hd ?_;have m4:=m3.bs sa (k:=d) (by lia) (by lia) (λi hi hid=>Z6 ((d3 i hi (by lia)).1 hid));by_cases e4:c.2.2.2.1+1+d=b.size
        ·exact qc1 (by simp[e4]) (Zy (.inr ⟨_,rfl,⟨_,rfl⟩,m4.done e4⟩))
        refine qc0 (by simp[e4]) ?_;have q4:κ.kle (kv κ a[ia1]) (kv κ b[c.2.2.2.1+1+d]):=(d3 d (by lia) (by lia)).2 (Ze _)
       all_goals
        refine Zm (qb5 (ZN a ia1 (by lia)) ?_);have m5:=m4.ta sb (by lia) (by lia) q4;by_cases e5:ia1+1+1=a.size
        ·exact qc1 (by simp[e5]) (Zy (.inr ⟨_,rfl,⟨_,rfl⟩,m5.last na h2 e5⟩))
        have j:=LoI.of (st:=st) (g:=m) (x:=x+1+(y+1)) m5 (by lia) (by lia) (by lia);exact qc0 (by simp[e5]) (qp7 (λ_=>Zy (.inl ⟨rfl,j.mono (by lia)⟩)) λ_=>Zy j)
   ·cases (show c1=some r from e);exact Zy ⟨r,rfl,hg,hr⟩
end
def xc8:Array Keyed->Array Keyed->StateT SortSt Sem (Array Keyed):=sortPriv% PySem.Builtin.mergeHi
def xn8 (κ:KeyKind):KeyKind where
 α:=κ.α
 blt:=λa b=>κ.blt b a
 irrefl:=κ.irrefl
 trans:=λa b c h1 h2=>κ.trans _ _ _ h2 h1
 negTrans:=λa b c h=>(κ.negTrans _ b _ h).symm
 total:=λa b h1 h2=>κ.total _ _ h2 h1
 keyOf:=κ.keyOf
 dflt:=κ.dflt
theorem qO8 {κ:KeyKind}{l:List Keyed}(h:Asc (xn8 κ) l):Asc κ l.reverse:=List.pairwise_reverse.mpr h
theorem qF8 {κ:KeyKind}{l:List Keyed}(h:Asc κ l):Asc (xn8 κ) l.reverse:=List.pairwise_reverse.mpr h
theorem q51 {a:Array Keyed}{n:Nat}(h:n<a.size):(a.toList.take (n+1)).reverse=a[n]::(a.toList.take n).reverse:=by
 rw[WW (by simpa using h),XV];simp
theorem ql0 {a:Array Keyed}{n:Nat}{x:Keyed}(h:x∈(a.toList.take n).reverse):∃j,∃hj:j<a.size,j<n/\a[j]=x:=by
 obtain⟨k,hk,e⟩:=XU (List.mem_reverse.mp h);have hk':k<n/\k<a.size:=by simp at hk;lia
 exact⟨k,hk'.2,hk'.1,by rw[<- e];simp⟩
theorem qO9 {a:Array Keyed}{i n:Nat}(h:i<=n) (hn:n<=a.size):(a.toList.take n).reverse=(a.extract i n).reverse.toList++(a.toList.take i).reverse:=by
 rw[Wm,XI,List.extract_eq_drop_take,<- XV,<- List.take_add,show i+(n-i)=n by lia]
theorem qP0 {a:Array Keyed}{i n:Nat}(hn:n<=a.size){x:Keyed}(hx:x∈(a.extract i n).reverse.toList):∃j,∃hj:j<a.size,i<=j/\j<n/\a[j]=x:=by
 rw[Wm] at hx;obtain⟨j,hj,e⟩:=XU (List.mem_reverse.mp hx);have hj':i+j<n:=by simp at hj;lia
 exact⟨i+j,by lia,by lia,hj',by rw[<- e];simp⟩
theorem qA4 {a:Array Keyed}{n:Nat}:(a.extract 0 n).toList=a.toList.take n:=by
 rw[XI,List.extract_eq_drop_take];simp
def Hp (κ:KeyKind) (a b out:Array Keyed) (na nb:Nat):Prop:=Mg (xn8 κ) (a.toList++b.toList) out.toList (a.toList.take na).reverse (b.toList.take nb).reverse
section
variable {κ:KeyKind}{a b out:Array Keyed}{na nb:Nat}
theorem Hp.ta (m:Hp κ a b out (na+1) nb) (hna:na<a.size) (h:∀j,(hj:j<b.size)->j<nb->κ.kle (kv κ b[j]) (kv κ a[na])):Hp κ a b (out.push a[na]) na nb:=by
 unfold Hp at m ⊢;rw[q51 hna] at m;rw[Xh];refine m.takeA λy hy=>?_;obtain⟨j,hj,h1,rfl⟩:=ql0 hy;exact h j hj h1
theorem Hp.tb (m:Hp κ a b out na (nb+1)) (hnb:nb<b.size) (h:∀j,(hj:j<a.size)->j<na->κ.kle (kv κ a[j]) (kv κ b[nb])):Hp κ a b (out.push b[nb]) na nb:=by
 unfold Hp at m ⊢;rw[q51 hnb] at m;rw[Xh];refine m.takeB λy hy=>?_;obtain⟨j,hj,h1,rfl⟩:=ql0 hy;exact h j hj h1
theorem Hp.as (m:Hp κ a b out na nb){k:Nat}(hk:k<=na) (hna:na<=a.size) (h:∀i j,(hi:i<a.size)->(hj:j<b.size)->k<=i->i<na->j<nb->κ.kle (kv κ b[j]) (kv κ a[i])):Hp κ a b (out++(a.extract k na).reverse) k nb:=by
 unfold Hp at m ⊢;rw[qO9 hk hna] at m;rw[Ye];refine m.takesA λx hx y hy=>?_;obtain⟨i,hi,yJ,jT,rfl⟩:=qP0 hna hx;obtain⟨j,hj,h1,rfl⟩:=ql0 hy;exact h i j hi hj yJ jT h1
theorem Hp.bs (m:Hp κ a b out na nb){k:Nat}(hk:k<=nb) (hnb:nb<=b.size) (h:∀i j,(hi:i<b.size)->(hj:j<a.size)->k<=i->i<nb->j<na->κ.kle (kv κ a[j]) (kv κ b[i])):Hp κ a b (out++(b.extract k nb).reverse) na k:=by
 unfold Hp at m ⊢;rw[qO9 hk hnb] at m;rw[Ye];refine m.takesB λx hx y hy=>?_;obtain⟨i,hi,yJ,jT,rfl⟩:=qP0 hnb hx;obtain⟨j,hj,h1,rfl⟩:=ql0 hy;exact h i j hi hj yJ jT h1
theorem Hp.done (m:Hp κ a b out na nb) (h:na=0):Rd κ a b (a.extract 0 na++b.extract 0 nb++out.reverse):=by
 unfold Hp at m;subst h;have e:=m.swap.doneB;have z:(a.extract 0 0++b.extract 0 nb++out.reverse).toList=(out.toList++(b.toList.take nb).reverse).reverse:=by
  rw[Ye,Ye,qA4,qA4,Wm,XV];simp
 show (a.extract 0 0++b.extract 0 nb++out.reverse).toList.Perm _/\Asc κ (a.extract 0 0++b.extract 0 nb++out.reverse).toList;rw[z];exact⟨(WX _).trans e.1,qO8 e.2⟩
theorem Hp.first (m:Hp κ a b out na nb) (sa:Asc κ a.toList) (ha:0<a.size) (hb:0<b.size) (h1:κ.klt (kv κ b[0]) (kv κ a[0])) (h:nb=1):Rd κ a b (b.extract 0 nb++a.extract 0 na++out.reverse):=by
 unfold Hp at m;subst h;have e:=m.swap.doneAB λy hy x hx=>by
  obtain⟨i,hi,_,rfl⟩:=ql0 hy;obtain⟨j,hj,h3,rfl⟩:=ql0 hx;have:j=0:=by lia
  subst this;have q:κ.kle (kv κ b[0]) (kv κ a[i]):=ZR (Z6 h1) (qh9 sa (Zx i) hi);exact q
 have z:(b.extract 0 1++a.extract 0 na++out.reverse).toList=(out.toList++((a.toList.take na).reverse++(b.toList.take 1).reverse)).reverse:=by
  rw[Ye,Ye,qA4,qA4,Wm,XV,XV];simp
 show (b.extract 0 1++a.extract 0 na++out.reverse).toList.Perm _/\Asc κ (b.extract 0 1++a.extract 0 na++out.reverse).toList;rw[z];exact⟨(WX _).trans e.1,qO8 e.2⟩
end
theorem Hp.ta' {κ:KeyKind}{a b out:Array Keyed}{na nb:Nat}(sb:Asc κ b.toList) (m:Hp κ a b out na nb) (h0:0<na) (hna:na<=a.size) (h1:0<nb) (hnb:nb<=b.size) (h:κ.kle (kv κ (b[nb-1]'(by lia))) (kv κ (a[na-1]'(by lia)))):Hp κ a b (out.push (a[na-1]'(by lia))) (na-1) nb:=by
 refine Hp.ta (na:=na-1) (by rw[show na-1+1=na by lia];exact m) (by lia) λj hj hn=>?_;exact ZR (qh9 sb (show j<=nb-1 by lia) (by lia)) h
theorem Hp.tb' {κ:KeyKind}{a b out:Array Keyed}{na nb:Nat}(sa:Asc κ a.toList) (m:Hp κ a b out na nb) (h0:0<na) (hna:na<=a.size) (h1:0<nb) (hnb:nb<=b.size) (h:κ.kle (kv κ (a[na-1]'(by lia))) (kv κ (b[nb-1]'(by lia)))):Hp κ a b (out.push (b[nb-1]'(by lia))) na (nb-1):=by
 refine Hp.tb (nb:=nb-1) (by rw[show nb-1+1=nb by lia];exact m) (by lia) λj hj hn=>?_;exact ZR (qh9 sa (show j<=na-1 by lia) (by lia)) h
theorem xn9 {G0:Prop}{P:Nat->Array Keyed->Prop}{G:Nat->Array Keyed->Nat->Prop}(a:(∀m o c,P m o->G m o c)->G0) (b:∀m o c,P m o->G m o c):G0:=a b
def HiI (κ:KeyKind) (a b:Array Keyed) (st:SortSt) (x na nb:Nat) (out:Array Keyed) (st':SortSt):Prop:=(∃g,st'=qo3 st g)/\Hp κ a b out na nb/\0<na/\na<=a.size/\1<nb/\nb<=b.size/\x+na+nb<=a.size+b.size
theorem HiI.of {κ:KeyKind}{a b out:Array Keyed}{st:SortSt}{x g na nb:Nat}(m:Hp κ a b out na nb) (h1:0<na) (h2:na<=a.size) (h3:1<nb) (h4:nb<=b.size) (h5:x+na+nb<=a.size+b.size):HiI κ a b st x na nb out (qo3 st g):=⟨⟨g,rfl⟩,m,h1,h2,h3,h4,h5⟩
theorem HiI.mono {κ:KeyKind}{a b out:Array Keyed}{st st':SortSt}{x y na nb:Nat}(j:HiI κ a b st x na nb out st') (h:y<=x):HiI κ a b st y na nb out st':=by
 obtain⟨j1,j2,j3,j4,j5,j6,j7⟩:=j;exact⟨j1,j2,j3,j4,j5,j6,by lia⟩
section
variable {prog:Program}{w:World}{A:Around}{E:Value->Shared->Prop}{s:Shared}{κ:KeyKind}
theorem qK1 {kd:SortKind}(hO:KLt prog w A s κ kd){st:SortSt}{a b:Array Keyed}{Q:Array Keyed->SortSt->Prop}(wG:kindOf st=kd) (ka:KeysOf κ a) (kb:KeysOf κ b) (sa:Asc κ a.toList) (sb:Asc κ b.toList)
  (pa:0<a.size) (pb:0<b.size) (h1:κ.klt (kv κ b[0]) (kv κ a[0])) (h2:∀j,(hj:j<b.size)->κ.klt (kv κ b[j]) (kv κ a[a.size-1]))
  (h:∀out g,Rd κ a b out->Q out (qo3 st g)):wpS (model prog w) A E s (xc8 a b) Q st:=by
 have hk:∀g,kindOf (qo3 st g)=kd:=λg=>wG;have bq:∀{i j:Nat},i=j->(i==j)=true:=λe=>X1.mpr e;have bn:∀{i j:Nat},i≠j->¬(i==j)=true:=λe z=>e (X1.mp z);refine Zm (V3 (Y6 ⟨rfl,?_⟩));refine Zm (qb5 (ZN a (a.size-1) (by lia)) ?_);have m0:Hp κ a b #[a[a.size-1]] (a.size-1) b.size:=by
  refine Hp.ta' (out:=#[]) sb ⟨by simp only[Array.toList_empty,List.nil_append];rw[YL (by simp),YL (by simp)];exact (WX _).append (WX _),by simp[Asc],?_,?_,by simp,by simp⟩ pa (Ze _) pb (Ze _) (Z6 (h2 _ (by lia)))
  ·rw[YL (by simp)];exact qF8 sa
  ·rw[YL (by simp)];exact qF8 sb
 by_cases e0:a.size-1=0
 ·exact qc1 (bq e0) (Zy (h _ (gallopOf st) (m0.done e0)))
 refine qc0 (bn e0) ?_;by_cases e1:b.size=1
 ·exact qc1 (bq e1) (Zy (h _ (gallopOf st) (m0.first sa pa pb h1 e1)))
 refine qc0 (bn e1) ?_;refine Zm (Vc ?_);refine qk9 (I:=λx c st'=>HiI κ a b st x c.2.1 c.2.2.1 c.2.2.2.1 st') (Q:=λc st'=>LoD κ a b st c.1 st') ?step ?fin (HiI.of (g:=gallopOf st) (na:=a.size-1) (nb:=b.size) m0 (by lia) (by lia) (by lia) (by lia) (by lia)) ?post
 case post=>
  rintro⟨c1,c2⟩ st' ⟨r,e,⟨g,rfl⟩,hr⟩;cases (show c1=some r from e);exact Zy (h r g hr)
 case fin=>
  rintro c st' ⟨_,m,y1,y2,y3,y4,y5⟩;lia
 case step=>
  rintro x c st' _ hx ⟨⟨g,rfl⟩,m0,y1,y2,y3,y4,y5⟩;refine qk9 (I:=λy c st'=>HiI κ a b st (x+y) c.2.1 c.2.2.1 c.2.2.2.1 st') (Q:=λc st'=>c.1=none/\HiI κ a b st (x+1) c.2.1 c.2.2.1 c.2.2.2.1 st'\/LoD κ a b st c.1 st') ?step ?fin (HiI.of (g:=g) m0 y1 y2 y3 y4 (by lia)) ?post
  case fin=>
   rintro c st' ⟨_,m,y1,y2,y3,y4,y5⟩;lia
  case step=>
   rintro y c st' _ hy ⟨⟨g,rfl⟩,m,y1,y2,y3,y4,y5⟩;refine Zm (qb5 (ZN b (c.2.2.1-1) (by lia)) ?_);refine Zm (qb5 (ZN a (c.2.1-1) (by lia)) ?_);refine Zm (qv4 hO (hk g) (qo4 kb (by lia)) (qo4 ka (by lia)) ?_);by_cases hb:κ.blt (kv κ (b[c.2.2.1-1]'(by lia))) (kv κ (a[c.2.1-1]'(by lia)))=true
   ·refine qc1 hb ?_;refine Zm (qb5 (ZN a (c.2.1-1) (by lia)) ?_);have m1:=m.ta' sb y1 y2 (by lia) y4 (Z6 hb);by_cases e1:c.2.1-1=0
    ·exact qc1 (bq e1) (Zy (.inr ⟨_,rfl,⟨_,rfl⟩,m1.done e1⟩))
    have j:=HiI.of (st:=st) (g:=g) (x:=x+(y+1)) m1 (by lia) (by lia) y3 y4 (by lia);exact qc0 (bn e1) (qp7 (λ_=>Zy (.inl ⟨rfl,j.mono (by lia)⟩)) λ_=>Zy j)
   ·refine qc0 hb ?_;refine Zm (qb5 (ZN b (c.2.2.1-1) (by lia)) ?_);have m1:=m.tb' sa y1 y2 (by lia) y4 (eq_false_of_ne_true hb);by_cases e1:c.2.2.1-1=1
    ·exact qc1 (bq e1) (Zy (.inr ⟨_,rfl,⟨_,rfl⟩,m1.first sa pa pb h1 e1⟩))
    have j:=HiI.of (st:=st) (g:=g) (x:=x+(y+1)) m1 y1 y2 (by lia) (by lia) (by lia);exact qc0 (bn e1) (qp7 (λ_=>Zy (.inl ⟨rfl,j.mono (by lia)⟩)) λ_=>Zy j)
  case post=>
   rintro⟨c1,c2⟩ st' (⟨e,⟨g,rfl⟩,m,y1,y2,y3,y4,y5⟩|⟨r,e,hg,hr⟩)
   ·cases (show c1=none from e);refine Zm (V3 (Y6 ⟨rfl,?_⟩));refine qk9 (I:=λy c st'=>HiI κ a b st (x+1+y) c.2.1 c.2.2.1 c.2.2.2.1 st') (Q:=λc st'=>c.1=none/\HiI κ a b st (x+1) c.2.1 c.2.2.1 c.2.2.2.1 st'\/LoD κ a b st c.1 st') ?step ?fin (HiI.of (g:=g) m y1 y2 y3 y4 y5) ?post
    case fin=>
     rintro c st' ⟨_,m,y1,y2,y3,y4,y5⟩;lia
    case post=>
     rintro⟨c1,c2⟩ st' (⟨e,⟨g,rfl⟩,m,y1,y2,y3,y4,y5⟩|⟨r,e,hg,hr⟩)
     ·cases (show c1=none from e);exact Zm (XQ (Zy ⟨⟨_,rfl⟩,m,y1,y2,y3,y4,y5⟩))
     ·cases (show c1=some r from e);exact Zy ⟨r,rfl,hg,hr⟩
    case step=>
     rintro y c st' _ hy ⟨⟨g,rfl⟩,m1,y1,y2,y3,y4,y5⟩;refine' xi3 (P:=λ_=>True) (G:=_) (λkey=>?ka) (λm _=>?kb)
     case ka=>
      by_cases hc:c.2.2.2.2.1>1
      case neg=>
       refine qc0 hc ?_;generalize c.2.2.2.2.1=mg;exact key mg trivial
      case pos=>exact qc1 hc (key _ trivial)
     case kb=>
      refine Zm (XQ ?_);refine Zm (qb5 (ZN b (c.2.2.1-1) (by lia)) ?_);obtain⟨k,c1,c2,c0⟩:=qF7 ka sa (kv κ (b[c.2.2.1-1]'(by lia))) (base:=0) (n:=c.2.1) (by lia);have c3:∀i,(hi:i<a.size)->i<c.2.1->(i<k->κ.kle (kv κ a[i]) (kv κ (b[c.2.2.1-1]'(by lia))))/\(k<=i->κ.klt (kv κ (b[c.2.2.1-1]'(by lia))) (kv κ a[i])):=λi hi hn=>by
       have:=c0 i (by lia) hn;simp only[Vv] at this;exact this
      refine Zm (qf4 hO (hk m) (qo4 kb (by lia)) c2 (by lia) c1 ?_);refine' xn9 (P:=λna1 out1=>∃hz:0<na1/\na1<=c.2.1,Hp κ a b out1 na1 c.2.2.1/\κ.kle (kv κ (a[na1-1]'(by lia))) (kv κ (b[c.2.2.1-1]'(by lia)))) (G:=_) (λkey=>?kc) (λna1 out1 cn hP=>?kd)
      case kc=>
       by_cases hc:c.2.1-k>0
       case neg=>
        refine qc0 hc ?_;have q2:κ.kle (kv κ (a[c.2.1-1]'(by lia))) (kv κ (b[c.2.2.1-1]'(by lia))):=(c3 (c.2.1-1) (by lia) (by lia)).1 (by lia);have key':=key c.2.1 c.2.2.2.1 (c.2.1-k) ⟨⟨y1,Ze _⟩,m1,q2⟩;generalize c.2.1-k=cn at key' ⊢;generalize c.2.1=na at key' ⊢;generalize c.2.2.2.1=out at key' ⊢;exact key'
       case pos=>
        refine qc1 hc ?_;have m2:=m1.as (k:=k) (by lia) (by lia) (λi j hi hj z1 z2 z3=>ZR (qh9 sb (show j<=c.2.2.1-1 by lia) (by lia)) (Z6 ((c3 i hi z2).2 z1)));by_cases e2:k=0
        ·exact qc1 (bq e2) (Zy (.inr ⟨_,rfl,⟨_,rfl⟩,m2.done e2⟩))
        have q2:κ.kle (kv κ (a[k-1]'(by lia))) (kv κ (b[c.2.2.1-1]'(by lia))):=(c3 (k-1) (by lia) (by lia)).1 (by lia);exact qc0 (bn e2) (key k _ (c.2.1-k) ⟨⟨by lia,by lia⟩,m2,q2⟩)
      case kd=>
       obtain⟨hz,m2,q2⟩:=hP;refine Zm (qb5 (ZN b (c.2.2.1-1) (by lia)) ?_);have m3:=m2.tb' sa (by lia) (by lia) (by lia) (by lia) q2;by_cases e3:c.2.2.1-1=1
       ·exact qc1 (bq e3) (Zy (.inr ⟨_,rfl,⟨_,rfl⟩,m3.first sa pa pb h1 e3⟩))
       refine qc0 (bn e3) ?_;refine Zm (qb5 (ZN a (na1-1) (by lia)) ?_);obtain⟨d,d1,d2,d0⟩:=qO6 kb sb (kv κ (a[na1-1]'(by lia))) (base:=0) (n:=c.2.2.1-1) (by lia);have d3:∀i,(hi:i<b.size)->i<c.2.2.1-1->(i<d->κ.klt (kv κ b[i]) (kv κ (a[na1-1]'(by lia))))/\(d<=i->κ.kle (kv κ (a[na1-1]'(by lia))) (kv κ b[i])):=λi hi hn=>by
        have:=d0 i (by lia) hn;simp only[Vv] at this;exact this
       refine Zm (qf4 hO (hk m) (qo4 ka (by lia)) d2 (by lia) d1 ?_);have ld:0<d:=by
        rcases Nat.eq_zero_or_pos d with z|z
        ·have:=(d3 0 (by lia) (by lia)).2 (by lia);exact absurd (Wx h1 (qh9 sa (Zx (na1-1)) (by lia))) (W4 this)
        ·exact z
       by_cases hd:c.2.2.1-1-d>0
       case' neg=>
        refine qc0 hd ?_;have m4:=m3;have q4:κ.klt (kv κ (b[c.2.2.1-1-1]'(by lia))) (kv κ (a[na1-1]'(by lia))):=(d3 (c.2.2.1-1-1) (by lia) (by lia)).1 (by lia)
       case' pos=>
        refine qc1 hd ?_;have m4:=m3.bs (k:=d) (by lia) (by lia) (λi j hi hj c1 c2 c3=>ZR (qh9 sa (show j<=na1-1 by lia) (by lia)) ((d3 i hi (by lia)).2 c1));by_cases e4:d=1
        ·exact qc1 (bq e4) (Zy (.inr ⟨_,rfl,⟨_,rfl⟩,m4.first sa pa pb h1 e4⟩))
        refine qc0 (bn e4) (qc0 (bn (show d≠0 by lia)) ?_);have q4:κ.klt (kv κ (b[d-1]'(by lia))) (kv κ (a[na1-1]'(by lia))):=(d3 (d-1) (by lia) (by lia)).1 (by lia)
       all_goals
        refine Zm (qb5 (ZN a (na1-1) (by lia)) ?_);have m5:=m4.ta' sb (by lia) (by lia) (by lia) (by lia) (Z6 q4);by_cases e5:na1-1=0
        ·exact qc1 (bq e5) (Zy (.inr ⟨_,rfl,⟨_,rfl⟩,m5.done e5⟩))
        have j:=HiI.of (st:=st) (g:=m) (x:=x+1+(y+1)) m5 (by lia) (by lia) (by lia) (by lia) (by lia);exact qc0 (bn e5) (qp7 (λ_=>Zy (.inl ⟨rfl,j.mono (by lia)⟩)) λ_=>Zy j)
   ·cases (show c1=some r from e);exact Zy ⟨r,rfl,hg,hr⟩
end
theorem qw3 {κ:KeyKind}{a:Array Keyed}{i:Nat}(h:i<a.size):KK κ a i=kv κ a[i]:=by unfold KK kv;rw[ZN a _ h]
theorem qS5 {κ:KeyKind}{a:Array Keyed}(ka:KeysOf κ a){base n:Nat}(sa:SrtK κ a base (base+n)) (k:κ.α) (hn:base+n<=a.size) :
  ∃c,c<=n/\(∀i,i<n->∃x y,a[base+i]?=some x/\κ.keyOf x.1=some y/\asks false k y=decide (i<c))/\∀i,i<n->(i<c->κ.kle (KK κ a (base+i)) k)/\(c<=i->κ.klt k (KK κ a (base+i))):=by
 obtain⟨c,c1,c2⟩:=qF6 (p:=λi=>!κ.blt k (KK κ a (base+i))) n (λi j jX hj e=>by
  simp only[Wb] at e ⊢;exact ZR (sa (base+i) (base+j) (by lia) (by lia) (by lia)) e)
 refine⟨c,c1,λi hi=>⟨_,_,ZN a _ (by lia),qo4 ka (by lia),?_⟩,λi hi=>⟨λhc=>?_,λhc=>?_⟩⟩
 ·rw[<- c2 i hi,qw3 (by lia)];rfl
 ·have e:=c2 i hi;rw[Zv hc] at e;exact (Wb _).mp e
 ·have e:=c2 i hi;rw[Zu (by lia)] at e;exact (Bool.not_eq_false' _).mp e
theorem q52 {κ:KeyKind}{a:Array Keyed}(ka:KeysOf κ a){base n:Nat}(sa:SrtK κ a base (base+n)) (k:κ.α) (hn:base+n<=a.size) :
  ∃c,c<=n/\(∀i,i<n->∃x y,a[base+i]?=some x/\κ.keyOf x.1=some y/\asks true k y=decide (i<c))/\∀i,i<n->(i<c->κ.klt (KK κ a (base+i)) k)/\(c<=i->κ.kle k (KK κ a (base+i))):=by
 obtain⟨c,c1,c2⟩:=qF6 (p:=λi=>κ.blt (KK κ a (base+i)) k) n (λi j jX hj e=>KeyOrd.klt_of_kle_of_klt (sa (base+i) (base+j) (by lia) (by lia) (by lia)) e);refine⟨c,c1,λi hi=>⟨_,_,ZN a _ (by lia),qo4 ka (by lia),?_⟩,λi hi=>⟨λhc=>?_,λhc=>?_⟩⟩
 ·rw[<- c2 i hi,qw3 (by lia)];rfl
 ·have e:=c2 i hi;rw[Zv hc] at e;exact e
 ·have e:=c2 i hi;rw[Zu (by lia)] at e;exact e
def qe2 (xs:Array Keyed) (lo:Nat) (l:List (Keyed×Nat)):Array Keyed:=l.foldl (λa x=>a.setIfInBounds (lo+x.2) x.1) xs
theorem qm1 (lo k:Nat):∀(l:List Keyed) (o:Nat) (xs:Array Keyed),lo+o+l.length<=xs.size->(qe2 xs lo (l.zipIdx o)).size=xs.size/\(qe2 xs lo (l.zipIdx o))[k]?=if lo+o<=k/\k<lo+o+l.length then l[k-(lo+o)]? else xs[k]?
 |[],o,xs,_=>⟨rfl,by rw[Zl (by simp)];rfl⟩
 |p::l,o,xs,h=>by
  have h':lo+(o+1)+l.length<=(xs.setIfInBounds (lo+o) p).size:=by simp at h ⊢;lia
  obtain⟨i1,i2⟩:=qm1 lo k l (o+1) (xs.setIfInBounds (lo+o) p) h';have e:qe2 xs lo ((p::l).zipIdx o)=qe2 (xs.setIfInBounds (lo+o) p) lo (l.zipIdx (o+1)):=rfl;rw[e];refine⟨by rw[i1];simp,?_⟩;rw[i2];simp only[ZV] at h ⊢;by_cases c1:k=lo+o
  ·subst c1;rw[Zl (by lia),Zt (by lia),V8];rw[Vm];simp;lia
  ·by_cases c2:lo+o<=k/\k<lo+o+(l.length+1)
   ·rw[Zt (by lia),Zt c2];rw[show k-(lo+o)=(k-(lo+(o+1)))+1 by lia];simp
   ·rw[Zl (by lia),Zl c2,Vm,Zl (by lia)]
theorem qF9 {xs m:Array Keyed}{lo:Nat}(h:lo+m.size<=xs.size):(qe2 xs lo m.toList.zipIdx).toList=xs.toList.take lo++(m.toList++xs.toList.drop (lo+m.size)):=by
 apply We;intro k;have g:=(qm1 lo k m.toList 0 xs (by simpa using h)).2;rw[Yn,g];simp only[Vu,ZL];by_cases c1:k<lo
 ·rw[Zl (by lia),ZF (by simp;lia),List.getElem?_take_of_lt c1];simp
 ·have el:(xs.toList.take lo).length=lo:=by simp;lia
  rw[ZK (by lia),el];by_cases c2:k<lo+m.size
  ·rw[Zt (by lia),ZF (by simp;lia)]
  ·rw[Zl (by lia),ZK (by simp;lia),List.getElem?_drop];simp only[ZL];rw[show lo+m.size+(k-lo-m.size)=k by lia];simp
theorem qA5 {a:Array Keyed}{i j:Nat}:(a.extract i j).toList=(a.toList.drop i).take (j-i):=by
 rw[XI,List.extract_eq_drop_take]
theorem q53 {κ:KeyKind}{a:Array Keyed}{lo hi:Nat}(h:SrtK κ a lo hi) (hs:hi<=a.size):Asc κ (a.extract lo hi).toList:=by
 refine Xy.mpr λi j hi' hj jX=>?_;simp at hi' hj;have:=h (lo+i) (lo+j) (by lia) (by lia) (by lia);rw[qw3 (by lia),qw3 (by lia)] at this;simpa using this
theorem qs4 {κ:KeyKind}{a:Array Keyed}(h:KeysOf κ a) (lo hi:Nat):KeysOf κ (a.extract lo hi):=λp hp=>by
 rw[qA5] at hp;exact h p (List.mem_of_mem_drop (List.mem_of_mem_take hp))
section
variable {prog:Program}{w:World}{A:Around}{E:Value->Shared->Prop}{s:Shared}{κ:KeyKind}
theorem xo0 {Q:PUnit->SortSt->Prop}{st st':SortSt}(h:Q ⟨⟩ st'):wpS (model prog w) A E s (set st':StateT SortSt Sem PUnit) Q st:=by
 unfold wpS;rw[StateT.run_set];exact Zc ⟨rfl,h⟩
structure Mrg (κ:KeyKind) (st st':SortSt) (i sa na pw nb:Nat):Prop where
 perm:(arrOf st').Perm (arrOf st)
 kind:kindOf st'=kindOf st
 fail:failedOf st'=failedOf st
 out:∀k:Nat,k<sa\/sa+na+nb<=k->(arrOf st')[k]?=(arrOf st)[k]?
 srt:SrtK κ (arrOf st') sa (sa+na+nb)
 pend:pendingOf st'=((pendingOf st).setIfInBounds i (sa,na+nb,pw)).eraseIdxIfInBounds (i+1)
theorem q54 {a m:Array Keyed}{sa na nb k d:Nat}(s1:SrtK κ a sa (sa+na)) (s2:SrtK κ a (sa+na) (sa+na+nb)) (hsz:sa+na+nb<=a.size) (hk:k<na) (hd:d<=nb) (pnb:0<nb)
  (g1:∀i,i<na->i<k->κ.kle (KK κ a (sa+i)) (KK κ a (sa+na))) (g2:∀i,i<nb->d<=i->κ.kle (KK κ a (sa+na-1)) (KK κ a (sa+na+i)))
  (r:Rd κ (a.extract (sa+k) (sa+na)) (a.extract (sa+na) (sa+na+d)) m) :
  (qe2 a (sa+k) m.toList.zipIdx).Perm a/\(∀j:Nat,j<sa\/sa+na+nb<=j->(qe2 a (sa+k) m.toList.zipIdx)[j]?=a[j]?)/\SrtK κ (qe2 a (sa+k) m.toList.zipIdx) sa (sa+na+nb):=by
 have hm:m.size=na-k+d:=by
  have:=r.1.length_eq;simp at this;lia
 have cat:(a.extract (sa+k) (sa+na)).toList++(a.extract (sa+na) (sa+na+d)).toList=(a.toList.drop (sa+k)).take (na-k+d):=by
  rw[qA5,qA5,show sa+na-(sa+k)=na-k by lia,show sa+na+d-(sa+na)=d by lia,List.take_add,Ug,show sa+k+(na-k)=sa+na by lia]
 have get:=λj=>(qm1 (sa+k) j m.toList 0 a (by simp;lia)).2;simp only[Vu,ZL] at get;have p:(qe2 a (sa+k) m.toList.zipIdx).Perm a:=by
  refine Wl.mpr ?_;rw[qF9 (by lia)];have e:a.toList=a.toList.take (sa+k)++((a.toList.drop (sa+k)).take (na-k+d)++a.toList.drop (sa+k+m.size)):=by
   rw[hm,<- Ug (i:=na-k+d) (j:=sa+k),Y3,Y3]
  conv=>rhs;rw[e]
  refine W3 _ (List.Perm.append_right _ ?_);rw[<- cat];exact r.1
 refine⟨p,λj hj=>?_,?_⟩
 ·rw[get j,Zl (by lia)]
 ·have low:∀j,j<sa+k\/sa+na+d<=j->KK κ (qe2 a (sa+k) m.toList.zipIdx) j=KK κ a j:=λj hj=>KK_congr (by rw[get j,Zl (by lia)]);have mid:∀j,sa+k<=j->(hj:j<sa+na+d)->KK κ (qe2 a (sa+k) m.toList.zipIdx) j=kv κ (m[j-(sa+k)]'(by lia)):=λj h1 h2=>by
   unfold KK kv;rw[get j,Zt (by lia),Yn,ZN m _ (by lia)]
  have src:∀j,sa+k<=j->j<sa+na+d->∃i,sa+k<=i/\i<sa+na+d/\KK κ (qe2 a (sa+k) m.toList.zipIdx) j=KK κ a i:=λj h1 h2=>by
   rw[mid j h1 h2];have me:m[j-(sa+k)]'(by lia)∈(a.toList.drop (sa+k)).take (na-k+d):=by
    rw[<- cat];exact r.1.mem_iff.mp (by simp)
   obtain⟨i,hi,e⟩:=XU me;simp at hi;refine⟨sa+k+i,by lia,by lia,?_⟩;rw[qw3 (by lia),<- e];simp
  have last:∀i,sa<=i->i<sa+na->κ.kle (KK κ a i) (KK κ a (sa+na-1)):=λi h1 h2=>s1 i (sa+na-1) h1 (by lia) (by lia);intro i j h1 h2 h3;by_cases ci:i<sa+k
  ·rw[low i (.inl ci)];have gi:κ.kle (KK κ a i) (KK κ a (sa+na)):=by
    have:=g1 (i-sa) (by lia) (by lia)
    rwa [show sa+(i-sa)=i by lia] at this
   by_cases cj:j<sa+k\/sa+na+d<=j
   ·rw[low j cj];by_cases c:j<sa+na
    ·exact s1 i j h1 h2 c
    ·exact ZR gi (s2 (sa+na) j (Ze _) (by lia) (by lia))
   ·obtain⟨q,q1,q2,q3⟩:=src j (by lia) (by lia);rw[q3];by_cases c:q<sa+na
    ·exact s1 i q h1 (by lia) c
    ·exact ZR gi (s2 (sa+na) q (Ze _) (by lia) (by lia))
  ·by_cases ci2:i<sa+na+d
   ·by_cases cj:j<sa+na+d
    ·rw[mid i (by lia) ci2,mid j (by lia) cj];exact qh9 r.2 (by lia) (by lia)
    ·obtain⟨q,q1,q2,q3⟩:=src i (by lia) ci2;rw[q3,low j (.inr (by lia))];by_cases c:q<sa+na
     ·have:=g2 (j-(sa+na)) (by lia) (by lia);rw[show sa+na+(j-(sa+na))=j by lia] at this;exact ZR (last q (by lia) c) this
     ·exact s2 q j (by lia) (by lia) (by lia)
   ·rw[low i (.inr (by lia)),low j (.inr (by lia))];exact s2 i j (by lia) h2 h3
theorem qK2 {kd:SortKind}(hO:KLt prog w A s κ kd){st:SortSt}{i sa na pw nb pw2:Nat}{Q:Bool->SortSt->Prop}(hk:kindOf st=kd) (h0:KeysOf κ (arrOf st)) (hf:failedOf st=none)
  (p1:(pendingOf st)[i]?=some (sa,na,pw)) (p2:(pendingOf st)[i+1]?=some (sa+na,nb,pw2)) (pna:0<na) (pnb:0<nb) (hsz:sa+na+nb<=(arrOf st).size)
  (s1:SrtK κ (arrOf st) sa (sa+na)) (s2:SrtK κ (arrOf st) (sa+na) (sa+na+nb)) (h:∀st',Mrg κ st st' i sa na pw nb->Q true st'):wpS (model prog w) A E s (mergeAt' i) Q st:=by
 refine Zm (Vc ?_);dsimp only;rw[p1,p2];refine Zm (xo0 ?_);refine Zm (qb5 (ZN (arrOf st) (sa+na) (by lia)) ?_);obtain⟨k,k1,k2,k3⟩:=qS5 h0 s1 (KK κ (arrOf st) (sa+na)) (by lia);refine Zm (qf4 (st:=SortSt.mk' (kindOf st) (arrOf st) (((pendingOf st).setIfInBounds i (sa,na+nb,pw)).eraseIdxIfInBounds (i+1)) (gallopOf st) (failedOf st)) hO hk (qo4 h0 (by lia)) (by rw[qw3 (by lia)] at k2;exact k2) pna k1 ?_);dsimp only;by_cases c1:na-k=0
 ·rw[Zt (by simp only[X1];exact c1)];refine Zy (h _ ⟨.refl _,rfl,rfl,λ_ _=>rfl,λx y d1 d2 d3=>?_,rfl⟩);show κ.kle (KK κ (arrOf st) x) (KK κ (arrOf st) y);by_cases cx:x<sa+na
  ·by_cases cy:y<sa+na
   ·exact s1 x y d1 d2 cy
   ·have:=(k3 (x-sa) (by lia)).1 (by lia);rw[show sa+(x-sa)=x by lia] at this;exact ZR this (s2 (sa+na) y (Ze _) (by lia) d3)
  ·exact s2 x y (by lia) d2 d3
 ·rw[Zl (by simp only[X1];exact c1)];rw[show sa+k+(na-k)-1=sa+na-1 by lia];refine Zm (qb5 (ZN (arrOf st) (sa+na-1) (by lia)) ?_);obtain⟨d,d1,d2,d3⟩:=q52 h0 s2 (KK κ (arrOf st) (sa+na-1)) (by lia);refine Zm (qf4 (st:=SortSt.mk' (kindOf st) (arrOf st) (((pendingOf st).setIfInBounds i (sa,na+nb,pw)).eraseIdxIfInBounds (i+1)) (gallopOf st) (failedOf st)) hO hk (qo4 h0 (by lia)) (by rw[qw3 (by lia)] at d2;exact d2) (by lia) d1 ?_);dsimp only;have lk:κ.klt (KK κ (arrOf st) (sa+na)) (KK κ (arrOf st) (sa+k)):=(k3 k (by lia)).2 (Ze _);have ld:d≠0:=λz=>by
   have:=(d3 0 pnb).2 (by lia);exact absurd (Wx lk (s1 (sa+k) (sa+na-1) (by lia) (by lia) (by lia))) (W4 this)
  rw[Zl (by simp only[X1];exact ld)];have sx:((arrOf st).extract (sa+k) (sa+na)).size=na-k:=by simp;lia
  have sy:((arrOf st).extract (sa+na) (sa+na+d)).size=d:=by simp;lia
  have px:0<((arrOf st).extract (sa+k) (sa+na)).size:=by lia
  have py:0<((arrOf st).extract (sa+na) (sa+na+d)).size:=by lia
  have gx:∀j,(hj:j<((arrOf st).extract (sa+k) (sa+na)).size)->kv κ ((arrOf st).extract (sa+k) (sa+na))[j]=KK κ (arrOf st) (sa+k+j):=λj hj=>by rw[qw3 (by lia)];simp
  have gy:∀j,(hj:j<((arrOf st).extract (sa+na) (sa+na+d)).size)->kv κ ((arrOf st).extract (sa+na) (sa+na+d))[j]=KK κ (arrOf st) (sa+na+j):=λj hj=>by rw[qw3 (by lia)];simp
  have q1:κ.klt (kv κ (((arrOf st).extract (sa+na) (sa+na+d))[0]'(by lia))) (kv κ (((arrOf st).extract (sa+k) (sa+na))[0]'(by lia))):=by
   rw[gx,gy];exact lk
  have q2:∀j,(hj:j<((arrOf st).extract (sa+na) (sa+na+d)).size)->κ.klt (kv κ ((arrOf st).extract (sa+na) (sa+na+d))[j]) (kv κ (((arrOf st).extract (sa+k) (sa+na))[((arrOf st).extract (sa+k) (sa+na)).size-1]'(by lia))):=λj hj=>by
   rw[gx,gy,show sa+k+(((arrOf st).extract (sa+k) (sa+na)).size-1)=sa+na-1 by lia];exact (d3 j (by lia)).1 (by lia)
  have fin:∀out g,Rd κ ((arrOf st).extract (sa+k) (sa+na)) ((arrOf st).extract (sa+na) (sa+na+d)) out->Q true (SortSt.mk' (kindOf st) (qe2 (arrOf st) (sa+k) out.toList.zipIdx) (((pendingOf st).setIfInBounds i (sa,na+nb,pw)).eraseIdxIfInBounds (i+1)) g (failedOf st)):=λout g r=>by
   obtain⟨r1,r2,r3⟩:=q54 s1 s2 hsz (by lia) d1 pnb (λj j1 j2=>(k3 j j1).1 j2) (λj j1 j2=>(d3 j j1).2 j2) r;exact h _ ⟨r1,rfl,rfl,r2,r3,rfl⟩
  have fn:∀out g,Rd κ ((arrOf st).extract (sa+k) (sa+na)) ((arrOf st).extract (sa+na) (sa+na+d)) out->Q (failedOf st).isNone (SortSt.mk' (kindOf st) (qe2 (arrOf st) (sa+k) out.toList.zipIdx) (((pendingOf st).setIfInBounds i (sa,na+nb,pw)).eraseIdxIfInBounds (i+1)) g (failedOf st)):=λout g r=>by
   have e:(failedOf st).isNone=true:=by rw[hf];rfl
   rw[e];exact fin out g r
  have ax:Asc κ ((arrOf st).extract (sa+k) (sa+na)).toList:=q53 (λx y e1 e2 e3=>s1 x y (by lia) e2 e3) (by lia);have ay:Asc κ ((arrOf st).extract (sa+na) (sa+na+d)).toList:=q53 (λx y e1 e2 e3=>s2 x y e1 e2 (by lia)) (by lia);by_cases yI:na-k<=d
  ·rw[Zt yI];refine Zm (qK0 (st:=SortSt.mk' (kindOf st) (arrOf st) (((pendingOf st).setIfInBounds i (sa,na+nb,pw)).eraseIdxIfInBounds (i+1)) (gallopOf st) (failedOf st)) hO hk (qs4 h0 _ _) (qs4 h0 _ _) ax ay px py q1 q2 λout g r=>?_);exact Zm (XQ (Zm (Vc (Zy (fn out g r)))))
  ·rw[Zl yI];refine Zm (qK1 (st:=SortSt.mk' (kindOf st) (arrOf st) (((pendingOf st).setIfInBounds i (sa,na+nb,pw)).eraseIdxIfInBounds (i+1)) (gallopOf st) (failedOf st)) hO hk (qs4 h0 _ _) (qs4 h0 _ _) ax ay px py q1 q2 λout g r=>?_);exact Zm (XQ (Zm (Vc (Zy (fn out g r)))))
end
def Runs (κ:KeyKind) (a:Array Keyed):List (Nat×Nat×Nat)->Nat->Nat->Prop
 |[],lo,hi=>lo=hi
 |r::rs,lo,hi=>r.1=lo/\0<r.2.1/\SrtK κ a lo (lo+r.2.1)/\Runs κ a rs (lo+r.2.1) hi
section
variable {κ:KeyKind}{a a':Array Keyed}
theorem Runs.app:∀{p q:List (Nat×Nat×Nat)}{lo hi:Nat},Runs κ a (p++q) lo hi<->∃m,Runs κ a p lo m/\Runs κ a q m hi
 |[],q,lo,hi=>⟨λh=>⟨lo,rfl,h⟩,λ⟨m,e,h⟩=>by cases e;exact h⟩
 |r::p,q,lo,hi=>⟨λ⟨h1,h2,h3,h4⟩=>by
   obtain⟨m,m1,m2⟩:=Runs.app.mp h4;exact⟨m,⟨h1,h2,h3,m1⟩,m2⟩,λ⟨m,⟨h1,h2,h3,m1⟩,m2⟩=>⟨h1,h2,h3,Runs.app.mpr ⟨m,m1,m2⟩⟩⟩
theorem Runs.le:∀{p:List (Nat×Nat×Nat)}{lo hi:Nat},Runs κ a p lo hi->lo+p.length<=hi
 |[],lo,hi,h=>by cases h;simp
 |r::p,lo,hi,⟨h1,h2,h3,h4⟩=>by
  have:=h4.le;simp only[ZV];lia
theorem SrtK.congr {lo hi:Nat}(h:SrtK κ a lo hi) (e:∀k:Nat,lo<=k->k<hi->a'[k]?=a[k]?):SrtK κ a' lo hi:=λi j h1 h2 h3=>by
 rw[KK_congr (e i h1 (by lia)),KK_congr (e j (by lia) h3)];exact h i j h1 h2 h3
theorem Runs.congr:∀{p:List (Nat×Nat×Nat)}{lo hi:Nat},Runs κ a p lo hi->(∀k:Nat,lo<=k->k<hi->a'[k]?=a[k]?)->Runs κ a' p lo hi
 |[],lo,hi,h,_=>h
 |r::p,lo,hi,⟨h1,h2,h3,h4⟩,e=>⟨h1,h2,h3.congr (λk k1 k2=>e k k1 (by have:=h4.le;lia)),h4.congr (λk k1 k2=>e k (by lia) k2)⟩
theorem Runs.mod {f:Nat×Nat×Nat->Nat×Nat×Nat}(hf:∀x,(f x).1=x.1/\(f x).2.1=x.2.1):∀{p:List (Nat×Nat×Nat)}{i lo hi:Nat},Runs κ a p lo hi->Runs κ a (p.modify i f) lo hi
 |[],i,lo,hi,h=>by cases i<;>exact h
 |r::p,0,lo,hi,⟨h1,h2,h3,h4⟩=>by
  show Runs κ a (f r::p) lo hi;refine⟨by rw[(hf r).1];exact h1,by rw[(hf r).2];exact h2,by rw[(hf r).2];exact h3,by rw[(hf r).2];exact h4⟩
 |r::p,i+1,lo,hi,⟨h1,h2,h3,h4⟩=>⟨h1,h2,h3,h4.mod hf⟩
theorem Runs.one {lo n w:Nat}(h:0<n) (hs:SrtK κ a lo (lo+n)):Runs κ a [(lo,n,w)] lo (lo+n):=⟨rfl,h,hs,rfl⟩
end
theorem xv7 {α:Type}{l:List α}{i:Nat}(h:i+1<l.length):∃pre x y post,l=pre++x::y::post/\pre.length=i:=by
 refine⟨l.take i,l[i],l[i+1],l.drop (i+2),?_,by simp;lia⟩;rw[<- Wr,<- Wr,Y3]
theorem xv8 {p:Array (Nat×Nat×Nat)}{pre post:List (Nat×Nat×Nat)}{x y v:Nat×Nat×Nat}{i:Nat}(h:p.toList=pre++x::y::post) (hi:pre.length=i):((p.setIfInBounds i v).eraseIdxIfInBounds (i+1)).toList=pre++v::post:=by
 have hl:p.size=i+(post.length+2):=by
  have:=Yh List.length h;simp at this;lia
 rw[Array.eraseIdxIfInBounds,dif_pos (by simp;lia),Array.toList_eraseIdx,Wi,h];subst hi;have e1:(pre++x::y::post).set pre.length v=pre++v::y::post:=by
  rw[List.set_append_right _ _ (Ze _)];simp
 rw[e1,List.eraseIdx_append_of_length_le (by lia)];simp
structure Stands (κ:KeyKind) (kd:SortKind) (a₀:Array Keyed) (st:SortSt) (lo:Nat):Prop where
 perm:(arrOf st).Perm a₀
 kind:kindOf st=kd
 fail:failedOf st=none
 runs:Runs κ (arrOf st) (pendingOf st).toList 0 lo
section
variable {prog:Program}{w:World}{A:Around}{E:Value->Shared->Prop}{s:Shared}{κ:KeyKind}
theorem Stands.merge {kd:SortKind}{a₀:Array Keyed}(hO:KLt prog w A s κ kd) (h0:KeysOf κ a₀){st:SortSt}{lo i:Nat}{Q:Bool->SortSt->Prop}(d:Stands κ kd a₀ st lo) (hlo:lo<=a₀.size) (hi:i+1<(pendingOf st).size)
  (h:∀st',Stands κ kd a₀ st' lo->(pendingOf st').size+1=(pendingOf st).size->(∀k:Nat,lo<=k->(arrOf st')[k]?=(arrOf st)[k]?)->Q true st'):wpS (model prog w) A E s (mergeAt' i) Q st:=by
 obtain⟨pre,⟨s1,n1,w1⟩,⟨s2,n2,w2⟩,post,e,hp⟩:=xv7 (l:=(pendingOf st).toList) (by simpa using hi);have r:=d.runs;rw[e] at r;obtain⟨m,r1,r2,r3,r4,r5,r6,r7,r8⟩:=Runs.app.mp r;simp only at r2 r3 r4 r5 r6 r7 r8;subst r2 r5;have l8:=r8.le;have l1:=r1.le;have sz:(arrOf st).size=a₀.size:=d.perm.size_eq;have p1:(pendingOf st)[i]?=some (s1,n1,w1):=by
  rw[<- Yn,e,ZK (by lia),hp,V8];rfl
 have p2:(pendingOf st)[i+1]?=some (s1+n1,n2,w2):=by
  rw[<- Yn,e,ZK (by lia),hp,Nat.add_sub_cancel_left];rfl
 refine qK2 hO d.kind (qh8 h0 d.perm) d.fail p1 p2 r3 r6 (by lia) r4 r7 λst' g=>h st' ⟨g.perm.trans d.perm,g.kind.trans d.kind,g.fail.trans d.fail,?_⟩ ?_ λk hk=>g.out k (.inr (by lia))
 ·rw[g.pend,xv8 e hp];refine Runs.app.mpr ⟨s1,r1.congr λk _ k2=>g.out k (.inl k2),rfl,by show 0<n1+n2;lia,?_,?_⟩
  ·have:=g.srt
   rwa [Nat.add_assoc] at this
  ·have:=r8.congr (a':=arrOf st') λk k1 _=>g.out k (.inr k1)
   rwa [Nat.add_assoc] at this
 ·have:=Yh List.length (xv8 (v:=(s1,n1+n2,w1)) e hp);rw[<- g.pend] at this;have e2:=Yh List.length e;simp at this e2;lia
theorem qA6 {kd:SortKind}{a₀:Array Keyed}(hO:KLt prog w A s κ kd) (h0:KeysOf κ a₀){st:SortSt}{Q:Unit->SortSt->Prop}(d:Stands κ kd a₀ st 0)
  (h:∀st',(arrOf st').Perm a₀->failedOf st'=none->SortedToK κ (arrOf st') a₀.size->Q () st'):wpS (model prog w) A E s sortRuns' Q st:=by
 rw[sortRuns'_eq];refine Zm (Vc ?_);dsimp only;have sz:(arrOf st).size=a₀.size:=d.perm.size_eq;simp only[sz];generalize minRun' a₀.size a₀.size 0=mr;refine Zm (Ww (Xc (I:=λx c st'=>∃lo,c=(none,lo)/\Stands κ kd a₀ st' lo/\x<=lo/\lo<=a₀.size)
  (Q:=λc st'=>c=(none,a₀.size)/\Stands κ kd a₀ st' a₀.size) ?step ?fin ⟨0,rfl,d,Ze _,Zx _⟩) ?post)
 case fin=>
  rintro c st' ⟨lo,rfl,d,h1,h2⟩;have:lo=a₀.size:=by lia
  subst this;exact⟨rfl,d⟩
 case post=>
  rintro c st' ⟨rfl,d⟩;dsimp only;refine Zm (Ww (Xc (I:=λx c st'=>c=(none,())/\Stands κ kd a₀ st' a₀.size/\(pendingOf st').size+x<=a₀.size)
   (Q:=λc st'=>c=(none,())/\Stands κ kd a₀ st' a₀.size/\(pendingOf st').size<=1) ?step2 ?fin2 ⟨rfl,d,?init2⟩) ?post2)
  case init2=>
   have:=d.runs.le;simp at this;lia
  case fin2=>
   rintro c st' ⟨rfl,d,h1⟩;exact⟨rfl,d,by lia⟩
  case post2=>
   rintro c st' ⟨rfl,d,h1⟩;refine Zy (h st' d.perm d.fail λi j jX hj=>?_);have r:=d.runs;cases e:(pendingOf st').toList with
   |nil=>
    rw[e] at r;have r':0=a₀.size:=r;lia
   |cons p ps=>
    rw[e] at r;obtain⟨r1,r2,r3,r4⟩:=r;have:ps=[]:=by
     have:=Yh List.length e;simp at this;exact WO.mp (by lia)
    subst this;have r4':0+p.2.1=a₀.size:=r4;rw[r4'] at r3;exact r3 i j (Zx _) jX hj
  case step2=>
   rintro x c st' _ hx ⟨rfl,d,h1⟩;refine Zm (Vc ?_);by_cases c1:(pendingOf st').size<=1
   ·rw[Zt c1];exact Zy ⟨rfl,d,c1⟩
   ·rw[Zl c1];refine Zm (d.merge hO h0 (Ze _) ?_ λst2 d2 e2 _=>?_)
    ·have key:∀c:Bool,(if c=true then (pendingOf st').size-2-1 else (pendingOf st').size-2)+1<(pendingOf st').size:=λc=>by cases c<;>simp<;>lia
     exact key _
    ·simp only[YQ,Zr,Z2];exact Zy ⟨rfl,d2,by lia⟩
 case step=>
  rintro x c st' _ hx ⟨lo,rfl,d,h1,h2⟩;dsimp only;by_cases c1:lo>=a₀.size
  ·rw[Zt c1];have:lo=a₀.size:=by lia
   subst this;exact Zy ⟨rfl,d⟩
  ·rw[Zl c1];have sz':(arrOf st').size=a₀.size:=d.perm.size_eq;have rest:∀(n:Nat) (st2:SortSt),1<=n->lo+n<=a₀.size->Mv st' st2 lo a₀.size->SrtK κ (arrOf st2) lo (lo+n)->Stands κ kd a₀ st2 lo:=λn st2 n1 n2 m2 _=>
    ⟨m2.perm.trans d.perm,m2.kind.trans d.kind,m2.fail.trans d.fail,by rw[m2.pend];exact d.runs.congr λk _ k2=>m2.out k (.inl k2)⟩
   have push:∀(n:Nat) (st2:SortSt),1<=n->Stands κ kd a₀ st2 lo->SrtK κ (arrOf st2) lo (lo+n)->Stands κ kd a₀ (setPending st2 ((pendingOf st2).push (lo,n,0))) (lo+n):=λn st2 n1 d2 s2=>
    ⟨d2.perm,d2.kind,d2.fail,by
     show Runs κ (arrOf st2) ((pendingOf st2).push (lo,n,0)).toList 0 (lo+n);rw[Xh];exact Runs.app.mpr ⟨lo,d2.runs,Runs.one (by lia) s2⟩⟩
   refine Zm (xc6 hO d.kind (qh8 h0 d.perm) (by lia) (by lia) λm st2 m1 m2 mv s2=>?_);have mv':Mv st' st2 lo a₀.size:=by rwa [show lo+(a₀.size-lo)=a₀.size by lia] at mv
   dsimp only;by_cases c2:m<mr
   case' neg=>
    rw[Zl c2];have s3:=s2;have d3:=rest _ st2 m1 (by lia) mv' s2;have n1:1<=m:=m1;have n2:lo+m<=a₀.size:=by lia
    clear s2;obtain⟨n,hn⟩:∃n,n=m:=⟨_,rfl⟩;simp only[<- hn] at s3 n1 n2 ⊢
   case' pos=>
    rw[Zt c2];refine Zm (V3 (Y6 ⟨rfl,?_⟩));have kP:lo+min (a₀.size-lo) mr<=(arrOf st2).size:=by rw[mv.size];lia
    refine Zm (xc4 hO (mv.kind.trans d.kind) (qh8 h0 (mv.perm.trans d.perm)) kP (by lia) s2 λst3 mv3 s3=>?_);simp only[YQ,Zr,Z2];have mv3':Mv st' st3 lo a₀.size:=mv'.trans ⟨mv3.perm,mv3.kind,mv3.fail,mv3.pend,λk hk=>mv3.out k (by lia)⟩;have d3:=rest _ st3 (show 1<=min (a₀.size-lo) mr by lia) (by lia) mv3' s3;obtain⟨n,hn⟩:∃n,n=min (a₀.size-lo) mr:=⟨_,rfl⟩;have n1:1<=n:=by lia
    have n2:lo+n<=a₀.size:=by lia
    simp only[<- hn] at s3 ⊢;clear hn kP mv3
   all_goals
    refine Zm (Vc ?_);split
    ·refine Zm (Ww (Xc (I:=λx c st4=>c=(none,())/\Stands κ kd a₀ st4 lo/\SrtK κ (arrOf st4) lo (lo+n)) (Q:=λc st4=>c=(none,())/\Stands κ kd a₀ st4 lo/\SrtK κ (arrOf st4) lo (lo+n)) ?_ ?_ ⟨rfl,d3,s3⟩) ?_)
     ·rintro y c st4 _ _ ⟨rfl,d4,s4⟩;refine Zm (Vc ?_);split
      ·rename_i e5;split
       ·exact Zy ⟨rfl,d4,s4⟩
       ·have hsz2:(pendingOf st4).size>1:=by
         by_cases z:(pendingOf st4).size>1
         ·exact z
         ·rw[Zl z] at e5;cases e5
        refine Zm (d4.merge hO h0 h2 (by lia) λst5 d5 _ o5=>?_);simp only[YQ,Zr,Z2];exact Zy ⟨rfl,d5,s4.congr λk k1 _=>o5 k k1⟩
      ·exact Zy ⟨rfl,d4,s4⟩
     ·rintro c st4 ⟨rfl,d4,s4⟩;exact⟨rfl,d4,s4⟩
     ·rintro c st4 ⟨rfl,d4,s4⟩;refine Zm (XQ (Zm (XQ (Zy ⟨_,rfl,push _ _ n1 ⟨d4.perm,d4.kind,d4.fail,?_⟩ s4,by lia,n2⟩))));show Runs κ (arrOf st4) (Array.modify _ _ _).toList 0 lo;rw[Array.toList_modify];refine Runs.mod ?_ d4.runs;exact λ_=>⟨rfl,rfl⟩
    ·exact Zm (XQ (Zy ⟨_,rfl,push _ _ n1 d3 s3,by lia,n2⟩))
end
inductive AtK:Bool->Value->List Int->Prop
 |int (i:Int) (t:Tok):AtK false (.int i t) [i]
 |str (x:Str) (t:Tok):AtK true (.str x t) (x.cps.toList.map Int.ofNat)
theorem AtK.uniq {k:Bool}{v:Value}{l m:List Int}(h:AtK k v l) (g:AtK k v m):l=m:=by
 cases h<;>cases g<;>rfl
theorem q55:∀{l m:List Nat},l.map Int.ofNat<m.map Int.ofNat<->l<m
 |[],[]=>by simp
 |[],_::_=>by simp
 |_::_,[]=>by simp
 |x::l,y::m=>by
  rw[ZE,ZE,ZU,ZU,q55];simp only[Int.ofNat_eq_natCast,Int.ofNat_lt,Int.ofNat_inj]
theorem q56:∀{l m:List Nat},l.map Int.ofNat=m.map Int.ofNat->l=m
 |[],[],_=>rfl
 |[],_::_,h=>by simp at h
 |_::_,[],h=>by simp at h
 |x::l,y::m,h=>by
  rw[ZE,ZE] at h;obtain⟨h1,h2⟩:=List.cons.inj h;rw[Int.ofNat.inj h1,q56 h2]
section
variable {prog:Program}{w:World}{A:Around}{E:Value->Shared->Prop}{s:Shared}{pat:Nat->Bool}
theorem xv9 {k:Bool}{x y:Value}{a b:List Int}{Q:Bool->Shared->Prop}(hx:AtK k x a) (hy:AtK k y b) (h:Q (decide (a=b)) s):wpAny (model prog w) A (eqBool x y) Q E s:=by
 cases hx with
 |int i t=>
  cases hy with
  |int j u=>
   refine wpAny_eqBool_int ?_;have e:decide ([i]=[j])=(i==j):=by simp;rfl
   rw[e] at h;exact h
 |str x t=>
  cases hy with
  |str y u=>
   refine PySem.wpAny_eqBool_str ?_;have e:decide (x.cps.toList.map Int.ofNat=y.cps.toList.map Int.ofNat)=decide (x=y):=by
    rw[YX];constructor
    ·intro z;have:=q56 z;cases x;cases y;simp at this ⊢;exact this
    ·rintro rfl;rfl
   rw[e] at h;exact h
theorem xc9 {k c:Bool}{x y:Value}{a b:List Int}{Q:Bool->Shared->Prop}(hx:AtK k x a) (hy:AtK k y b) (h:Q (decide (a<b)) s):wpAny (model prog w) A (oneLt' c x y) Q E s:=by
 cases hx with
 |int i t=>
  cases hy with
  |int j u=>
   have e:decide ([i]<[j])=decide (i<j):=by rw[YX,ZU];simp
   rw[e] at h;cases c with
   |true=>exact oneLt_int h
   |false=>
    rw[oneLt'_eq];simp only[Zr,Z2,Vw];exact Za (wpAny_lt_int (Ym h))
 |str x t=>
  cases hy with
  |str y u=>
   have e:decide (x.cps.toList.map Int.ofNat<y.cps.toList.map Int.ofNat)=decide (x.cps.toList<y.cps.toList):=by rw[YX];exact q55
   rw[e] at h;cases c with
   |true=>exact oneLt_str h
   |false=>
    rw[oneLt'_eq];simp only[Zr,Z2,Vw];exact Za (PySem.P.lt_str (Ym h))
end
theorem q57:∀{l m:List (List Int)}(a b:List (List Int)),l.length=m.length->(l++a<m++b<->l<m\/(l=m/\a<b))
 |[],[],a,b,_=>by simp
 |[],_::_,_,_,h=>by simp at h
 |_::_,[],_,_,h=>by simp at h
 |x::l,y::m,a,b,h=>by
  rw[List.cons_append,List.cons_append,ZU,ZU,q57 a b (by simpa using h)];constructor
  ·rintro (z|⟨z,u|⟨u,v⟩⟩)
   ·exact .inl (.inl z)
   ·exact .inl (.inr ⟨z,u⟩)
   ·exact .inr ⟨by rw[z,u],v⟩
  ·rintro ((z|⟨z,u⟩)|⟨z,v⟩)
   ·exact .inl z
   ·exact .inr ⟨z,.inl u⟩
   ·obtain⟨z1,z2⟩:=List.cons.inj z;exact .inr ⟨z1,.inr ⟨z2,v⟩⟩
structure OKind (prog:Program) (w:World) where
 is:Heap->Value->List (List Int)->Prop
 lvl:Nat
 keep:∀{h h':Heap}{v:Value}{l:List (List Int)},(∀b o,h.get? b=some o->o.cls=.type "tuple" -> h'.get? b=some o)->is h v l->is h' v l
 len:∀{h h':Heap}{u v:Value}{l m:List (List Int)},is h u l->is h' v m->l.length=m.length
 uniq:∀{h:Heap}{v:Value}{l m:List (List Int)},is h v l->is h v m->l=m
 eqB:∀{A:Around}{E:Value->Shared->Prop}{s:Shared}{u v:Value}{l m:List (List Int)}{Q:Bool->Shared->Prop},A.units+lvl<cLine->is s.heap u l->is s.heap v m->Q (decide (l=m)) s->wpAny (model prog w) A (eqBool u v) Q E s
 lt:∀{A:Around}{E:Value->Shared->Prop}{s:Shared}{u v:Value}{l m:List (List Int)}{Q:Value->Shared->Prop},A.units+lvl<cLine->is s.heap u l->is s.heap v m->Q (.bool (decide (l<m))) s->wpAny (model prog w) A (richCompare .Lt u v) Q E s
section
variable {prog:Program}{w:World}
theorem dec1 (a b:List Int):decide ([a]=[b])=decide (a=b):=by simp
theorem dec2 (a b:List Int):decide ([a]<[b])=decide (a<b):=by rw[YX,ZU];simp
def atO (k:Bool):OKind prog w where
 is _ v l:=∃x,l=[x]/\AtK k v x
 lvl:=0
 keep:=λ_ h=>h
 len:=λ⟨_,e,_⟩ ⟨_,e',_⟩=>by rw[e,e'];rfl
 uniq:=λ⟨_,e,h⟩ ⟨_,e',h'⟩=>by rw[e,e',h.uniq h']
 eqB:=λ_ ⟨_,e,h⟩ ⟨_,e',h'⟩ q=>by
  subst e e';rw[dec1] at q;exact xv9 h h' q
 lt:=λ_ ⟨_,e,h⟩ ⟨_,e',h'⟩ q=>by
  subst e e';rw[dec2] at q;cases h with
  |int i t=>
   cases h' with
   |int j u=>
    have e:decide ([i]<[j])=decide (i<j):=by rw[YX,ZU];simp
    rw[e] at q;exact wpAny_lt_int q
  |str x t=>
   cases h' with
   |str y u=>
    have e:decide (x.cps.toList.map Int.ofNat<y.cps.toList.map Int.ofNat)=decide (x.cps.toList<y.cps.toList):=by rw[YX];exact q55
    rw[e] at q;exact PySem.P.lt_str q
inductive ItO (h:Heap):List (OKind prog w)->List Value->List (List Int)->Prop
 |nil:ItO h [] [] []
 |cons {k:OKind prog w}{v:Value}{l:List (List Int)}{ks:List (OKind prog w)}{vs:List Value}{ls:List (List Int)}(x:k.is h v l) (r:ItO h ks vs ls):ItO h (k::ks) (v::vs) (l++ls)
theorem ItO.keep {h h':Heap}(kp:∀b o,h.get? b=some o->o.cls=.type "tuple" -> h'.get? b=some o):∀{ks:List (OKind prog w)}{vs:List Value}{l:List (List Int)},ItO h ks vs l->ItO h' ks vs l
 |_,_,_,.nil=>.nil
 |k::_,_,_,.cons x r=>.cons (k.keep kp x) (r.keep kp)
theorem ItO.len {h h':Heap}:∀{ks:List (OKind prog w)}{us vs:List Value}{l m:List (List Int)},ItO h ks us l->ItO h' ks vs m->l.length=m.length
 |_,_,_,_,_,.nil,.nil=>rfl
 |k::_,_,_,_,_,.cons x r,.cons x' r'=>by rw[ZC,ZC,k.len x x',r.len r']
theorem ItO.uniq {h:Heap}:∀{ks:List (OKind prog w)}{vs:List Value}{l m:List (List Int)},ItO h ks vs l->ItO h ks vs m->l=m
 |_,_,_,_,.nil,.nil=>rfl
 |k::_,_,_,_,.cons x r,.cons x' r'=>by rw[k.uniq x x',r.uniq r']
theorem ItO.size {h:Heap}:∀{ks:List (OKind prog w)}{vs:List Value}{l:List (List Int)},ItO h ks vs l->vs.length=ks.length
 |_,_,_,.nil=>rfl
 |_::_,_,_,.cons _ r=>by rw[ZV,ZV,r.size]
def IsTO (ks:List (OKind prog w)) (h:Heap) (v:Value) (l:List (List Int)):Prop:=∃a o xs n,v=.ref a/\h.get? a=some o/\o.cls=.type "tuple" /\ o.data=.seq xs n/\ItO h ks xs.toList l
variable {A:Around}{E:Value->Shared->Prop}{s:Shared}
theorem IsTO.keep {ks:List (OKind prog w)}{h h':Heap}{v:Value}{l:List (List Int)}(kp:∀b o,h.get? b=some o->o.cls=.type "tuple" -> h'.get? b=some o) (x:IsTO ks h v l):IsTO ks h' v l:=by
 obtain⟨a,o,xs,n,rfl,e1,e2,e3,e4⟩:=x;exact⟨a,o,xs,n,rfl,kp _ _ e1 e2,e2,e3,e4.keep kp⟩
theorem IsTO.uniq {ks:List (OKind prog w)}{h:Heap}{v:Value}{l m:List (List Int)}(x:IsTO ks h v l) (y:IsTO ks h v m):l=m:=by
 obtain⟨a,o,xs,n,rfl,e1,e2,e3,e4⟩:=x;obtain⟨a',o',xs',n',e5,f1,f2,f3,f4⟩:=y;cases e5;rw[e1] at f1;cases f1;rw[e3] at f3;cases f3;exact e4.uniq f4
theorem xd0 {ks:List (OKind prog w)}{L:Nat}(hL:∀k∈ks,k.lvl<=L) (hu:A.units+L<cLine){l m:List (List Int)}{a b:Addr}{P:Fin->Shared->Prop}(hx:IsTO ks s.heap (.ref a) l) (hy:IsTO ks s.heap (.ref b) m) (h:P (.done (.ret (.bool (decide (l=m))))) s) :
  wpAny (model prog w) A (Builtin.«tuple.__eq__» ⟨[.ref a,.ref b],[]⟩) P E s:=by
 obtain⟨a',oa,xs,na,ea,kX,_,kK,wI⟩:=hx;obtain⟨b',ob,ys,nb,eb,hob,hcb,kJ,wH⟩:=hy;cases ea;cases eb;have hTb:s.TypeIs (.ref b) "tuple":=⟨ob,hob,hcb⟩;have hsz:xs.size=ys.size:=by have:=wI.size;have:=wH.size;simp at *;lia
 show wpAny _ _ (isInstance (.ref b) (.type "tuple") >>= _) _ _ s;refine Za (XX hTb isSubtype_tuple_tuple ?_);simp only[YQ,Zr,Z2];refine Za (WK kX kK ?_);refine Za (WK hob kJ ?_);refine Za ?_;refine Wo _
  (λrest r s'=>r.1=none/\s'=s/\∃(ks':List (OKind prog w)) (xs' ys':List Value) (l' m':List (List Int)),rest=List.zip xs' ys'/\(∀k∈ks',k.lvl<=L)/\ItO s.heap ks' xs' l'/\ItO s.heap ks' ys' m'/\decide (l'=m')=decide (l=m))
  _ ?_ ?_ _ _ ⟨rfl,rfl,ks,xs.toList,ys.toList,l,m,rfl,hL,wI,wH,rfl⟩
 ·rintro⟨u,v⟩ rest r s' ⟨hr,rfl,ks',xs',ys',l',m',hz,hl',hx',hy',k9⟩;cases hx' with
  |nil=>simp at hz
  |@cons k u' x ks'' xs'' ls x1 r1=>
   cases hy' with
   |@cons _ v' y _ ys'' ms x2 r2=>
    simp only[WL,Y1,VW] at hz;obtain⟨⟨rfl,rfl⟩,rfl⟩:=hz;have j9:=k.len x1 x2;refine Za (k.eqB (by have:=hl' k (by simp);lia) x1 x2 ?_);by_cases hk:x=y
    ·subst hk;rw[Zv rfl];simp only[YQ,Zr,Z2];refine Zc ⟨rfl,rfl,ks'',xs'',ys'',ls,ms,rfl,λq hq=>hl' q (by simp[hq]),r1,r2,?_⟩;rw[<- k9,YX,List.append_cancel_left_eq]
    ·rw[Zu hk];simp only[WQ,XF];have hf:decide (l=m)=false:=by rw[<- k9];exact Zu λz=>hk (List.append_inj_left z j9)
     rw[hf] at h;exact Za (Zc (Zc (Zc h)))
 ·rintro⟨r1,r2⟩ s' ⟨hr,rfl,ks',xs',ys',l',m',hz,hl',hx',hy',k9⟩;simp only at hr;subst hr;refine Zc ?_;have hfin:(xs.size==ys.size)=decide (l=m):=by
   rw[<- k9];cases hx' with
   |nil=>cases hy';simp[hsz]
   |cons _ _=>cases hy' with|cons _ _=>simp at hz
  show P (.done (.ret (.bool (xs.size==ys.size)))) s';rw[hfin];exact h
theorem xd1 {ks:List (OKind prog w)}{L:Nat}(hL:∀k∈ks,k.lvl<=L) (hu:A.units+L<cLine){l m:List (List Int)}{a b:Addr}{P:Fin->Shared->Prop}(hx:IsTO ks s.heap (.ref a) l) (hy:IsTO ks s.heap (.ref b) m) (h:P (.done (.ret (.bool (decide (l<m))))) s) :
  wpAny (model prog w) A (Builtin.«tuple.__lt__» ⟨[.ref a,.ref b],[]⟩) P E s:=by
 obtain⟨a',oa,xs,na,ea,kX,_,kK,wI⟩:=hx;obtain⟨b',ob,ys,nb,eb,hob,hcb,kJ,wH⟩:=hy;cases ea;cases eb;have hTb:s.TypeIs (.ref b) "tuple":=⟨ob,hob,hcb⟩;have hsz:xs.size=ys.size:=by have:=wI.size;have:=wH.size;simp at *;lia
 show wpAny _ _ (isInstance (.ref b) (.type "tuple") >>= _) _ _ s;refine Za (XX hTb isSubtype_tuple_tuple ?_);simp only[YQ,Zr,Z2];refine Za (WK kX kK ?_);refine Za (WK hob kJ ?_);refine Za ?_;refine Wo _
  (λrest r s'=>r.1=none/\s'=s/\∃(ks':List (OKind prog w)) (xs' ys':List Value) (l' m':List (List Int)),rest=List.zip xs' ys'/\(∀k∈ks',k.lvl<=L)/\ItO s.heap ks' xs' l'/\ItO s.heap ks' ys' m'/\decide (l'<m')=decide (l<m))
  _ ?_ ?_ _ _ ⟨rfl,rfl,ks,xs.toList,ys.toList,l,m,rfl,hL,wI,wH,rfl⟩
 ·rintro⟨u,v⟩ rest r s' ⟨hr,rfl,ks',xs',ys',l',m',hz,hl',hx',hy',k9⟩;cases hx' with
  |nil=>simp at hz
  |@cons k u' x ks'' xs'' ls x1 r1=>
   cases hy' with
   |@cons _ v' y _ ys'' ms x2 r2=>
    simp only[WL,Y1,VW] at hz;obtain⟨⟨rfl,rfl⟩,rfl⟩:=hz;have j9:=k.len x1 x2;refine Za (k.eqB (by have:=hl' k (by simp);lia) x1 x2 ?_);by_cases hk:x=y
    ·subst hk;rw[Zv rfl];simp only[YQ,Zr,Z2];refine Zc ⟨rfl,rfl,ks'',xs'',ys'',ls,ms,rfl,λq hq=>hl' q (by simp[hq]),r1,r2,?_⟩;rw[<- k9,YX,q57 _ _ rfl];simp[Xe]
    ·rw[Zu hk];simp only[WQ,XF];have hf:decide (x<y)=decide (l<m):=by rw[<- k9,YX,q57 _ _ j9];simp[hk]
     rw[<- hf] at h;refine Za (Y6 (Za (k.lt (by have:=hl' k (by simp);lia) x1 x2 ?_)));exact Za (Zc (Zc (Zc h)))
 ·rintro⟨r1,r2⟩ s' ⟨hr,rfl,ks',xs',ys',l',m',hz,hl',hx',hy',k9⟩;simp only at hr;subst hr;refine Zc ?_;have hfin:decide (xs.size<ys.size)=decide (l<m):=by
   rw[<- k9];cases hx' with
   |nil=>cases hy';simp[hsz]
   |cons _ _=>cases hy' with|cons _ _=>simp at hz
  show P (.done (.ret (.bool (decide (xs.size<ys.size))))) s';rw[hfin];exact h
theorem IsTO.typeIs {ks:List (OKind prog w)}{l:List (List Int)}{a:Addr}(x:IsTO ks s.heap (.ref a) l):s.TypeIs (.ref a) "tuple":=by
 obtain⟨a',o,_,_,e,ho,hc,_⟩:=x;cases e;exact⟨o,ho,hc⟩
def tpO (ks:List (OKind prog w)) (L:Nat) (hL:∀k∈ks,k.lvl<=L):OKind prog w where
 is:=IsTO ks
 lvl:=L+1
 keep:=λkp x=>x.keep kp
 len:=λ⟨_,_,_,_,_,_,_,_,e⟩ ⟨_,_,_,_,_,_,_,_,e'⟩=>e.len e'
 uniq:=IsTO.uniq
 eqB:=λ{A E s u v l m Q} hu hx hy h=>by
  obtain⟨a,rfl⟩:∃a,u=.ref a:=let ⟨a,_,_,_,e,_⟩:=hx;⟨a,e⟩;obtain⟨b,rfl⟩:∃a,v=.ref a:=let ⟨a,_,_,_,e,_⟩:=hy;⟨a,e⟩;unfold eqBool
  try with_reducible refine ZX ?_
  show wpAny _ _ (if (Value.ref a==Value.ref b)=true then _ else _) Q E s;by_cases jS:(Value.ref a==Value.ref b)=true
  ·rw[Zt jS];have e:a=b:=by have:=eq_of_beq jS;injection this
   subst e;obtain rfl:=hx.uniq hy;exact Za (Y6 (Zc (by simpa using h)))
  ·rw[Zl jS];exact Za (wpAny_richCompare_same_room (op:=.Eq) hx.typeIs hy.typeIs F.slot_tuple_eq
    (Z5 F.slot_tuple_eq hx.typeIs F.entry_tuple_eq (xd0 hL (by show A.units+1+L<cLine;lia) hx hy ⟨_,rfl,(λe=>nomatch e),Ym h⟩) (F.args_tuple_eq_2 _ _)) (by lia))
 lt:=λ{A E s u v l m Q} hu hx hy h=>by
  obtain⟨a,rfl⟩:∃a,u=.ref a:=let ⟨a,_,_,_,e,_⟩:=hx;⟨a,e⟩;obtain⟨b,rfl⟩:∃a,v=.ref a:=let ⟨a,_,_,_,e,_⟩:=hy;⟨a,e⟩;exact wpAny_richCompare_same_room (op:=.Lt) hx.typeIs hy.typeIs F.slot_tuple_lt
   (Z5 F.slot_tuple_lt hx.typeIs F.entry_tuple_lt (xd1 hL (by show A.units+1+L<cLine;lia) hx hy ⟨_,rfl,(λe=>nomatch e),h⟩) (F.args_tuple_lt_2 _ _)) (by lia)
end
open Classical in
noncomputable def qA7 {prog:Program}{w:World}(κ:OKind prog w) (h:Heap):KeyKind where
 α:=List (List Int)
 blt a b:=decide (a<b)
 irrefl a:=by simpa using Xe a
 trans a b c h1 h2:=by simp only[WS] at *;exact VX h1 h2
 negTrans a b c h:=by
  simp only[WS] at *;by_cases jS:a<b
  ·exact .inl jS
  ·exact .inr (List.lt_of_le_of_lt (XJ.mp jS) h)
 total a b h1 h2:=by simp only[decide_eq_false_iff_not] at *;exact Va (XJ.mp h2) (XJ.mp h1)
 keyOf v:=if e:∃l,κ.is h v l then some e.choose else none
 dflt:=[]
section
variable {prog:Program}{w:World}{κ:OKind prog w}
open Classical in
theorem xo1 {h:Heap}{v:Value}{l:List (List Int)}(x:κ.is h v l):(qA7 κ h).keyOf v=some l:=by
 have e:∃l,κ.is h v l:=⟨l,x⟩;show (if e:∃l,κ.is h v l then some e.choose else none)=some l;rw[dif_pos e,κ.uniq e.choose_spec x]
open Classical in
theorem xw0 {h:Heap}{v:Value}{l:List (List Int)}(x:(qA7 κ h).keyOf v=some l):κ.is h v l:=by
 by_cases e:∃l,κ.is h v l
 ·have:=xo1 e.choose_spec;rw[this] at x;cases x;exact e.choose_spec
 ·have:(qA7 κ h).keyOf v=none:=by
   show (if e:∃l,κ.is h v l then some e.choose else none)=none;rw[dif_neg e]
  rw[this] at x;cases x
structure SKd (κ:OKind prog w) (kd:SortKind):Prop where
 kind:∀{A:Around}{E:Value->Shared->Prop}{s:Shared}{vs:List Value}{Q:SortKind->Shared->Prop},vs≠[]->(∀v∈vs,∃l,κ.is s.heap v l)->Q kd s->wpAny (model prog w) A (keyKind' vs.toArray) Q E s
 klt:∀{A:Around}{s:Shared},A.units+κ.lvl<cLine->KLt prog w A s (qA7 κ s.heap) kd
def tyA (k:Bool):Value:=if k then .type "str" else .type "int"
theorem xo2 {k:Bool}{u:Value}{l:List Int}(h:AtK k u l):typeOf u=pure (tyA k):=by cases h<;>rfl
theorem qG0 {k:Bool}:∀{us:List Value},(∀u∈us,∃l,AtK k u l)->us.mapM typeOf=pure (us.map λ_=>tyA k)
 |[],_=>by simp
 |u::us,h=>by
  rw[List.mapM_cons,qG0 (us:=us) λq hq=>h q (by simp[hq])];obtain⟨l,hl⟩:=h u (by simp);rw[xo2 hl];simp
theorem xd2 {k:Bool}{us:List Value}(h0:us≠[]) (h:∀u∈us,∃l,AtK k u l):oneTypeOnly' us.toArray=pure (some (tyA k)):=by
 rw[oneTypeOnly'_eq,List.mapM_toArray,qG0 h];simp only[map_pure,Vw];cases us with
 |nil=>exact absurd rfl h0
 |cons u us=>
  have e0:((u::us).map λ_=>tyA k).toArray[0]?=some (tyA k):=by simp
  have e1:(((u::us).map λ_=>tyA k).toArray.all λx=>x==tyA k)=true:=by
   simp only[List.all_toArray,List.all_map,YK];intro _ _;show (tyA k==tyA k)=true;cases k<;>rfl
  rw[e0];simp only[e1,XF]
theorem xd3 {k:Bool}{u:Value}{l:List Int}(h:AtK k u l):firstOfTuple' u=pure none:=by cases h<;>rfl
theorem qG1 {k:Bool}:∀{us:List Value},(∀u∈us,∃l,AtK k u l)->us.mapM firstOfTuple'=pure (us.map λ_=>none)
 |[],_=>by simp
 |u::us,h=>by
  rw[List.mapM_cons,qG1 (us:=us) λq hq=>h q (by simp[hq])];obtain⟨l,hl⟩:=h u (by simp);rw[xd3 hl];simp
theorem xB8 (k:Bool):SKd (prog:=prog) (w:=w) (atO k) oneType' where
 kind:=λ{A E s vs Q} h0 hv h=>by
  have hv':∀u∈vs,∃l,AtK k u l:=λu hu=>let ⟨_,x,_,e⟩:=hv u hu;⟨x,e⟩;have e:keyKind' vs.toArray=pure oneType':=by
   rw[keyKind'_eq,List.mapM_toArray,qG1 hv'];simp only[map_pure,Vw];cases vs with
   |nil=>exact absurd rfl h0
   |cons v vs=>
    rw[Zl (by simp),Zl (by simp),xd2 h0 hv'];simp
  rw[e];exact Zc h
 klt:=λ{A s} _ E x y a b Q ha hb hq=>by
  obtain⟨x1,rfl,hx⟩:=xw0 ha;obtain⟨y1,rfl,hy⟩:=xw0 hb;have hq':Q (decide ([x1]<[y1])) s:=hq;rw[dec2] at hq';exact xc9 (c:=true) hx hy hq'
def AscO (κ:OKind prog w) (h:Heap) (vs:List Value):Prop:=vs.Pairwise λu v=>∀l m,κ.is h u l->κ.is h v m->¬m<l
theorem xB9 {vs:List Value}{h:Heap}{xs:Array Keyed}(hv:∀v∈vs,∃l,κ.is h v l) (hp:xs.Perm (pairsOf vs)) (hs:SortedToK (qA7 κ h) xs (pairsOf vs).size) :
  (xs.map (·.2)).toList.Perm vs/\AscO κ h (xs.map (·.2)).toList:=by
 have hl:xs.toList.Perm (vs.zip vs):=by rw[<- pairsOf_toList];exact Wl.mp hp
 have mem:∀p,p∈xs.toList->p.1=p.2/\p.1∈vs:=λp q=>mem_zip_self (hl.mem_iff.mp q);constructor
 ·rw[Array.toList_map];have z:=hl.map Prod.snd
  rwa [List.map_snd_zip (Ze _)] at z
 ·refine Xy.mpr λi j hi hj jX l m hl hm=>?_;have i1:i<xs.size:=by simpa using hi
  have j1:j<xs.size:=by simpa using hj
  have z:=hs i j (XB jX) (by rw[<- hp.size_eq];exact j1);have kk:∀(i:Nat) (i1:i<xs.size) l,κ.is h xs[i].2 l->KK (qA7 κ h) xs i=l:=λi i1 l hl=>by
   have a:=(mem xs[i] (by simp)).1;have b:κ.is h xs[i].1 l:=by rw[a];exact hl
   rw[qw3 i1];unfold kv;rw[xo1 b];rfl
  rw[kk i i1 l (by simpa using hl),kk j j1 m (by simpa using hm)] at z;exact YB z
variable {A:Around}{E:Value->Shared->Prop}{s:Shared}
theorem xo3 {kd:SortKind}(sk:SKd κ kd) (hu:A.units+κ.lvl<cLine){p:Addr}{vs:List Value}{n:Nat}{P:Fin->Shared->Prop}(hL:s.heap.get? p=some (seqObj "list" vs.toArray n)) (hv:∀v∈vs,∃l,κ.is s.heap v l) (hz:vs.length<=sizeLine)
  (h:∀out:Array Value,out.toList.Perm vs->AscO κ s.heap out.toList->P (.done (.ret .none)) { s with heap:=sortedHeap s.heap p vs out }) :
  wpAny (model prog w) A (Builtin.«list.sort» ⟨[.ref p],[]⟩) P E s:=by
 have lt:=Zi hL;obtain⟨c1,hE⟩:∃c,(s.heap.update p (Obj.mapSeq λ_=>#[])).get? p=some (seqObj "list" #[] c):=⟨_,get?_update_seq hL (λ_=>#[])⟩;have kp:∀b o,b≠p->s.heap.get? b=some o->(((s.heap.update p (Obj.mapSeq λ_=>#[])).push (seqObj "tuple" vs.toArray 0)).push (seqObj "list" #[] 0)).get? b=some o:=λb o hb q=>by
  have l2:=Zi q;rw[WY _ _ _ (by rw[size_push',Vb];exact Zp (ZZ l2)),WY _ _ _ (by rw[Vb];exact Zp l2),Heap.get?_update_ne _ _ _ _ hb];exact q
 have hT:(((s.heap.update p (Obj.mapSeq λ_=>#[])).push (seqObj "tuple" vs.toArray 0)).push (seqObj "list" #[] 0)).get? p=some (seqObj "list" #[] c1):=by
  rw[WY _ _ _ (by rw[size_push',Vb];exact Zp (ZZ lt)),WY _ _ _ (by rw[Vb];exact Zp lt)];exact hE
 have kT:∀b o,s.heap.get? b=some o->o.cls=.type "tuple" -> (((s.heap.update p (Obj.mapSeq λ_=>#[])).push (seqObj "tuple" vs.toArray 0)).push (seqObj "list" #[] 0)).get? b=some o:=λb o q c=>kp b o (by rintro rfl;rw[hL] at q;cases q;simp at c) q;rw[list_sort_plain];refine Za (listItems_at hL rfl (Za (listUpdate_at hL rfl (Za (seqEpoch_at hE rfl (Za (wpAny_newTuple (Za (wpAny_newList (ZX ?_) (Zx _))) (by simpa using hz))))) (by simpa using hz) (Zx _))));show wpAny (model prog w) A _ P E { s with heap:=((s.heap.update p (Obj.mapSeq λ_=>#[])).push (seqObj "tuple" vs.toArray 0)).push (seqObj "list" #[] 0) };have fin:∀h' out,(∀b o,s.heap.get? b=some o->o.cls=.type "tuple" -> h'.get? b=some o)->out.toList.Perm vs->AscO κ h' out.toList->P (.done (.ret .none)) { s with heap:=sortedHeap s.heap p vs out }:=λh' out k1 o1 o2=>h out o1 (VU (λz l m x y=>z l m (κ.keep k1 x) (κ.keep k1 y)) o2);have hv':∀v∈vs,∃l,κ.is (((s.heap.update p (Obj.mapSeq λ_=>#[])).push (seqObj "tuple" vs.toArray 0)).push (seqObj "list" #[] 0)) v l:=λv q=>by
  obtain⟨l,x⟩:=hv v q;exact⟨l,κ.keep kT x⟩
 dsimp only;by_cases small:vs.toArray.size<2
 ·rw[Zt small,Zt small];refine Za (Zc ?_);rw[StateT.run_pure];refine Za (Zc ?_);dsimp only;have e:(vs.toArray.zip vs.toArray).map (·.2)=vs.toArray:=by
   apply Array.toList_inj.mp;simp[List.map_snd_zip]
  refine Za (seqEpoch_at hT rfl (Za (listUpdate_at hT rfl ?_ (Zx _) (by show ((vs.toArray.zip vs.toArray).map (·.2)).size<=_;rw[e];simp;lia))));simp only[bne_self_eq_false,Zr,Z2];refine Zc ?_;show P _ { s with heap:=sortedHeap s.heap p vs ((vs.toArray.zip vs.toArray).map (·.2)) };rw[e];refine h _ (by simp) ?_;have:vs.length<2:=by simpa using small
  match vs,this with
  |[],_=>exact List.Pairwise.nil
  |[x],_=>exact WN _ _
  |_::_::_,z=>simp at z;lia
 ·rw[Zl small,Zl small];refine Za (sk.kind (λz=>small (by rw[z];decide)) hv' ?_);generalize hh:((s.heap.update p (Obj.mapSeq λ_=>#[])).push (seqObj "tuple" vs.toArray 0)).push (seqObj "list" #[] 0)=h1 at *;have ka:KeysOf (qA7 κ h1) (pairsOf vs):=λq hq=>by
   rw[pairsOf_toList] at hq;obtain⟨l,x⟩:=hv' _ (mem_zip_self hq).2;exact⟨l,xo1 x⟩
  refine Za (Yp (qA6 (κ:=qA7 κ h1) (kd:=kd) (a₀:=pairsOf vs) (st:=SortSt.mk' kd (vs.toArray.zip vs.toArray) #[] 7 none)
   (Q:=λ_ st'=>(arrOf st').Perm (pairsOf vs)/\failedOf st'=none/\SortedToK (qA7 κ h1) (arrOf st') (pairsOf vs).size)
   (sk.klt (s:={ s with heap:=h1 }) hu) ka ⟨Array.Perm.refl _,rfl,rfl,rfl⟩ λst' a b c=>⟨a,b,c⟩) ?_ λ_ _ e=>e)
  rintro⟨⟨⟩,st'⟩ s' ⟨rfl,hp,hf,hs⟩;dsimp only;obtain⟨o1,o2⟩:=xB9 hv' hp hs;refine Za (seqEpoch_at hT rfl (Za (listUpdate_at hT rfl ?_ (Zx _) ?_)))
  ·rw[hf];simp only[bne_self_eq_false,Zr,Z2];refine Zc ?_;subst hh;exact fin _ _ kT o1 o2
  ·refine ZG (Vt ?_) (VR hz);have:=o1.length_eq;rw[ZL] at this;exact this
theorem xd4 {kd:SortKind}(sk:SKd κ kd) (hu:A.units+3+κ.lvl<cLine){x:Value}{Pv:List Value->Prop}{Q:Value->Shared->Prop}(hv:∀vs,Pv vs->(∀v∈vs,∃l,κ.is s.heap v l)/\vs.length<=sizeLine)
  (hc:∀Q':List Value->Shared->Prop,(∀(vs:List Value) (h':Heap) (tk:Nat) (d:Drawn),Pv vs->(∀b o,s.heap.get? b=some o->h'.get? b=some o)->Q' vs { s with heap:=h',drawn:=d,toks:=tk })->wpAny (model prog w) A.in1 (collect x) Q' E s)
  (h:∀(vs:List Value) (out:Array Value) (h1 h2:Heap) (tk:Nat) (d:Drawn) (c:Nat),Pv vs->(∀b o,s.heap.get? b=some o->h1.get? b=some o)->(∀b o,h1.get? b=some o->h2.get? b=some o)->h2.get? h1.objs.size=some (seqObj "list" out c)->out.toList.Perm vs->AscO κ s.heap out.toList->Q (.ref h1.objs.size) { s with heap:=h2,drawn:=d,toks:=tk }) :
  wpAny (model prog w) A (call (.builtin "sorted") [x]) Q E s:=by
 refine Calls.call_function_entry kind_sorted plain_sorted entry_sorted (args_sorted1 _) ?_;unfold Builtin.«sorted»;refine Za (m:=checkCount "sorted" 1 1 _) (Zc (Za (hc _ λvs h1 tk d pv k1=>Za (wpAny_newList ?_ (hv vs pv).2))));obtain⟨hv,hz⟩:=hv vs pv;have hL:(h1.push (seqObj "list" vs.toArray 0)).get? h1.objs.size=some (seqObj "list" vs.toArray 0):=Zh _ rfl;have k2:∀b o,s.heap.get? b=some o->(h1.push (seqObj "list" vs.toArray 0)).get? b=some o:=λb o e=>Zb _ (k1 b o e);show wpAny _ _ _ _ _ { s with heap:=h1.push (seqObj "list" vs.toArray 0),drawn:=d,toks:=tk };refine Za (ZX (Z5 (s:={ s with heap:=h1.push (seqObj "list" vs.toArray 0),drawn:=d,toks:=tk }) slot_list_sort ⟨_,hL,rfl⟩ entry_list_sort (xo3 sk ?_ hL (λv q=>(hv v q).imp λ_ z=>κ.keep (λb o e _=>k2 b o e) z) hz λout a1 a2=>⟨_,rfl,Zc ⟨_,rfl,?_⟩⟩) (args_list_sort _)))
 ·show A.units+1+1+κ.lvl<cLine;lia
 ·obtain⟨c,hc⟩:=sortedHeap_at (out:=out) hL;refine h vs out h1 _ tk d c pv k1 (λb o e=>?_) hc a1 (VU (λz l m x y=>z l m (κ.keep (λb o e _=>k2 b o e) x) (κ.keep (λb o e _=>k2 b o e) y)) a2);have lt:=Zi e;rw[sortedHeap_old (Zp lt) (by rw[size_push'];exact ZZ lt)];exact Zb _ e
end
section
variable {prog:Program}{w:World}{A:Around}{E:Value->Shared->Prop}{s:Shared}
theorem q58 (key:Nat->List (List Int)):∀n j,j<=n->¬key j<key (argBest (λi j=>decide (key i<key j)) n)
 |0,j,h=>by
  have:j=0:=by lia
  subst this;exact Xe _
 |n+1,j,h=>by
  unfold argBest;by_cases hb:key (n+1)<key (argBest (λi j=>decide (key i<key j)) n)
  ·rw[Zt (Zv hb)];by_cases e:j=n+1
   ·subst e;exact Xe _
   ·intro z;exact q58 key n j (by lia) (VX z hb)
  ·rw[Zl (by simpa using hb)];by_cases e:j=n+1
   ·subst e;exact hb
   ·exact q58 key n j (by lia)
section
variable {R:Result->Shared->Prop}{I:Addr}{fp wr:List Addr}{G:Array GenState->Array GenState->Prop}{n:Nat}{P:Nat->Value->Prop}{St:Nat->Shared->Prop}
end
end
section
variable {prog:Program}{w:World}{A:Around}{E:Value->Shared->Prop}{s:Shared}{pat:Nat->Bool}
end
end PyProof.Rows
namespace L2
open PySem PySem.Spec PyProof.Rows
theorem q59:∀{us us':List Value},us'.Perm us->∀{xs:List V},Vals xs us->∃xs',Vals xs' us'/\xs'.Perm xs:=by
 intro us us' p
 induction p with
 |nil=>intro xs r;exact⟨xs,r,.refl _⟩
 |cons u p ih=>
  intro xs r;cases r with
  |cons h r=>
   obtain⟨xs',r',p'⟩:=ih r;exact⟨_::xs',.cons h r',p'.cons _⟩
 |swap u v l=>
  intro xs r;cases r with
  |cons h r=>
   cases r with
   |cons h2 r=>exact⟨_::_::_,.cons h2 (.cons h r),List.Perm.swap _ _ _⟩
 |trans p q ihp ihq=>
  intro xs r;obtain⟨x1,r1,p1⟩:=ihq r;obtain⟨x2,r2,p2⟩:=ihp r1;exact⟨x2,r2,p2.trans p1⟩
theorem qP1:∀{xs:List V}{us:List Value}{u:Value},Vals xs us->u∈us->∃x,x∈xs/\RelV x u
 |_,_,u,.nil,h=>by simp at h
 |_,_,u,.cons r rs,h=>by
  rcases Zn.mp h with rfl|z
  ·exact⟨_,by simp,r⟩
  ·obtain⟨x,h1,h2⟩:=qP1 rs z;exact⟨x,by simp[h1],h2⟩
section
variable {X:Cx}
end
end L2
namespace L2
open PySem PySem.Spec PyProof.Rows PySem.W
theorem Inv.keptD {X:Cx}{j8:List (Addr×Obj)}{σ:St}{H:Hp}{s:Shared}{h':Heap}{t':Nat}{d':Drawn}(I:Inv X j8 σ H s) (k:∀b u,s.heap.get? b=some u->h'.get? b=some u):Inv X j8 σ H { s with heap:=h',drawn:=d',toks:=t' }:=
 I.call (ch:=[]) (g':=s.gens) (Un.kept k) (I.hok.kept k) I.bare (λb hb=>nomatch hb)
end L2
namespace L2
open PySem PyProof.Rows
theorem qg7 {α β:Type}{R:α->β->Prop}:∀{us us':List α},us'.Perm us->∀{xs:List β},Paired R us xs->∃xs',Paired R us' xs'/\xs'.Perm xs:=by
 intro us us' p
 induction p with
 |nil=>intro xs r;exact⟨xs,r,.refl _⟩
 |cons u p ih=>
  intro xs r;cases r with
  |cons h r=>
   obtain⟨xs',r',p'⟩:=ih r;exact⟨_::xs',.cons h r',p'.cons _⟩
 |swap u v l=>
  intro xs r;cases r with
  |cons h r=>
   cases r with
   |cons h2 r=>exact⟨_::_::_,.cons h2 (.cons h r),List.Perm.swap _ _ _⟩
 |trans p q ihp ihq=>
  intro xs r;obtain⟨x1,r1,p1⟩:=ihq r;obtain⟨x2,r2,p2⟩:=ihp r1;exact⟨x2,r2,p2.trans p1⟩
theorem qo5 {α β:Type}{R:α->β->Prop}:∀{us:List α}{xs:List β},us.length=xs.length->(∀(i:Nat) u x,us[i]?=some u->xs[i]?=some x->R u x)->Paired R us xs
 |[],[],_,_=>.nil
 |[],_::_,h,_=>by simp at h
 |_::_,[],h,_=>by simp at h
 |u::us,x::xs,h,f=>.cons (f 0 u x rfl rfl) (qo5 (by simpa using h) λi y v hy hv=>f (i+1) y v (by simpa using hy) (by simpa using hv))
theorem qi0 {α β:Type}{R:α->β->Prop}:∀{us:List α}{xs:List β},Paired R us xs->∀(i:Nat) u,us[i]?=some u->∃x,xs[i]?=some x/\R u x
 |_,_,.nil,i,u,h=>by simp at h
 |_,_,.cons h r,0,u,e=>by simp at e;subst e;exact⟨_,rfl,h⟩
 |_,_,.cons h r,i+1,u,e=>by
  obtain⟨x,h1,h2⟩:=qi0 r i u (by simpa using e);exact⟨x,by simpa using h1,h2⟩
theorem qG2 {α β:Type}{R:α->β->Prop}{A:α->α->Prop}{B:β->β->Prop}(h:∀u v x y,R u x->R v y->A u v->B x y):∀{us:List α}{xs:List β},Paired R us xs->us.Pairwise A->xs.Pairwise B
 |_,_,.nil,_=>.nil
 |u::us,x::xs,.cons r rs,a=>by
  obtain⟨a1,a2⟩:=YD.mp a;refine YD.mpr ⟨λy hy=>?_,qG2 h rs a2⟩;obtain⟨i,hi,rfl⟩:=ZD.mp hy;have hl:=Y7 rs;have hiu:i<us.length:=by lia
  obtain⟨z,e1,e2⟩:=qi0 rs i us[i] (Zd hiu);rw[Zd hi] at e1;cases e1;exact h u _ x _ r e2 (a1 _ (Yr hiu))
end L2
namespace L2
open PySem PySem.Spec PyProof.Rows PySem.W
section
variable {P:Program}{w:World}{H:Hp}
def isL (κ:OKind P w) (H:Hp) (v:V) (l:List (List Int)):Prop:=∀(h:Heap) (u:Value),HOk P w H h->RelV v u->κ.is h u l
theorem qK3 (i:Int):isL (P:=P) (w:=w) (atO false) H (.int i) [[i]]:=λh u _ r=>by
 obtain⟨t,rfl⟩:=r;exact⟨_,rfl,.int i t⟩
theorem qK4 (x:Str):isL (P:=P) (w:=w) (atO true) H (.str x) [x.cps.toList.map Int.ofNat]:=λh u _ r=>by
 obtain⟨t,rfl⟩:=r;exact⟨_,rfl,.str x t⟩
inductive ItL (H:Hp):List (OKind P w)->List V->List (List Int)->Prop
 |nil:ItL H [] [] []
 |cons {k:OKind P w}{v:V}{l:List (List Int)}{ks:List (OKind P w)}{vs:List V}{ls:List (List Int)}(x:isL k H v l) (r:ItL H ks vs ls):ItL H (k::ks) (v::vs) (l++ls)
theorem ItL.rel {h:Heap}(ok:HOk P w H h):∀{ks:List (OKind P w)}{vs:List V}{ls:List (List Int)}{us:List Value},ItL H ks vs ls->Vals vs us->ItO h ks us ls
 |_,_,_,_,.nil,.nil=>.nil
 |_,_,_,_,.cons x r,.cons h' r'=>.cons (x _ _ ok h') (r.rel ok r')
theorem q60 {ks:List (OKind P w)}{L:Nat}{hL:∀k∈ks,k.lvl<=L}{a:Addr}{xs:List V}{l:List (List Int)}(e:H a=some (.tup xs)) (it:ItL H ks xs l):isL (tpO ks L hL) H (.ref a) l:=λh u ok r=>by
 cases (show u=Value.ref a from r);obtain⟨_,its,rv,o,ho,hc,n,hd⟩:=ok a _ e;exact⟨a,o,_,n,rfl,ho,hc,hd,by simpa using it.rel ok rv⟩
def AscL (κ:OKind P w) (H:Hp) (vs:List V):Prop:=vs.Pairwise λu v=>∀l m,isL κ H u l->isL κ H v m->¬m<l
theorem qP2:∀{xs:List V}{us:List Value}{x:V},Vals xs us->x∈xs->∃u,u∈us/\RelV x u
 |_,_,u,.nil,h=>by simp at h
 |_,_,u,.cons r rs,h=>by
  rcases Zn.mp h with rfl|z
  ·exact⟨_,by simp,r⟩
  ·obtain⟨x,h1,h2⟩:=qP2 rs z;exact⟨x,by simp[h1],h2⟩
theorem q61 {κ:OKind P w}{h:Heap}(ok:HOk P w H h):∀{xs:List V}{us:List Value},Vals xs us->AscO κ h us->AscL κ H xs
 |_,_,.nil,_=>.nil
 |x::xs,u::us,.cons r rs,a=>by
  obtain⟨a1,a2⟩:=YD.mp a;refine YD.mpr ⟨λy hy l m tl tm=>?_,q61 ok rs a2⟩;obtain⟨v,hv,rv⟩:=qP2 rs hy;exact a1 v hv l m (tl _ _ ok r) (tm _ _ ok rv)
end
section
variable {X:Cx}
end
section
variable {X:Cx}{st:Stmt}{rest:List Stmt}{t u:TS}
end
section
variable {X:Cx}{e:Expr}{te:TE}
end
end L2
namespace Pr
open PySem L2 Qf
section
variable {P:Program}{w:World}{K:PySem.W.Frag}{mg:Str->Option Value}{base:Heap}
theorem scWF:FnScope ["n"] ["n"] (qa3 qM9):=qc5
def spWF:Sp:=λvs H Q _=>∃n:Nat,vs=[.int (n:Nat)]/\n<=12/\Q .non H
theorem xC0 {f fS:Addr}{fd fdS:FuncData}(F:Fun K "want_floor" "want_floor" qM9 f fd) (hS:mg "is_size" = some (.ref fS)) (FS:Fun K "is_size" "is_size" q06 fS fdS) (bS:Binds K fdS ["thing"] []) (GS:FnOk P w K mg base CX0 2 fS fdS ["thing"] q12) :
  FnOk P w K mg base CX0 3 f fd ["n"] spWF:=by
 refine F.ok scWF (λvs H Q E h=>?_) (λcdv A outer s H vs Q E hr h=>?_)
 ·obtain⟨n,rfl,_⟩:=h
  rfl
 ·obtain⟨n,rfl,hn,q⟩:=h;refine⟨_,qa8 (qd8 (qi9 (qf6 (pcN GS hr hS FS.kp bS (qa0 (pv 0) qa1)))) qf7 qb8),?_⟩;exact⟨_,rfl,n,rfl,hn,⟨_,rfl,iteF q⟩⟩
theorem scWC:FnScope ["n", "row", "column"] ["n", "row", "column"] (qa3 qn4):=qc5
def spWC:Sp:=λvs H Q _=>∃n r c:Nat,vs=[.int (n:Nat),.int (r:Nat),.int (c:Nat)]/\n<=12/\r<2^n/\c<2^n/\Q .non H
theorem xC1 {f fC:Addr}{fd fdC:FuncData}(F:Fun K "want_cell" "want_cell" qn4 f fd) (hC:mg "is_cell" = some (.ref fC)) (FC:Fun K "is_cell" "is_cell" q99 fC fdC) (bC:Binds K fdC ["n", "row", "column"] []) (GC:FnOk P w K mg base CX0 2 fC fdC ["n", "row", "column"] xh5) :
  FnOk P w K mg base CX0 3 f fd ["n", "row", "column"] spWC:=by
 refine F.ok scWC (λvs H Q E h=>?_) (λcdv A outer s H vs Q E hr h=>?_)
 ·obtain⟨n,r,c,rfl,_⟩:=h
  rfl
 ·obtain⟨n,r,c,rfl,hn,h1,h2,q⟩:=h;refine⟨_,qa8 (qd8 (qi9 (qf6 (pcN GC hr hC FC.kp bC (qa0 (pv 0) (qa0 (pv 1) (qa0 (pv 2) qa1)))))) qf7 qb8),?_⟩;refine⟨_,rfl,_,rfl,_,rfl,n,r,c,rfl,hn,?_⟩;rw[Zv (show (0<=(r:Int)/\(r:Int)<((2^n:Nat):Int))/\0<=(c:Int)/\(c:Int)<((2^n:Nat):Int) by lia)];exact⟨_,rfl,iteF q⟩
theorem scBO:FnScope ["n", "address"] ["n", "address"] (qa3 qN2):=qc5
def spBO:Sp:=λvs H Q _=>∃(n:Nat) (ds:List Nat),vs=[.int (n:Nat),.str (txt ds)]/\n<=12/\(∀d∈ds,d<4)/\ds.length<=n /\
 ∀H' p,Same H H'->H' p=some (.tup (vN [rwo n ds,clo n ds,2^(n-ds.length)]))->Q (.ref p) H'
theorem xC2 {f fF fA fB:Addr}{fd fdF fdA fdB:FuncData}(F:Fun K "box_of" "box_of" qN2 f fd) (hF:mg "want_floor" = some (.ref fF)) (FF:Fun K "want_floor" "want_floor" qM9 fF fdF) (bF:Binds K fdF ["n"] []) (GF:FnOk P w K mg base CX0 3 fF fdF ["n"] spWF)
  (hA:mg "want_address" = some (.ref fA)) (FA:Fun K "want_address" "want_address" qN0 fA fdA) (bA:Binds K fdA ["n", "address"] []) (GA:FnOk P w K mg base CX0 3 fA fdA ["n", "address"] q36)
  (hB:mg "box_at" = some (.ref fB)) (FB:Fun K "box_at" "box_at" qN1 fB fdB) (bB:Binds K fdB ["n", "address"] []) (GB:FnOk P w K mg base CX0 2 fB fdB ["n", "address"] q37):FnOk P w K mg base CX0 4 f fd ["n", "address"] spBO:=by
 refine F.ok scBO (λvs H Q E h=>?_) (λcdv A outer s H vs Q E hr h=>?_)
 ·obtain⟨n,ds,rfl,_⟩:=h
  rfl
 ·obtain⟨n,ds,rfl,hn,h4,hl,q⟩:=h;have vF:Room 2 _:=hr.mono (by decide);refine seqE ⟨_,⟨qd7 (pcN GF hr hF FF.kp bF (qa0 (pv 0) qa1))⟩,?_⟩;refine seqE ⟨_,⟨qd7 (pcN GA hr hA FA.kp bA (qa0 (pv 0) (qa0 (pv 1) qa1)))⟩,?_⟩;refine qg5 ⟨_,⟨qa9 (pcN GB vF hB FB.kp bB (qa0 (pv 0) (qa0 (pv 1) qa1)))⟩,?_⟩;refine⟨_,rfl,n,rfl,hn,?_⟩;refine⟨_,rfl,_,rfl,n,ds,rfl,hn,h4,hl,λH1 s1=>?_⟩;exact⟨_,rfl,_,rfl,n,ds,rfl,hn,h4,hl,λp hp=>q _ p (s1.trans (qb2 hp)) qa4⟩
abbrev nLO:List Str:=["shape", "top", "rows", "leaves"]
theorem scLO:FnScope nLO ["shape"] (qa3 qn5):=qc5
def spLO:Sp:=λvs H Q _=>∃(t:Addr) (n tp:Nat) (rows:List Row),vs=[.ref t]/\qc6 H t n tp rows/\nlf (T rows tp)<=2000/\∀H' lp,Same H H'->H lp=none->LvL H' lp (lvT (T rows tp))->Q (.ref lp) H'
theorem xw1:("" : Str)=txt []:=by decide +kernel
theorem xo4 {H:Hp}{l:Addr}(h:H l=some (.lst [])):LvL H l []:=⟨[],h,rfl,λi b e h=>by simp at h⟩
theorem xd5 (L:List (List Nat×Bool)):preL [] L=L:=by unfold preL;simp
theorem xC3 {f fW fC fG:Addr}{fd fdW fdC fdG:FuncData}(F:Fun K "leaves_of" "leaves_of" qn5 f fd) (hW:mg "want_shape" = some (.ref fW)) (FW:Fun K "want_shape" "want_shape" qE3 fW fdW) (bW:Binds K fdW ["shape"] []) (GW:FnOk P w K mg base CX0 16 fW fdW ["shape"] qJ2)
  (hC:mg "want_coarse" = some (.ref fC)) (FC:Fun K "want_coarse" "want_coarse" qz2 fC fdC) (bC:Binds K fdC ["shape"] []) (GC:FnOk P w K mg base CX0 3 fC fdC ["shape"] spCs)
  (hG:mg "gather_leaves" = some (.ref fG)) (FG:Fun K "gather_leaves" "gather_leaves" qs0 fG fdG) (bG:Binds K fdG nGL4 []) (GG:FnOk P w K mg base CX0 13 fG fdG nGL4 (spGL 12)):FnOk P w K mg base CX0 17 f fd ["shape"] spLO:=by
 refine F.ok scLO (λvs H Q E h=>?_) (λcdv A outer s H vs Q E hr h=>?_)
 ·obtain⟨t,n,tp,rows,rfl,_⟩:=h
  rfl
 ·obtain⟨t,n,tp,rows,rfl,hS,hm,q⟩:=h;have hr3:Room 3 _:=hr.mono (by decide);have hr13:Room 13 _:=hr.mono (by decide);refine seqE ⟨_,⟨qd7 (pcN GW hr hW FW.kp bW (qa0 (pv 0) qa1))⟩,?_⟩;refine seqE ⟨_,⟨qd7 (pcN GC hr3 hC FC.kp bC (qa0 (pv 0) qa1))⟩,?_⟩;refine seqE ⟨_,⟨ql3 (qL5 xf8 (pv 0) (qV5 qa2) qV4) (qj0 rfl (qb6 (pgN 1 scLO.nd) (qb6 (pgN 2 scLO.nd) qf8)))⟩,?_⟩;refine seqE ⟨_,⟨psN 3 scLO.nd (qg8 qa1)⟩,?_⟩;refine seqE ⟨_,⟨qd7 (pcN GG hr13 hG FG.kp bG (qa0 (pv 2) (qa0 (pv 1) (qa0 qw6 (qa0 (pv 3) qa1)))))⟩,?_⟩;refine qg5 ⟨_,⟨qa9 (pv 3)⟩,?_⟩;refine⟨_,rfl,t,n,tp,rows,rfl,hS,λH1 s1=>?_⟩;have wO:=qh3 hS s1;refine⟨_,rfl,t,n,tp,rows,rfl,wO,hm,λH2 s2=>?_⟩;have hS2:=qh3 wO s2;obtain⟨⟨rp,ht,hR⟩,cn,hrl⟩:=id hS2;have s02:=s1.trans s2;refine⟨_,rfl,_,rfl,t,_,rfl,SqT.of ht,(λz=>absurd (show HT.sIx 3 0 (some 1)=0 from z.1) (by decide)),λu hu=>?_⟩;refine⟨u,_,rfl,SqT.of qa4,rfl,_,_,rfl,_,_,rfl,rfl,?_⟩;refine (λ(go:∀H3,Same H2 H3->_)=>go _ (qb2 hu)) ?_;intro H3 s3;refine⟨(by show 0<=sizeLine;decide),λl hl=>?_⟩;have s4:=qb2 (o:=.lst []) hl;have hl4:upd H3 l (.lst []) l=some (.lst []):=qa4;have hlH:H l=none:=by
   cases e:H l with
   |none=>rfl
   |some o=>rw[s3 _ _ (s02 _ _ e)] at hl;cases hl
  generalize upd H3 l (.lst [])=H4 at s4 hl4 ⊢;refine⟨_,rfl,_,rfl,_,rfl,rp,l,tp,[],[],rows,?_,hR.mono (s3.trans s4).tups,cn.rok,cn.inn,ZG (qk2 cn) cn.size,xo4 hl4,by decide,?_,λH5 b5 hl5=>?_⟩
  ·rw[<- xw1];rfl
  ·show 0+_<=_;lia
  ·rw[xd5] at hl5;refine⟨_,rfl,q H5 l (λb o e=>b5 b o (s4 _ _ (s3 _ _ (s02 _ _ e))) (qa5 e hlH)) hlH hl5⟩
def spLF:Sp:=λvs H Q _=>∃(b:Addr) (r c A B S:Nat),vs=[.int (r:Nat),.int (c:Nat),.ref b]/\H b=some (.tup (vN [A,B,S]))/\∀H' p q,Same H H' ->
 H' p=some (.tup [.int (best [0,(A:Int)-r,(B:Int)-c,1-(S:Int)-((A:Int)-r),1-(S:Int)-((B:Int)-c)] 4),.ref q]) ->
 H' q=some (.tup [.int (mxI A ((r:Int)-best [0,(A:Int)-r,(B:Int)-c,1-(S:Int)-((A:Int)-r),1-(S:Int)-((B:Int)-c)] 4)),.int (mxI B ((c:Int)-best [0,(A:Int)-r,(B:Int)-c,1-(S:Int)-((A:Int)-r),1-(S:Int)-((B:Int)-c)] 4))])->Q (.ref p) H'
abbrev nLF:List Str:=["row", "column", "box", "first_row", "first_column", "side", "above", "left", "far"]
theorem scLF:FnScope nLF ["row", "column", "box"] (qa3 qn6):=qc5
theorem xC4 {f:Addr}{fd:FuncData}(F:Fun K "least_far" "least_far" qn6 f fd) (B:Blt mg):FnOk P w K mg base CX0 1 f fd ["row", "column", "box"] spLF:=by
 refine F.ok scLF (λvs H Q E h=>?_) (λcdv A outer s H vs Q E hr h=>?_)
 ·obtain⟨b,r,c,x,y,z,rfl,_⟩:=h
  rfl
 ·obtain⟨b,r,c,x,y,z,rfl,hb,q⟩:=h;refine seqE ⟨_,⟨ql3 (pv 2) (qj0 rfl (qb6 (pgN 3 scLF.nd) (qb6 (pgN 4 scLF.nd) (qb6 (pgN 5 scLF.nd) qf8))))⟩,?_⟩;refine seqE ⟨_,⟨psN 6 scLF.nd (qa7 qc2 (pv 3) (pv 0))⟩,?_⟩;refine seqE ⟨_,⟨psN 7 scLF.nd (qa7 qc2 (pv 4) (pv 1))⟩,?_⟩;refine seqE ⟨_,⟨psN 8 scLF.nd (qa6 (q48 rfl) (by rfl) B.max Yo (Ars2.go (.cons qg6 (.cons ⟨pv 6⟩ (.cons ⟨pv 7⟩ (.cons ⟨qa7 qc2 (qa7 qc2 qa2 (pv 5)) (pv 6)⟩ (.cons ⟨qa7 qc2 (qa7 qc2 qa2 (pv 5)) (pv 7)⟩ .nil rfl) rfl) rfl) rfl) rfl)))⟩,?_⟩;refine qg5 ⟨_,⟨qa9 (qe1 (Ars2.go (.cons ⟨pv 8⟩ (.cons ⟨qe1 (Ars2.go (.cons ⟨qa6 (qg1 rfl) (by rfl) B.max Yo (qa0 (pv 3) (qa0 (qa7 qc2 (pv 0) (pv 8)) qa1))⟩ (.cons ⟨qa6 (qg1 rfl) (by rfl) B.max Yo (qa0 (pv 4) (qa0 (qa7 qc2 (pv 1) (pv 8)) qa1))⟩ .nil rfl) rfl))⟩ .nil rfl) rfl)))⟩,?_⟩;refine⟨_,rfl,b,_,rfl,SqT.of hb,rfl,_,_,rfl,_,_,rfl,_,_,rfl,rfl,?_⟩;refine⟨_,rfl,_,rfl,_,_,rfl,rfl,?_⟩;refine⟨_,rfl,_,rfl,_,_,rfl,rfl,?_⟩;refine qq8 (σ':=[some (.int (r:Nat)),some (.int (c:Nat)),some (.ref b),some (.int (x:Nat)),some (.int (y:Nat)),some (.int (z:Nat)),some (.int ((x:Int)-r)),some (.int ((y:Int)-c)),none]) rfl ?_;refine⟨_,rfl,_,rfl,_,rfl,_,_,rfl,rfl,_,rfl,_,_,rfl,rfl,_,rfl,_,_,rfl,rfl,_,rfl,_,_,rfl,rfl,_,_,_,_,_,rfl,?_⟩;generalize best [0,(x:Int)-r,(y:Int)-c,1-(z:Int)-((x:Int)-r),1-(z:Int)-((y:Int)-c)] 4=m at q ⊢;refine qq8 (σ':=[some (.int (r:Nat)),some (.int (c:Nat)),some (.ref b),some (.int (x:Nat)),some (.int (y:Nat)),some (.int (z:Nat)),some (.int ((x:Int)-r)),some (.int ((y:Int)-c)),some (.int m)]) rfl ?_;refine⟨_,rfl,_,rfl,_,rfl,_,rfl,_,_,rfl,rfl,_,_,rfl,_,rfl,_,rfl,_,rfl,_,_,rfl,rfl,_,_,rfl,(by show 2<=sizeLine;decide),λk hk=>⟨(by show 2<=sizeLine;decide),λp hp=>?_⟩⟩;refine q _ p k ((qb2 hk).trans (qb2 hp)) qa4 ?_;rw[qb1 (qa5 qa4 hp),qa4]
  rfl
end
end Pr
namespace L2
open PySem PySem.Spec PyProof.Rows
section
variable {X:Cx}
theorem qS6 {i0:Nat}{x0:Str}{px0 spos:Pos}{x y u:Str}{p1 p2 p3 tpos pos:Pos}{k:Nat}{elt iter c:Expr}{scope:Scope}{wi:TI}{tt:TT}{te:TE}(N:List Str) (sc:Scope) (kI:X.N=N) (jY:X.env.scope=sc) (hc:X.calm=true) (hN:X.N.Nodup) (vP:X.N[i0]?=some x0) (vS:X.env.scope.names.lookup x0=some .local) (hi:PI X (.Tuple [.Name x p1,.Name y p2,.Name u p3] k tpos) iter wi)
  (ht:∀cl C fp s₀ H₀,PT (qb0 X scope cl C [x,y,u] fp s₀ H₀) c tt) (he:∀cl C fp s₀ H₀,PE (qb0 X scope cl C [x,y,u] fp s₀ H₀) elt te) (hd:[x,y,u].Nodup:=by decide)
  (jD:scope.kind=.function:=by rfl) (jA:scope.names.all (λy=>y.2 != .cell)=true:=by decide +kernel) (jC:scope.names.all (λy=>y.2 != .local||scope.names.lookup y.1==some .local)=true:=by decide +kernel)
  (hx:scope.names.lookup x=some .local:=by rfl) (hy:scope.names.lookup y=some .local:=by rfl) (hu:scope.names.lookup u=some .local:=by rfl) (jF:N.all (λy=>scope.names.lookup y != some .local)=true:=by decide +kernel)
  (hfr:scope.names.all (λp=>p.2 != .free||(sc.names.lookup p.1==some .cell||sc.names.lookup p.1==some .free))=true:=by decide +kernel)
  (hs:∀x,foldedSetIterable iter X.env x=pure x:=by intro _;rfl) (wB:swapsWith (.ListComp elt [⟨.Tuple [.Name x p1,.Name y p2,.Name u p3] k tpos,iter,[c],0⟩] scope pos) (some (.Name x0 px0)) spos.line X.env=pure true:=by rfl) :
  PS X (.Assign [.Name x0 px0] (.ListComp elt [⟨.Tuple [.Name x p1,.Name y p2,.Name u p3] k tpos,iter,[c],0⟩] scope pos) spos) (tAsg (qj6 3 wi (gTup X.K 3 (qe5 (qd1 0) (qe5 (qd1 1) (qe5 (qd1 2) gNil)))) tt te) (qd1 i0)):=by
 obtain⟨s1,s2,s3,s4⟩:=qe7 kI jY jA jC jF hfr;exact qr8 (nn:=[x,y,u]) (λenv=>isTrue c env (eval c env)) hc hi (λit acc env=>qr5 elt _ iter c scope pos it acc env) (λcl C fp s₀ H₀=>xi0 hc hN hd s3 hx hy hu) (λy os σ H R ho h=>loc3 ho h) (λcl C fp s₀ H₀ j8 s σ H Q I h=>ht cl C fp s₀ H₀ j8 s σ H Q I h) he jD s1 s2 s3 s4 hs hN vP vS wB
end
end L2
namespace L2
open PySem PySem.Spec PyProof.Rows PySem.W
section
variable {X:Cx}
end
end L2
namespace L2
open PySem
theorem qm2 {J:It}{H:Hp}{n k:Nat}{item:Nat->V->Hp->Prop}{g:TG}{tt:TT}{te:TE}{σ:St}{Fin:Hp->Prop}{D:Addr}(hD:H D=none) (yes:Nat->Bool) (Rel:Nat->V->Hp->Prop) (G:Goes J H n item) (hsz:n<sizeLine)
  (mono:∀i y H1 H2,Tups H1 H2->Rel i y H1->Rel i y H2)
  (step:∀i x H2,i<n->item i x H2->Same H H2->∀os:St,os.length=k->∀(Q1:Hp->Prop) (Q2:VK),(yes i=false->∀H3,Same H2 H3->Q1 H3)->(yes i=true->∀v H3,Same H2 H3->Rel i v H3->Q2 v H3) ->
   g x (os++σ) H2 λσ4 H4=>tt σ4 H4 λb H5=>if b=true then te σ4 H5 Q2 else Q1 H5)
  (fin:∀ys H2,Same H H2->H2 D=some (.lst ys)->ys.length=((List.range n).filter yes).length->(∀(m:Nat) y j,ys[m]?=some y->((List.range n).filter yes)[m]?=some j->Rel j y H2)->Fin H2) :
  ∃W:Nat->Nat->List V->Hp->Prop,(∃m,W 0 m [] (upd H D (.lst []))) /\
   ∀i m xs H2,W i m xs H2->H2 D=some (.lst xs)/\xs.length<sizeLine/\((J.stop i H2/\Fin H2)\/(J.go i H2/\∀y H3,J.yld i H2 y H3->∀os:St,os.length=k ->
    g y (os++σ) H3 λσ4 H4=>tt σ4 H4 λb H5=>if b=true then te σ4 H5 λv H6=>H6 D=some (.lst xs)/\∃m',m'<m/\W (i+1) m' (xs++[v]) (upd H6 D (.lst (xs++[v]))) else ∃m',m'<m/\W (i+1) m' xs H5)):=by
 refine⟨λi m ys H2=>i<=n/\m=n-i/\ys.length=((List.range i).filter yes).length/\H2 D=some (.lst ys)/\Same H H2/\∀(m:Nat) y j,ys[m]?=some y->((List.range i).filter yes)[m]?=some j->Rel j y H2,⟨n,Zx _,rfl,rfl,qa4,qb2 hD,λm y j h=>by simp at h⟩,?_⟩;rintro i m ys H2 ⟨hi,rfl,hl,hd,s2,rel⟩;have j9:ys.length<=i:=by
  rw[hl];exact ZG (Xx _ _) (by simp)
 refine⟨hd,by lia,?_⟩;by_cases he:i=n
 ·subst he;exact .inl ⟨G.st H2 s2,fin ys H2 s2 hd hl rel⟩
 ·refine .inr ⟨G.go i H2 (by lia) s2,λy H3 hy os ho=>?_⟩;obtain⟨s3,it⟩:=G.yl i H2 y H3 (by lia) s2 hy;refine step i y H3 (by lia) it (s2.trans s3) os ho _ _ (λhno H4 s4=>?_) (λhyes v H4 s4 r4=>?_)
  ·have ef:(List.range (i+1)).filter yes=(List.range i).filter yes:=by
    rw[Xl,WI];simp[hno]
   refine⟨n-(i+1),by lia,by lia,rfl,by rw[ef];exact hl,s4 _ _ (s3 _ _ hd),(s2.trans s3).trans s4,λm y j h1 h2=>?_⟩;rw[ef] at h2;exact mono j y H2 H4 (s3.trans s4).tups (rel m y j h1 h2)
  ·have jV:=s4 _ _ (s3 _ _ hd);have ef:(List.range (i+1)).filter yes=(List.range i).filter yes++[i]:=by
    rw[Xl,WI];simp[hyes]
   have tk:Tups H4 (upd H4 D (.lst (ys++[v]))):=λb u e=>by
    have:b≠D:=λz=>by subst z;rw[jV] at e;cases e
    rw[qb1 this];exact e
   refine⟨jV,n-(i+1),by lia,by lia,rfl,by rw[ef,ZC,ZC,hl];rfl,qa4,λb o e=>?_,λm z j h1 h2=>?_⟩
   ·rw[qb1 (qa5 e hD)];exact s4 _ _ (s3 _ _ (s2 _ _ e))
   ·rw[ef] at h2;by_cases hm:m<ys.length
    ·rw[ZF hm] at h1;rw[ZF (by lia)] at h2;exact mono j z H4 _ tk (mono j z H2 H4 (s3.trans s4).tups (rel m z j h1 h2))
    ·have yG:m=ys.length:=by
      have:=(gS_ h1).1;simp at this;lia
     rw[ZK (by lia),yG] at h1;rw[ZK (by lia),yG,hl] at h2;have e1:z=v:=by simpa using h1.symm
     have e2:j=i:=by simpa using h2.symm
     rw[e1,e2];exact mono i v H4 _ tk r4
end L2
namespace Pr
open PySem L2 Qf
def SeenAt (H:Hp) (n r c:Nat) (y:V) (e:List Nat×Bool):Prop:=∃b p q,y=.ref b/\H b=some (.tup [.str (txt e.1),.bl e.2,.ref p])/\H p=some (.tup [.int (lfF n r c e.1),.ref q])/\H q=some (.tup [.int (lfR n r c e.1),.int (lfC n r c e.1)])
theorem SeenAt.tups {H H':Hp}{n r c:Nat}{y:V}{e:List Nat×Bool}(h:SeenAt H n r c y e) (t:Tups H H'):SeenAt H' n r c y e:=by
 obtain⟨b,p,q,h1,h2,h3,h4⟩:=h;exact⟨b,p,q,h1,t _ _ h2,t _ _ h3,t _ _ h4⟩
def SnL (H:Hp) (lp:Addr) (n r c:Nat) (L:List (List Nat×Bool)):Prop:=∃ys:List V,H lp=some (.lst ys)/\ys.length=L.length/\∀(i:Nat) y e,ys[i]?=some y->L[i]?=some e->SeenAt H n r c y e
section
variable {P:Program}{w:World}{K:PySem.W.Frag}{mg:Str->Option Value}{base:Heap}
abbrev nSL:List Str:=["shape", "row", "column", "n"]
theorem scSL:FnScope nSL ["shape", "row", "column"] (qa3 q09):=qc5
def spSL:Sp:=λvs H Q _=>∃(t:Addr) (n tp r c:Nat) (rows:List Row),vs=[.ref t,.int (r:Nat),.int (c:Nat)]/\qc6 H t n tp rows/\nlf (T rows tp)<=2000/\r<2^n/\c<2^n/\∀H' lp,Same H H'->SnL H' lp n r c (lvT (T rows tp))->Q (.ref lp) H'
theorem xC5 {f fW fC fL fF fB:Addr}{fd fdW fdC fdL fdF fdB:FuncData}(F:Fun K "seen_leaves" "seen_leaves" q09 f fd) (hW:mg "want_shape" = some (.ref fW)) (FW:Fun K "want_shape" "want_shape" qE3 fW fdW) (bW:Binds K fdW ["shape"] []) (GW:FnOk P w K mg base CX0 16 fW fdW ["shape"] qJ2)
  (hC:mg "want_cell" = some (.ref fC)) (FC:Fun K "want_cell" "want_cell" qn4 fC fdC) (bC:Binds K fdC ["n", "row", "column"] []) (GC:FnOk P w K mg base CX0 3 fC fdC ["n", "row", "column"] spWC)
  (hL:mg "leaves_of" = some (.ref fL)) (FL:Fun K "leaves_of" "leaves_of" qn5 fL fdL) (bL:Binds K fdL ["shape"] []) (GL:FnOk P w K mg base CX0 17 fL fdL ["shape"] spLO)
  (hF:mg "least_far" = some (.ref fF)) (FF:Fun K "least_far" "least_far" qn6 fF fdF) (bF:Binds K fdF ["row", "column", "box"] []) (GF:FnOk P w K mg base CX0 1 fF fdF ["row", "column", "box"] spLF)
  (hB:mg "box_of" = some (.ref fB)) (FB:Fun K "box_of" "box_of" qN2 fB fdB) (bB:Binds K fdB ["n", "address"] []) (GB:FnOk P w K mg base CX0 4 fB fdB ["n", "address"] spBO):FnOk P w K mg base CX0 18 f fd ["shape", "row", "column"] spSL:=by
 refine F.ok scSL (λvs H Q E h=>?_) (λcdv A outer s H vs Q E hr h=>?_)
 ·obtain⟨t,n,tp,r,c,rows,rfl,_⟩:=h
  rfl
 ·obtain⟨t,n,tp,r,c,rows,rfl,hS,hm,wD,wN,q⟩:=h;have hr16:Room 16 _:=hr.mono (by decide);have hr3:Room 3 _:=hr.mono (by decide);have hr4:Room 4 _:=hr.mono (by decide);have jG:Room 1 _:=hr.mono (by decide);refine seqE ⟨_,⟨qd7 (pcN GW hr16 hW FW.kp bW (qa0 (pv 0) qa1))⟩,?_⟩;refine seqE ⟨_,⟨psN 3 scSL.nd (pxN qc8 (pv 0) qa2)⟩,?_⟩;refine seqE ⟨_,⟨qd7 (pcN GC hr3 hC FC.kp bC (qa0 (pv 3) (qa0 (pv 1) (qa0 (pv 2) qa1))))⟩,?_⟩;refine qg5 ⟨_,⟨qa9 (qy7 nSL (qa3 q09) rfl rfl rfl scSL.nd (qj1 (pcN GL hr hL FL.kp bL (qa0 (pv 0) qa1)))
   (λcl C fp s₀ H₀=>PEb.go ⟨qe1 (Ars2.go (.cons ⟨pv 0⟩ (.cons ⟨pv 1⟩ (.cons ⟨pcN GF jG hF FF.kp bF (Ars2.go (.cons ⟨pv 3⟩ (.cons ⟨pv 4⟩ (.cons ⟨pcN GB hr4 hB FB.kp bB (qa0 (pv 5) (qa0 (pv 0) qa1))⟩ .nil rfl) rfl) rfl))⟩ .nil rfl) rfl) rfl))⟩))⟩,?_⟩
  refine⟨_,rfl,t,n,tp,rows,rfl,hS,λH1 s1=>?_⟩;have wO:=qh3 hS s1;obtain⟨⟨rp,ht,hR⟩,cn,hrl⟩:=id wO;refine⟨_,rfl,t,_,0,.int (n:Nat),rfl,rfl,SqT.of ht,rfl,?_⟩;refine⟨_,rfl,_,rfl,_,rfl,n,r,c,rfl,cn.size,wD,wN,?_⟩;refine⟨_,rfl,t,n,tp,rows,rfl,wO,hm,λH2 lp s2 _ hlv=>?_⟩;obtain⟨bs,kY,vC,w4⟩:=hlv;have had:=qy0 n (T rows tp);refine⟨lp,rfl,⟨_,SqL.of kY⟩,λD hD=>qm2 hD (λ_=>true) (λi y H3=>∃e,(lvT (T rows tp))[i]?=some e/\SeenAt H3 n r c y e) (qg9 (K:=K) kY) ?_ ?_ ?_ ?_⟩
  ·rw[Zf,vC,qk3];exact qj9 (by lia)
  ·rintro i y H3 H4 tp4 ⟨e,h1,h2⟩;exact⟨e,h1,h2.tups tp4⟩
  ·intro i x H3 hi hx s3 os ho Q1 Q2 _ q2;rw[Zg] at hx;obtain⟨b,hb,rfl⟩:=Zj.mp hx;have hil:i<(lvT (T rows tp)).length:=by rw[<- vC];exact (gS_ hb).1
   have he:(lvT (T rows tp))[i]?=some (lvT (T rows tp))[i]:=Zd hil;have jH:=Yr hil;generalize (lvT (T rows tp))[i]=e at he jH;obtain⟨h4,yI⟩:=had e (qk2 cn) jH;have kM:=s3 _ _ (w4 i b e hb he);obtain⟨o1,o2,rfl⟩:=L2.os2 ho
   ·
    refine⟨b,_,rfl,SqT.of kM,rfl,_,_,rfl,_,_,rfl,rfl,?_⟩;refine⟨_,rfl,_,rfl,_,rfl,_,rfl,_,rfl,_,rfl,n,e.1,rfl,cn.size,h4,yI,λH5 pb s5 hpb=>?_⟩;refine⟨pb,r,c,rwo n e.1,clo n e.1,2^(n-e.1.length),rfl,hpb,λH6 p1 q1 s6 kB hq1=>?_⟩;refine⟨(by show 3<=sizeLine;decide),λk hk=>q2 rfl _ _ ((s5.trans s6).trans (qb2 hk)) ⟨e,he,k,p1,q1,rfl,qa4,qc9 kB hk,qc9 hq1 hk⟩⟩
  ·intro ys H3 s3 hD3 j9 hrel;have ef:(List.range (bs.map V.ref).length).filter (λ_=>true)=List.range (bs.map V.ref).length:=XT.mpr λ_ _=>rfl;rw[ef] at j9 hrel;have y8:ys.length=(lvT (T rows tp)).length:=by rw[j9,YA,Zf,vC]
   refine q H3 D ((s1.trans s2).trans s3) ⟨ys,hD3,y8,λi y e e1 e2=>?_⟩;have hi:i<(bs.map V.ref).length:=by
    have:=(gS_ e1).1;rw[j9,YA] at this;exact this
   obtain⟨e',h1,h2⟩:=hrel i y i e1 (Xm hi);rw[e2] at h1;cases h1;exact h2
end
end Pr
namespace L2
open PySem PyProof.Rows
def k3 {P:Program}{w:World}:OKind P w:=tpO [atO false,tpO [atO false,atO false] 0 (by simp[atO])] 1 (by simp[atO,tpO])
theorem xw2 {P:Program}{w:World}:(k3 (P:=P) (w:=w)).lvl<=20:=by show 2<=20;decide
theorem xo5 {P:Program}{w:World}{H:Hp}{p q:Addr}{x y z:Int}(h1:H p=some (.tup [.int x,.ref q])) (h2:H q=some (.tup [.int y,.int z])):isL (P:=P) (w:=w) k3 H (.ref p) (Qf.key3 x y z):=
 q60 h1 (.cons (qK3 x) (.cons (q60 h2 (.cons (qK3 y) (.cons (qK3 z) .nil))) .nil))
end L2
namespace Qf
theorem qG3 {α β:Type}(L:List α) (f:α->β) (yes:α->Bool) (y:Nat->Bool) (v:Nat->β) (h1:∀i e,L[i]?=some e->y i=yes e) (h2:∀i e,L[i]?=some e->v i=f e):((List.range L.length).filter y).map v=(L.filter yes).map f:=by
 induction L generalizing y v with
 |nil=>rfl
 |cons a L ih=>
  rw[ZV,WV,YV,YV,h1 0 a rfl];have e:(((List.range L.length).map Nat.succ).filter y).map v=(L.filter yes).map f:=by
   rw[List.filter_map,Z3];exact ih _ _ (λi e h=>h1 (i+1) e h) (λi e h=>h2 (i+1) e h)
  by_cases hy:yes a=true
  ·rw[Zt hy,Zt hy,ZE,ZE,e,h2 0 a rfl]
  ·rw[Zl hy,Zl hy,e]
end Qf
namespace L2
open PySem PySem.Spec PyProof.Rows PySem.W
section
variable {X:Cx}
def least (ns:List Int):Nat->Int
 |0=>ns.getD 0 0
 |k+1=>if ns.getD (k+1) 0<least ns k then ns.getD (k+1) 0 else least ns k
theorem qG4 (ns:List Int):∀k,ns.getD (argBest (λi j=>decide (ns.getD i 0<ns.getD j 0)) k) 0=least ns k/\argBest (λi j=>decide (ns.getD i 0<ns.getD j 0)) k<=k
 |0=>⟨rfl,Ze _⟩
 |k+1=>by
  obtain⟨h1,h2⟩:=qG4 ns k;unfold argBest least;rw[<- h1];by_cases hc:ns.getD (k+1) 0<ns.getD (argBest (λi j=>decide (ns.getD i 0<ns.getD j 0)) k) 0
  ·rw[Zt (Zv hc),Zt hc];exact⟨rfl,Ze _⟩
  ·rw[Zl (by simpa using hc),Zl hc];exact⟨rfl,VR h2⟩
theorem q62 (a b c d:Value):argsOk "min" ⟨[a,b,c,d],[]⟩:=by unfold argsOk;kernel_rfl
theorem q63 (hc:X.calm=true):qe3 X (.builtin "min") (λxs H Q=>∃(a b c d:Int),xs=[.int a,.int b,.int c,.int d]/\Q (.int (least [a,b,c,d] 3)) H):=by
 intro j8 s σ H xs us Q I r h;obtain⟨a,b,c,d,rfl,q⟩:=h;have rv:=r;have j9:us.length=4:=rv.length.symm;obtain⟨u1,u2,u3,u4,rfl⟩:=L2.os4 j9
 ·
  have jM:(toString "min" ++ toString ".loop" : String) = "min.loop":=by decide
  refine call_function_tree PySem.F.kind_min PySem.F.plain_min PySem.F.entry_min (q62 _ _ _ _) ?_;show wpAny _ X.A.in1 (Builtin.Builtins.bindParams "min" ["key", "default"] 0 ⟨[],[]⟩ >>= _) _ _ s;refine Za (Wj (show Builtin.Builtins.bindParams "min" ["key", "default"] 0 ⟨[],[]⟩=pure [none,none] from rfl) ?_);show wpAny _ X.A.in1 (newTuple [u1,u2,u3,u4] >>= _) _ _ s;refine Za (ZJ ?_);have hT:(s.heap.push { cls:=.type "tuple",data:=.seq #[u1,u2,u3,u4] }).IsTuple s.heap.objs.size #[u1,u2,u3,u4]:=⟨_,Zh _ rfl,rfl,0,rfl⟩;have hsz:(s.heap.push { cls:=.type "tuple",data:=.seq #[u1,u2,u3,u4] }).objs.size=s.heap.objs.size+1:=ZS ..;have item:∀(i:Nat) (v:Value),(#[u1,u2,u3,u4]:Array Value)[i]?=some v->∃t,v=.int ([a,b,c,d].getD i 0) t:=λi v hv=>by
   have hv':[u1,u2,u3,u4][i]?=some v:=by simpa using hv
   have hi:i<4:=(gS_ hv').1;obtain⟨w',e1,t,e2⟩:=rv.get (x:=V.int ([a,b,c,d].getD i 0)) (i:=i) (by
    match i,hi with
    |0,_|1,_|2,_|3,_=>rfl)
   rw[hv'] at e1;cases e1;exact⟨t,e2⟩
  refine Za (Yp (Xu hT (Q:=λit s₂=>it=.ref (s.heap.objs.size+1)/\s₂=_) ⟨by rw[hsz],rfl⟩) (λit s₂ h₂=>?_) λ_ _ e=>e);obtain⟨rfl,rfl⟩:=h₂;have W:=Walks.tuple (prog:=X.prog) (w:=X.w) (A:=X.A.in1) (I.ok.hd hc) (s.heap.objs.size+1) s.heap.objs.size (Zp (Yq _)) #[u1,u2,u3,u4];refine Za (ZJ ?_);rw[jM];refine Zc ⟨Yw Yu _,codeAny_min_loop_first W (λi j=>decide ([a,b,c,d].getD i 0<[a,b,c,d].getD j 0)) ?_ _ ?_ (by show 0<4;decide) ?_ (Zh _ rfl) λv h' tk hP hk=>?_⟩
  ·intro i j vi vj s' Q' E' hi hj hq;obtain⟨t,rfl⟩:=item i vi hi;obtain⟨t',rfl⟩:=item j vj hj;exact lt_int hq
  ·intro hm;simp only[ZS] at hm;have:s.heap.objs.size+1+1=s.heap.objs.size+1\/s.heap.objs.size+1+1=s.heap.objs.size:=by simpa using hm
   lia
  ·refine W.frame _ _ _ ?_ λb _ o e=>Zb _ e;refine⟨⟨{ cls:=.type "tuple_iterator",data:=.fields #[.ref s.heap.objs.size,.int 0 0] },?_,rfl,rfl⟩,hT.push _⟩;rw[<- hsz];exact Zh _ rfl
  ·obtain⟨t,rfl⟩:=item _ v hP;have eb:=(qG4 [a,b,c,d] 3).1;refine⟨.int _,H,I.kept (h':=h') (t':=tk) (λb' o e'=>hk b' o (λz=>?_) (λz=>?_) (Zb _ (Zb _ (Zb _ e')))),⟨t,rfl⟩,?_⟩
   ·have h1:b'=s.heap.objs.size+1:=by simpa using z
    rw[h1] at e';exact absurd (Zi e') (Uh.mpr (Xq _))
   ·have h1:b'=s.heap.objs.size+1+1:=by rw[z];simp only[ZS]
    rw[h1] at e';exact absurd (Zi e') (Uh.mpr (ZG (Xq _) (Xq _)))
   ·show Q (.int ([a,b,c,d].getD (argBest (λi j=>decide ([a,b,c,d].getD i 0<[a,b,c,d].getD j 0)) 3) 0)) H;rw[eb];exact q
theorem qP3 (a b c d:Int):least [a,b,c,d] 3<=a/\least [a,b,c,d] 3<=b/\least [a,b,c,d] 3<=c/\least [a,b,c,d] 3<=d/\(least [a,b,c,d] 3=a\/least [a,b,c,d] 3=b\/least [a,b,c,d] 3=c\/least [a,b,c,d] 3=d):=by
 simp only[least,List.getD_cons_zero,List.getD_cons_succ];split<;>split<;>split<;>lia
end
end L2
namespace PyProof.Rows
open PySem
section
variable {prog:Program}{w:World}{A:Around}{E:Value->Shared->Prop}{s:Shared}
theorem qS7 (a d:Value):argsOk "min" ⟨[a],[("default",d)]⟩:=by unfold argsOk;kernel_rfl
theorem qm3 {id:String}{b:Builtin}{args:List Value}{kw:List (Str×Value)}{Q:Value->Shared->Prop}(hk:builtinKind id=none) (hp:plainId id=true)
  (hb:entryFor table id=some b) (ha:argsOk id ⟨args,kw⟩)
  (hc:wpAny (model prog w) A.in1 (b ⟨args,kw⟩) (λfin s'=>match fin with
   |.done f=>(match (Except.ok f:Result) with|.ok (.ret v)=>Q v s'|.ok _=>False|.error e=>E e s')
   |.again c'=>c'.quiet=true/\codeAny (model prog w) A c' (λr s'=>match r with|.ok (.ret v)=>Q v s'|.ok _=>False|.error e=>E e s') s') E s) :
  wpAny (model prog w) A (call (.builtin id) args kw) Q E s:=by
 refine wpAny_call (XG hp hb ?_);simp only[checkBuiltinCall,hk];cases hsig:Manifest.signature? id with
 |none=>exact Zc hc
 |some sig=>
  simp only[argsOk,hsig] at ha;have h2:Bind.checkArgs id sig ⟨args,kw⟩=pure ():=ha;show wpAny _ A.in1 (Bind.checkArgs id sig ⟨args,kw⟩) _ _ s;rw[h2];exact Zc hc
section
variable {R:Result->Shared->Prop}{I:Addr}{fp wr:List Addr}{G:Array GenState->Array GenState->Prop}{n:Nat}{P:Nat->Value->Prop}{St:Nat->Shared->Prop}
theorem qK5 {kw:List (Str×Value)}(W:WalksS prog w A.in1 I fp wr G n P St) (S:Addr) (jW:S∉fp) (bt:Nat->Nat->Bool) (h0:Heap)
  (hcmp:∀i j vi vj (s':Shared) (Q':Value->Shared->Prop) (E':Value->Shared->Prop),(∀b o,b∉S::wr->h0.get? b=some o->s'.heap.get? b=some o)->P i vi->P j vj->Q' (.bool (bt i j)) s'->wpAny (model prog w) A.in1 (richCompare .Lt vi vj) Q' E' s') :
  ∀(k j:Nat) (s:Shared) (vb:Value) (c:Nat),n-(j+1)=k->j+1<=n->St (j+1) s->P (argBest bt j) vb->s.heap.get? S=some (seqObj "list" #[vb,vb] c) ->
   (∀b o,b∉S::wr->h0.get? b=some o->s.heap.get? b=some o)->(∀v s',P (argBest bt (n-1)) v->Moved (S::wr) G s s'->R (.ok (.ret v)) s')->codeAny (model prog w) A (.builtin "min.loop" ⟨[.ref I,.none,.ref S],kw⟩) R s
 |0,j,s,vb,c,hk,hj,jP,hPb,hS,kp,hR=>by
  have w5:S∉wr:=λh=>jW (W.sub _ h);have jO:∀b∈wr,b∈S::wr:=λb hb=>Zk _ hb;have jM:(toString "min" ++ toString ".loop" : String) = "min.loop":=by decide
  have other:∀{h:Heap}{f:Obj->Obj}{b:Addr}{o:Obj},b∉S::wr->h.get? b=some o->(h.update S f).get? b=some o:=λhb e=>(Zs _ _ (λz=>hb (by rw[z];exact ZB))).trans e;have inFp:∀{h:Heap}{f:Obj->Obj}{b:Addr}{o:Obj},b∈fp->h.get? b=some o->(h.update S f).get? b=some o:=λhb e=>(Zs _ _ (λz=>jW (by rw[z];exact hb))).trans e;refine Z8 WZ ?_;rw[ZW Yu _];show wpAny _ A.in1 (seqItems? (.ref S) >>= _) _ _ s;refine Za (Xv hS rfl ?_);show wpAny _ A.in1 (tryCatch (pyNext (.ref I)) _ >>= _) _ _ s;have jT:j+1=n:=by lia
  refine Za (W0 (W.done s _ _ (jT▸jP) λs' hm=>?_));have hS':=hm.heap S _ w5 hS;show wpAny _ A.in1 (updateSeq S (λ_=>#[]) >>= _) _ _ _;refine Za (WD hS' rfl (Za (Ve (Zc ?_))));exact hR vb _ (by rw[<- jT];exact hPb) ((hm.mono jO).then_heap (tk:=s'.toks) (Ze _) λb o hb e=>other hb e)
 |k+1,j,s,vb,c,hk,hj,jP,hPb,hS,kp,hR=>by
  have w5:S∉wr:=λh=>jW (W.sub _ h);have jO:∀b∈wr,b∈S::wr:=λb hb=>Zk _ hb;have jM:(toString "min" ++ toString ".loop" : String) = "min.loop":=by decide
  have other:∀{h:Heap}{f:Obj->Obj}{b:Addr}{o:Obj},b∉S::wr->h.get? b=some o->(h.update S f).get? b=some o:=λhb e=>(Zs _ _ (λz=>hb (by rw[z];exact ZB))).trans e;have inFp:∀{h:Heap}{f:Obj->Obj}{b:Addr}{o:Obj},b∈fp->h.get? b=some o->(h.update S f).get? b=some o:=λhb e=>(Zs _ _ (λz=>jW (by rw[z];exact hb))).trans e;refine Z8 WZ ?_;rw[ZW Yu _];show wpAny _ A.in1 (seqItems? (.ref S) >>= _) _ _ s;refine Za (Xv hS rfl ?_);show wpAny _ A.in1 (tryCatch (pyNext (.ref I)) _ >>= _) _ _ s;have jB:j+1<n:=by lia
  refine Za (W0 (W.item (j+1) s _ _ jB jP λv s' hP hst' hm=>?_));have hS':=hm.heap S _ w5 hS;have kp':∀b o,b∉S::wr->h0.get? b=some o->s'.heap.get? b=some o:=λb o hb e=>hm.heap b o (λz=>hb (jO b z)) (kp b o hb e);show wpAny _ A.in1 (tryCatch (holding [v,v] (richCompare .Lt v vb >>= _)) _ >>= _) _ _ _;refine Za (W0 (ZX (Za (hcmp (j+1) (argBest bt j) v vb _ _ _ kp' hP hPb ?_))));refine Za (ZX (Ym (Za (Ve (Zc ?_)))));cases hb:bt (j+1) (argBest bt j) with
  |true=>
   rw[Zt rfl];refine Za (WD hS' rfl (Za (Ve ?_)));rw[jM];refine Zc ⟨Yw Yu _,qK5 W S jW bt h0 hcmp k (j+1) _ v _ (by lia) jB (W.frame _ s' _ s'.toks hst' (Ze _) λb hbf o e=>inFp hbf e) (by unfold argBest;rw[Zt hb];exact hP) (ZQ _ hS' rfl)
    (λb o hb' e=>other hb' (kp' b o hb' e)) λv' s'' hP' hm''=>hR v' s'' hP' (VQ W.gtrans ((hm.mono jO).then_heap (Ze _) λb o hb' e=>other hb' e) hm'')⟩
  |false=>
   rw[Zl Zq];refine Za (Ve ?_);rw[jM];exact Zc ⟨Yw Yu _,qK5 W S jW bt h0 hcmp k (j+1) _ vb _ (by lia) jB hst' (by unfold argBest;rw[Zl (by rw[hb];exact Zq)];exact hPb) hS'
    kp' λv' s'' hP' hm''=>hR v' s'' hP' (VQ W.gtrans (hm.mono jO) hm'')⟩
end
theorem xw3 {x d:Value}{Q:Value->Shared->Prop}
  (h:wpAny (model prog w) A.in1 (pyIter x) (λit s₂=>∃I fp wr G n P St bt,it=.ref I/\WalksS prog w A.in1 I fp wr G n P St/\St 0 s₂/\(∀b∈fp,b<s₂.heap.objs.size) /\
   (∀i j vi vj (s':Shared) (Q':Value->Shared->Prop) (E':Value->Shared->Prop),(∀b o,b∉wr->s₂.heap.get? b=some o->s'.heap.get? b=some o)->P i vi->P j vj->Q' (.bool (bt i j)) s'->wpAny (model prog w) A.in1 (richCompare .Lt vi vj) Q' E' s') /\
   (n=0->∀s',Moved wr G s₂ s'->Q d s')/\(0<n->∀v s',P (argBest bt (n-1)) v->Moved wr G s₂ s'->Q v s')) E s) :
  wpAny (model prog w) A (call (.builtin "min") [x] [("default",d)]) Q E s:=by
 have jM:(toString "min" ++ toString ".loop" : String) = "min.loop":=by decide
 refine qm3 PySem.F.kind_min PySem.F.plain_min PySem.F.entry_min (qS7 _ _) ?_;show wpAny _ A.in1 (Builtin.Builtins.bindParams "min" ["key", "default"] 0 ⟨[],[("default",d)]⟩ >>= _) _ _ s;refine Za (Wj (show Builtin.Builtins.bindParams "min" ["key", "default"] 0 ⟨[],[("default",d)]⟩=pure [none,some d] from rfl) (Za (Zc (Za (Yp h (λit s₂ h₂=>?_) λ_ _ e=>e)))));obtain⟨I,fp,wr,G,n,P,St,bt,rfl,W,jP,wU,hcmp,hQ0,hQ⟩:=h₂;refine Za (ZJ ?_);have jW:s₂.heap.objs.size∉fp:=λhm=>Yk _ (wU _ hm);have w5:s₂.heap.objs.size∉wr:=λh=>jW (W.sub _ h);have jO:∀b∈wr,b∈s₂.heap.objs.size::wr:=λb hb=>Zk _ hb;have hS:(s₂.heap.push (seqObj "list" #[] 0)).get? s₂.heap.objs.size=some (seqObj "list" #[] 0):=Zh _ rfl;have nS:∀{b:Addr}{o:Obj},s₂.heap.get? b=some o->b≠s₂.heap.objs.size:=λe=>Zp (Zi e);rw[jM];refine Zc ⟨Yw Yu _,Z8 WZ ?_⟩;rw[ZW Yu _];show wpAny _ A.in1 (seqItems? (.ref s₂.heap.objs.size) >>= _) _ _ _;refine Za (Xv hS rfl ?_);show wpAny _ A.in1 (tryCatch (pyNext (.ref I)) _ >>= _) _ _ _;by_cases hn:0<n
 case neg=>
  have h0:n=0:=by lia
  refine Za (W0 (W.done _ _ _ (by rw[h0];exact W.frame 0 s₂ _ s₂.toks jP (Ze _) λb _ o e=>Zb _ e) λs' hm=>?_));show wpAny _ A.in1 (rule _ >>= _) _ _ _;refine Za (Y6 (Zc ?_));refine hQ0 h0 s' (Moved.drop_new (tk:=s₂.toks) (o:=seqObj "list" #[] 0) (hm.mono jO) (Ze _))
 refine Za (W0 (W.item 0 _ _ _ hn (W.frame 0 s₂ _ s₂.toks jP (Ze _) λb _ o e=>Zb _ e) λv s' hP hst' hm=>?_));have hS':=hm.heap _ _ w5 hS;have notIn:∀{b:Addr}{o:Obj},b∉wr->s₂.heap.get? b=some o->b∉s₂.heap.objs.size::wr:=λhb e z=>by
  rcases Zn.mp z with e1|z
  ·exact nS e e1
  ·exact hb z
 show wpAny _ A.in1 (updateSeq s₂.heap.objs.size (λ_=>#[v,v]) >>= _) _ _ _;refine Za (WD hS' rfl ?_);rw[jM];refine Zc ⟨Yw Yu _,qK5 W s₂.heap.objs.size jW bt s₂.heap (λi j vi vj s3 Q' E' kp p1 p2 q'=>hcmp i j vi vj s3 Q' E' (λb o hb e=>kp b o (notIn hb e) e) p1 p2 q') _ 0 _ v _ rfl hn (W.frame _ s' _ s'.toks hst' (Ze _) λb hbf o e=>?_) hP (ZQ _ hS' rfl) (λb o hb e=>?_) λv' s'' hP' hm''=>?_⟩
 ·exact (Zs _ _ (λh=>jW (by rw[h];exact hbf))).trans e
 ·exact (Zs _ _ (λh=>nS e h.symm)).trans (hm.heap b o (λz=>hb (jO b z)) (Zb _ e))
 ·refine hQ hn v' s'' hP' (Moved.drop_new (tk:=s₂.toks) (o:=seqObj "list" #[] 0) (VQ W.gtrans ((hm.mono jO).then_heap (Ze _) λb o hb e=>?_) hm'') (Ze _));exact (Zs _ _ (λh=>hb (by rw[<- h];exact ZB))).trans e
end
end PyProof.Rows
namespace L2
open PySem PyProof.Rows
section
variable {X:Cx}
def xw4 (X:Cx) (f:Value) (k:Str) (r:List V->V->Hp->VK->Prop):Prop:=
 ∀(j8:List (Addr×Obj)) (s:Shared) (σ:St) (H:Hp) (xs:List V) (us:List Value) (y:V) (d:Value) (Q:VK),Inv X j8 σ H s->Vals xs us->RelV y d->r xs y H Q ->
  wpAny (model X.prog X.w) X.A (call f us [(k,d)]) (EP X j8 σ Q) X.xe s
def tCK (r:List V->V->Hp->VK->Prop) (t:TA) (tv:TE):TE:=λσ H Q=>t σ H λvs H1=>tv σ H1 λy H2=>r vs y H2 Q
theorem q64 {id:String}{x k:Str}{p kp pos:Pos}{e ev:Expr}{es:List Expr}{r:List V->V->Hp->VK->Prop}{t:TA}{tv:TE}(hc:xw4 X (.builtin id) k r) (hg:Gl X x) (hm:X.mg x=none) (hv:bootBuiltins x=some (.builtin id)) (ha:PA X (e::es) t) (hk:PE X ev tv) (hn:x ≠ "__name__":=by decide) (kJ:(x==("__debug__" : Str))=false:=by decide)
  (he:backTo pos (starEach (e::es) X.env)=(false,eval e X.env)::backTo pos (starEach es X.env):=by rfl) (jJ:(backTo pos (starEach (e::es) X.env)).any (·.1)=false:=by rfl):PE X (.Call (.Name x p) (e::es) [⟨some k,ev,kp⟩] pos) (tCK r t tv):=by
 intro j8 s σ H Q I h;refine WG (qs8 I hg hm hv ?_ hn kJ);refine callWith_kw (thn (ha pos j8 s σ H _ I h) λus s1 ⟨vs,H1,I1,r1,q1⟩=>?_) he jJ;refine kws_cons (thn (hk j8 s1 σ H1 _ I1 q1) λd s2 ⟨y,H2,I2,r2,q2⟩=>?_);exact kws_nil (hc j8 s2 σ H2 vs us y d Q I2 r1 r2 q2)
open Classical in
theorem qS8 (hc:X.calm=true){κ:OKind X.prog X.w}{k:Nat}(hr:Room k X.A) (hk:κ.lvl<=20):xw4 X (.builtin "min") "default" (λxs y H Q=>∃(p:Addr) (vs:List V),xs=[.ref p]/\H p=some (.lst vs)/\(∀v∈vs,∃l,isL κ H v l) /\
  ∀v,(vs=[]/\v=y\/v∈vs/\∀u∈vs,∀l m,isL κ H v l->isL κ H u m->¬m<l)->Q v H):=by
 intro j8 s σ H xs us y d Q I r ry h;obtain⟨p,vs,rfl,hp,ht,q⟩:=h;obtain⟨u,rfl,rx⟩:=qg0 r;cases rx;obtain⟨z,its,n,rv,hl⟩:=I.hok p _ hp;have isl:s.heap.IsList p its.toArray:=⟨_,hl,rfl,_,rfl⟩;have j9:its.length=vs.length:=rv.length.symm;have np:p≠s.heap.objs.size:=Zp (Zi hl);have es:its.toArray.size=vs.length:=by simpa using j9
 let key:Nat->List (List Int):=λi=>if e:∃l,isL κ H (vs.getD i .non) l then e.choose else []
 have item:∀(i:Nat) (v:Value),its.toArray[i]?=some v->∃x,vs[i]?=some x/\RelV x v/\isL κ H x (key i):=λi v hv=>by
  have hv':its[i]?=some v:=by simpa using hv
  have hi:i<vs.length:=by rw[<- j9];exact (gS_ hv').1
  obtain⟨w',e1,e2⟩:=rv.get (x:=vs[i]) (i:=i) (by simp[hi]);rw[hv'] at e1;cases e1;have eg:vs.getD i .non=vs[i]:=by simp[List.getD,hi]
  have ex:∃l,isL κ H (vs.getD i .non) l:=by rw[eg];exact ht _ (Yr hi)
  refine⟨vs[i],by simp[hi],e2,?_⟩;show isL κ H vs[i] (if e:∃l,isL κ H (vs.getD i .non) l then e.choose else []);rw[dif_pos ex];have key:∀v,v=vs.getD i .non->isL κ H v ex.choose:=λv e=>by subst e;exact ex.choose_spec
  exact key _ eg.symm
 refine xw3 (Xf isl ?_);refine⟨s.heap.objs.size,_,_,_,_,_,_,λi j=>decide (key i<key j),rfl,(VD (A:=X.A.in1) (I.ok.hd hc) s.heap.objs.size p np its.toArray).toS,⟨⟨_,Zh _ rfl,rfl,rfl⟩,isl.at λo e=>Zb _ e⟩,?_,?_,?_,?_⟩
 ·intro b hb;rw[ZS];rcases Zn.mp hb with rfl|hb
  ·exact Yq _
  ·have:b=p:=by simpa using hb
   subst this;exact ZZ (Zi hl)
 ·intro i j vi vj s' Q' E' kp hi hj hq;obtain⟨x,e1,e2,e3⟩:=item i vi hi;obtain⟨y,f1,f2,f3⟩:=item j vj hj;have k3:∀b o,s.heap.get? b=some o->o.cls=.type "tuple" -> s'.heap.get? b=some o:=λb o e _=>by
   refine kp b o (λz=>?_) (Zb _ e);have:b=s.heap.objs.size:=by simpa using z
   rw[this] at e;exact Yk _ (Zi e)
  have un:=hr.units;exact κ.lt (by show X.A.units+1+κ.lvl<cLine;lia) (κ.keep k3 (e3 _ _ I.hok e2)) (κ.keep k3 (f3 _ _ I.hok f2)) hq
 ·intro h0 s' mv;rw[es] at h0;refine⟨y,H,qn0 I mv (λb o e hb=>?_),ry,q y (.inl ⟨List.eq_nil_of_length_eq_zero h0,rfl⟩)⟩;have:b=s.heap.objs.size:=by simpa using hb
  exact Yk _ (by rw[this] at e;exact Zi e)
 ·intro pos v s' hv mv;rw[es] at hv pos;obtain⟨x,e1,e2,e3⟩:=item _ v hv;refine⟨x,H,qn0 I mv (λb o e hb=>?_),e2,q x (.inr ⟨Zz e1,λu hu' l m hl' hm'=>?_⟩)⟩
  ·have:b=s.heap.objs.size:=by simpa using hb
   exact Yk _ (by rw[this] at e;exact Zi e)
  ·obtain⟨j,hj,ej⟩:=ZD.mp hu';have hji:j<its.length:=by lia
   obtain⟨y,f1,f2,f3⟩:=item j its[j] (by simp[hji]);have:y=u:=by rw[Zd hj] at f1;rw[<- ZM f1,ej]
   subst this;rw[κ.uniq (hl' _ _ I.hok e2) (e3 _ _ I.hok e2),κ.uniq (hm' _ _ I.hok f2) (f3 _ _ I.hok f2)];exact q58 key _ j (by lia)
end
end L2
namespace L2
open PySem PySem.Spec PyProof.Rows
theorem Fun.ok1 {P:Program}{w:World}{K:PySem.W.Frag}{mg:Str->Option Value}{base:Heap}{x qual:Str}{st:Stmt}{f:Addr}{fd:FuncData}{N ps:List Str}{k:Nat}{sp:Sp}(F:Fun K x qual st f fd) (S:FnScope N ps (qa3 st)) (len:∀vs H Q E,sp vs H Q E->vs.length=ps.length)
  (hbody:∀(cdv:Value) (A:Around) (outer:List Env) (s:Shared) (H:Hp) (vs:List V) (Q:VK) (E:XK),Room k (A.deeper (envOfC qual (qa3 st) s.heap.objs.size f cdv))->sp vs H Q E ->
   ∃t,PSs (cxOf (CX1 P w) P w K mg base N qual (qa3 st) f cdv A outer s H E) (qf5 st) t/\t { nx:=λ_ H'=>Q .non H',rt:=Q } (start N vs) H):FnOk P w K mg base (CX1 P w) (k+1) f fd ps sp:=by
 obtain⟨oc,od,kV,doc,pm,an,cdv,ct,osl,rfl,lk,kU⟩:=F.ex;exact xs2 lk kU S len λA outer s H vs Q E hr vE=>hbody cdv A outer s H vs Q E hr vE
end L2
namespace Qf
def edge (n r c:Nat):Int:=1+L2.least [(r:Int),(c:Int),((2^n:Nat):Int)-1-r,((2^n:Nat):Int)-1-c] 3
def ql5 (n r c:Nat) (L:List (List Nat×Bool)) (far:Int):List (List Nat):=(L.filter λe=>decide (lfF n r c e.1<far)).map (·.1)
def qe9 (n r c:Nat) (e:List Nat×Bool):Bool:=!e.2&&decide (lfF n r c e.1<=edge n r c)
end Qf
namespace Pr
open PySem L2 Qf
structure Nfl (K:PySem.W.Frag) (mg:Str->Option Value) (C:Addr):Prop where
 at_:mg "NotFull" = some (.ref C)
 ex:PySem.W.excIn K C bmV "ValueError.__new__" = true
section
variable {P:Program}{w:World}{K:PySem.W.Frag}{mg:Str->Option Value}{base:Heap}
abbrev nIn:List Str:=["shape", "row", "column", "leaves", "last", "to_the_edge", "empty_ones", "far", "cell"]
theorem scIn:FnScope nIn ["shape", "row", "column"] (qa3 qp1):=qc5
def spIn (C:Addr):Sp:=λvs H Q E=>∃(t:Addr) (n tp r c:Nat) (rows:List Row),vs=[.ref t,.int (r:Nat),.int (c:Nat)]/\qc6 H t n tp rows/\nlf (T rows tp)<=2000/\r<2^n/\c<2^n /\
 ((∀e∈lvT (T rows tp),qe9 n r c e=false)->∀H' p l,Same H H'->H l=none->H' p=some (.tup [.int (edge n r c-1),.non,.ref l])->H' l=some (.lst (vT (ql5 n r c (lvT (T rows tp)) (edge n r c))))->Q (.ref p) H') /\
 ∀e0,e0∈lvT (T rows tp)->qe9 n r c e0=true->(∀e∈lvT (T rows tp),qe9 n r c e=true->¬kF n r c e.1<kF n r c e0.1) ->
  (lfF n r c e0.1=0->∀H',Same H H'->E (.ref C) none H') /\
  (lfF n r c e0.1≠0->∀H' p q l,Same H H'->H l=none->H' p=some (.tup [.int (lfF n r c e0.1-1),.ref q,.ref l])->H' q=some (.tup [.int (lfR n r c e0.1),.int (lfC n r c e0.1)]) ->
   H' l=some (.lst (vT (ql5 n r c (lvT (T rows tp)) (lfF n r c e0.1))))->Q (.ref p) H')
theorem xC6 {f fS fD C:Addr}{fd fdS fdD:FuncData}(F:Fun K "inside" "inside" qp1 f fd) (B:Blt mg) (EC:Nfl K mg C) (hD:mg "side_of" = some (.ref fD)) (FD:Fun K "side_of" "side_of" qR7 fD fdD) (bD:Binds K fdD ["n"] []) (hS:mg "seen_leaves" = some (.ref fS)) (FS:Fun K "seen_leaves" "seen_leaves" q09 fS fdS) (bS:Binds K fdS ["shape", "row", "column"] []) (GS:FnOk P w K mg base CX0 18 fS fdS ["shape", "row", "column"] spSL) :
  FnOk P w K mg base (CX1 P w) 19 f fd ["shape", "row", "column"] (spIn C):=by
 have GD:FnOk P w K mg base CX0 1 fD fdD ["n"] qO2:=qJ7 FD;refine F.ok1 scIn (λvs H Q E h=>?_) (λcdv A outer s H vs Q E hr h=>?_)
 ·obtain⟨t,n,tp,r,c,rows,rfl,_⟩:=h
  rfl
 ·obtain⟨t,n,tp,r,c,rows,rfl,hSh,hm,wD,wN,q0,q⟩:=h;have un:=hr.units;have jG:Room 1 _:=hr.mono (by decide);refine seqE ⟨_,⟨psN 3 scIn.nd (pcN GS hr hS FS.kp bS (qa0 (pv 0) (qa0 (pv 1) (qa0 (pv 2) qa1))))⟩,?_⟩;refine seqE ⟨_,⟨psN 4 scIn.nd (qa7 qc2 (PEb.go ⟨pcN GD jG hD FD.kp bD (Ars2.go (.cons ⟨pxN qc8 (pv 0) qa2⟩ .nil rfl))⟩) qa2)⟩,?_⟩;refine seqE ⟨_,⟨psN 5 scIn.nd (qa7 qd2 qa2 (PEb.go ⟨qa6 (q63 rfl) (by rfl) B.min Yi (Ars2.go (.cons ⟨pv 1⟩ (.cons ⟨pv 2⟩ (.cons ⟨qa7 qc2 (pv 4) (pv 1)⟩ (.cons ⟨qa7 qc2 (pv 4) (pv 2)⟩ .nil rfl) rfl) rfl) rfl))⟩))⟩,?_⟩;refine seqE ⟨_,⟨qS6 (i0:=6) nIn (qa3 qp1) rfl rfl rfl scIn.nd rfl rfl (qj1 (pv 3)) (λcl C fp s₀ H₀=>PW.pt (qU0 (qi9 (qf6 (pv 1))) (qI2 (qb7 qq9 (PEb.go ⟨pxN (ixT K rfl) (pv 2) qa2⟩) (pv 8) (qb4 _))))) (λcl C fp s₀ H₀=>pv 2)⟩,?_⟩;refine seqE ⟨_,⟨ql3 (q64 (qS8 rfl (κ:=k3) hr xw2) (by rfl) B.min Yi (qa0 (pv 6) qa1) (PEb.go ⟨qe1 (qa0 (pv 5) (qa0 qB5 qa1))⟩)) (qj0 rfl (qb6 (pgN 7 scIn.nd) (qb6 (pgN 8 scIn.nd) qf8)))⟩,?_⟩;refine seqE ⟨_,⟨qd8 (qb7 qw0 (pv 7) qa2 (qb4 _)) (qa8 (q95 (by rfl) EC.at_ EC.ex rfl xk6 (qa0 qw6 qa1))) qb8⟩,?_⟩;refine qg5 ⟨_,⟨qa9 (qe1 (Ars2.go (.cons ⟨qa7 qc2 (pv 7) qa2⟩ (.cons ⟨pv 8⟩ (.cons ⟨qS4 nIn (qa3 qp1) rfl rfl rfl scIn.nd (qj1 (pv 3)) (λcl C fp s₀ H₀=>qb7 qj3 (PEb.go ⟨pxN (ixT K rfl) (pv 2) qa2⟩) (pv 10) (qb4 _)) (λcl C fp s₀ H₀=>pv 0)⟩ .nil rfl) rfl) rfl)))⟩,?_⟩;obtain⟨⟨rp,ht,hR⟩,cn,hrl⟩:=id hSh;refine⟨_,rfl,_,rfl,_,rfl,t,n,tp,r,c,rows,rfl,hSh,hm,wD,wN,λH1 lp s1 hsn=>?_⟩;obtain⟨ys,kY,y8,hye⟩:=hsn;have ht1:=s1 _ _ ht;refine⟨_,rfl,t,_,0,.int (n:Nat),rfl,rfl,SqT.of ht1,rfl,n,rfl,cn.size,?_⟩;refine⟨_,_,rfl,rfl,?_⟩;refine⟨_,rfl,_,rfl,_,rfl,_,rfl,_,_,rfl,rfl,_,rfl,_,rfl,_,_,rfl,rfl,_,_,_,_,rfl,_,_,rfl,rfl,?_⟩;obtain⟨eg,heg⟩:∃z,z=edge n r c:=⟨_,rfl⟩;refine qq8 (σ':=[some (.ref t),some (.int (r:Nat)),some (.int (c:Nat)),some (.ref lp),some (.int (((2^n:Nat):Int)-1)),some (.int eg),none,none,none]) (by rw[heg];rfl) ?_;have epos:1<=eg:=by
   have h:=(qP3 (r:Int) (c:Int) (((2^n:Nat):Int)-1-r) (((2^n:Nat):Int)-1-c)).2.2.2.2;have e:eg=1+least [(r:Int),(c:Int),((2^n:Nat):Int)-1-r,((2^n:Nat):Int)-1-c] 3:=heg;lia
  have hL2:(lvT (T rows tp)).length<=2000:=by rw[qk3];exact hm
  generalize lvT (T rows tp)=L at *;have sh_:∀e,qe9 n r c e=(!e.2&&decide (lfF n r c e.1<=eg)):=λe=>by rw[heg];rfl
  have at_:∀i y,ys[i]?=some y->∃e,L[i]?=some e/\e∈L/\SeenAt H1 n r c y e:=λi y hy=>by
   have hi:i<L.length:=by rw[<- y8];exact (gS_ hy).1
   exact⟨L[i],Zd hi,Yr hi,hye i y _ hy (Zd hi)⟩
  refine⟨_,rfl,lp,rfl,⟨_,SqL.of kY⟩,λD hD=>qm2 hD (λi=>qe9 n r c (L.getD i ([],false))) (λi v H3=>∃e p q,L[i]?=some e/\v=.ref p/\H3 p=some (.tup [.int (lfF n r c e.1),.ref q])/\H3 q=some (.tup [.int (lfR n r c e.1),.int (lfC n r c e.1)])) (qg9 (K:=K) kY) (qj9 (by lia)) ?_ ?_ ?_⟩
  ·rintro i y H3 H4 t4 ⟨e,p,q,h1,h2,h3,h4⟩;exact⟨e,p,q,h1,h2,t4 _ _ h3,t4 _ _ h4⟩
  ·intro i x H3 hi hx s3 os ho Q1 Q2 q1 q2;obtain⟨e,he,_,b,p,q',rfl,hb,hp,hq⟩:=at_ i x hx
   have ee:L.getD i ([],false)=e:=by rw[Zw,he];rfl
   rw[ee] at q1 q2;obtain⟨o1,o2,o3,rfl⟩:=L2.os3 ho
   ·
    refine⟨b,_,rfl,SqT.of (s3 _ _ hb),rfl,_,_,rfl,_,_,rfl,_,_,rfl,rfl,?_⟩;refine⟨_,rfl,e.2,rfl,?_⟩;have k6:=s3 _ _ hp;refine ite2 (λhc=>?_) (λhc=>?_)
    ·have h2:e.2=false:=by simpa using hc
     refine⟨_,rfl,p,_,0,.int (lfF n r c e.1),rfl,rfl,SqT.of k6,rfl,_,rfl,_,_,rfl,rfl,_,rfl,?_⟩;refine ite2 (λhd=>?_) (λhd=>?_)
     ·exact⟨_,rfl,q2 (by rw[sh_,h2,hd];rfl) _ _ (Same.refl _) ⟨e,p,q',he,rfl,k6,s3 _ _ hq⟩⟩
     ·exact q1 (by rw[sh_,Z0.mpr hd,VA]) _ (Same.refl _)
    ·have h2:e.2=true:=by simpa using hc
     exact q1 (by rw[sh_,h2];rfl) _ (Same.refl _)
  ·intro zs H2 s2 vR hzl hzr;have full:∀(m:Nat) (v:V),zs[m]?=some v->∃e p q,e∈L/\qe9 n r c e=true/\v=.ref p/\H2 p=some (.tup [.int (lfF n r c e.1),.ref q])/\H2 q=some (.tup [.int (lfR n r c e.1),.int (lfC n r c e.1)]):=λm v hv=>by
    have vV:m<((List.range ys.length).filter λi=>qe9 n r c (L.getD i ([],false))).length:=by rw[<- hzl];exact (gS_ hv).1
    have hj:=Zd vV;have hjm:=Yr vV;generalize ((List.range ys.length).filter λi=>qe9 n r c (L.getD i ([],false)))[m]=j at hj hjm;obtain⟨e,p,q,h1,h2,h3,h4⟩:=hzr m v j hv hj;have kZ:=(YE.mp hjm).2;have ee:L.getD j ([],false)=e:=by rw[Zw,h1];rfl
    rw[ee] at kZ;exact⟨e,p,q,Zz h1,kZ,h2,h3,h4⟩
   have back:∀e∈L,qe9 n r c e=true->∃v p q,v∈zs/\v=.ref p/\H2 p=some (.tup [.int (lfF n r c e.1),.ref q])/\H2 q=some (.tup [.int (lfR n r c e.1),.int (lfC n r c e.1)]):=λe he h2=>by
    obtain⟨i,hi,rfl⟩:=ZD.mp he;have hji:i∈(List.range ys.length).filter λi=>qe9 n r c (L.getD i ([],false)):=YE.mpr ⟨Yb.mpr (by lia),by simpa [List.getD,hi] using h2⟩;obtain⟨m,vV,hme⟩:=ZD.mp hji;have hmz:m<zs.length:=by rw[hzl];exact vV
    obtain⟨e',p,q,h1,h3,h4,h5⟩:=hzr m zs[m] i (Zd hmz) (by rw[Zd vV,hme]);rw[Zd hi] at h1;cases h1;exact⟨zs[m],p,q,Yr hmz,h3,h4,h5⟩
   refine⟨_,rfl,_,rfl,(by show 2<=sizeLine;decide),λkd hkd=>⟨D,zs,rfl,qc9 vR hkd,λv hv=>?_,λv hv=>?_⟩⟩
   ·obtain⟨m,hm',rfl⟩:=ZD.mp hv;obtain⟨e,p,q',_,_,h3,h4,h5⟩:=full m _ (Zd hm');exact⟨_,by rw[h3];exact xo5 (qc9 h4 hkd) (qc9 h5 hkd)⟩
   have s3:Same H2 (upd H2 kd (.tup [.int eg,.non])):=qb2 hkd;have hk3:upd H2 kd (.tup [.int eg,.non]) kd=some (.tup [.int eg,.non]):=qa4;generalize upd H2 kd (.tup [.int eg,.non])=H3 at s3 hk3 hv ⊢;obtain⟨p0,far,cv,rfl,hp0,qE,qQ⟩:∃(p0:Addr) (far:Int) (cv:V),v=.ref p0/\H3 p0=some (.tup [.int far,cv])/\(far=0->∀H',Same H H'->E (.ref C) none H') /\
     (far≠0->∀H' p l,Same H3 H'->H l=none->H' p=some (.tup [.int (far-1),cv,.ref l])->H' l=some (.lst (vT (ql5 n r c L far)))->Q (.ref p) H'):=by
    rcases hv with ⟨hz,rfl⟩|⟨hv,kP⟩
    ·refine⟨kd,eg,.non,rfl,hk3,λh=>by lia,λ_ H' p l sf hl hp hl'=>?_⟩;subst heg;refine q0 (λe he=>?_) H' p l ((s1.trans s2).trans (s3.trans sf)) hl hp hl';cases h2:qe9 n r c e with
     |false=>rfl
     |true=>
      obtain⟨v,_,_,hv,_⟩:=back e he h2;rw[hz] at hv;cases hv
    ·obtain⟨m,hm',rfl⟩:=ZD.mp hv;obtain⟨e0,p,q',wL,hf0,h3,h4,h5⟩:=full m _ (Zd hm');have qq:=q e0 wL hf0 λe he h2=>by
      obtain⟨u,p',q2,hu,e1,e2,e3⟩:=back e he h2;exact kP u hu _ _ (by rw[h3];exact xo5 (s3 _ _ h4) (s3 _ _ h5)) (by rw[e1];exact xo5 (s3 _ _ e2) (s3 _ _ e3))
     exact⟨p,_,_,h3,s3 _ _ h4,qq.1,λh H' p l sf hl hp hl'=>qq.2 h H' p q' l ((s1.trans s2).trans (s3.trans sf)) hl hp (sf _ _ (s3 _ _ h5)) hl'⟩
   have s13:Same H1 H3:=s2.trans s3;refine⟨p0,_,rfl,SqT.of hp0,rfl,_,_,rfl,_,_,rfl,rfl,?_⟩;refine qq8 (σ':=[some (.ref t),some (.int (r:Nat)),some (.int (c:Nat)),some (.ref lp),some (.int (((2^n:Nat):Int)-1)),some (.int eg),some (.ref D),some (.int far),some cv]) rfl ?_;refine⟨_,rfl,rfl,_,rfl,?_⟩;refine ite2 (λh0=>?_) (λh0=>?_)
   ·exact⟨(by show 1<=sizeLine;decide),qE (by simpa using h0) H3 (s1.trans s13)⟩
   ·have hlp3:=s13 _ _ kY;refine⟨_,rfl,_,_,rfl,rfl,_,rfl,_,rfl,lp,rfl,⟨_,SqL.of hlp3⟩,λD2 hDn2=>qf2 hDn2 (λi=>decide (lfF n r c (L.getD i ([],false)).1<far)) (λi=>.str (txt (L.getD i ([],false)).1)) (qg9 (K:=K) hlp3) (qj9 (by lia)) ?_ ?_⟩
    ·intro i x H4 hi hx s4 os ho Q1 Q2 q1 q2;obtain⟨e,he,_,b,p3,q3,rfl,wZ,k6,hq3⟩:=at_ i x hx
     have ee:L.getD i ([],false)=e:=by rw[Zw,he];rfl
     rw[ee] at q1 q2;have s14:=s13.trans s4;obtain⟨o1,o2,o3,rfl⟩:=L2.os3 ho
     ·
      refine⟨b,_,rfl,SqT.of (s14 _ _ wZ),rfl,_,_,rfl,_,_,rfl,_,_,rfl,rfl,?_⟩;refine⟨_,rfl,p3,_,0,.int (lfF n r c e.1),rfl,rfl,SqT.of (s14 _ _ k6),rfl,_,rfl,_,_,rfl,rfl,_,rfl,?_⟩;refine ite2 (λhc=>?_) (λhc=>?_)
      ·exact⟨_,rfl,q2 hc _ (Same.refl _)⟩
      ·exact q1 (Z0.mpr hc) _ (Same.refl _)
    ·intro H4 s4 vD;have hDH:H D2=none:=by
      cases e:H D2 with
      |none=>rfl
      |some o=>rw[s13 _ _ (s1 _ _ e)] at hDn2;cases hDn2
     refine⟨(by show 3<=sizeLine;decide),λk hk=>qQ (by simpa using h0) _ k D2 (s4.trans (qb2 hk)) hDH qa4 (qc9 ?_ hk)⟩;rw[vD,y8];unfold ql5 vT;rw[Z3];congr 2;exact qG3 L _ _ _ _ (λi e he=>by rw[Zw,he];rfl) (λi e he=>by rw[Zw,he];rfl)
end
end Pr
namespace L2
open PySem PySem.Spec PyProof.Rows
theorem xd6 {lo:Int}{n:Nat}{g:TG}{tb:TS}{D:Ends}{σ:St}{H:Hp}(Pv:Nat->St->Hp->Prop) (h0:Pv 0 σ H)
  (hs:∀i σ H,i<n->Pv i σ H->g (.int (lo-i)) σ H λσ2 H2=>tb { D with nx:=Pv (i+1),ct:=Pv (i+1),bk:=D.nx } σ2 H2) (hd:∀σ H,Pv n σ H->D.nx σ H) :
  ∃W:Nat->Nat->St->Hp->Prop,(∃m,W 0 m σ H)/\∀i m σ H,W i m σ H ->
   ((Itd lo n).stop i H/\D.nx σ H)\/((Itd lo n).go i H/\∃N:St->Hp->Prop,(∀σ' H',N σ' H'->∃m',m'<m/\W (i+1) m' σ' H')/\∀x H',(Itd lo n).yld i H x H'->g x σ H' λσ2 H2=>tb { D with nx:=N,ct:=N,bk:=D.nx } σ2 H2):=by
 refine⟨λi m σ H=>m=n-i/\i<=n/\Pv i σ H,⟨n,by simp,Zx _,h0⟩,?_⟩;rintro i m σ H ⟨rfl,hi,p⟩;by_cases jB:i<n
 ·refine .inr ⟨jB,Pv (i+1),λσ' H' p'=>⟨n-(i+1),by lia,rfl,jB,p'⟩,λx H' y=>?_⟩;obtain⟨e,y⟩:=y;subst e y;exact hs i σ _ jB p
 ·have e:i=n:=by lia
  subst e;exact .inl ⟨Ze _,hd σ H p⟩
end L2
namespace Pr
open PySem L2 Qf
theorem xw5 {d:Nat}(h:d<4):atI ("0123" : Str).cps.toList (d:Int)=some (48+d):=by
 match d,h with
 |0,_|1,_|2,_|3,_=>decide +kernel
theorem xd7:("0123" : Str).length<=sizeLine:=by decide +kernel
theorem xo6:("" : Str)=txt []:=by decide +kernel
theorem xw6 {r c n i:Nat}(h:i<n):(dgp r c 0 n)[i]?=some (qd r c (n-1-i)):=by
 rw[qF2,Zg,Xm h];show some (qd r c (0+n-1-i))=_;rw[Vv]
theorem qP4 {t:Tr}{l m:List Nat}(h:(wdn t l).1=.z\/(wdn t l).1=.o):wdn t (l++m)=wdn t l:=by
 rcases qA0 t l m with ⟨h1,h2⟩|⟨_,h2⟩
 ·rw[h2,qF1 h];exact Ui rfl (by show l++[]=_;rw[YZ,h1])
 ·exact h2
theorem xd8 {t:Tr}{l:List Nat}{a b c d:Tr}(h:(wdn t l).1=.nd a b c d):(wdn t l).2=l:=by
 rcases qA0 t l [] with ⟨h1,_⟩|⟨h1,_⟩
 ·exact h1
 ·rw[h] at h1;rcases h1 with z|z<;>cases z
section
variable {P:Program}{w:World}{K:PySem.W.Frag}{mg:Str->Option Value}{base:Heap}
abbrev nLf:List Str:=["_law_told_here", "_law_row", "_law_column", "_law_n", "_law_number_here", "_law_rows", "_law_address", "_law_k", "_law_quarter"]
abbrev nLf3:List Str:=["_law_told_here", "_law_row", "_law_column"]
theorem scLf:FnScope nLf nLf3 (qa3 q10):=qc5
def spLf:Sp:=λvs H Q _=>∃(t:Addr) (n tp r c:Nat) (rows:List Row),vs=[.ref t,.int (r:Nat),.int (c:Nat)]/\qc6 H t n tp rows/\n<=12 /\
 ∀(H':Hp) (p:Addr) (y:Nat),Same H H'->y<rows.length+2->T rows y=(wdn (T rows tp) (dgp r c 0 n)).1->H' p=some (.tup [.str (txt (wdn (T rows tp) (dgp r c 0 n)).2),.int (y:Nat)])->Q (.ref p) H'
theorem xw7 {f:Addr}{fd:FuncData}(F:Fun K "_law_leaf" "_law_leaf" q10 f fd) (B:Blt mg):FnOk P w K mg base CX0 1 f fd nLf3 spLf:=by
 refine F.ok scLf (λvs H Q E h=>?_) (λcdv A outer s H vs Q E hr h=>?_)
 ·obtain⟨t,n,tp,r,c,rows,rfl,_⟩:=h
  rfl
 ·obtain⟨t,n,tp,r,c,rows,rfl,hS,hn,q⟩:=h;obtain⟨⟨rp,ht,hR⟩,cn,hrl⟩:=id hS;have ok:=cn.rok;refine seqE ⟨_,⟨ql3 (pv 0) (qj0 rfl (qb6 (pgN 3 scLf.nd) (qb6 (pgN 4 scLf.nd) (qb6 (pgN 5 scLf.nd) qf8))))⟩,?_⟩;refine seqE ⟨_,⟨psN 6 scLf.nd qw6⟩,?_⟩;refine seqE ⟨_,⟨qq2 Y0 rfl (xl4 (by rfl) B.range (qa0 (qa7 qc2 (pv 3) qa2) (qa0 (xr7 xf6 qa2) (qa0 (xr7 xf6 qa2) qa1)))) (pgN 7 scLf.nd)
   (StB.go (.one ⟨qd8 (qb7 q85 (pv 4) qa2 (qb4 _)) (StB.go (.cons ⟨psN 8 scLf.nd (qa7 qd2 (qa7 qi7 qa2 (qa7 qU3 (qa7 xf5 (pv 1) (pv 7)) qa2)) (qa7 qU3 (qa7 xf5 (pv 2) (pv 7)) qa2))⟩
    (.cons ⟨psN 4 scLf.nd (pxN qc8 (PEb.go ⟨pxN qc8 (pv 5) (qa7 qc2 (pv 4) qa2)⟩) (pv 8))⟩
    (.one ⟨psN 6 scLf.nd (qa7 qx0 (pv 6) (PEb.go ⟨pxN xs4 qw6 (pv 8)⟩))⟩)))) qb8⟩))⟩,?_⟩
  refine qg5 ⟨_,⟨qa9 (qe1 (Ars2.go (.cons ⟨pv 6⟩ (.cons ⟨pv 4⟩ .nil rfl) rfl)))⟩,?_⟩;refine⟨_,rfl,t,_,rfl,SqT.of ht,rfl,_,_,rfl,_,_,rfl,_,_,rfl,rfl,?_⟩;refine⟨_,rfl,_,_,rfl,rfl,_,rfl,_,rfl,(n:Int)-1,-1,rfl,⟨by lia,by lia,by lia,by lia⟩,?_⟩;have eN:((n:Int)-1-(-1)).toNat=n:=by lia
  rw[eN];have hDl:(dgp r c 0 n).length=n:=q33 r c 0 n;have vD:=xh2 r c 0 n;have hDa:∀i,i<n->(dgp r c 0 n)[i]?=some (qd r c (n-1-i)):=λi hi=>xw6 hi;generalize dgp r c 0 n=D at q hDl vD hDa;refine xd6 (lo:=(n:Int)-1) (n:=n) (λi σ H2=>H2=H/\∃(y:Nat) (v7 v8:Option V),σ=[some (.ref t),some (.int (r:Nat)),some (.int (c:Nat)),some (.int (n:Nat)),some (.int (y:Nat)),some (.ref rp),some (.str (txt (wdn (T rows tp) (D.take i)).2)),v7,v8]/\y<rows.length+2/\T rows y=(wdn (T rows tp) (D.take i)).1) ?_ ?_ ?_
  ·refine⟨rfl,tp,none,none,?_,cn.inn,?_⟩
   ·rw[Uf,qz9,<- xo6];rfl
   ·rw[Uf,qz9]
  ·rintro i σ H2 hi ⟨rfl,y,v7,v8,rfl,hy,hT⟩;have hd:=hDa i hi;have ek:(n:Int)-1-(i:Int)=((n-1-i:Nat):Int):=by lia
   refine⟨_,rfl,_,_,rfl,rfl,_,rfl,?_⟩;refine ite2 (λhc=>?_) (λhc=>?_)
   ·have y2:¬y<2:=by have:=ZH hc;lia
    obtain⟨pl,a0,a1,a2,a3,rfl,jJ⟩:=qn8 ok hy y2;obtain⟨bs,hrp,vC,jE⟩:=id hR;have hpr1:=(gS_ jJ).1;have vG:bs[pl]?=some (bs[pl]'(by lia)):=Zd (by lia);have hra:=jE pl _ _ vG jJ;generalize bs[pl]'(by lia)=ra at vG hra;have yC:=xB2 r c (n-1-i);have eT:T rows (pl+2)=.nd (T rows a0) (T rows a1) (T rows a2) (T rows a3):=qo0 ok jJ;have hw:=xd8 (by rw[<- hT,eT]);obtain⟨w1,w2⟩:=xc1 hd hw (by rw[<- hT,eT]);have jB:(wdn (T rows tp) (D.take i)).2.length<=12:=by rw[hw,XW];lia
    have eq1:(2:Int)*Builtin.bitAnd ((r:Int)/2^((n:Int)-1-(i:Int)).toNat) 1+Builtin.bitAnd ((c:Int)/2^((n:Int)-1-(i:Int)).toNat) 1=((qd r c (n-1-i):Nat):Int):=by
     rw[ek,q35,q35];unfold qd;lia
    generalize hqq:qd r c (n-1-i)=d at yC eq1 hd w1 w2;obtain⟨m,hm⟩:∃m,[a0,a1,a2,a3][d]?=some m:=⟨_,Zd (show d<[a0,a1,a2,a3].length from yC)⟩;refine⟨_,rfl,_,rfl,_,_,rfl,rfl,by lia,_,_,rfl,rfl,_,_,rfl,rfl,.inl ⟨by decide,by decide⟩,_,rfl,_,rfl,_,_,rfl,rfl,by lia,_,_,rfl,rfl,_,_,rfl,rfl,?_⟩;refine⟨_,rfl,_,rfl,_,_,rfl,rfl,rp,_,((pl:Nat):Int),.ref ra,rfl,Yh V.int (by lia),SqT.of hrp,qj4 (by rw[Zg,vG];rfl),_,rfl,ra,_,(d:Int),.int (m:Nat),rfl,Yh V.int eq1,SqT.of hra,qE6 hm,?_⟩;refine⟨_,rfl,_,rfl,_,(d:Int),48+d,rfl,Yh V.int eq1,xd7,xw5 yC,_,_,rfl,rfl,?_,?_⟩
    ·rw[qA1];show _+1<=sizeLine;exact XB (qd5 (by lia))
    ·refine⟨rfl,m,some (.int ((n:Int)-1-(i:Int))),some (.int ((2:Int)*Builtin.bitAnd ((r:Int)/2^((n:Int)-1-(i:Int)).toNat) 1+Builtin.bitAnd ((c:Int)/2^((n:Int)-1-(i:Int)).toNat) 1)),?_,?_,?_⟩
     ·rw[w2,qv2 hd,<- q38,hw];rfl
     ·have:=(ok pl _ jJ).2 m (Zz hm);lia
     ·rw[w1,T_qr ok jJ yC hm,eT]
   ·have y2:y<2:=by
     have:¬(1:Int)<(y:Int):=λz=>hc (Zv z);lia
    have jJ:(wdn (T rows tp) (D.take i)).1=.z\/(wdn (T rows tp) (D.take i)).1=.o:=by
     rw[<- hT];have:y=0\/y=1:=by lia
     rcases this with rfl|rfl
     ·exact .inl (qh7 _)
     ·exact .inr (qp4 _)
    refine⟨rfl,y,some (.int ((n:Int)-1-(i:Int))),v8,?_,hy,?_⟩
    ·rw[qv2 hd,qP4 jJ];rfl
    ·rw[qv2 hd,qP4 jJ];exact hT
  ·rintro σ H2 ⟨rfl,y,v7,v8,rfl,hy,hT⟩;have e:D.take n=D:=YL (by lia);rw[e];refine⟨_,rfl,_,rfl,(by show 2<=sizeLine;decide),λp2 jQ=>q _ p2 y (qb2 jQ) hy (hT.trans (by rw[e])) qa4⟩
end
end Pr
namespace L2
open PySem
theorem q65 {H:Hp}{n k:Nat}{g:TG}{tt:TT}{te:TE}{σ:St}{Fin:Hp->Prop}{D:Addr}(Iv:Nat->List V->Hp->Prop) (hsz:n<sizeLine) (i0:Iv 0 [] (upd H D (.lst []))) (hD:∀i xs H2,Iv i xs H2->H2 D=some (.lst xs)/\xs.length<=i)
  (step:∀i xs H2,i<n->Iv i xs H2->∀os:St,os.length=k->∀(Q1:Hp->Prop) (Q2:VK),(∀H3,Iv (i+1) xs H3->Q1 H3)->(∀v H3,H3 D=some (.lst xs)->Iv (i+1) (xs++[v]) (upd H3 D (.lst (xs++[v])))->Q2 v H3) ->
   g (.int (0+(i:Int))) (os++σ) H2 λσ4 H4=>tt σ4 H4 λb H5=>if b=true then te σ4 H5 Q2 else Q1 H5)
  (fin:∀xs H2,Iv n xs H2->Fin H2) :
  ∃W:Nat->Nat->List V->Hp->Prop,(∃m,W 0 m [] (upd H D (.lst []))) /\
   ∀i m xs H2,W i m xs H2->H2 D=some (.lst xs)/\xs.length<sizeLine/\(((Itr 0 n).stop i H2/\Fin H2)\/((Itr 0 n).go i H2/\∀y H3,(Itr 0 n).yld i H2 y H3->∀os:St,os.length=k ->
    g y (os++σ) H3 λσ4 H4=>tt σ4 H4 λb H5=>if b=true then te σ4 H5 λv H6=>H6 D=some (.lst xs)/\∃m',m'<m/\W (i+1) m' (xs++[v]) (upd H6 D (.lst (xs++[v]))) else ∃m',m'<m/\W (i+1) m' xs H5)):=by
 refine⟨λi m xs H2=>i<=n/\m=n-i/\Iv i xs H2,⟨n,Zx _,rfl,i0⟩,?_⟩;rintro i m xs H2 ⟨hi,rfl,iv⟩;obtain⟨h1,h2⟩:=hD i xs H2 iv;refine⟨h1,by lia,?_⟩;by_cases he:i=n
 ·subst he;exact .inl ⟨Ze i,fin xs H2 iv⟩
 ·refine .inr ⟨show i<n by lia,λy H3 hy os ho=>?_⟩;obtain⟨e1,e2⟩:=hy;rw[e1,e2];exact step i xs H2 (by lia) iv os ho _ _ (λH5 h=>⟨n-(i+1),by lia,by lia,rfl,h⟩) λv H6 h1 h2=>⟨h1,n-(i+1),by lia,by lia,rfl,h2⟩
theorem qP5 {H:Hp}{n:Nat}{te:TE}{σ:St}{Fin:Hp->Prop}{D:Addr}(Iv:Nat->List V->Hp->Prop) (hsz:n<sizeLine) (i0:Iv 0 [] (upd H D (.lst []))) (hD:∀i xs H2,Iv i xs H2->H2 D=some (.lst xs)/\xs.length<=i)
  (step:∀i xs H2,i<n->Iv i xs H2->∀Q2:VK,(∀v H3,H3 D=some (.lst xs)->Iv (i+1) (xs++[v]) (upd H3 D (.lst (xs++[v])))->Q2 v H3)->te (some (.int (0+(i:Int)))::σ) H2 Q2)
  (fin:∀xs H2,Iv n xs H2->Fin H2) :
  ∃W:Nat->Nat->List V->Hp->Prop,(∃m,W 0 m [] (upd H D (.lst []))) /\
   ∀i m xs H2,W i m xs H2->H2 D=some (.lst xs)/\xs.length<sizeLine/\(((Itr 0 n).stop i H2/\Fin H2)\/((Itr 0 n).go i H2/\∀y H3,(Itr 0 n).yld i H2 y H3 ->
    te (some y::σ) H3 λv H4=>H4 D=some (.lst xs)/\∃m',m'<m/\W (i+1) m' (xs++[v]) (upd H4 D (.lst (xs++[v]))))):=by
 refine⟨λi m xs H2=>i<=n/\m=n-i/\Iv i xs H2,⟨n,Zx _,rfl,i0⟩,?_⟩;rintro i m xs H2 ⟨hi,rfl,iv⟩;obtain⟨h1,h2⟩:=hD i xs H2 iv;refine⟨h1,by lia,?_⟩;by_cases he:i=n
 ·subst he;exact .inl ⟨Ze i,fin xs H2 iv⟩
 ·refine .inr ⟨show i<n by lia,λy H3 hy=>?_⟩;obtain⟨e1,e2⟩:=hy;rw[e1,e2];exact step i xs H2 (by lia) iv _ λv H6 h1 h2=>⟨h1,n-(i+1),by lia,by lia,rfl,h2⟩
end L2
namespace Pr
open PySem L2 Qf
structure Blt2 (mg:Str->Option Value):Prop where
 abs:mg "abs" = none
 repr:mg "repr" = none
 str:mg "str" = none
section
variable {P:Program}{w:World}{K:PySem.W.Frag}{mg:Str->Option Value}{base:Heap}
theorem scDigit:FnScope ["_law_pot_here", "_law_many", "_law_digit_here"] ["_law_pot_here", "_law_many"] (qa3 qq5):=qc5
def qm4:Sp:=λvs H Q _=>∃(p:Addr) (n:Nat),vs=[.ref p,.int (n:Nat)]/\PurseAt H p/\0<n/\n<1000000/\∀(d:Nat) (H':Hp),d<n->But p H H'->PurseAt H' p->Q (.int (d:Nat)) H'
theorem qo6 {f:Addr}{fd:FuncData}(F:Fun K "_law_digit" "_law_digit" qq5 f fd):FnOk P w K mg base CX0 1 f fd ["_law_pot_here", "_law_many"] qm4:=by
 refine F.ok scDigit (λvs H Q E h=>?_) (λcdv A outer s H vs Q E hr h=>?_)
 ·obtain⟨p,n,rfl,_⟩:=h
  rfl
 ·obtain⟨p,n,rfl,⟨a,b,hp,ha,hb,vA⟩,hn,hn2,q⟩:=h;refine⟨_,qb3 (qd8 (qb7 q85 (pxN qf0 (pv 0) qa2) qa2 (qb4 _))
    (qb3 (psN 2 scDigit.nd (qa7 qt0 (pxN qf0 (pv 0) qa2) (pv 1)))
    (qb3 (ql3 (qa7 qj2 (pxN qf0 (pv 0) qa2) (pv 1)) (xf3 (pv 0) qa2 qL6))
    (qa8 (qa9 (pv 2))))) qb8)
   (qb3 (ql3 (qa7 qt0 (qa7 qd2 (qa7 qi7 (pxN qf0 (pv 0) qa2) qa2) qa2) qa2) (xf3 (pv 0) qa2 qL6))
   (qa8 (qa9 (qa7 qt0 (qa7 qj2 (pxN qf0 (pv 0) qa2) qa2) (pv 1))))),?_⟩
  have sq:∀{H':Hp}{xs:List V},H' p=some (.lst xs)->SqL K H' p xs:=λh=>SqL.of h;have fin:∀(d x y:Int),0<=d->d<(n:Int)->0<=x->0<=y->y<2^40->Q (.int d) (upd H p (.lst [.int x,.int y])):=λd x y d0 d1 x0 y0 y1=>by
   have:=q d.toNat (upd H p (.lst [.int x,.int y])) (by lia) But.upd ⟨x,y,qa4,x0,y0,y1⟩
   rwa [show ((d.toNat:Nat):Int)=d by lia] at this
  have hn0:(0:Int)<n:=by lia
  refine⟨_,rfl,p,_,0,_,rfl,rfl,sq hp,rfl,_,_,rfl,rfl,_,rfl,?_⟩;refine ite2 (λhc=>?_) (λhc=>?_)
  ·refine⟨_,rfl,p,_,0,_,rfl,rfl,sq hp,rfl,_,rfl,_,_,rfl,rfl,hn0,?_⟩;refine⟨_,rfl,p,_,0,_,rfl,rfl,sq hp,rfl,_,rfl,_,_,rfl,rfl,⟨hn0,by lia⟩,_,rfl,p,_,0,0,rfl,rfl,hp,rfl,?_⟩;refine⟨_,rfl,?_⟩;exact fin _ _ _ (WA _ (by lia)) (XY _ hn0) (Int.ediv_nonneg ha (by lia)) hb vA
  ·refine⟨_,rfl,p,_,1,_,rfl,rfl,sq hp,rfl,_,_,rfl,rfl,.inl ⟨by lia,by lia⟩,_,_,rfl,rfl,_,_,rfl,rfl,(by show (0:Int)<2147483629;decide),_,rfl,p,_,1,1,rfl,rfl,hp,rfl,?_⟩;have m1:0<=(b*48271+8191)%2147483629/\(b*48271+8191)%2147483629<2147483629:=⟨WA _ (by decide),XY _ (by decide)⟩;refine⟨_,rfl,p,_,1,_,rfl,rfl,sq qa4,rfl,_,_,rfl,rfl,⟨by decide,by decide⟩,_,rfl,_,_,rfl,rfl,hn0,?_⟩;exact fin _ _ _ (WA _ (by lia)) (XY _ hn0) ha m1.1 (by lia)
theorem scPot:FnScope ["_law_script", "_law_k", "_law_cell"] ["_law_script", "_law_k"] (qa3 lPot):=qc5
def xw8 (K:PySem.W.Frag):Sp:=λvs H Q _=>∃(a:Addr) (k:Int) (ns:List Int),vs=[.ref a,.int k]/\SqL K H a (ns.map V.int)/\ns.length<=63/\0<=k/\k<=1000/\∀(H':Hp) (p:Addr),Same H H'->H p=none->PurseAt H' p->Q (.ref p) H'
theorem xw9 {f:Addr}{fd:FuncData}(F:Fun K "_law_pot" "_law_pot" lPot f fd) (B:Blt mg) (C:Blt2 mg):FnOk P w K mg base CX0 1 f fd ["_law_script", "_law_k"] (xw8 K):=by
 refine F.ok scPot (λvs H Q E h=>?_) (λcdv A outer s H vs Q E hr h=>?_)
 ·obtain⟨a,k,ns,rfl,_⟩:=h
  rfl
 ·obtain⟨a,k,ns,rfl,hS,hl,h0,h1,q⟩:=h;refine seqE ⟨_,⟨psN 2 scPot.nd qa2⟩,?_⟩;refine seqE ⟨_,⟨qd8 (qb7 qj3 (pv 1) (qa6 qd4 (by rfl) B.len YS (qa0 (pv 0) qa1)) (qb4 _)) (qa8 (psN 2 scPot.nd (pxN qf0 (pv 0) (pv 1)))) qb8⟩,?_⟩;refine qg5 ⟨_,⟨qa9 (qg8 (Ars2.go (.cons ⟨qa6 (qg1 rfl) (by rfl) B.max Yo (qa0 qa2 (qa0 (qa7 qc2 (qa6 qL2 (by rfl) C.abs PyProof.Rows.boot_abs (qa0 (pv 2) qa1)) (qa7 xr8 qa2 qa2)) qa1))⟩
    (.cons ⟨qa7 qd2 (qa7 qd2 (qa7 qt0 (qa6 qL2 (by rfl) C.abs PyProof.Rows.boot_abs (qa0 (pv 2) qa1)) qa2) (qa7 qi7 qa2 (pv 1))) qa2⟩ .nil rfl) rfl)))⟩,?_⟩
  have fin:∀(z:Int) (p:Addr),H p=none->Q (.ref p) (upd H p (.lst [.int (if (if z<0 then -z else z)-10^18>0 then (if z<0 then -z else z)-10^18 else 0),.int ((if z<0 then -z else z)%2147483629+97*k+1)])):=λz p hp=>by
   have m1:0<=(if z<0 then -z else z)%2147483629/\(if z<0 then -z else z)%2147483629<2147483629:=⟨WA _ (by decide),XY _ (by decide)⟩;refine q _ p (qb2 hp) hp ⟨_,_,qa4,?_,?_,?_⟩
   ·split<;>lia
   ·lia
   ·lia
  refine⟨_,rfl,_,rfl,a,_,rfl,.inl hS,_,_,rfl,rfl,_,rfl,?_⟩;refine ite2 (λhc=>?_) (λhc=>?_)
  ·have hk:k<(ns.length:Int):=by
    have:=ZH hc;simpa using this
   have hkn:k.toNat<ns.length:=by lia
   refine⟨_,rfl,_,rfl,a,_,k,.int (ns[k.toNat]),rfl,rfl,hS,?_,?_⟩
   ·have:=qj4 (xs:=ns.map V.int) (j:=k.toNat) (v:=.int (ns[k.toNat])) (by simp[hkn]);rw[show ((k.toNat:Nat):Int)=k by lia] at this;exact this
   ·refine⟨_,rfl,_,rfl,_,_,rfl,rfl,⟨by decide,by decide,by decide⟩,_,_,rfl,rfl,_,_,rfl,?_⟩;exact⟨_,rfl,_,rfl,_,_,rfl,rfl,(by show (0:Int)<2147483629;decide),_,rfl,_,_,rfl,rfl,.inl ⟨by decide,by decide⟩,_,_,rfl,rfl,_,_,rfl,rfl,(by show 2<=sizeLine;decide),λp hp=>fin _ p hp⟩
  ·refine⟨_,rfl,_,rfl,_,_,rfl,rfl,⟨by decide,by decide,by decide⟩,_,_,rfl,rfl,_,_,rfl,?_⟩;exact⟨_,rfl,_,rfl,_,_,rfl,rfl,(by show (0:Int)<2147483629;decide),_,rfl,_,_,rfl,rfl,.inl ⟨by decide,by decide⟩,_,_,rfl,rfl,_,_,rfl,rfl,(by show 2<=sizeLine;decide),λp hp=>fin _ p hp⟩
end
end Pr
namespace Qf
open Tr
def kind (t:Tr) (n:Nat) (a b:Int):Nat:=if (0<=a/\0<=b)/\a<((2^n:Nat):Int)/\b<((2^n:Nat):Int) then (if (wdn t (dgp a.toNat b.toNat 0 n)).1=.o then 1 else 0) else 2
def arnd (r c:Int) (far k:Nat):Int×Int:=(r-far+((k/(2*far+1):Nat):Int),c-far+((k%(2*far+1):Nat):Int))
theorem arnd_mem {r c:Int}{far:Nat}{a b:Int}:(∃k,k<(2*far+1)*(2*far+1)/\arnd r c far k=(a,b))<->(r-far<=a/\a<=r+far)/\c-far<=b/\b<=c+far:=by
 unfold arnd;obtain⟨W,hW⟩:∃W,W=2*far+1:=⟨_,rfl⟩;rw[<- hW];have hp:0<W:=by lia
 constructor
 ·rintro⟨k,hk,e⟩;obtain⟨rfl,rfl⟩:=Prod.mk.inj e;have h1:k/W<W:=Nat.div_lt_of_lt_mul hk;have h2:k%W<W:=Xk _ hp;generalize k/W=x at h1 ⊢;generalize k%W=y at h2 ⊢;lia
 ·rintro⟨⟨h1,h2⟩,h3,h4⟩;obtain⟨x,hx⟩:∃x:Nat,(x:Int)=a-(r-far):=⟨(a-(r-far)).toNat,by lia⟩;obtain⟨y,hy⟩:∃y:Nat,(y:Int)=b-(c-far):=⟨(b-(c-far)).toNat,by lia⟩;have hxW:x<W:=by lia
  have hyW:y<W:=by lia
  refine⟨x*W+y,?_,?_⟩
  ·have:(x+1)*W<=W*W:=YY _ hxW;rw[Xp] at this;lia
  ·have ed:(x*W+y)/W=x:=by rw[Xo,Nat.mul_add_div hp,V0 hyW,Vu]
   have em:(x*W+y)%W=y:=by rw[Xo,Nat.mul_add_mod,Xs hyW]
   rw[ed,em];exact Ui (by show r-far+(x:Int)=a;lia) (by show c-far+(y:Int)=b;lia)
theorem xo7 {r c:Int}{far i j:Nat}(h:i<j):(arnd r c far i).1<(arnd r c far j).1\/(arnd r c far i).1=(arnd r c far j).1/\(arnd r c far i).2<(arnd r c far j).2:=by
 unfold arnd;have hp:0<2*far+1:=by lia
 generalize 2*far+1=W at hp;have h1:=Vh i W;have h2:=Vh j W;have h3:=Xk i hp;have h4:=Xk j hp;have h5:i/W<=j/W:=Nat.div_le_div_right (XB h);rcases WJ h5 with h6|h6
 ·left;simp only;lia
 ·right;rw[h6] at h1 ⊢;generalize W*(j/W)=z at h1 h2;refine⟨rfl,?_⟩;simp only;lia
end Qf
namespace Pr
open PySem L2 Qf
section
variable {P:Program}{w:World}{K:PySem.W.Frag}{mg:Str->Option Value}{base:Heap}
abbrev nCk:List Str:=["_law_told_here", "_law_row", "_law_column", "_law_side"]
theorem scCk:FnScope nCk nLf3 (qa3 qn7):=qc5
def spCk:Sp:=λvs H Q _=>∃(t:Addr) (n tp:Nat) (a b:Int) (rows:List Row),vs=[.ref t,.int a,.int b]/\qc6 H t n tp rows/\n<=12/\∀H',Same H H'->Q (.int (kind (T rows tp) n a b:Nat)) H'
theorem xC7 {f fL:Addr}{fd fdL:FuncData}(F:Fun K "_law_cell_kind" "_law_cell_kind" qn7 f fd) (B:Blt mg) (hL:mg "_law_leaf" = some (.ref fL)) (FL:Fun K "_law_leaf" "_law_leaf" q10 fL fdL) (bL:Binds K fdL nLf3 []) :
  FnOk P w K mg base CX0 2 f fd nLf3 spCk:=by
 have GL:FnOk P w K mg base CX0 1 fL fdL nLf3 spLf:=xw7 FL B;refine F.ok scCk (λvs H Q E h=>?_) (λcdv A outer s H vs Q E hr h=>?_)
 ·obtain⟨t,n,tp,a,b,rows,rfl,_⟩:=h
  rfl
 ·obtain⟨t,n,tp,a,b,rows,rfl,hS,hn,q⟩:=h;refine seqE ⟨_,⟨psN 3 scCk.nd (qa7 qf9 qa2 (pxN qc8 (pv 0) qa2))⟩,?_⟩;refine seqE ⟨_,⟨qd8 (PW.pt (qs9 (qb7 qj3 (PEb.go ⟨qa6 (qe6 rfl) (by rfl) B.min Yi (qa0 (pv 1) (qa0 (pv 2) qa1))⟩) qa2 (qb4 _)) (ql2 (qb7 xz5 (PEb.go ⟨qa6 (qg1 rfl) (by rfl) B.max Yo (qa0 (pv 1) (qa0 (pv 2) qa1))⟩) (pv 3) (qb4 _))))) (qa8 (qa9 qa2)) qb8⟩,?_⟩;refine qg5 ⟨_,⟨qa9 (pxN qc8 (PEb.go ⟨pcN GL hr hL FL.kp bL (qa0 (pv 0) (qa0 (pv 1) (qa0 (pv 2) qa1)))⟩) qa2)⟩,?_⟩;obtain⟨⟨rp,ht,hR⟩,cn,hrl⟩:=id hS;have e1n:(1:Int)*2^((n:Nat):Int).toNat=((2^n:Nat):Int):=by rw[Ue,ZA];simp
  refine⟨_,rfl,t,_,0,.int (n:Nat),rfl,rfl,SqT.of ht,rfl,_,_,rfl,rfl,⟨by lia,by lia,by decide⟩,?_⟩;refine qq8 (σ':=[some (.ref t),some (.int a),some (.int b),some (.int ((2^n:Nat):Int))]) (Yh (λz:Int=>[some (V.ref t),some (V.int a),some (V.int b),some (V.int z)]) e1n) ?_;have q':=q H (Same.refl _);unfold kind at q q';obtain⟨S,hSe⟩:∃S,S=2^n:=⟨_,rfl⟩;rw[<- hSe] at q q' ⊢;refine⟨_,rfl,_,rfl,_,_,rfl,_,_,rfl,rfl,_,rfl,?_⟩;refine ite2 (λh1=>?_) (λh1=>⟨_,rfl,_,rfl,_,_,rfl,_,rfl,_,_,rfl,rfl,_,rfl,?_⟩)
  ·have h1:=ZH h1;rw[Zl (by split at h1<;>lia)] at q';exact q'
  ·have h1:¬((if b<a then b else a)<0):=by simpa using h1
   refine ite2 (λh2=>?_) (λh2=>?_)
   ·have h2:=ZH h2;rw[Zl (by split at h2<;>lia)] at q';exact q'
   ·have h2:¬((if b>a then b else a)>=(S:Int)):=by simpa using h2
    have jT:(0<=a/\0<=b)/\a<(S:Int)/\b<(S:Int):=by
     split at h1<;>split at h2<;>lia
    rw[Zt jT] at q;obtain⟨x,rfl⟩:∃x:Nat,a=x:=⟨a.toNat,by lia⟩;obtain⟨y,rfl⟩:∃y:Nat,b=y:=⟨b.toNat,by lia⟩;simp only[ZA] at q;refine⟨_,rfl,_,rfl,_,rfl,t,n,tp,x,y,rows,rfl,hS,hn,λH' p z s' hz hT hp=>?_⟩;refine⟨p,_,1,.int (z:Nat),rfl,rfl,SqT.of hp,rfl,?_⟩;obtain⟨bb,_,hb,_⟩:=qJ9 (qk2 cn) (show x<2^n by lia) (show y<2^n by lia);have hk:z=if (wdn (T rows tp) (dgp x y 0 n)).1=.o then 1 else 0:=by
     obtain⟨p0,p1⟩:=qJ6 cn.rok hz;rw[<- hT] at hb ⊢;cases bb with
     |true=>rw[Zt (show T rows z=.o from hb)];exact p1.mp hb
     |false=>rw[Zl (by rw[hb];intro e;cases e)];exact p0.mp hb
    rw[hk];exact q H' s'
abbrev nAr:List Str:=["_law_row", "_law_column", "_law_far", "_law_wide"]
abbrev nAr3:List Str:=["_law_row", "_law_column", "_law_far"]
theorem scAr:FnScope nAr nAr3 (qa3 qu4):=qc5
def ArL (H:Hp) (l:Addr) (r c:Int) (far:Nat):Prop:=∃bs:List Addr,H l=some (.lst (bs.map V.ref))/\bs.length=(2*far+1)*(2*far+1)/\∀(i:Nat) b,bs[i]?=some b->H b=some (.tup [.int (arnd r c far i).1,.int (arnd r c far i).2])
def spAr:Sp:=λvs H Q _=>∃(r c:Int) (far:Nat),vs=[.int r,.int c,.int (far:Nat)]/\far<=20/\∀H' l,Same H H'->ArL H' l r c far->Q (.ref l) H'
theorem xC8 {f:Addr}{fd:FuncData}(F:Fun K "_law_around" "_law_around" qu4 f fd) (B:Blt mg):FnOk P w K mg base CX0 1 f fd nAr3 spAr:=by
 refine F.ok scAr (λvs H Q E h=>?_) (λcdv A outer s H vs Q E hr h=>?_)
 ·obtain⟨r,c,far,rfl,_⟩:=h
  rfl
 ·obtain⟨r,c,far,rfl,hf,q⟩:=h;refine seqE ⟨_,⟨psN 3 scAr.nd (qa7 qd2 (qa7 qi7 qa2 (pv 2)) qa2)⟩,?_⟩;refine qg5 ⟨_,⟨qa9 (qf1 nAr (qa3 qu4) rfl rfl rfl scAr.nd (qh4 (by rfl) B.range (qa0 (qa7 qi7 (pv 3) (pv 3)) qa1)) (λcl C fp s₀ H₀=>PEb.go ⟨qe1 (Ars2.go (.cons ⟨qa7 qd2 (qa7 qc2 (pv 1) (pv 3)) (qa7 qj2 (pv 0) (pv 4))⟩ (.cons ⟨qa7 qd2 (qa7 qc2 (pv 2) (pv 3)) (qa7 qt0 (pv 0) (pv 4))⟩ .nil rfl) rfl))⟩))⟩,?_⟩;refine⟨_,rfl,_,_,rfl,rfl,.inl ⟨by lia,by lia⟩,_,_,rfl,rfl,?_⟩;obtain⟨W,hW⟩:∃W:Nat,W=2*far+1:=⟨_,rfl⟩;have eW:(2:Int)*(far:Nat)+1=(W:Nat):=by lia
  have e0:V.int ((2:Int)*(far:Nat)+1)=V.int (W:Nat):=Yh V.int eW;rw[e0];have hW41:W<=41:=by lia
  have hWW:W*W<=1681:=VE hW41 hW41;have eN:(((W:Nat):Int)*((W:Nat):Int))=((W*W:Nat):Int):=by rw[WC]
  have eN2:(((W:Nat):Int)*((W:Nat):Int)).toNat=W*W:=by rw[eN,ZA]
  refine⟨_,rfl,_,rfl,_,_,rfl,rfl,.inl ⟨by lia,by lia⟩,_,rfl,by rw[eN];lia,by rw[eN];lia,λD hD=>qg4 hD (λj y H1=>∃b,y=.ref b/\H1 b=some (.tup [.int (arnd r c far j).1,.int (arnd r c far j).2])) (q98 (n:=(((W:Nat):Int)*((W:Nat):Int)).toNat)) (by rw[eN2];exact qj9 (by lia)) ?_ ?_ ?_⟩
  ·rintro i y H1 H2 _ tk ⟨b,rfl,h1⟩;exact⟨b,rfl,tk _ _ h1⟩
  ·rintro j x H1 hj rfl s1 Q' q';have eD:((j:Nat):Int)/((W:Nat):Int)=((j/W:Nat):Int):=(W8 ..).symm;have eM:((j:Nat):Int)%((W:Nat):Int)=((j%W:Nat):Int):=(W9 ..).symm;refine⟨_,rfl,_,rfl,_,_,rfl,rfl,_,rfl,_,rfl,_,_,rfl,rfl,⟨by lia,by lia⟩,_,_,rfl,rfl,_,rfl,_,rfl,_,_,rfl,rfl,_,rfl,_,rfl,_,_,rfl,rfl,by lia,_,_,rfl,rfl,(by show 2<=sizeLine;decide),λk hk=>q' _ _ (qb2 hk) ⟨k,rfl,?_⟩⟩;rw[qa4];unfold arnd;rw[<- hW,<- eD,<- eM]
  ·intro ys H1 s1 hD1 y8 hyr;rw[eN2] at y8;obtain⟨bs,rfl⟩:∃bs:List Addr,ys=bs.map V.ref:=by
    have:∀zs:List V,(∀z∈zs,∃b:Addr,z=.ref b)->∃bs:List Addr,zs=bs.map V.ref:=λzs=>by
     induction zs with
     |nil=>exact λ_=>⟨[],rfl⟩
     |cons z zs ih=>
      intro h;obtain⟨b,rfl⟩:=h z (by simp);obtain⟨bs,rfl⟩:=ih λy hy=>h y (by simp[hy]);exact⟨b::bs,rfl⟩
    refine this ys λz hz=>?_;obtain⟨i,hi,rfl⟩:=ZD.mp hz;obtain⟨b,e,_⟩:=hyr i _ (Zd hi);exact⟨b,e⟩
   refine q H1 D s1 ⟨bs,hD1,by rw[<- hW,<- y8,Zf],λi b e=>?_⟩;obtain⟨b',e',h⟩:=hyr i (.ref b) (by rw[Zg,e];rfl);cases e';exact h
end
end Pr
namespace L2
open PySem PySem.Spec PyProof.Rows
section
variable {X:Cx}
theorem q66 {i0:Nat}{x0:Str}{px0 spos:Pos}{x:Str}{px pos:Pos}{elt iter c:Expr}{scope:Scope}{wi:TI}{tt:TT}{te:TE}(N:List Str) (sc:Scope) (kI:X.N=N) (jY:X.env.scope=sc) (hc:X.calm=true) (hN:X.N.Nodup) (vP:X.N[i0]?=some x0) (vS:X.env.scope.names.lookup x0=some .local) (hi:PI X (.Name x px) iter wi)
  (ht:∀cl C fp s₀ H₀,PT (qb0 X scope cl C [x] fp s₀ H₀) c tt) (he:∀cl C fp s₀ H₀,PE (qb0 X scope cl C [x] fp s₀ H₀) elt te)
  (jD:scope.kind=.function:=by rfl) (jA:scope.names.all (λy=>y.2 != .cell)=true:=by decide +kernel) (jC:scope.names.all (λy=>y.2 != .local||scope.names.lookup y.1==some .local)=true:=by decide +kernel)
  (hx:scope.names.lookup x=some .local:=by rfl) (jF:N.all (λy=>scope.names.lookup y != some .local)=true:=by decide +kernel)
  (hfr:scope.names.all (λp=>p.2 != .free||(sc.names.lookup p.1==some .cell||sc.names.lookup p.1==some .free))=true:=by decide +kernel)
  (hs:∀x,foldedSetIterable iter X.env x=pure x:=by intro _;rfl) (wB:swapsWith (.ListComp elt [⟨.Name x px,iter,[c],0⟩] scope pos) (some (.Name x0 px0)) spos.line X.env=pure true:=by rfl) :
  PS X (.Assign [.Name x0 px0] (.ListComp elt [⟨.Name x px,iter,[c],0⟩] scope pos) spos) (tAsg (qj6 1 wi (qd1 0) tt te) (qd1 i0)):=by
 obtain⟨s1,s2,s3,s4⟩:=qe7 kI jY jA jC jF hfr;refine qr8 (nn:=[x]) (λenv=>isTrue c env (eval c env)) hc hi (λit acc env=>qr5 elt _ iter c scope pos it acc env) (λcl C fp s₀ H₀=>?_) (λy os σ H R ho h=>loc1 ho h) (λcl C fp s₀ H₀ j8 s σ H Q I h=>ht cl C fp s₀ H₀ j8 s σ H Q I h) he jD s1 s2 s3 s4 hs hN vP vS wB;have l:(qb0 X scope cl C [x] fp s₀ H₀).env.scope.names.lookup x=some .local:=Yt hx;exact qh2 (i:=0) (YG.mpr ⟨λz=>s3 x z hx,hN⟩) rfl (.inl l) (.inr l)
end
end L2
namespace L2
open PySem PySem.Spec PyProof.Rows PySem.W
section
variable {X:Cx}
theorem xd9 {i0:Nat}{x0:Str}{px0 spos:Pos}{x y:Str}{p1 p2 tpos pos:Pos}{k:Nat}{elt iter:Expr}{scope:Scope}{wi:TI}{te:TE}(N:List Str) (sc:Scope) (kI:X.N=N) (jY:X.env.scope=sc) (hc:X.calm=true) (hN:X.N.Nodup) (vP:X.N[i0]?=some x0) (vS:X.env.scope.names.lookup x0=some .local) (hi:PI X (.Tuple [.Name x p1,.Name y p2] k tpos) iter wi)
  (he:∀cl C fp s₀ H₀,PE (qb0 X scope cl C [x,y] fp s₀ H₀) elt te) (hxy:x≠y:=by decide)
  (jD:scope.kind=.function:=by rfl) (jA:scope.names.all (λy=>y.2 != .cell)=true:=by decide +kernel) (jC:scope.names.all (λy=>y.2 != .local||scope.names.lookup y.1==some .local)=true:=by decide +kernel)
  (hx:scope.names.lookup x=some .local:=by rfl) (hy:scope.names.lookup y=some .local:=by rfl) (jF:N.all (λy=>scope.names.lookup y != some .local)=true:=by decide +kernel)
  (hfr:scope.names.all (λp=>p.2 != .free||(sc.names.lookup p.1==some .cell||sc.names.lookup p.1==some .free))=true:=by decide +kernel)
  (hs:∀x,foldedSetIterable iter X.env x=pure x:=by intro _;rfl) (wB:swapsWith (.ListComp elt [⟨.Tuple [.Name x p1,.Name y p2] k tpos,iter,[],0⟩] scope pos) (some (.Name x0 px0)) spos.line X.env=pure true:=by rfl) :
  PS X (.Assign [.Name x0 px0] (.ListComp elt [⟨.Tuple [.Name x p1,.Name y p2] k tpos,iter,[],0⟩] scope pos) spos) (tAsg (qj6 2 wi (gTup X.K 2 (qe5 (qd1 0) (qe5 (qd1 1) gNil))) qJ1 te) (qd1 i0)):=by
 obtain⟨s1,s2,s3,s4⟩:=qe7 kI jY jA jC jF hfr;exact qr8 (nn:=[x,y]) (λ_=>pure true) hc hi (λit acc env=>qy6 elt _ iter scope pos it acc env) (λcl C fp s₀ H₀=>xt9 hc hN hxy s3 hx hy) (λy os σ H R ho h=>loc2 ho h) (λcl C fp s₀ H₀ j8 s σ H Q I h=>Zc ⟨H,I,h⟩) he jD s1 s2 s3 s4 hs hN vP vS wB
end
theorem slot_seti_next:Slot "set_iterator" "__next__" "set_iterator.__next__":=
 .of (owner:= "set_iterator") (n:= "__next__") (by rw[typeLookup_type,W5];kernel_rfl) (by decide +kernel) (by decide +kernel) (by decide +kernel) (by first|exact .inl (by decide +kernel)|exact .inr (by decide +kernel)) (by rw[VF];kernel_rfl)
theorem qk4:entryFor table "set_iterator.__next__" = some Builtin.«set_iterator.__next__»:=entryFor_of_tree (by kernel_rfl)
theorem ql6 (a:Value):argsOk "set_iterator.__next__" ⟨[a],[]⟩:=by unfold argsOk;kernel_rfl
theorem ql7:Slot "set_iterator" "__iter__" "set_iterator.__iter__":=
 .of (owner:= "set_iterator") (n:= "__iter__") (by rw[typeLookup_type,W5];kernel_rfl) (by decide +kernel) (by decide +kernel) (by decide +kernel) (by first|exact .inl (by decide +kernel)|exact .inr (by decide +kernel)) (by rw[VF];kernel_rfl)
theorem qw4 (a:Value):argsOk "set_iterator.__iter__" ⟨[a],[]⟩:=by unfold argsOk;kernel_rfl
theorem qw5:entryFor table "set.__iter__" = some Builtin.«frozenset.__iter__»:=entryFor_alias (id':= "frozenset.__iter__") (by kernel_rfl) rfl (by decide +kernel) (by kernel_rfl)
theorem qv5:entryFor table "set_iterator.__iter__" = some Builtin.«dict_keyiterator.__iter__»:=entryFor_alias (id':= "dict_keyiterator.__iter__") (by kernel_rfl) rfl (by decide +kernel) (by kernel_rfl)
theorem qp8 {α:Type}:∀{l:List α}{i:Nat}(h:i<l.length),(l[i]::l.eraseIdx i).Perm l
 |x::l,0,_=>.refl _
 |x::l,i+1,h=>by
  have h':i<l.length:=by simpa using h
  show (l[i]::x::l.eraseIdx i).Perm (x::l);exact (List.Perm.swap _ _ _).trans ((qp8 h').cons _)
theorem slot_set_len':Slot "set" "__len__" "set.__len__":=
 .of (owner:= "set") (n:= "__len__") (by rw[typeLookup_type,W5];kernel_rfl) (by decide +kernel) (by decide +kernel) (by decide +kernel) (by first|exact .inl (by decide +kernel)|exact .inr (by decide +kernel)) (by rw[VF];kernel_rfl)
theorem qG5 {α:Type}(next:Nat->Nat):∀(fuel k:Nat) (left:List α) (out:Array α),left.length=fuel->(pickOrder.go next fuel k left out).toList.Perm (out.toList++left)
 |0,k,left,out,h=>by
  have:left=[]:=WO.mp h;subst this;unfold pickOrder.go;rw[YZ]
 |fuel+1,k,left,out,h=>by
  unfold pickOrder.go;have jB:next k%left.length<left.length:=Xk _ (by lia)
  rw[Zd jB];dsimp only;refine (qG5 next fuel (k+1) (left.eraseIdx (next k%left.length)) (out.push left[next k%left.length]) (by rw[VG jB];lia)).trans ?_;rw[Xh,Ys];refine W3 _ ?_;exact (qp8 jB)
theorem ql8 {α:Type}(next:Nat->Nat) (xs:Array α):(pickOrder next xs).toList.Perm xs.toList:=by
 unfold pickOrder;have:=qG5 next xs.size 0 xs.toList #[] (by simp)
 simpa using this
section
variable {prog:Program}{w:World}{A:Around}{E:Value->Shared->Prop}{s:Shared}
theorem qG6 {src:Source}{n:Nat}{Q:Nat->Shared->Prop}(hn:0<n) (h:∀i d,i<n->Q i { s with drawn:=d }):wpAny (model prog w) A (choose src n) Q E s:=λΓ p _=>by
 show Sem.wp _ _ (.choose src n .pure) _ _ _ _;rw[Sem.wp_choose];exact⟨by lia,h _ _ (Xk _ hn)⟩
theorem qG7 {α:Type}:∀(n:Nat) (xs:List α) (s:Shared) (Q:List α->Shared->Prop),xs.length=n->(∀ys d,ys.Perm xs->Q ys { s with drawn:=d })->wpAny (model prog w) A (drawOrder n xs) Q E s
 |0,xs,s,Q,hl,h=>by
  have:xs=[]:=WO.mp hl;subst this;exact Zc (h [] s.drawn (.refl _))
 |n+1,[],s,Q,hl,h=>by simp at hl
 |n+1,x::xs,s,Q,hl,h=>by
  show wpAny _ _ (choose .order (x::xs).length >>= _) _ _ _;refine Za (qG6 (by simp) λi d hi=>?_);rw[Zd hi];refine Za (qG7 n ((x::xs).eraseIdx i) _ _ (by rw[VG hi];simpa using hl) λys d' hy=>?_);exact Zc (h _ _ ((hy.cons _).trans (qp8 hi)))
def SetB (h:Heap) (a:Addr) (es:Array (Int×Value)) (ep:Nat) (t:SetTable):Prop:=∃o,h.get? a=some o/\o.ExactSet/\o.data=.set es ep t
theorem SetB.stay {h h':Heap}{a:Addr}{es:Array (Int×Value)}{ep:Nat}{t:SetTable}(x:SetB h a es ep t) (k:∀o,h.get? a=some o->h'.get? a=some o):SetB h' a es ep t:=let ⟨o,ho,r⟩:=x;⟨o,k o ho,r⟩
theorem SetB.ty {s:Shared}{a:Addr}{es:Array (Int×Value)}{ep:Nat}{t:SetTable}(x:SetB s.heap a es ep t):s.TypeIs (.ref a) "set":=let ⟨o,ho,hc,_⟩:=x;⟨o,ho,hc.1⟩
theorem SetB.lt {h:Heap}{a:Addr}{es:Array (Int×Value)}{ep:Nat}{t:SetTable}(x:SetB h a es ep t):a<h.objs.size:=let ⟨_,ho,_⟩:=x;Zi ho
def IsSetI (h:Heap) (it:Addr) (first:Value) (i:Nat) (a:Addr) (n ep:Nat):Prop:=∃o,h.get? it=some o/\o.cls=.type "set_iterator" /\ o.data=.fields #[first,.int i 0,.ref a,.int n 0,.int ep 0]
theorem IsSetI.ty {s:Shared}{it:Addr}{first:Value}{i:Nat}{a:Addr}{n ep:Nat}(x:IsSetI s.heap it first i a n ep):s.TypeIs (.ref it) "set_iterator":=let ⟨o,ho,hc,_⟩:=x;⟨o,ho,hc⟩
inductive Md (w:World) (a:Addr) (es:Array (Int×Value)) (ep:Nat) (t:SetTable):(Heap->Prop)->(Nat->Value)->List Value->Prop
 |text (b:w.params.followText "set-order" = true):Md w a es ep t (λ_=>True) (λ_=>.int 0 0) ((pickOrder (w.params.setOrder a ep) es).toList.map (·.2))
 |plain (b:w.params.followText "set-order" = false) (nd:(!t.plain&&decide (es.size>1))=false) (led:t.led=true) (sl:Nat->Nat) (s0:sl 0=0) (bl:∀i,i<=es.size->SetTable.below t.place (sl i)=i) (sn:∀i j,t.place[i]?=some j->sl (i+1)=j+1):Md w a es ep t (λ_=>True) (λi=>.int (sl i) 0) (es.toList.map (·.2))
 |draw (b:w.params.followText "set-order" = false) (tp:Addr) (ps:List Nat) (pp:ps.Perm (List.range es.size)):Md w a es ep t (λh=>h.IsTuple tp (ps.map λ(i:Nat)=>Value.int i 0).toArray) (λ_=>.ref tp) (ps.map λi=>(es.getD i (0,.none)).2)
variable {it a:Addr}{es:Array (Int×Value)}{ep i:Nat}{t:SetTable}{OK:Heap->Prop}{fst:Nat->Value}{ord:List Value}
theorem q67 {Q:Option Value->Shared->Prop}(m:Md w a es ep t OK fst ord) (st:IsSetI s.heap it (fst i) i a es.size ep) (x:SetB s.heap a es ep t) (hf:t.fits es.size=true) (ok:OK s.heap){v:Value}(hi:ord[i]?=some v)
  (q:∀h',IsSetI h' it (fst (i+1)) (i+1) a es.size ep->Heap.SameBut it s.heap h'->Q (some v) { s with heap:=h' }):wpAny (model prog w) A (pyNext (.ref it)) Q E s:=by
 obtain⟨o,ho,hc,hd⟩:=id st;obtain⟨oa,kX,hca,kK⟩:=id x;unfold pyNext;refine Za (XM (Z4 (name:=Str.ofString "__next__") st.ty slot_seti_next (Z5 slot_seti_next st.ty qk4 ?_ (ql6 _))));refine Za (Zc (Za (Wk ho hd ?_)));show wpAny _ _ (setEntries a >>= _) _ _ s;refine Za (Vr kX kK hf ?_);rw[Zl (by simp)];refine Za (Zc ?_);have fin1:∀{E':Value->Shared->Prop}(s':Shared) (o':Obj) (f:Value),s'.heap.get? it=some o'->o'.cls=.type "set_iterator" -> o'.data=.fields #[f,.int i 0,.ref a,.int es.size 0,.int ep 0]->f=fst (i+1)->Heap.SameBut it s.heap s'.heap->s'={ s with heap:=s'.heap } ->
   wpAny (model prog w) A.in1 (setField (.ref it) 1 (rawInt ((i:Int)+1)) >>= λ_=>ret v) (λfin s'=>∃v,fin=Fin.done (Flow.ret v)/\wpAny (model prog w) A (pure (some v)) Q E s') E' s':=λs' o' f ho' hc' hd' ef sb es'=>by
  refine Za (YR ho' hd' (by simp) (Zc ⟨v,rfl,Zc ?_⟩));rw[es'];refine q _ ⟨_,ZQ _ ho' (YO (Z1 hd' _)),(Wa ..).trans hc',?_⟩ (sb.trans (Yc ..));rw[Z1 hd',ef];simp[rawInt]
 have fin2:∀{E':Value->Shared->Prop}(nx:Nat),Value.int nx 0=fst (i+1)->wpAny (model prog w) A.in1 (setField (.ref it) 0 (rawInt nx) >>= λ_=>setField (.ref it) 1 (rawInt ((i:Int)+1)) >>= λ_=>ret v) (λfin s'=>∃v,fin=Fin.done (Flow.ret v)/\wpAny (model prog w) A (pure (some v)) Q E s') E' s:=λnx e=>by
  refine Za (YR ho hd (by simp) ?_);exact fin1 { s with heap:=s.heap.update it (Obj.mapFields (·.setIfInBounds 0 (rawInt nx))) } _ (.int nx 0) (ZQ _ ho (YO (Z1 hd _))) ((Wa ..).trans hc) (by rw[Z1 hd];simp[rawInt]) e (Yc ..) rfl
 cases m with
 |text b=>
  show wpAny _ _ (setNext a 0 ((i:Nat):Int).toNat ((ep:Nat):Int).toNat >>= _) _ _ s;rw[ZA,ZA];unfold setNext;refine Za (Za (ZY kX kK hf ?_));dsimp only;unfold setsByText;refine Za (Za (YM (Zc ?_)));refine ZP (λ_=>?_) (λh=>absurd b h);rw[Zl (by simp)];unfold setWalk;refine Za (Za (ZY kX kK hf ?_));dsimp only;unfold setsByText;refine Za (Za (YM (Zc ?_)));refine ZP (λ_=>?_) (λh=>absurd b h);refine Za (YM (Zc (Zc ?_)));have hi':((pickOrder (w.params.setOrder a ep) es).toList.map (·.2))[i]?=some v:=hi;rw[Zg,Yn] at hi';obtain⟨e,he,rfl⟩:=Zj.mp hi';show wpAny _ _ (match Option.map (λe=>(e.2,0)) (pickOrder (w.params.setOrder a ep) es)[i]? with|some (x,next)=>_|none=>_) _ _ s;rw[he];exact fin2 0 rfl
 |plain b nd led sl s0 bl sn=>
  show wpAny _ _ (setNext a ((sl i:Nat):Int).toNat ((i:Nat):Int).toNat ((ep:Nat):Int).toNat >>= _) _ _ s;rw[ZA,ZA,ZA];unfold setNext;refine Za (Za (ZY kX kK hf ?_));dsimp only;unfold setsByText;refine Za (Za (YM (Zc ?_)));refine ZP (λh=>absurd (show w.params.followText "set-order" = true from h) (by rw[b];exact Zq)) (λ_=>?_);refine ZP (λh=>absurd (show (!t.plain&&decide (es.size>1))=true from h) (by rw[nd];exact Zq)) (λ_=>?_);have hi':(es.toList.map (·.2))[i]?=some v:=hi;rw[Zg,Yn] at hi';obtain⟨e,he,rfl⟩:=Zj.mp hi';have hil:=(YC.mp he).1;have yD:t.place.size=es.size:=by
   have:=hf;unfold SetTable.fits at this;simp at this;exact this.1
  obtain⟨j,hj⟩:∃j,t.place[i]?=some j:=⟨_,Y2 (by lia)⟩;refine Za ?_;refine ZP (λh=>?_) (λ_=>Zc (Zc ?_))
  ·have h':(!t.led&&!es.isEmpty)=true:=h;rw[led] at h';cases h'
  ·rw[bl i (by lia),he,hj];exact fin2 (j+1) (by show Value.int _ 0=Value.int _ 0;rw[sn i j hj])
 |draw b tp ps pp=>
  obtain⟨ot,hot,hct,nt,hdt⟩:=id ok;show wpAny _ _ (seqItems? (.ref tp) >>= _) _ _ s;refine Za (Xv hot hdt ?_);have hi':(ps.map λi=>(es.getD i (0,.none)).2)[i]?=some v:=hi;rw[Zg] at hi';obtain⟨k,hk,rfl⟩:=Zj.mp hi';have hkn:k<es.size:=Yb.mp (pp.mem_iff.mp (Zz hk));have ek:(ps.map λ(i:Nat)=>Value.int i 0).toArray[((i:Nat):Int).toNat]?=some (.int k 0):=by rw[ZA,List.getElem?_toArray,Zg,hk];rfl
  have ex:es[k]?=some (es.getD k (0,.none)):=by rw[Y2 hkn];simp[Array.getD,hkn]
  dsimp only;rw[ek];show wpAny _ _ (setNextDrawn a ((k:Nat):Int).toNat ((ep:Nat):Int).toNat >>= _) _ _ s;rw[ZA,ZA];unfold setNextDrawn;refine Za (Za (ZY kX kK hf ?_));dsimp only;rw[Zl (by simp)];rw[ex];refine Zc ?_;exact fin1 s o (.ref tp) ho hc hd rfl (Wd _ _) rfl
theorem xe0 {Q:Option Value->Shared->Prop}(hh:A.handled=none) (m:Md w a es ep t OK fst ord) (st:IsSetI s.heap it (fst es.size) es.size a es.size ep) (x:SetB s.heap a es ep t) (hf:t.fits es.size=true) (ok:OK s.heap)
  (q:∀h',Heap.ExtBut it s.heap h'->Q none { s with heap:=h' }):wpAny (model prog w) A (pyNext (.ref it)) Q E s:=by
 obtain⟨o,ho,hc,hd⟩:=id st;obtain⟨oa,kX,hca,kK⟩:=id x;unfold pyNext;refine Za (XM (Z4 (name:=Str.ofString "__next__") st.ty slot_seti_next (Z5 slot_seti_next st.ty qk4 ?_ (ql6 _))));refine Za (Zc (Za (Wk ho hd ?_)));show wpAny _ _ (setEntries a >>= _) _ _ s;refine Za (Vr kX kK hf ?_);rw[Zl (by simp)];refine Za (Zc ?_);have fin:∀(s':Shared) (o':Obj) (xs:Array Value),s'.heap.get? it=some o'->o'.data=.fields xs->xs.size=5->Heap.SameBut it s.heap s'.heap->s'={ s with heap:=s'.heap } ->
   wpAny (model prog w) A.in1 (setField (.ref it) 2 .none >>= λ_=>newExc (.type "StopIteration") [] >>= λe=>raiseNew e) (λfin s'=>∃v,fin=Fin.done (Flow.ret v)/\wpAny (model prog w) A (pure (some v)) Q E s') (λe s'=>wpAny (model prog w) A (isInstance e (.type "StopIteration") >>= λb=>if b=true then pure none else throw e) Q E s') s':=λs' o' xs ho' hd' hx sb es'=>by
  refine Za (YR ho' hd' (by lia) ?_);refine Za ?_;simp only[newExc,newTuple];refine Za (ZJ ?_ (by size_fits));refine Za (m:=firstArgMember _ _) (Wj (a:=Value.none) (by first|rfl|(simp only[firstArgMember];rfl)) (ZJ ?_ (by size_fits)));simp only[raiseNew];refine Za (wpAny_handled ?_);rw[show A.in1.handled=none by exact hh];refine Za (Zc (wpAny_throw ?_));refine Za (XX (T:= "StopIteration") (b:=true) ⟨_,Zh _ rfl,rfl⟩ isSubtype_stop ?_);rw[es'];exact Zc (q _ (((sb.trans (Yc ..)).extBut.push _).push _))
 cases m with
 |text b=>
  show wpAny _ _ (setNext a 0 ((es.size:Nat):Int).toNat ((ep:Nat):Int).toNat >>= _) _ _ s;rw[ZA,ZA];unfold setNext;refine Za (Za (ZY kX kK hf ?_));dsimp only;unfold setsByText;refine Za (Za (YM (Zc ?_)));refine ZP (λ_=>?_) (λh=>absurd b h);rw[Zl (by simp)];unfold setWalk;refine Za (Za (ZY kX kK hf ?_));dsimp only;unfold setsByText;refine Za (Za (YM (Zc ?_)));refine ZP (λ_=>?_) (λh=>absurd b h);refine Za (YM (Zc (Zc ?_)));have hn:(pickOrder (w.params.setOrder a ep) es)[es.size]?=none:=by
   rw[VH];have:=(ql8 (w.params.setOrder a ep) es).length_eq;simp at this;lia
  show wpAny _ _ (match Option.map (λe=>(e.2,0)) (pickOrder (w.params.setOrder a ep) es)[es.size]? with|some (x,next)=>_|none=>_) _ _ s;rw[hn];exact fin s o _ ho hd rfl (Wd _ _) rfl
 |plain b nd led sl s0 bl sn=>
  show wpAny _ _ (setNext a ((sl es.size:Nat):Int).toNat ((es.size:Nat):Int).toNat ((ep:Nat):Int).toNat >>= _) _ _ s;rw[ZA,ZA,ZA];unfold setNext;refine Za (Za (ZY kX kK hf ?_));dsimp only;unfold setsByText;refine Za (Za (YM (Zc ?_)));refine ZP (λh=>absurd (show w.params.followText "set-order" = true from h) (by rw[b];exact Zq)) (λ_=>?_);refine ZP (λh=>absurd (show (!t.plain&&decide (es.size>1))=true from h) (by rw[nd];exact Zq)) (λ_=>?_);have hn:es[es.size]?=none:=WU (Ze _);refine Za ?_;refine ZP (λh=>?_) (λ_=>Zc (Zc ?_))
  ·have h':(!t.led&&!es.isEmpty)=true:=h;rw[led] at h';cases h'
  ·rw[bl es.size (Ze _),hn];exact fin s o _ ho hd rfl (Wd _ _) rfl
 |draw b tp ps pp=>
  obtain⟨ot,hot,hct,nt,hdt⟩:=id ok;show wpAny _ _ (seqItems? (.ref tp) >>= _) _ _ s;refine Za (Xv hot hdt ?_);have jJ:ps.length=es.size:=by rw[pp.length_eq,YA]
  have ek:(ps.map λ(i:Nat)=>Value.int i 0).toArray[((es.size:Nat):Int).toNat]?=none:=by rw[ZA,VH];simp;lia
  dsimp only;rw[ek];show wpAny _ _ (setField (.ref it) 0 (rawInt 0) >>= _) _ _ s;refine Za (YR ho hd (by simp) ?_);exact fin { s with heap:=s.heap.update it (Obj.mapFields (·.setIfInBounds 0 (rawInt 0))) } _ _ (ZQ _ ho (YO (Z1 hd _))) (Z1 hd _) (by simp) (Yc ..) rfl
end
end L2
namespace SetT
open PySem
def Rise (xs:Array Nat):Prop:=∀i j (hi:i<xs.size) (hj:j<xs.size),i<j->xs[i]<xs[j]
theorem qA8 {xs:Array Nat}(hr:Rise xs) (j:Nat):∀(f lo hi:Nat),hi-lo<=f->lo<=hi->hi<=xs.size->(∀k (h:k<xs.size),k<lo->xs[k]<j)->(∀k (h:k<xs.size),hi<=k->j<=xs[k]) ->
  SetTable.below.go xs j f lo hi<=xs.size/\(∀k (h:k<xs.size),k<SetTable.below.go xs j f lo hi->xs[k]<j)/\(∀k (h:k<xs.size),SetTable.below.go xs j f lo hi<=k->j<=xs[k])
 |0,lo,hi,hf,hl,hs,h1,h2=>by
  have e:lo=hi:=by lia
  subst e;exact⟨hs,h1,h2⟩
 |f+1,lo,hi,hf,hl,hs,h1,h2=>by
  unfold SetTable.below.go;by_cases hc:lo<hi
  ·rw[Zt hc];have hm:(lo+hi)/2<xs.size:=by lia
   have em:xs.getD ((lo+hi)/2) j=xs[(lo+hi)/2]:=by simp[Array.getD,hm]
   simp only;rw[em];by_cases hx:xs[(lo+hi)/2]<j
   ·rw[Zt hx];refine qA8 hr j f _ hi (by lia) (by lia) hs (λk h hk=>?_) h2;by_cases ek:k=(lo+hi)/2
    ·subst ek;exact hx
    ·exact WP (hr k _ h hm (by lia)) hx
   ·rw[Zl hx];refine qA8 hr j f lo _ (by lia) (by lia) (by lia) h1 (λk h hk=>?_);by_cases ek:k=(lo+hi)/2
    ·subst ek;lia
    ·have:=hr _ k hm h (by lia);lia
  ·rw[Zl hc];have e:lo=hi:=by lia
   subst e;exact⟨hs,h1,h2⟩
theorem below_is {xs:Array Nat}(hr:Rise xs) (j:Nat):SetTable.below xs j<=xs.size/\(∀k (h:k<xs.size),k<SetTable.below xs j->xs[k]<j)/\(∀k (h:k<xs.size),SetTable.below xs j<=k->j<=xs[k]):=
 qA8 hr j xs.size 0 xs.size (by lia) (Zx _) (Ze _) (λk h hk=>absurd hk (XA _)) (λk h hk=>absurd h (by lia))
end SetT
namespace L2
open PySem PySem.Spec PyProof.Rows PySem.W
section
variable {prog:Program}{w:World}{A:Around}{E:Value->Shared->Prop}{s:Shared}{it a:Addr}{es:Array (Int×Value)}{ep:Nat}{t:SetTable}{OK:Heap->Prop}{fst:Nat->Value}{ord:List Value}
theorem qS9 (hh:A.handled=none) (m:Md w a es ep t OK fst ord) (wS:ord.length=es.size) (hf:t.fits es.size=true) (jK:a≠it) (fpO:List Addr) (wT:it∉fpO) (kO:∀h h':Heap,OK h->(∀b∈fpO,∀o,h.get? b=some o->h'.get? b=some o)->OK h') :
  Walks prog w A it (it::a::fpO) [it] es.size (λi v=>ord[i]?=some v) (λi h=>IsSetI h it (fst i) i a es.size ep/\SetB h a es ep t/\OK h) where
 sub:=λb hb=>by simp at hb;simp[hb]
 frame:=λ_ _ _ st k=>⟨(let ⟨o,ho,r⟩:=st.1;⟨o,k it (by simp) o ho,r⟩),st.2.1.stay λo e=>k a (by simp) o e,kO _ _ st.2.2 λb hb o e=>k b (by simp[hb]) o e⟩
 item:=λi s Q E hi st q=>by
  have hv:ord[i]?=some (ord[i]'(by lia)):=Zd (by lia);refine q67 m st.1 st.2.1 hf st.2.2 hv λh' st' sb=>q _ h' s.toks hv ⟨st',st.2.1.stay λo e=>sb.extBut a o jK e,kO _ _ st.2.2 λb hb o e=>sb.extBut b o (λz=>wT (by rw[<- z];exact hb)) e⟩ λb o hb e=>sb.extBut b o (λh=>hb (by simp[h])) e
 done:=λs Q E st q=>xe0 hh m st.1 st.2.1 hf st.2.2 λh' eb=>q h' s.toks λb o hb e=>eb b o (λh=>hb (by simp[h])) e
 self:=λ_ _ _ _ st q=>by
  refine VT st.1.ty ql7 (Z5 ql7 st.1.ty qv5 ?_ (qw4 _));show wpAny _ _ (ret (.ref it)) _ _ _;exact Zc ⟨_,rfl, "set_iterator",_,st.1.ty,slot_seti_next.lookup,q⟩
theorem xe1 {Q:Bool->Shared->Prop}(hT:s.TypeIs (.ref a) "set") (h:Q false s):wpAny (model prog w) A (Builtin.List.listLengthHint (.ref a)) Q E s:=by
 unfold Builtin.List.listLengthHint;refine Za (wpAny_specialOf hT slot_set_len'.lookup ?_);generalize hid:("set.__len__" : String)=id0
 wp_delta
 rw[show splitId id0=some ("set", "__len__") from by subst hid;decide +kernel];subst hid;refine Za (XX (T:= "set") (b:=true) hT (by rw[VF];kernel_rfl) ?_);refine ZP (λjS=>absurd jS (by decide)) (λ_=>?_);refine ZP (λ_=>?_) (λjS=>absurd (by decide +kernel) jS);refine Za (Vs hT ?_);exact Zc h
structure Itd_ (prog:Program) (w:World) (A:Around) (a:Addr) (es:Array (Int×Value)) (ep:Nat) (t:SetTable) (s s':Shared) (it:Addr) (vs:List Value):Prop where
 perm:vs.Perm (es.toList.map (·.2))
 new:s.heap.objs.size<=it
 keep:∀b o,s.heap.get? b=some o->s'.heap.get? b=some o
 same:∃d,s'={ s with heap:=s'.heap,drawn:=d }
 wk:∃fpO St,it∉fpO/\(∀b∈fpO,s.heap.objs.size<=b/\b<s'.heap.objs.size)/\it<s'.heap.objs.size/\Walks prog w A it (it::a::fpO) [it] es.size (λi v=>vs[i]?=some v) St/\St 0 s'.heap
theorem set_iter {Q:Value->Shared->Prop}{A':Around}(hh:A'.handled=none) (x:SetB s.heap a es ep t) (hf:t.fits es.size=true) (hn:es.size<=sizeLine) (hl:t.led=!w.params.followText "set-order") (hr:(!t.plain&&decide (es.size>1))=true\/SetT.Rise t.place)
  (q:∀it vs s',Itd_ prog w A' a es ep t s s' it vs->Q (.ref it) s'):wpAny (model prog w) A (pyIter (.ref a)) Q E s:=by
 obtain⟨o,ho,hc,hd⟩:=id x;have vH:=x.lt;refine VT x.ty PySem.F.slot_set_iter (Z5 PySem.F.slot_set_iter x.ty qw5 ?_ (PySem.F.args_set_iter_1 _));refine Za (Zc ?_);show wpAny _ _ (Builtin.Frozenset.sizeOf a >>= _) _ _ _;unfold Builtin.Frozenset.sizeOf;refine Za (Za (Vr ho hd hf (Zc ?_)));unfold setDrawn setsByText;refine Za (Za (ZY ho hd hf ?_));dsimp only;refine Za (Za (YM (Zc (Zc ?_))));have last:∀(s1:Shared) (first:Value) (OK:Heap->Prop) (fst:Nat->Value) (ord:List Value) (fpO:List Addr) (d:Drawn),s1={ s with heap:=s1.heap,drawn:=d }->(∀b o,s.heap.get? b=some o->s1.heap.get? b=some o)->s.heap.objs.size<=s1.heap.objs.size->Md w a es ep t OK fst ord->fst 0=first->OK s1.heap->ord.Perm (es.toList.map (·.2))->(∀b∈fpO,s.heap.objs.size<=b/\b<s1.heap.objs.size)->(∀h h':Heap,OK h->(∀b∈fpO,∀o,h.get? b=some o->h'.get? b=some o)->OK h') ->
   wpAny (model prog w) A.in1 (setEpoch a >>= λe=>newFields "set_iterator" [first,rawInt 0,.ref a,rawInt es.size,rawInt e] >>= λv=>ret v) (λfin s'=>∃v,fin=.done (.ret v)/\∃T u,s'.TypeIs v T/\typeLookup (.type T) "__next__" = pure (some u)/\Q v s') E s1:=λs1 first OK fst ord fpO d e1 k1 z1 m ef ok op fp0 kO=>by
  have vL:=k1 _ _ ho;refine Za (wpAny_setEpoch_of vL hd hf ?_);refine Za (ZJ (Zc ⟨_,rfl, "set_iterator",_,⟨_,Zh _ rfl,rfl⟩,slot_seti_next.lookup,?_⟩));have wS:ord.length=es.size:=by rw[op.length_eq,Zf,ZL]
  refine q s1.heap.objs.size ord _ ⟨op,z1,λb o e=>Zb _ (k1 b o e),⟨d,by rw[e1]⟩,fpO,_,λz=>Yk _ (fp0 _ z).2,λb hb=>⟨(fp0 b hb).1,by rw[ZS];exact ZZ (fp0 b hb).2⟩,by rw[ZS];exact Yq _,qS9 hh m wS hf (Zp (ZO vH z1)) fpO (λz=>Yk _ (fp0 _ z).2) kO,?_⟩;exact⟨⟨_,Zh _ rfl,rfl,by rw[ef];simp[rawInt]⟩,⟨o,Zb _ vL,hc,hd⟩,kO _ _ ok λb _ o e=>Zb _ e⟩
 by_cases hb:w.params.followText "set-order" = true
 ·refine ZP (λh=>?_) (λ_=>?_)
  ·have h':(!w.params.followText "set-order" && (!t.plain&&decide (es.size>1)))=true:=h;rw[hb] at h';cases h'
  ·refine Za (Zc ?_);exact last s (.int 0 0) _ _ _ [] s.drawn rfl (λ_ _ e=>e) (Ze _) (.text hb) rfl trivial ((ql8 _ _).map _) (λb hb=>nomatch hb) (λ_ _ _ _=>trivial)
 ·have hb':w.params.followText "set-order" = false:=Z0.mpr hb;have led:t.led=true:=by rw[hl,hb'];rfl
  refine ZP (λh=>?_) (λh=>?_)
  ·refine Za (qG7 es.size (List.range es.size) _ _ (by simp) λps d hp=>Za ?_);have jJ:ps.length=es.size:=by rw[hp.length_eq,YA]
   refine wpAny_newTuple ?_ (by rw[Zf];lia);have hT:(s.heap.push (seqObj "tuple" (ps.map λ(i:Nat)=>Value.int i 0).toArray 0)).get? s.heap.objs.size=some (seqObj "tuple" (ps.map λ(i:Nat)=>Value.int i 0).toArray 0):=Zh _ rfl;have er:((List.range es.size).map λi=>(es.getD i (0,.none)).2)=es.toList.map (·.2):=by
    refine List.ext_getElem (by simp) λi h1 h2=>?_;have hi:i<es.size:=by simpa using h1
    simp[Array.getD,hi]
   have op:(ps.map λi=>(es.getD i (0,.none)).2).Perm (es.toList.map (·.2)):=by rw[<- er];exact hp.map _
   exact last { s with heap:=s.heap.push (seqObj "tuple" (ps.map λ(i:Nat)=>Value.int i 0).toArray 0),drawn:=d } (.ref s.heap.objs.size) _ _ _ [s.heap.objs.size] d rfl (λb o e=>Zb _ e) (by rw[ZS];exact Xq _) (.draw hb' s.heap.objs.size ps hp) rfl ⟨_,hT,rfl,0,rfl⟩ op
    (λb hb=>by rw[X4.mp hb,ZS];exact⟨Ze _,Yq _⟩) (λh h' ⟨o,ho,r⟩ k=>⟨o,k _ (by simp) o ho,r⟩)
  ·refine Za (Zc ?_);have nd:(!t.plain&&decide (es.size>1))=false:=by
    have h':¬(!w.params.followText "set-order" && (!t.plain&&decide (es.size>1)))=true:=h;rw[hb'] at h';simpa using h'
   have ri:SetT.Rise t.place:=by
    rcases hr with z|z
    ·rw[nd] at z;cases z
    ·exact z
   have yD:t.place.size=es.size:=by
    have:=hf;unfold SetTable.fits at this;simp at this;exact this.1
   refine last s (.int 0 0) _ _ _ [] s.drawn rfl (λ_ _ e=>e) (Ze _) (.plain hb' nd led (λi=>if i=0 then 0 else t.place.getD (i-1) 0+1) rfl (λi hi=>?_) (λi j hj=>?_)) rfl trivial (List.Perm.refl _) (λb hb=>nomatch hb) (λ_ _ _ _=>trivial)
   ·obtain⟨b0,b1,b2⟩:=SetT.below_is ri (if i=0 then 0 else t.place.getD (i-1) 0+1);generalize SetTable.below t.place (if i=0 then 0 else t.place.getD (i-1) 0+1)=B at b0 b1 b2;by_cases h0:i=0
    ·subst h0;rw[Zt rfl] at b1;by_cases hB:B=0
     ·exact hB
     ·exact absurd (b1 0 (by lia) (by lia)) (XA _)
    ·rw[Zl h0] at b1 b2;have hi1:i-1<t.place.size:=by lia
     have eg:t.place.getD (i-1) 0=t.place[i-1]:=by simp[Array.getD,hi1]
     rw[eg] at b1 b2;rcases VS B i with z|z|z
     ·have:=b2 (i-1) hi1 (by lia);lia
     ·exact z
     ·have wJ:i<t.place.size:=by lia
      have q1:=b1 i wJ z;have q2:=ri (i-1) i hi1 wJ (by lia);lia
   ·show (if i+1=0 then 0 else t.place.getD (i+1-1) 0+1)=j+1;rw[Zl (by lia),Nat.add_sub_cancel];obtain⟨h1,h2⟩:=YC.mp hj;simp[Array.getD,h1,h2]
theorem qK6 {Q:List Value->Shared->Prop}(hh:A.handled=none) (x:SetB s.heap a es ep t) (hf:t.fits es.size=true) (hn:es.size<=sizeLine) (hl:t.led=!w.params.followText "set-order") (hr:(!t.plain&&decide (es.size>1))=true\/SetT.Rise t.place)
  (hQ:∀vs h' tk d,vs.Perm (es.toList.map (·.2))->(∀b o,s.heap.get? b=some o->h'.get? b=some o)->Q vs { s with heap:=h',drawn:=d,toks:=tk }):wpAny (model prog w) A (collect (.ref a)) Q E s:=by
 have jB:=x.lt;unfold collect;refine Za (VC (Z8 PySem.F.entry_proto_collect ?_));rw[ZW PySem.F.plain_proto_collect _];show wpAny _ A.in1 (newList [] >>= λl=>again (.builtin "list.__iadd__" ⟨[l,.ref a],[]⟩)) _ _ s;refine Za (ZJ ?_);refine Zc ⟨Yw PySem.F.plain_list_iadd _,Z8 PySem.F.entry_list_iadd ?_⟩;rw[ZW PySem.F.plain_list_iadd _];have hS:(s.heap.push (seqObj "list" #[] 0)).get? s.heap.objs.size=some (seqObj "list" #[] 0):=Zh _ rfl;show wpAny _ A.in1 (Builtin.List.listExtendWith (.ref s.heap.objs.size) (.ref a) (.ref s.heap.objs.size)) _ _ { s with heap:=s.heap.push (seqObj "list" #[] 0) };have x1:SetB (s.heap.push (seqObj "list" #[] 0)) a es ep t:=x.stay λo e=>Zb _ e;unfold Builtin.List.listExtendWith;refine Za (Vs (T:= "set") (s:={ s with heap:=s.heap.push (seqObj "list" #[] 0) }) x1.ty ?_);have h1:Builtin.List.listSameRef (.ref s.heap.objs.size) (.ref a)=false:=by simp[Builtin.List.listSameRef,XE jB]
 simp only[h1,show (Value.type "set" == Value.type "list")=false by decide,show (Value.type "set" == Value.type "tuple")=false by decide,Bool.or_false,Zr,Z2];refine Za (set_iter (A':=A.in1) (s:={ s with heap:=s.heap.push (seqObj "list" #[] 0) }) hh x1 hf hn hl hr λit vs s1 I=>?_);obtain⟨op,nw,kp,⟨d,e1⟩,fpO,St,wT,hfo,hil,W,st⟩:=I;have hz:(s.heap.push (seqObj "list" #[] 0)).objs.size=s.heap.objs.size+1:=ZS ..;have nw':s.heap.objs.size+1<=it:=by rw[<- hz];exact nw
 have jW:s.heap.objs.size∉it::a::fpO:=by
  intro z;rcases Zn.mp z with z|z
  ·exact absurd z (Zp nw')
  ·rcases Zn.mp z with z|z
   ·exact absurd z (XE jB)
   ·have:=(hfo _ z).1;rw[hz] at this;exact absurd this (Nat.not_le.mpr (Yq _))
 have x2:SetB s1.heap a es ep t:=x1.stay λo e=>kp _ _ e;have wO:=kp _ _ hS;have key:∀(h:Heap) (c₁ tk:Nat),St 0 h->(∀b o,b≠s.heap.objs.size->s1.heap.get? b=some o->h.get? b=some o)->h.get? s.heap.objs.size=some (seqObj "list" #[] c₁) ->
   codeAny (model prog w) A (.builtin "list.extend.loop" ⟨[.ref s.heap.objs.size,.ref it,.ref s.heap.objs.size],[]⟩) (wants (λv s'=>wpAny (model prog w) A (match v with|.ref a=>(do let ob <- load a;match ob.data with|.seq xs _=>pure xs.toList|_=>unsupported "internal:collect")|_=>unsupported "internal:collect") Q E s') E) { s with heap:=h,drawn:=d,toks:=tk }:=by
  intro h c₁ tk jP hk hSl;refine codeAny_extend_loopS W.toS hn s.heap.objs.size jW (.ref s.heap.objs.size) es.size 0 _ #[] c₁ rfl (Zx _) jP hSl (ItemsOf.nil _) λs' acc' c' hm hS' jL=>?_;rw[Moved.eq_with hm];show wpAny _ A (load s.heap.objs.size >>= _) _ _ _;refine Za (wpAny_load hS' ?_);have ev:acc'.toList=vs:=by
   have hvl:vs.length=es.size:=by rw[op.length_eq,Zf,ZL]
   refine We λi=>?_;rw[Yn];by_cases hi:i<acc'.size
   ·have:=jL.2 i acc'[i] (Y2 hi);rw[Y2 hi,this]
   ·rw[WU (by lia),Y4 (by rw[hvl,<- jL.1];lia)]
  refine Zc ?_;show Q acc'.toList _;rw[ev];refine hQ vs s'.heap s'.toks d op λb o e=>?_;have hb:=Zi e;have e2:s1.heap.get? b=some o:=kp _ _ (Zb _ e);refine hm.heap b o (λz=>?_) (hk b o (Zp hb) e2);rcases Zn.mp z with z|z
  ·exact Zp hb z
  ·exact Zp (ZO (ZZ hb) nw') (X4.mp z)
 rw[e1];refine Za (ZX (xe1 (s:={ s with heap:=s1.heap,drawn:=d }) x2.ty ?_));refine ZP (λ_=>?_) (λ_=>Zc ⟨Yw VL _,key _ 0 _ st (λb o _ e=>e) wO⟩);refine Za (Y6 ?_);refine Za ?_;show wpAny _ _ (updateSeq s.heap.objs.size (·.push .none) >>= λ_=>updateSeq s.heap.objs.size (·.pop)) _ _ _;refine Za (WD wO rfl ?_);have hS2:=ZQ (Obj.mapSeq (·.push Value.none)) wO rfl;refine WD (hz:=by seq_fits) hS2 rfl ?_;have hS3:=ZQ (Obj.mapSeq (·.pop)) hS2 rfl;refine Zc ⟨Yw VL _,key _ _ _ ?_ (λb o hb e=>?_) hS3⟩
 ·refine W.frame 0 _ _ st λb hb o e=>?_;have hbS:b≠s.heap.objs.size:=λh=>jW (h▸hb);exact (Zs _ _ (XC hbS)).trans ((Zs _ _ (XC hbS)).trans e)
 ·exact (Zs _ _ (XC hb)).trans ((Zs _ _ (XC hb)).trans e)
end
theorem xo8 (t:SetTable) (es:Array (Int×Value)) (h:Int) (x:Value):(layNew t es h x).2.1.led=t.led:=by
 unfold layNew;split
 ·show (SetTable.orStandIn _ _).led=t.led;unfold SetTable.orStandIn;split<;>rfl
 ·rfl
theorem qK7 (t:SetTable) (es:Array (Int×Value)) (n:Nat):(relayAll t es n).2.1.led=t.led/\((relayAll t es n).2.1.plain=true->t.plain=true):=by
 unfold relayAll;split
 ·rename_i t' order e;dsimp only;split
  ·have:t'.led=t.led/\t'.plain=t.plain:=by
    unfold SetTable.relaid SetTable.laid at e;cases ho:SetTable.layClean (SetTable.sizeAbove n-1) (es.map (·.1)) with
    |none=>rw[ho] at e;cases e
    |some owner=>
     rw[ho] at e;have e:=ZM e;injection e with e1 _
     rw[<- e1];exact⟨rfl,rfl⟩
   exact⟨this.1,λz=>by rw[<- this.2];exact z⟩
  ·exact⟨rfl,λz=>nomatch z⟩
 ·exact⟨rfl,λz=>nomatch z⟩
section
variable {prog:Program}{w:World}{K:Type}[DecidableEq K] (knd:KeyKind prog w K)
def EntK (e:Int×Value) (k:K):Prop:=knd.is k e.2=true/\e.1=knd.hash k/\e.2.scannable=true
def TxS (h:Heap) (a:Addr) (ks:List K):Prop:=∃es ep t,SetB h a es ep t/\t.fits es.size=true/\t.led=(!w.params.followText "set-order")/\(t.plain=true->es.size=0)/\es.size<scanBound/\∃ks',Paired (EntK knd) es.toList ks'/\ks'.Nodup/\∀k,k∈ks'<->k∈ks
variable {knd}
variable {A:Around}{E:Value->Shared->Prop}{s:Shared}
theorem TxS.stay {h h':Heap}{a:Addr}{ks:List K}(x:TxS knd h a ks) (k:∀o,h.get? a=some o->h'.get? a=some o):TxS knd h' a ks:=by
 obtain⟨es,ep,t,b,r⟩:=x;exact⟨es,ep,t,b.stay k,r⟩
theorem TxS.congr {h:Heap}{a:Addr}{ks ks2:List K}(x:TxS knd h a ks) (e:∀k,k∈ks<->k∈ks2):TxS knd h a ks2:=by
 obtain⟨es,ep,t,b,h1,h2,h3,h4,ks',h5,h6,h7⟩:=x;exact⟨es,ep,t,b,h1,h2,h3,h4,ks',h5,h6,λk=>(h7 k).trans (e k)⟩
theorem xo9 {h:Heap}{a:Addr}(e:h.get? a=some (SetT.newS (!w.params.followText "set-order"))):TxS knd h a []:=
 ⟨#[],0,_,⟨_,e,⟨rfl,rfl,rfl⟩,rfl⟩,rfl,rfl,λ_=>rfl,by decide,[],.nil,Vz,λ_=>Iff.rfl⟩
theorem q68 {l:List (Int×Value)}{ks:List K}(p:Paired (EntK knd) l ks):ElemsOf knd l:=λe he=>by
 obtain⟨i,hi,rfl⟩:=ZD.mp he;obtain⟨k,_,h1,h2,h3⟩:=qi0 p i _ (Zd hi);exact⟨⟨k,h1,h2⟩,h3⟩
theorem qv6 {α β:Type}{R:α->β->Prop}{x:α}{y:β}(h:R x y):∀{l:List α}{m:List β},Paired R l m->Paired R (l++[x]) (m++[y])
 |_,_,.nil=>.cons h .nil
 |_,_,.cons a r=>.cons a (qv6 h r)
theorem xp0 {a:Addr}{ks:List K}{k:K}{x:Value}{Q:Bool->Shared->Prop}(kR:knd.is k x=true) (jY:x.scannable=true) (jJ:plainKind x=false) (hS:TxS knd s.heap a ks) (hroom:ks.length+1<scanBound)
  (h:∀b h',Heap.SameBut a s.heap h'->TxS knd h' a (k::ks)->Q b { s with heap:=h' }):wpAny (model prog w) A (setAddHashed a x (knd.hash k)) Q E s:=by
 obtain⟨es,ep,t,⟨o,ho,k8,hd⟩,hf,kQ,wE,hb,ks',hp,vM,jH⟩:=hS;have vW:=q68 hp;have j9:es.size=ks'.length:=by have:=Y7 hp;simpa using this
 have yI:ks'.length<=ks.length:=by
  have:∀(l m:List K),l.Nodup->(∀k,k∈l->k∈m)->l.length<=m.length:=λl=>by
   induction l with
   |nil=>intro m _ _;exact Zx _
   |cons y l ih=>
    intro m nd sub;obtain⟨n1,n2⟩:=YG.mp nd;have hy:=sub y (by simp);have:=ih (m.erase y) n2 λz hz=>(List.mem_erase_of_ne (λe=>n1 (by rw[<- e];exact hz))).mpr (sub z (by simp[hz]));rw[List.length_erase_of_mem hy] at this;have:=List.length_pos_of_mem hy;rw[ZV];lia
  exact this _ _ vM λk hk=>(jH k).mp hk
 have hb1:es.size+1<scanBound:=by lia
 unfold setAddHashed setAddHashedIn;refine ZX (Za (ZY ho hd hf ?_));dsimp only;rw[byScan_of jY hb vW];simp only[↓reduceIte];unfold setAddByScan;refine Za ?_;refine Za (Y6 ?_);refine Za (wpAny_setScan_of kR ho hd hf vW ?_);cases hr:List.findIdx? (λe=>knd.is k e.2) es.toList with
 |some j=>
  dsimp only;obtain⟨hj,hpj,_⟩:=List.findIdx?_eq_some_iff_getElem.mp hr;obtain⟨k1,e1,e2,_⟩:=qi0 hp j _ (Zd hj);have ek:k1=k:=knd.inj _ _ _ e2 hpj;subst ek;have jT:k1∈ks':=Zz e1;refine Zc (Zc ?_);have e:s={ s with heap:=s.heap }:=by cases s;rfl
  rw[e];exact h _ s.heap (Wd a s.heap) ⟨es,ep,t,⟨o,ho,k8,hd⟩,hf,kQ,wE,hb,ks',hp,vM,λk'=>⟨λz=>Zk _ ((jH k').mp z),λz=>(Zn.mp z).elim (λe=>by rw[e];exact jT) (λz=>(jH k').mpr z)⟩⟩
 |none=>
  dsimp only;have wT:k∉ks':=λhk=>by
   obtain⟨i,hi,ei⟩:=ZD.mp hk;have hie:i<es.toList.length:=by rw[ZL,j9];exact hi
   obtain⟨k1,e1,e2,_⟩:=qi0 hp i _ (Zd hie);rw[Zd hi,ei] at e1;cases e1;have:=List.findIdx?_eq_none_iff.mp hr _ (Yr hie);rw[e2] at this;cases this
  have hgw:∀(b:Bool){s₁:Shared}{Q':Unit->Shared->Prop},Q' () s₁->wpAny (model prog w) A (match b with|true=>rule "set.scan.the-table-gave-way" | false=>pure ()) Q' E s₁:=λb s₁ Q' hq=>by cases b<;>first|exact Zc hq|exact Y6 hq
  have hperm:=layNew_perm t es (knd.hash k) x;have hfits:=layNew_fits t es (knd.hash k) x;have kG:=xo8 t es (knd.hash k) x;generalize hL:layNew t es (knd.hash k) x=L at hperm hfits kG ⊢;obtain⟨es1,t1,wasDummy,gave⟩:=L;dsimp only at hperm hfits kG ⊢;rw[Xh] at hperm;obtain⟨ks1,p1,kp⟩:=qg7 hperm (qv6 (show EntK knd (knd.hash k,x) k from ⟨kR,rfl,jY⟩) hp);have nd1:ks1.Nodup:=kp.nodup_iff.mpr (Wc.mpr ⟨vM,by simp,λu hu v hv e=>wT (by rw[X4.mp hv] at e;rw[<- e];exact hu)⟩);have mem1:∀k',k'∈ks1<->k'∈k::ks:=λk'=>by
   rw[kp.mem_iff,Z7,X4,Zn,jH,or_comm]
  have hsz1:es1.size<scanBound:=by
   have:=hperm.length_eq;rw[ZL,ZC,ZL] at this;simp at this;lia
  refine Za (hgw _ ?_);have tail:∀(t2:SetTable),t2.fits es1.size=true->t2.led=t.led->t2.plain=false->wpAny (model prog w) A (do
    storeSet a es1 t2
    if (!wasDummy&&t2.tooFull)=true then do
      (match (relayAll t2 es1 (SetTable.grown es1.size)).2.2 with|true=>rule "set.scan.the-table-gave-way" | false=>pure ())
      storeSet a (relayAll t2 es1 (SetTable.grown es1.size)).1 (relayAll t2 es1 (SetTable.grown es1.size)).2.1
      pure (some true)
     else pure (some true)) (λr s'=>wpAny (model prog w) A (match r with|some added=>pure added|none=>setAddHashedIn a x (knd.hash k) 99999) Q E s') E s:=λt2 hf2 jI jQ=>by
   refine Za (WR ho hd ?_ (VV hsz1));have vL:(s.heap.update a (Obj.putSet es1 t2)).get? a=some { o with data:=.set es1 (ep+1) t2 }:=by
    have:=ZQ (Obj.putSet es1 t2) ho (by rw[V1 es1 t2 hd];rfl);rw[V1 es1 t2 hd] at this;exact this
   have hsb1:=Yc s.heap a (Obj.putSet es1 t2);refine ZP (λ_=>?_) (λ_=>?_)
   ·have hq:=relayAll_perm t2 es1 (SetTable.grown es1.size);have hfr:=relayAll_fits t2 es1 (SetTable.grown es1.size);obtain⟨g1,g2⟩:=qK7 t2 es1 (SetTable.grown es1.size);generalize relayAll t2 es1 (SetTable.grown es1.size)=Rl at hq hfr g1 g2 ⊢;obtain⟨es2,t3,gave2⟩:=Rl;dsimp only at hq hfr g1 g2 ⊢;obtain⟨ks2,p2,kp2⟩:=qg7 hq p1;have hsz2:es2.size=es1.size:=by have:=hq.length_eq;simpa using this
    refine Za (hgw _ ?_);refine Za (WR vL rfl ?_ (VV (by lia)));have ho2:((s.heap.update a (Obj.putSet es1 t2)).update a (Obj.putSet es2 t3)).get? a=some { o with data:=.set es2 (ep+1+1) t3 }:=by
     have:=ZQ (Obj.putSet es2 t3) vL (by rw[V1 es2 t3 rfl];rfl);rw[V1 es2 t3 rfl] at this;exact this
    refine Zc (Zc (h _ _ (hsb1.trans (Yc _ a _)) ⟨es2,_,t3,⟨_,ho2,k8,rfl⟩,hfr,(by rw[g1,jI];exact kQ),λz=>?_,by lia,ks2,p2,kp2.nodup_iff.mpr nd1,λk'=>kp2.mem_iff.trans (mem1 k')⟩));have:=g2 z;rw[jQ] at this;cases this
   ·exact Zc (Zc (h _ _ hsb1 ⟨es1,_,t2,⟨_,vL,k8,rfl⟩,hf2,(by rw[jI];exact kQ),(λz=>by rw[jQ] at z;cases z),hsz1,ks1,p1,nd1,mem1⟩))
  cases hpl1:t1.plain with
  |true=>
   rw[Zt rfl];rw[hashByValue_scannable 8 jY,jJ];refine Za (Zc ?_);rw[Zl Zq];exact tail _ (SetTable.fits_plain_off hfits) kG rfl
  |false=>
   rw[Zl Zq];refine Za (Zc ?_);rw[Zt rfl];exact tail _ hfits kG hpl1
end
section
variable {prog:Program}{w:World}{A:Around}{E:Value->Shared->Prop}{s:Shared}
theorem xp1 (a:Value){Q₁:Value->Shared->Prop}(h:Q₁ (.ref s.heap.objs.size) { s with heap:=s.heap.push (SetT.newS (!w.params.followText "set-order")) }) :
  codeAny (model prog w) A (.call (.builtin "set.__new__") ⟨[.type "set",a],[]⟩) (wants Q₁ E) s:=by
 refine Vi ?_;show wpAny _ A.in1 (do checkBuiltinCall "set.__new__" ⟨[.type "set",a],[]⟩;again (.builtin "set.__new__" ⟨[.type "set",a],[]⟩)) _ _ s;refine Za (Wj (PySem.F.newCall_set_1 a) (Zc ⟨Yw PySem.F.plain_set_new _,Z8 PySem.F.entry_set_new ?_⟩));rw[ZW PySem.F.plain_set_new _];unfold Builtin.«set.__new__» Builtin.Frozenset.newClass;have jO:=sub_set_self;obtain⟨hp,g,d,tk,os⟩:=s;dsimp only
 wp_walk
 refine YM (Zc ?_);dsimp only;simp only[newObj];refine Za (wpAny_alloc (Zc ?_));exact Zc h
end
section
variable {prog:Program}{w:World}{A:Around}{R:Result->Shared->Prop}{I:Addr}{fp wr:List Addr}{G:Array GenState->Array GenState->Prop}{n:Nat}{P:Nat->Value->Prop}{St:Nat->Shared->Prop}
theorem xp2 (W:WalksS prog w A.in1 I fp wr G n P St) (S:Addr) (jW:S∉fp) (val:Nat->Str) (hval:∀i v,P i v->∃t,v=.str (val i) t) (hb:n+1<scanBound) :
  ∀(k i:Nat) (s:Shared),n-i=k->i<=n->St i s->TxS (strKind prog w) s.heap S ((List.range i).map val) ->
   (∀s',Moved (S::wr) G s s'->TxS (strKind prog w) s'.heap S ((List.range n).map val)->R (.ok (.ret .none)) s')->codeAny (model prog w) A (.builtin "set.update.loop" ⟨[.ref S,.ref I],[]⟩) R s:=by
 have w5:S∉wr:=λh=>jW (W.sub _ h);have jO:∀b∈wr,b∈S::wr:=λb hb=>Zk _ hb;intro k
 induction k with
 |zero=>
  intro i s hk hi jP hS hR;have jT:i=n:=by lia
  subst jT;refine Z8 YN ?_;rw[ZW Yd _];show wpAny _ A.in1 (pyNext (.ref I) >>= _) _ _ s;refine Za (W.done s _ _ jP λs' hm=>?_);show wpAny _ A.in1 (ret Value.none) _ _ s';exact Zc (hR s' (hm.mono jO) (hS.stay λo e=>hm.heap S _ w5 e))
 |succ k ih=>
  intro i s hk hi jP hS hR;have jB:i<n:=by lia
  refine Z8 YN ?_;rw[ZW Yd _];show wpAny _ A.in1 (pyNext (.ref I) >>= _) _ _ s;refine Za (W.item i s _ _ jB jP λv s' hP hst' hm=>?_);obtain⟨t,rfl⟩:=hval i v hP;have hS':=hS.stay λo e=>hm.heap S _ w5 e;show wpAny _ A.in1 (holding [Value.str (val i) t] (setAdd S (.str (val i) t)) >>= _) _ _ s';refine Za (ZX ?_);unfold setAdd;refine ZX ?_;have hk:(strKind prog w).is (val i) (.str (val i) t)=true:=strKind_is _ _ _ _;refine Za ((strKind prog w).pyHash (k:=val i) hk ?_);refine xp0 (s:={ s' with toks:=s'.toks+1 }) hk rfl rfl hS' (by rw[Zf,YA];lia) λb h' wQ hS2=>?_;have hSi:TxS (strKind prog w) h' S ((List.range (i+1)).map val):=hS2.congr λx=>by
   rw[Xl,Z9,Z7,Zn];show _<->_\/x∈[val i];rw[X4,or_comm]
  refine Zc ⟨Yw Yd _,ih (i+1) _ (by lia) jB (W.frame _ s' _ _ hst' (Xq _) λb hb o e=>?_) hSi λs'' hm'' hS''=>?_⟩
  ·rw[wQ.2 b (λh:b=S=>jW (by rw[<- h];exact hb))];exact e
  ·refine hR s'' (VQ W.gtrans ((hm.mono jO).then_heap (Xq _) λb o hb e=>?_) hm'') hS'';rw[wQ.2 b (λh:b=S=>hb (by rw[h];exact ZB))];exact e
end
section
variable {prog:Program}{w:World}{A:Around}{E:Value->Shared->Prop}{s:Shared}
theorem q69 {l:Addr}{items:Array Value}{val:Nat->Str}{Q:Value->Shared->Prop}(hh:A.handled=none) (hl:s.heap.IsList l items)
  (hi:∀(i:Nat) (v:Value),items[i]?=some v->∃t,v=.str (val i) t) (hb:items.size+1<scanBound)
  (h:∀(h':Heap) (tk:Nat),TxS (strKind prog w) h' s.heap.objs.size ((List.range items.size).map val)->(∀b o,b<s.heap.objs.size->s.heap.get? b=some o->h'.get? b=some o)->Q (.ref s.heap.objs.size) { s with heap:=h',toks:=tk }) :
  wpAny (model prog w) A (call (.type "set") [.ref l]) Q E s:=by
 obtain⟨c,tl,hmro⟩:=PySem.F.called_set.mro;have made0:=PySem.F.called_set.made;have sub0:=PySem.F.called_set.sub;refine wpAny_call (Vi ?_);show wpAny _ _ (callAny (.type "set") _) _ _ _;refine Zc ⟨VB _ (by decide +kernel),Z8 PySem.F.entry_type_call ?_⟩;rw[Around.under_plain (weight_type_call_type "set" [.ref l] []) rfl];have f1:=PySem.F.called_set.notType;have f2:=PySem.F.called_set.canCreate;have f3:=PySem.F.typeCall_set_1 (.ref l)
 repeat (any_goals first|assumption|wp_step)
 refine Wn (xp1 (.ref l) (E:=E) (Q₁:=λobj s₁=>obj=.ref s.heap.objs.size/\s₁={ s with heap:=s.heap.push (SetT.newS (!w.params.followText "set-order")) }) ⟨rfl,rfl⟩) λr s₁ hr=>?_;generalize kQ:(!w.params.followText "set-order")=led at hr;cases r with
 |error e=>exact hr
 |ok fl=>
  cases fl with
  |ret obj=>
   obtain⟨rfl,rfl⟩:=hr;have hS:(s.heap.push (SetT.newS led)).get? s.heap.objs.size=some (SetT.newS led):=Zh _ rfl;have hT:Shared.TypeIs { s with heap:=s.heap.push (SetT.newS led) } (.ref s.heap.objs.size) "set":=⟨_,hS,rfl⟩;have i1:=PySem.F.called_set.init.lookup;have i2:=PySem.F.called_set.init.bind (.ref s.heap.objs.size)
   repeat (any_goals first|assumption|wp_step)
   refine Wn (XG (R:=wants (λr s₂=>r=.none/\∃h' tk,s₂={ s with heap:=h',toks:=tk }/\TxS (strKind prog w) h' s.heap.objs.size ((List.range items.size).map val) /\
     (∀b o,b<s.heap.objs.size->s.heap.get? b=some o->h'.get? b=some o)) E) PySem.F.called_set.init.plain PySem.F.entry_set_init (check_set_init_1 hT ?_)) λr₂ s₂ hr₂=>?_
   ·obtain⟨ol,wS,kA,nl,hdl⟩:=id hl;obtain⟨ocls,odict,odata,oslots⟩:=ol;simp only at kA hdl;subst kA;subst hdl;have hol':(s.heap.push (SetT.newS led)).get? l=some { cls:=.type "list",dict:=odict,data:=.seq items nl,slots:=oslots }:=Zb _ wS;have st1:=PySem.F.sub_list_set;have st2:=PySem.F.sub_list_frozenset;have ned:(Value.type "list" == Value.type "dict")=false:=by decide
    have kG:(s.heap.push (SetT.newS led)).IsList l items:=⟨_,hol',rfl,nl,rfl⟩;unfold Builtin.«set.__init__» noKeywords Builtin.Frozenset.updateFrom;generalize hPI:pyIter=PI
    wp_walk
    subst hPI;refine Xf kG ?_;refine Za (VC ?_);have hlS:l<s.heap.objs.size:=Zi wS;have hsz:(s.heap.push (SetT.newS led)).objs.size=s.heap.objs.size+1:=ZS _ _;have hneI:l≠(s.heap.push (SetT.newS led)).objs.size:=by rw[hsz];exact Zp (ZZ hlS)
    have jW:s.heap.objs.size∉[(s.heap.push (SetT.newS led)).objs.size,l]:=by
     rw[hsz];simp only[Zn,Wp,Uj,not_or];exact⟨Zp (Yq _),XE hlS⟩
    refine xp2 ((VD (by simp[hh]) _ l hneI items).toS) s.heap.objs.size jW val hi hb (items.size-0) 0 _ (by lia) (Zx _)
     ⟨⟨_,Zh _ rfl,rfl,rfl⟩,kG.push _⟩ (xo9 (by rw[kQ];exact Zb _ hS)) λs' mv fin=>?_
    obtain⟨h',g',d',tk',os'⟩:=s';have eg:g'=s.gens:=mv.gens;have ed:d'=s.drawn:=mv.drawn;have eo:os'=s.os:=mv.os;subst eg;subst ed;subst eo;show wpAny _ _ _ _ _ _;refine Zc ?_;show wpAny _ _ (ret Value.none) _ _ _;refine Zc ⟨rfl,h',tk',rfl,fin,λb o jB e=>?_⟩;exact mv.heap b o (by rw[hsz];simp only[Zn,Wp,Uj,not_or];exact⟨Zp jB,Zp (ZZ jB)⟩) (Zb _ (Zb _ e))
   ·cases r₂ with
    |error e=>exact hr₂
    |ok fl₂=>
     cases fl₂ with
     |ret r=>
      obtain⟨rfl,h',tk,rfl,fin,kp⟩:=hr₂
      repeat (any_goals first|assumption|wp_step)
      exact h _ _ fin kp
     |_=>exact hr₂.elim
  |_=>exact hr.elim
end
section
variable {X:Cx}
def TxH (P:Program) (w:World) (r:Addr) (L:List Str):HO:=.ext λh=>TxS (strKind P w) h r L
theorem qT0 (hc:X.calm=true):qe3 X (.type "set") (λxs H Q=>∃(p:Addr) (L:List Str),xs=[.ref p]/\H p=some (.lst (L.map V.str))/\L.length+1<scanBound/\∀r,H r=none->Q (.ref r) (upd H r (TxH X.prog X.w r L))):=by
 intro j8 s σ H xs us Q I rv h;obtain⟨p,L,rfl,hp,hsz,q⟩:=h;obtain⟨u,rfl,ru⟩:=qg0 rv;cases ru;obtain⟨hz,its,n,r2,ho⟩:=I.hok p _ hp;have jI:its.length=L.length:=by have:=r2.length;simpa using this.symm
 refine q69 (items:=its.toArray) (val:=λi=>L.getD i "") (I.ok.hd hc) ⟨_,ho,rfl,n,rfl⟩ (λi v hv=>?_) (by rw[ZI,jI];exact hsz) λh' tk fin kp=>?_
 ·have hv':its[i]?=some v:=by simpa using hv
  have hi:i<L.length:=by rw[<- jI];exact (gS_ hv').1
  obtain⟨w',e1,t,e2⟩:=r2.get (i:=i) (x:=V.str L[i]) (by simp[hi]);rw[hv'] at e1;cases e1;exact⟨t,by rw[e2];simp[List.getD,hi]⟩
 ·have eL:(List.range its.toArray.size).map (λi=>L.getD i "")=L:=by
   refine List.ext_getElem (by simp[jI]) λi h1 h2=>?_;simp[List.getD,h2]
  rw[eL] at fin;obtain⟨es,ep,t,⟨o,hoo,_⟩,_⟩:=id fin;exact⟨.ref s.heap.objs.size,_,I.laid (a:=s.heap.objs.size) (o:=TxH X.prog X.w s.heap.objs.size L) (t':=tk) (λb o e=>kp b o (Zi e) e) (Ze _) ⟨fin,⟨o,hoo⟩,λh1 h2 φ k=>φ.stay k⟩,rfl,q _ (I.hok.fresh (Ze _))⟩
theorem qA9 (hc:X.calm=true){k:Nat}(hr:Room k X.A):qe3 X (.builtin "sorted") (λxs H Q=>∃(r:Addr) (L:List Str),xs=[.ref r]/\H r=some (TxH X.prog X.w r L) /\
  ∀q us (ls:List Str),H q=none->us=ls.map V.str->ls.Nodup->(∀x,x∈ls<->x∈L)->AscL (P:=X.prog) (w:=X.w) (atO true) H us->Q (.ref q) (upd H q (.lst us))):=by
 intro j8 s σ H xs us Q I rv h;obtain⟨r,L,rfl,hr0,q⟩:=h;obtain⟨u,rfl,ru⟩:=qg0 rv;cases ru;obtain⟨fin,_,_⟩:=(show ObjOk X.prog X.w H s.heap r (TxH X.prog X.w r L) from I.hok r _ hr0);obtain⟨es,ep,t,b,hf,kQ,wE,wQ,ks,hp,vM,jH⟩:=(show TxS (strKind X.prog X.w) s.heap r L from fin);have un:=hr.units;have hz:=VV wQ;have yD:t.place.size=es.size:=by
  have:=hf;unfold SetTable.fits at this;simp at this;exact this.1
 have hrise:(!t.plain&&decide (es.size>1))=true\/SetT.Rise t.place:=by
  by_cases h1:es.size>1
  ·left;have:t.plain=false:=by
    cases z:t.plain with
    |false=>rfl
    |true=>have:=wE z;lia
   rw[this,Zv h1];rfl
  ·right;intro i j hi hj jX;lia
 have key:∀vs:List Value,vs.Perm (es.toList.map (·.2))->∃ls:List Str,Vals (ls.map V.str) vs/\ls.Perm ks:=λvs hv=>by
  have pr:Paired (λ(v:Value) (x:Str)=>∃t,v=.str x t) (es.toList.map (·.2)) ks:=by
   refine qo5 (by rw[Zf];exact Y7 hp) λi v x h1 h2=>?_;rw[Zg] at h1;obtain⟨e,he,rfl⟩:=Zj.mp h1;obtain⟨k1,e1,e2,_⟩:=qi0 hp i e he;rw[h2] at e1;cases e1;exact Value.isStrOf_shape e2
  obtain⟨ls,p1,p2⟩:=qg7 hv pr;refine⟨ls,?_,p2⟩;clear hv p2
  induction p1 with
  |nil=>exact .nil
  |cons h _ ih=>exact .cons h ih
 refine xd4 (xB8 true) (by show _+3+0<cLine;lia) (Pv:=λvs=>∃ls:List Str,Vals (ls.map V.str) vs/\ls.Perm ks) (λvs ⟨ls,rv,pl⟩=>⟨λv hv=>?_,?_⟩) (λQ' k'=>qK6 (I.ok.hd hc) b hf hz kQ hrise λvs h' tk d hv kp=>k' vs h' tk d (key vs hv) kp) λvs out h1 h2 tk d c ⟨ls,rv,pl⟩ k1 k2 he o1 o2=>?_
 ·obtain⟨x,hx,rx⟩:=qP1 rv hv;obtain⟨y,_,rfl⟩:=Yg.mp hx;exact⟨_,qK4 (P:=X.prog) (w:=X.w) y _ _ I.hok rx⟩
 ·have h1:=rv.length;rw[Zf,pl.length_eq] at h1;have h2:=Y7 hp;simp at h2;lia
 ·obtain⟨xs',r',p'⟩:=q59 o1 rv;have prs:Paired (λ(v:V) (x:Str)=>v=.str x) (ls.map V.str) ls:=qo5 (by rw[Zf]) λi v x h1 h2=>by
   rw[Zg,h2] at h1;exact (ZM h1).symm
  obtain⟨ls2,q1,q2⟩:=qg7 p' prs;have ex:xs'=ls2.map V.str:=by
   clear r' p' q2
   induction q1 with
   |nil=>rfl
   |cons h _ ih=>rw[h,ih];rfl
  have I1:=I.keptD (t':=tk) (d':=d) k1;refine⟨.ref _,_,I1.laid (a:=h1.objs.size) (o:=.lst xs') (t':=tk) (λb o z=>k2 b o z) (Ze _) ⟨?_,out.toList,c,r',by simpa using he⟩,rfl,q _ xs' ls2 (I1.hok.fresh (Ze _)) ex ((q2.trans pl).nodup_iff.mpr vM) (λx=>(q2.trans pl).mem_iff.trans (jH x)) (q61 I.hok r' o2)⟩;have h3:=p'.length_eq;rw[Zf,pl.length_eq] at h3;have h2:=Y7 hp;simp at h2;lia
end
end L2
namespace Qf
open L2
end Qf
namespace Pr
open PySem L2 Qf
def adK (ads:List (List Nat)):List (Key×V):=ads.map λa=>(Sum.inr (txt a),V.bl true)
theorem txtK (a:List Nat):(txt a).cps.toList.map Int.ofNat=a.map λx:Nat=>((48+x:Nat):Int):=by
 unfold txt;rw[Z3]
 rfl
theorem q70:∀{a b:List Nat},(a.map λx:Nat=>((48+x:Nat):Int))<(b.map λx:Nat=>((48+x:Nat):Int))<->a<b
 |[],[]=>by simp
 |[],_::_=>by simp
 |_::_,[]=>by simp
 |x::a,y::b=>by
  rw[ZE,ZE,ZU,ZU,q70];constructor
  ·rintro (h|⟨h1,h2⟩)
   ·exact .inl (by lia)
   ·exact .inr ⟨by lia,h2⟩
  ·rintro (h|⟨h1,h2⟩)
   ·exact .inl (by lia)
   ·exact .inr ⟨by lia,h2⟩
theorem xx0 {a b:List Int}:[a]<[b]<->a<b:=by rw[ZU];simp
theorem qG8 {P:Program}{w:World}{H:Hp}{us:List V}{ads:List (List Nat)}(nd:ads.Nodup) (hp:us.Perm ((adK ads).map λkv=>kV kv.1)) (ha:AscL (P:=P) (w:=w) (PyProof.Rows.atO true) H us):∃bds:List (List Nat),us=vT bds/\(∀x,x∈bds<->x∈ads)/\bds.Pairwise (·<·):=by
 have e:((adK ads).map λkv=>kV kv.1)=ads.map λa=>V.str (txt a):=by
  unfold adK;rw[Z3]
  rfl
 rw[e] at hp;have pr:Paired (λ(v:V) (a:List Nat)=>v=.str (txt a)) (ads.map λa=>V.str (txt a)) ads:=qo5 (by rw[Zf]) λi u x h1 h2=>by
  rw[Zg,h2] at h1;exact (ZM h1).symm
 obtain⟨bds,r,p⟩:=qg7 hp pr;refine⟨bds,?_,λx=>p.mem_iff,?_⟩
 ·clear ha hp p
  induction r with
  |nil=>rfl
  |cons h _ ih=>
   rw[h,ih]
   rfl
 ·have nd2:bds.Nodup:=p.nodup_iff.mpr nd;have h1:bds.Pairwise λa b=>¬b<a:=qG2 (A:=λu v=>∀l m,isL (P:=P) (w:=w) (PyProof.Rows.atO true) H u l->isL (P:=P) (w:=w) (PyProof.Rows.atO true) H v m->¬m<l) (λu v x y hu hv h z=>by
   subst hu hv;refine h _ _ (qK4 _) (qK4 _) ?_;rw[xx0,txtK,txtK,q70];exact z) r ha
  refine List.Pairwise.imp₂ (λa b h1 h2=>?_) h1 (VI.mp nd2);by_cases z:a<b
  ·exact z
  ·exact absurd (Va (XJ.mp h1) (XJ.mp z)) h2
end Pr
namespace Qf
def inSq (r c:Int) (far:Nat) (a b:Int):Prop:=(r-far<=a/\a<=r+far)/\c-far<=b/\b<=c+far
def qK8 (t:Tr) (n:Nat) (r c:Int) (far:Nat):Prop:=∀a b,inSq r c far a b->kind t n a b=1
end Qf
namespace Pr
open PySem L2 Qf
theorem qG9:∀{ls:List Str},(∀x∈ls,∃a,x=txt a)->∃lds:List (List Nat),ls=lds.map txt
 |[],_=>⟨[],rfl⟩
 |x::ls,h=>by
  obtain⟨a,rfl⟩:=h x (by simp);obtain⟨lds,rfl⟩:=qG9 (ls:=ls) λy hy=>h y (by simp[hy]);exact⟨a::lds,rfl⟩
section
variable {P:Program}{w:World}{K:PySem.W.Frag}{mg:Str->Option Value}{base:Heap}
abbrev nDu:List Str:=["_law_told_here", "_law_row", "_law_column", "_law_far", "_law_blank", "_law_leaves"]
theorem scDu:FnScope nDu nLf3 (qa3 lDue):=qc5
def BlankIs (H:Hp) (t:Tr) (n:Nat) (r c:Int) (far:Nat) (v:V):Prop:=(v=.non/\∀a b,inSq r c far a b->kind t n a b≠0) \/
 ∃q a b,v=.ref q/\H q=some (.tup [.int a,.int b])/\inSq r c far a b/\kind t n a b=0/\∀a' b',inSq r c far a' b'->kind t n a' b'=0->a<a'\/a=a'/\b<=b'
theorem BlankIs.same {H H':Hp}{t:Tr}{n:Nat}{r c:Int}{far:Nat}{v:V}(h:BlankIs H t n r c far v) (s:Same H H'):BlankIs H' t n r c far v:=by
 rcases h with h|⟨q,a,b,h1,h2,h3⟩
 ·exact .inl h
 ·exact .inr ⟨q,a,b,h1,s _ _ h2,h3⟩
theorem qp9 {t:Tr}{n:Nat}{a b:Int}(h:kind t n a b≠2):(0<=a/\0<=b)/\a<((2^n:Nat):Int)/\b<((2^n:Nat):Int):=by
 unfold kind at h;split at h
 ·assumption
 ·exact absurd rfl h
theorem xe2 {H:Hp}{t:Tr}{n:Nat}{r c:Int}{far:Nat}{bs:List Addr}(hl:bs.length=(2*far+1)*(2*far+1)) (hb:∀(i:Nat) b,bs[i]?=some b->H b=some (.tup [.int (arnd r c far i).1,.int (arnd r c far i).2])) :
  ∃v,BlankIs H t n r c far v/\atI ((((List.range (bs.map V.ref).length).filter λj=>decide (V.int (kind t n (arnd r c far j).1 (arnd r c far j).2:Nat)=V.int 0)).map λj=>V.ref (bs.getD j 0))++[V.non]) 0=some v:=by
 have srt:((List.range (bs.map V.ref).length).filter λj=>decide (V.int (kind t n (arnd r c far j).1 (arnd r c far j).2:Nat)=V.int 0)).Pairwise (·<·):=List.pairwise_lt_range.filter _;have mem:∀j,j∈((List.range (bs.map V.ref).length).filter λj=>decide (V.int (kind t n (arnd r c far j).1 (arnd r c far j).2:Nat)=V.int 0))<->j<bs.length/\kind t n (arnd r c far j).1 (arnd r c far j).2=0:=λj=>by
  rw[YE,Yb,Zf,decide_eq_true_iff];constructor
  ·rintro⟨h1,h2⟩;injection h2 with h2
   exact⟨h1,by lia⟩
  ·rintro⟨h1,h2⟩;exact⟨h1,by rw[h2];rfl⟩
 generalize ((List.range (bs.map V.ref).length).filter λj=>decide (V.int (kind t n (arnd r c far j).1 (arnd r c far j).2:Nat)=V.int 0))=js at srt mem;cases js with
 |nil=>
  refine⟨.non,.inl ⟨rfl,λa b h e=>?_⟩,rfl⟩;obtain⟨k,hk,ek⟩:=arnd_mem.mpr h;have:=(mem k).mpr ⟨by lia,by rw[ek];exact e⟩;cases this
 |cons j js=>
  obtain⟨h1,h2⟩:=(mem j).mp (by simp);have hj:bs[j]?=some bs[j]:=Zd h1;have eg:bs.getD j 0=bs[j]:=by simp[List.getD,h1]
  refine⟨.ref bs[j],.inr ⟨bs[j],_,_,rfl,hb j _ hj,arnd_mem.mp ⟨j,by lia,rfl⟩,h2,λa' b' h e=>?_⟩,by rw[<- eg];exact qj4 (j:=0) rfl⟩;obtain⟨k,hk,ek⟩:=arnd_mem.mpr h;have hm:=(mem k).mpr ⟨by lia,by rw[ek];exact e⟩;rcases Zn.mp hm with z|z
  ·subst z;rw[ek];exact .inr ⟨rfl,Vg _⟩
  ·have:=xo7 (r:=r) (c:=c) (far:=far) ((YD.mp srt).1 k z);rw[ek] at this;rcases this with w|⟨w1,w2⟩
   ·exact .inl w
   ·exact .inr ⟨w1,Int.le_of_lt w2⟩
def spDu:Sp:=λvs H Q _=>∃(t:Addr) (n tp r c far:Nat) (rows:List Row),vs=[.ref t,.int (r:Nat),.int (c:Nat)]/\qc6 H t n tp rows/\n<=4/\far<=16/\(∀g,g<far->qK8 (T rows tp) n r c g)/\¬qK8 (T rows tp) n r c far /\
 (far=0->∀H',Same H H'->Q .non H') /\
 ∀H' p l v ads,far≠0->Same H H'->H' p=some (.tup [.int ((far:Int)-1),v,.ref l])->BlankIs H' (T rows tp) n r c far v->H' l=some (.lst (vT ads))->ads.Pairwise (·<·)->(∀x,x∈ads<->∃a b:Nat,inSq r c (far-1) a b/\lfAd (T rows tp) n a b=x)->Q (.ref p) H'
theorem xC9 {f fL fK fA:Addr}{fd fdL fdK fdA:FuncData}(F:Fun K "_law_due" "_law_due" lDue f fd) (B:Blt mg) (hso:mg "sorted" = none)
  (hL:mg "_law_leaf" = some (.ref fL)) (FL:Fun K "_law_leaf" "_law_leaf" q10 fL fdL) (bL:Binds K fdL nLf3 [])
  (hK:mg "_law_cell_kind" = some (.ref fK)) (FK:Fun K "_law_cell_kind" "_law_cell_kind" qn7 fK fdK) (bK:Binds K fdK nLf3 []) (GK:FnOk P w K mg base CX0 2 fK fdK nLf3 spCk)
  (hA:mg "_law_around" = some (.ref fA)) (FA:Fun K "_law_around" "_law_around" qu4 fA fdA) (bA:Binds K fdA nAr3 []) :
  FnOk P w K mg base CX0 3 f fd nLf3 spDu:=by
 have GL:FnOk P w K mg base CX0 1 fL fdL nLf3 spLf:=xw7 FL B;have GA:FnOk P w K mg base CX0 1 fA fdA nAr3 spAr:=xC8 FA B;refine F.ok scDu (λvs H Q E h=>?_) (λcdv A outer s H vs Q E hr h=>?_)
 ·obtain⟨t,n,tp,r,c,far,rows,rfl,_⟩:=h
  rfl
 ·obtain⟨t,n,tp,r,c,far,rows,rfl,hS,hn,hf16,kA,hncl,q0,q⟩:=h;have jG:Room 1 _:=hr.mono (by decide);refine seqE ⟨_,⟨psN 3 scDu.nd qa2⟩,?_⟩;refine seqE ⟨_,⟨q84 Y0 (qf6 (PEb.go ⟨qa6 (qn1 rfl) (by rfl) B.all X9 (Ars2.go (.cons ⟨qy7 nDu (qa3 lDue) rfl rfl rfl scDu.nd (qj1 (PEb.go ⟨pcN GA jG hA FA.kp bA (qa0 (pv 1) (qa0 (pv 2) (qa0 (pv 3) qa1)))⟩)) (λcl C fp s₀ H₀=>qe0 qw0 (PEb.go ⟨pcN GK hr hK FK.kp bK (qa0 (pv 2) (qa0 (pv 0) (qa0 (pv 1) qa1)))⟩) qa2 (qb4 _))⟩ .nil rfl))⟩))
   (StB.go (.one ⟨psN 3 scDu.nd (qa7 qd2 (pv 3) qa2)⟩))⟩,?_⟩
  refine seqE ⟨_,⟨qd8 (qb7 qw0 (pv 3) qa2 (qb4 _)) (qa8 (qa9 qB5)) qb8⟩,?_⟩;refine seqE ⟨_,⟨q66 (i0:=4) nDu (qa3 lDue) rfl rfl rfl scDu.nd rfl rfl (qj1 (PEb.go ⟨pcN GA jG hA FA.kp bA (qa0 (pv 1) (qa0 (pv 2) (qa0 (pv 3) qa1)))⟩)) (λcl C fp s₀ H₀=>qb7 qw0 (PEb.go ⟨pcN GK hr hK FK.kp bK (Ars2.go (.cons ⟨pv 1⟩ (.cons ⟨pxN (ixT K rfl) (pv 0) qa2⟩ (.cons ⟨pxN (ixT K rfl) (pv 0) qa2⟩ .nil rfl) rfl) rfl))⟩) qa2 (qb4 _)) (λcl C fp s₀ H₀=>pv 0)⟩,?_⟩;refine seqE ⟨_,⟨xd9 (i0:=5) nDu (qa3 lDue) rfl rfl rfl scDu.nd rfl rfl (qj1 (PEb.go ⟨pcN GA jG hA FA.kp bA (Ars2.go (.cons ⟨pv 1⟩ (.cons ⟨pv 2⟩ (.cons ⟨qa7 qc2 (pv 3) qa2⟩ .nil rfl) rfl) rfl))⟩)) (λcl C fp s₀ H₀=>pxN (ixT K rfl) (PEb.go ⟨pcN GL jG hL FL.kp bL (qa0 (pv 2) (qa0 (pv 0) (qa0 (pv 1) qa1)))⟩) qa2)⟩,?_⟩;refine qg5 ⟨_,⟨qa9 (qe1 (Ars2.go (.cons ⟨qa7 qc2 (pv 3) qa2⟩ (.cons ⟨pxN (ixL K rfl) (PEb.go ⟨qa7 xs6 (pv 4) (PEb.go ⟨qg8 (qa0 qB5 qa1)⟩)⟩) qa2⟩ (.cons ⟨qa6 (qA9 rfl hr) (by rfl) hso PyProof.Rows.boot_sorted (Ars2.go (.cons ⟨qc4 (qT0 rfl) (by rfl) B.set PyProof.Rows.boot_set (qa0 (pv 5) qa1)⟩ .nil rfl))⟩ .nil rfl) rfl) rfl)))⟩,?_⟩;have hdep:=qk2 hS.2.1;refine⟨λm σ H2=>∃i:Nat,i+m=far/\Same H H2/\σ=[some (.ref t),some (.int (r:Nat)),some (.int (c:Nat)),some (.int (i:Nat)),none,none],⟨far,0,by lia,Same.refl _,rfl⟩,?_⟩;rintro m σ H2 ⟨i,him,s2,rfl⟩;have hfar:i<=far:=by lia
  have hN41:∀g:Nat,g<=16->(2*g+1)*(2*g+1)<=1089:=λg hg=>VE (show 2*g+1<=33 by lia) (show 2*g+1<=33 by lia);refine⟨_,rfl,_,rfl,_,rfl,(r:Int),(c:Int),i,rfl,by lia,λH3 l s3 hl=>?_⟩;obtain⟨bs,kG,jI,vO⟩:=hl;refine⟨l,rfl,⟨_,SqL.of kG⟩,λD hD=>qf2 hD (λ_=>true) (λj=>.bl (decide (V.int (kind (T rows tp) n (arnd r c i j).1 (arnd r c i j).2:Nat)=V.int 1))) (qg9 (K:=K) kG) (by rw[Zf,jI];exact qj9 (ZG (hN41 i (by lia)) (by decide))) ?_ ?_⟩
  ·intro j x H4 hj hx s4 os ho Q1 Q2 _ q2;rw[Zg] at hx;obtain⟨b,hb,rfl⟩:=Zj.mp hx;obtain⟨o1,o2,rfl⟩:=L2.os2 ho
   ·
    refine⟨b,_,rfl,SqT.of (s4 _ _ (vO j b hb)),rfl,_,_,rfl,_,_,rfl,rfl,?_⟩;exact⟨_,rfl,_,rfl,_,rfl,t,n,tp,_,_,rows,rfl,qh3 hS ((s2.trans s3).trans s4),by lia,λH5 s5=>⟨rfl,q2 rfl _ s5⟩⟩
  ·intro H4 s4 vD;have ef:(List.range (bs.map V.ref).length).filter (λ_=>true)=List.range (bs.map V.ref).length:=XT.mpr λ_ _=>rfl;rw[ef,Zf,jI] at vD;have em:(List.range ((2*i+1)*(2*i+1))).map (λj=>V.bl (decide (V.int (kind (T rows tp) n (arnd r c i j).1 (arnd r c i j).2:Nat)=V.int 1)))=((List.range ((2*i+1)*(2*i+1))).map λj=>decide (V.int (kind (T rows tp) n (arnd r c i j).1 (arnd r c i j).2:Nat)=V.int 1)).map V.bl:=by rw[Z3];rfl
   rw[em] at vD;refine⟨D,_,rfl,vD,_,rfl,?_⟩;have all:(((List.range ((2*i+1)*(2*i+1))).map λj=>decide (V.int (kind (T rows tp) n (arnd r c i j).1 (arnd r c i j).2:Nat)=V.int 1)).all id=true)<->qK8 (T rows tp) n r c i:=by
    rw[List.all_map,YK];constructor
    ·intro h a b jS;obtain⟨k,hk,ek⟩:=arnd_mem.mpr jS;have:=ZH (h k (Yb.mpr hk));rw[ek] at this;injection this with this
     have h3:((kind (T rows tp) n a b:Nat):Int)=1:=this;lia
    ·intro h j hj;have hk1:kind (T rows tp) n (arnd r c i j).1 (arnd r c i j).2=1:=h _ _ (arnd_mem.mp ⟨j,Yb.mp hj,rfl⟩);show decide (V.int (kind (T rows tp) n (arnd r c i j).1 (arnd r c i j).2:Nat)=V.int 1)=true;rw[hk1]
     rfl
   have s24:Same H H4:=s2.trans (s3.trans s4);refine ite2 (λhc=>?_) (λhc=>?_)
   ·have hcl':=all.mp hc;have hif:i<far:=by
     rcases WJ hfar with z|z
     ·exact z
     ·rw[z] at hcl';exact absurd hcl' hncl
    exact⟨λσ' H'=>Same H H'/\σ'=[some (.ref t),some (.int (r:Nat)),some (.int (c:Nat)),some (.int ((i+1:Nat):Int)),none,none],λσ' H' ⟨z1,z2⟩=>⟨m-1,by lia,i+1,by lia,z1,z2⟩,_,rfl,_,_,rfl,rfl,s24,rfl⟩
   ·have hif:i=far:=by
     rcases WJ hfar with z|z
     ·exact absurd (all.mpr (kA i z)) hc
     ·exact z
    subst hif;clear all vD em ef kG jI vO him;have yA:∀g:Nat,g<=16->(2*g+1)*(2*g+1)<sizeLine:=λg hg=>qj9 (ZG (hN41 g hg) (by decide));refine⟨_,rfl,rfl,_,rfl,?_⟩;refine ite2 (λh0=>?_) (λh0=>?_)
    ·exact q0 (by have:=ZH h0;injection this with this;lia) H4 s24
    have jK:i≠0:=λz=>h0 (by rw[z];rfl);refine⟨_,rfl,_,rfl,_,rfl,(r:Int),(c:Int),i,rfl,by lia,λH5 l5 s5 hl5=>?_⟩;obtain⟨bs,kG,jI,vO⟩:=hl5;have S5:Same H H5:=s24.trans s5;obtain⟨v,hv,hva⟩:=xe2 (t:=T rows tp) (n:=n) jI vO;refine⟨l5,rfl,⟨_,SqL.of kG⟩,λD5 hD5=>qf2 hD5 (λj=>decide (V.int (kind (T rows tp) n (arnd r c i j).1 (arnd r c i j).2:Nat)=V.int 0)) (λj=>.ref (bs.getD j 0)) (qg9 (K:=K) kG) (by rw[Zf,jI];exact yA i (by lia)) ?_ ?_⟩
    ·intro j x H6 hj hx s6 os ho Q1 Q2 q1 q2;rw[Zg] at hx;obtain⟨b,hb,rfl⟩:=Zj.mp hx;have eg:bs.getD j 0=b:=by rw[Zw,hb];rfl
     rw[eg] at q2;have hb6:=s6 _ _ (vO j b hb);obtain⟨o1,rfl⟩:=L2.os1 ho
     ·
      refine⟨_,rfl,_,rfl,b,_,0,.int (arnd r c i j).1,rfl,rfl,SqT.of hb6,rfl,_,rfl,b,_,1,.int (arnd r c i j).2,rfl,rfl,SqT.of hb6,rfl,t,n,tp,_,_,rows,rfl,qh3 hS (S5.trans s6),by lia,λH7 s7=>⟨rfl,_,rfl,?_⟩⟩;refine ite2 (λhc=>?_) (λhc=>?_)
      ·exact⟨_,rfl,q2 hc _ s7⟩
      ·exact q1 (Z0.mpr hc) _ s7
    ·intro H6 s6 hD6;have ei:((i-1:Nat):Int)=(i:Int)-1:=by lia
     have hclr:=kA (i-1) (by lia);refine⟨_,rfl,_,rfl,_,rfl,_,_,rfl,rfl,(r:Int),(c:Int),i-1,Yh (λz:Int=>[V.int (r:Nat),V.int (c:Nat),V.int z]) ei.symm,by lia,λH7 l7 s7 hl7=>?_⟩;obtain⟨cs,hm1,yG,hm3⟩:=hl7;have S7:Same H H7:=S5.trans (s6.trans s7);refine⟨l7,rfl,⟨_,SqL.of hm1⟩,λD7 hD7=>qf2 hD7 (λ_=>true) (λj=>.str (txt (lfAd (T rows tp) n (arnd r c (i-1) j).1.toNat (arnd r c (i-1) j).2.toNat))) (qg9 (K:=K) hm1) (by rw[Zf,yG];exact yA (i-1) (by lia)) ?_ ?_⟩
     ·intro j x H8 hj hx s8 os ho Q1 Q2 _ q2;rw[Zg] at hx;obtain⟨b,hb,rfl⟩:=Zj.mp hx;have hjl:j<(2*(i-1)+1)*(2*(i-1)+1):=by rw[<- yG];exact (gS_ hb).1
      have hk:kind (T rows tp) n (arnd r c (i-1) j).1 (arnd r c (i-1) j).2=1:=hclr _ _ (arnd_mem.mp ⟨j,hjl,rfl⟩);have vK:=qp9 (show kind (T rows tp) n (arnd r c (i-1) j).1 (arnd r c (i-1) j).2≠2 by rw[hk];decide);obtain⟨o1,o2,rfl⟩:=L2.os2 ho
      ·
       refine⟨b,_,rfl,SqT.of (s8 _ _ (hm3 j b hb)),rfl,_,_,rfl,_,_,rfl,rfl,?_⟩;exact⟨_,rfl,_,rfl,_,rfl,t,n,tp,(arnd r c (i-1) j).1.toNat,(arnd r c (i-1) j).2.toNat,rows,(by rw[Ws vK.1.1,Ws vK.1.2];rfl),qh3 hS (S7.trans s8),by lia,λH9 p9 y s9 hy hT yE=>⟨p9,_,0,.str (txt (lfAd (T rows tp) n (arnd r c (i-1) j).1.toNat (arnd r c (i-1) j).2.toNat)),rfl,rfl,SqT.of yE,rfl,q2 rfl _ s9⟩⟩
     ·intro H8 s8 yN;have ef:(List.range (cs.map V.ref).length).filter (λ_=>true)=List.range (cs.map V.ref).length:=XT.mpr λ_ _=>rfl;rw[ef,Zf,yG] at yN;have em:(List.range ((2*(i-1)+1)*(2*(i-1)+1))).map (λj=>V.str (txt (lfAd (T rows tp) n (arnd r c (i-1) j).1.toNat (arnd r c (i-1) j).2.toNat)))=((List.range ((2*(i-1)+1)*(2*(i-1)+1))).map λj=>txt (lfAd (T rows tp) n (arnd r c (i-1) j).1.toNat (arnd r c (i-1) j).2.toNat)).map V.str:=by rw[Z3];rfl
      rw[em] at yN;have S8:Same H H8:=S7.trans s8;refine⟨_,rfl,_,_,rfl,rfl,_,rfl,(by show 1<=sizeLine;decide),λk hk=>⟨D5,k,_,[V.non],rfl,rfl,qc9 (s8 _ _ (s7 _ _ hD6)) hk,qa4,?_,λp hp=>⟨p,_,0,v,rfl,rfl,SqL.of qa4,hva,?_⟩⟩⟩
      ·rw[Zf];show List.length _+1<=_;refine ZG (V2 (Xx _ _)) ?_;rw[YA,Zf,jI];exact yA i (by lia)
      refine⟨_,rfl,D7,_,rfl,qc9 (qc9 yN hk) hp,?_,λrs hrs=>⟨rs,_,rfl,qa4,λq5 us ls hq5 hus vM jH hasc=>?_⟩⟩
      ·rw[Zf,YA];exact Y5 (V2 (hN41 (i-1) (by lia))) (by decide)
      obtain⟨lds,rfl⟩:=qG9 (ls:=ls) λx hx=>by
       obtain⟨j,_,rfl⟩:=Yg.mp ((jH x).mp hx);exact⟨_,rfl⟩
      have ndl:lds.Nodup:=by
       rw[VI] at vM ⊢;rw[List.pairwise_map] at vM;exact VU (λ{u v} z e=>z (by rw[e])) vM
      obtain⟨bds,hbu,hbm,vG⟩:=qG8 ndl (List.Perm.of_eq (by rw[hus];unfold adK;rw[Z3,Z3];rfl)) hasc;refine⟨(by show 3<=sizeLine;decide),λkk hkk=>q _ kk q5 v bds jK (S8.trans ((qb2 hk).trans ((qb2 hp).trans ((qb2 hrs).trans ((qb2 hq5).trans (qb2 hkk)))))) qa4 ?_ ?_ vG λx=>?_⟩
      ·exact hv.same ((s6.trans (s7.trans s8)).trans ((qb2 hk).trans ((qb2 hp).trans ((qb2 hrs).trans ((qb2 hq5).trans (qb2 hkk))))))
      ·rw[<- hbu];exact qc9 qa4 hkk
      ·rw[hbm];have h1:x∈lds<->txt x∈lds.map txt:=⟨λh=>Yg.mpr ⟨x,h,rfl⟩,λh=>by
        obtain⟨y,hy,e⟩:=Yg.mp h;rw[<- q39 e];exact hy⟩
       rw[h1,jH];constructor
       ·intro h;obtain⟨j,hj,e⟩:=Yg.mp h;have wP:inSq r c (i-1) (arnd r c (i-1) j).1 (arnd r c (i-1) j).2:=arnd_mem.mp ⟨j,Yb.mp hj,rfl⟩;have hkk1:kind (T rows tp) n (arnd r c (i-1) j).1 (arnd r c (i-1) j).2=1:=hclr _ _ wP;have vK:=qp9 (show kind (T rows tp) n (arnd r c (i-1) j).1 (arnd r c (i-1) j).2≠2 by rw[hkk1];decide);refine⟨(arnd r c (i-1) j).1.toNat,(arnd r c (i-1) j).2.toNat,?_,q39 e⟩;rw[Ws vK.1.1,Ws vK.1.2];exact wP
       ·rintro⟨a,b,jS,rfl⟩;obtain⟨j,hj,ej⟩:=arnd_mem.mpr jS;exact Yg.mpr ⟨j,Yb.mpr hj,by rw[ej];rfl⟩
end
end Pr
namespace Qf
open Tr
theorem kkle {k l m:List (List Int)}(h1:¬l<k) (h2:l<m):k<m:=List.lt_of_le_of_lt (XJ.mp h1) h2
theorem qH0 {n r c:Nat}{t:Tr}(hd:dep t<=n) (hr:r<2^n) (hc:c<2^n){e:List Nat×Bool}(he:e∈lvT t):∃a b:Nat,a<2^n/\b<2^n/\kF n r c e.1=kC r c a b/\lfAd t n a b=e.1/\(wdn t (dgp a b 0 n)).1=plT e.2:=by
 obtain⟨h4,hl⟩:=qy0 n t e hd he;obtain⟨⟨a,b,h1,h2,h3,h5⟩,_⟩:=xh9 h4 hl hr hc;obtain⟨w1,w2⟩:=xn3 (b:=e.2) hd h2 h3 he h1;exact⟨a,b,h2,h3,h5,w1,w2⟩
theorem qP6 {n r c a b:Nat}{t:Tr}(hd:dep t<=n) (hr:r<2^n) (hc:c<2^n) (ha:a<2^n) (hb:b<2^n):∃f,(lfAd t n a b,f)∈lvT t/\(wdn t (dgp a b 0 n)).1=plT f/\¬kC r c a b<kF n r c (lfAd t n a b):=by
 obtain⟨f,h1,h2,h3⟩:=qJ9 hd ha hb;obtain⟨h4,hl⟩:=qy0 n t _ hd h1;exact⟨f,h1,h2,(xh9 h4 hl hr hc).2 a b h3⟩
theorem dst_sq {r c far a b:Nat}:inSq r c far a b<->dst r c a b<=far:=by
 rw[dst_le];unfold inSq;lia
theorem xx1 {r c a b:Nat}:0<=dst r c a b:=by
 obtain⟨h1,h2,_⟩:=dst_le.mp (Vg (dst r c a b));lia
theorem q71 {n r c g:Nat}(hr:r<2^n) (hc:c<2^n){a b:Int}(h:inSq r c g a b) (hg:(g:Int)<edge n r c):(0<=a/\0<=b)/\a<((2^n:Nat):Int)/\b<((2^n:Nat):Int):=by
 obtain⟨h1,h2,h3,h4,_⟩:=L2.qP3 (r:Int) (c:Int) (((2^n:Nat):Int)-1-r) (((2^n:Nat):Int)-1-c);unfold inSq at h;unfold edge at hg;generalize L2.least [(r:Int),(c:Int),((2^n:Nat):Int)-1-r,((2^n:Nat):Int)-1-c] 3=m at *;lia
theorem xe3 {n r c g:Nat}(hr:r<2^n) (hc:c<2^n) (hg:(g:Int)=edge n r c):∃a b:Int,inSq r c g a b/\¬((0<=a/\0<=b)/\a<((2^n:Nat):Int)/\b<((2^n:Nat):Int)):=by
 obtain⟨_,_,_,_,h⟩:=L2.qP3 (r:Int) (c:Int) (((2^n:Nat):Int)-1-r) (((2^n:Nat):Int)-1-c);unfold edge at hg;generalize L2.least [(r:Int),(c:Int),((2^n:Nat):Int)-1-r,((2^n:Nat):Int)-1-c] 3=m at *;unfold inSq;rcases h with h|h|h|h
 ·exact⟨r-g,c,by lia,by lia⟩
 ·exact⟨r,c-g,by lia,by lia⟩
 ·exact⟨r+g,c,by lia,by lia⟩
 ·exact⟨r,c+g,by lia,by lia⟩
theorem xe4 {n r c:Nat}(hn:n<=4) (hr:r<2^n) (hc:c<2^n):1<=edge n r c/\edge n r c<=16:=by
 obtain⟨h1,_,_,_,h⟩:=L2.qP3 (r:Int) (c:Int) (((2^n:Nat):Int)-1-r) (((2^n:Nat):Int)-1-c);have h16:2^n<=16:=XH (n:=2) (by decide) hn;unfold edge;generalize L2.least [(r:Int),(c:Int),((2^n:Nat):Int)-1-r,((2^n:Nat):Int)-1-c] 3=m at *;lia
theorem qP7 {α:Type}(key:α->List (List Int)) (p:α->Bool):∀L:List α,(∀e∈L,p e=false)\/∃e0∈L,p e0=true/\∀e∈L,p e=true->¬key e<key e0
 |[]=>.inl λ_ h=>by cases h
 |a::L=>by
  rcases qP7 key p L with h|⟨e0,h1,h2,h3⟩
  ·cases ha:p a with
   |false=>exact .inl λe he=>by rcases Zn.mp he with rfl|z;exact ha;exact h e z
   |true=>exact .inr ⟨a,by simp,ha,λe he hp=>by
     rcases Zn.mp he with rfl|z
     ·exact Xe _
     ·rw[h e z] at hp;cases hp⟩
  ·by_cases hk:p a=true/\key a<key e0
   ·exact .inr ⟨a,by simp,hk.1,λe he hp=>by
     rcases Zn.mp he with rfl|z
     ·exact Xe _
     ·exact λw=>h3 e z hp (VX w hk.2)⟩
   ·exact .inr ⟨e0,Zk _ h1,h2,λe he hp=>by
     rcases Zn.mp he with rfl|z
     ·exact λw=>hk ⟨hp,w⟩
     ·exact h3 e z hp⟩
section
variable {n r c:Nat}{t:Tr}(hd:dep t<=n) (hr:r<2^n) (hc:c<2^n)
include hd hr hc
theorem xx2 {g:Nat}{a b:Int}(h:inSq r c g a b) (hk:kind t n a b=0):∃x y:Nat,a=x/\b=y/\∃ad,(ad,false)∈lvT t/\lfF n r c ad<=g/\¬kC r c x y<kF n r c ad:=by
 have vK:=Pr.qp9 (show kind t n a b≠2 by rw[hk];decide);obtain⟨x,rfl⟩:∃x:Nat,a=x:=⟨a.toNat,by lia⟩;obtain⟨y,rfl⟩:∃y:Nat,b=y:=⟨b.toNat,by lia⟩;obtain⟨f,h1,h2,h3⟩:=qP6 (a:=x) (b:=y) hd hr hc (by lia) (by lia);have hf:f=false:=by
  unfold kind at hk;rw[Zt vK] at hk;simp only[ZA] at hk;cases f with
  |false=>rfl
  |true=>rw[Zt (by rw[h2];rfl)] at hk;cases hk
 subst hf;refine⟨x,y,rfl,rfl,_,h1,?_,h3⟩;have hs:=dst_sq.mp h;unfold kC kF at h3;rw[qA2] at h3;lia
theorem xx3 {a b:Int}(vK:(0<=a/\0<=b)/\a<((2^n:Nat):Int)/\b<((2^n:Nat):Int)) (h:kind t n a b≠0):kind t n a b=1:=by
 unfold kind at h ⊢;rw[Zt vK] at h ⊢;split at h
 ·rw[Zt (by assumption)]
 ·exact absurd rfl h
theorem xx4 (hn:n<=4):∃far:Nat,far<=16/\(∀g,g<far->qK8 t n r c g)/\¬qK8 t n r c far /\
  ((∀e∈lvT t,qe9 n r c e=false)/\(far:Int)=edge n r c/\far≠0/\(∀a b,inSq r c far a b->kind t n a b≠0) \/
   ∃e0∈lvT t,qe9 n r c e0=true/\(∀e∈lvT t,qe9 n r c e=true->¬kF n r c e.1<kF n r c e0.1)/\(far:Int)=lfF n r c e0.1/\inSq r c far (lfR n r c e0.1) (lfC n r c e0.1)/\kind t n (lfR n r c e0.1) (lfC n r c e0.1)=0 /\
    ∀a b,inSq r c far a b->kind t n a b=0->lfR n r c e0.1<a\/lfR n r c e0.1=a/\lfC n r c e0.1<=b):=by
 obtain⟨wV,he16⟩:=xe4 hn hr hc;rcases qP7 (λe:List Nat×Bool=>kF n r c e.1) (qe9 n r c) (lvT t) with h|⟨e0,h1,h2,h3⟩
 ·obtain⟨far,hf⟩:∃far:Nat,(far:Int)=edge n r c:=⟨(edge n r c).toNat,by lia⟩;have no0:∀g:Nat,g<=far->∀a b,inSq r c g a b->kind t n a b≠0:=λg hg a b jS hk=>by
   obtain⟨x,y,rfl,rfl,ad,k1,k2,k3⟩:=xx2 hd hr hc jS hk;have:=h _ k1;unfold qe9 at this;simp at this;lia
  refine⟨far,by lia,λg hg a b jS=>xx3 hd hr hc (q71 hr hc jS (by lia)) (no0 g (by lia) a b jS),λkA=>?_,.inl ⟨h,hf,by lia,no0 far (Ze _)⟩⟩;obtain⟨a,b,w1,w2⟩:=xe3 hr hc hf;have:=kA a b w1;exact w2 (Pr.qp9 (by rw[this];decide))
 ·obtain⟨x,y,k1,k2,k3,k4,k5⟩:=qH0 hd hr hc h1;obtain⟨z1,z2,z3⟩:=qs2 k3;have yB:e0.2=false/\lfF n r c e0.1<=edge n r c:=by
   unfold qe9 at h2;simpa using h2
  have hnn:=xx1 (r:=r) (c:=c) (a:=x) (b:=y);obtain⟨far,hf⟩:∃far:Nat,(far:Int)=lfF n r c e0.1:=⟨(lfF n r c e0.1).toNat,by lia⟩;have wP:inSq r c far (x:Int) (y:Int):=dst_sq.mpr (by lia);have wG:kind t n x y=0:=by
   unfold kind;rw[Zt (by lia)];simp only[ZA];rw[Zl (by rw[k5,yB.1];intro e;cases e)]
  have low:∀g:Nat,g<=far->∀a b,inSq r c g a b->kind t n a b=0->(far<=g)/\(lfR n r c e0.1<a\/lfR n r c e0.1=a/\lfC n r c e0.1<=b):=λg hg a b jS hk=>by
   obtain⟨x',y',rfl,rfl,ad,j1,j2,j3⟩:=xx2 hd hr hc jS hk;have j4:=h3 _ j1 (by unfold qe9;simp;lia);have j5:¬kC r c x' y'<kF n r c e0.1:=λz=>j4 (kkle j3 z);have j6:=dst_sq.mp jS;unfold kC kF at j5;rw[qA2] at j5;lia
  refine⟨far,by lia,λg hg a b jS=>xx3 hd hr hc (q71 hr hc jS (by lia)) (λhk=>?_),λkA=>?_,.inr ⟨e0,h1,h2,h3,hf,?_,?_,λa b jS hk=>(low far (Ze _) a b jS hk).2⟩⟩
  ·have:=(low g (by lia) a b jS hk).1;lia
  ·have:=kA _ _ wP;rw[wG] at this;cases this
  ·rw[z2,z3];exact wP
  ·rw[z2,z3];exact wG
theorem q72 {far:Nat}(hf:far≠0) (kA:qK8 t n r c (far-1)){ads:List (List Nat)}(hp:ads.Pairwise (·<·)) (hx:∀x,x∈ads<->∃a b:Nat,inSq r c (far-1) a b/\lfAd t n a b=x):ql5 n r c (lvT t) far=ads:=by
 refine xh7 ?_ hp λx=>?_
 ·unfold ql5;exact List.Pairwise.sublist (List.Sublist.map _ List.filter_sublist) (qv3 t)
 ·rw[hx];unfold ql5;rw[Yg];constructor
  ·rintro⟨e,he,rfl⟩;obtain⟨h1,h2⟩:=YE.mp he;have h2:=ZH h2;obtain⟨a',b',g1,g2,g3,g4,_⟩:=qH0 hd hr hc h1;obtain⟨z1,_,_⟩:=qs2 g3;exact⟨a',b',dst_sq.mpr (by lia),g4⟩
  ·rintro⟨a',b',g1,rfl⟩;have vK:=Pr.qp9 (show kind t n a' b'≠2 by rw[kA _ _ g1];decide);obtain⟨f,k1,_,k3⟩:=qP6 (a:=a') (b:=b') hd hr hc (by lia) (by lia);have:=dst_sq.mp g1;unfold kC kF at k3;rw[qA2] at k3;exact⟨_,YE.mpr ⟨k1,Zv (show lfF n r c (lfAd t n a' b')<(far:Int) by lia)⟩,rfl⟩
end
end Qf
namespace L2
open PySem PySem.Spec PyProof.Rows PySem.W
section
variable {X:Cx}{j8:List (Addr×Obj)}{σ:St}{H:Hp}{s:Shared}
def xD0 (X:Cx) (F:Value) (th:Addr->TS) (D:Ends):XK:=λcls _ H'=>∃C,cls=.ref C/\exmOne X.K cls F=some true/\∀x,H' x=none->th x D (List.replicate X.N.length none) (upd H' x (.ext (ExcAt x C)))
def xD1 (X:Cx) (F:Value) (tb:XK->TS) (th:Addr->TS):TS:=λD σ H=>tb (xD0 X F th D) D σ H
theorem xp3 {body:List Stmt}{b₀:Stmt}{suite:List Stmt}{cn:Str}{np hpos pos:Pos}{FA:Addr}{tb:XK->TS}{th:Addr->TS}(k8:X.ex=[]) (jP:X.stack=X.env::X.outer) (hfr:X.env.frame=some X.env.locals)
  (hg:Gl X cn) (hm:X.mg cn=some (.ref FA)) (hb:∀j8 E,PSs (qR1 X j8 E) body (tb E)) (hh:∀x,PSs (hCx X x) (b₀::suite) (th x))
  (hd:(cn==("__debug__" : Str))=false:=by decide):PS X (.Try body [.ExceptHandler (some (.Name cn np)) none (b₀::suite) hpos] [] [] pos) (xD1 X (.ref FA) tb th):=by
 intro j8 s σ H D I h;refine wpAny_Try_except ?_;refine Yp (hb j8 _ [] s σ H D (I.toTry _) h) (λf s1 hs=>?_) (λe s1 hx=>?_)
 ·cases f with
  |next=>
   obtain⟨σ',H',I',q⟩:=hs;exact Wy ⟨σ',H',I'.ofTry,q⟩
  |brk=>
   obtain⟨σ',H',I',q⟩:=hs;exact⟨σ',H',I'.ofTry,q⟩
  |cont=>
   obtain⟨σ',H',I',q⟩:=hs;exact⟨σ',H',I'.ofTry,q⟩
  |ret u=>
   obtain⟨v,σ',H',I',r,q⟩:=hs;exact⟨v,σ',H',I'.ofTry,r,q⟩
 ·obtain⟨x,cls,B,H',σ',rfl,I',FW,c0,c2,cp,hxn,C,rfl,hex1,hth⟩:=hx;have FW':=FW;rw[jP] at FW';have fr':X.A.frames=some (X.env::X.outer):=by rw[<- jP];exact I.ok.frames
  refine qY2 fr' hfr FW' λh4 held sm4=>?_;refine qp0 held λh5 fl5 sm5=>?_;have I5:Inv X j8 σ' H' { s1 with heap:=h5 }:=I'.refly (tk:=s1.toks) k8 FW.stays fl5.stays (sm4.trans sm5) c0 c2 cp;obtain⟨ob,wvs,_,_,_,ho,hoc,yF,_,hov,_⟩:=id fl5.noted;refine wpAny_handleBy_cons (codeAny_handlers_test ?_) (by intro q;cases q);refine qy1 (X:=hCx X x) (I5.toH x) hg hm ?_ hd;have LT:Looks (model X.prog X.w) h5 (typeOf (.ref x)) (.ref C):=ExcAt.type ⟨ob,wvs,ho,hoc,yF,hov⟩;refine (exm_one (M:=model X.prog X.w) I5.kIn LT hex1).here ?_;refine codeAny_handlers_suite ?_;refine qp0 fl5 λh6 fl6 sm6=>?_;have I6:Inv X j8 σ' H' { s1 with heap:=h6 }:=I5.refly (tk:=s1.toks) k8 fl5.stays fl6.stays sm6 c0 c2 cp;have I6':Inv X j8 σ' (upd H' x (.ext (ExcAt x C))) { s1 with heap:=h6 }:=I6.caught jP hfr hxn (by rw[jP];exact fl6) c0 cp;have I6w:Inv X j8 (List.replicate X.N.length none) (upd H' x (.ext (ExcAt x C))) { s1 with heap:=h6 }:=I6'.weak (by rw[W1,I6'.len]) (λj v e=>by
   rw[WM] at e;split at e<;>cases e)
  refine Yp (hh x j8 _ _ _ _ (I6w.toH x) (hth x hxn)) (λf s8 hs8=>?_) λ_ _ z=>z.elim;cases f with
  |next=>
   obtain⟨σ8,H8,I8,q⟩:=hs8;exact⟨_,H8,I8.ofH I.ok.hd,q⟩
  |brk=>
   obtain⟨σ8,H8,I8,q⟩:=hs8;exact⟨_,H8,I8.ofH I.ok.hd,q⟩
  |cont=>
   obtain⟨σ8,H8,I8,q⟩:=hs8;exact⟨_,H8,I8.ofH I.ok.hd,q⟩
  |ret u=>
   obtain⟨v,σ8,H8,I8,r,q⟩:=hs8;exact⟨v,_,H8,I8.ofH I.ok.hd,r,q⟩
end
end L2
namespace Pr
open PySem L2 Qf
section
variable {P:Program}{w:World}{K:PySem.W.Frag}{mg:Str->Option Value}{base:Heap}
theorem scTd:FnScope nLf3 nLf3 (qa3 xa1):=qc5
structure SpTd (vs:List V) (H:Hp) (Q:VK):Prop where
 ex:∃(t:Addr) (n tp r c:Nat) (rows:List Row),vs=[.ref t,.int (r:Nat),.int (c:Nat)]/\qc6 H t n tp rows/\nlf (T rows tp)<=2000/\r<2^n/\c<2^n /\
 ((∀e∈lvT (T rows tp),qe9 n r c e=false)->∀H' p l,Same H H'->H l=none->H' p=some (.tup [.int (edge n r c-1),.non,.ref l])->H' l=some (.lst (vT (ql5 n r c (lvT (T rows tp)) (edge n r c))))->Q (.ref p) H') /\
 ∀e0,e0∈lvT (T rows tp)->qe9 n r c e0=true->(∀e∈lvT (T rows tp),qe9 n r c e=true->¬kF n r c e.1<kF n r c e0.1) ->
  (lfF n r c e0.1=0->∀H',Same H H'->Q .non H') /\
  (lfF n r c e0.1≠0->∀H' p q l,Same H H'->H l=none->H' p=some (.tup [.int (lfF n r c e0.1-1),.ref q,.ref l])->H' q=some (.tup [.int (lfR n r c e0.1),.int (lfC n r c e0.1)]) ->
   H' l=some (.lst (vT (ql5 n r c (lvT (T rows tp)) (lfF n r c e0.1))))->Q (.ref p) H')
def spTd:Sp:=λvs H Q _=>SpTd vs H Q
theorem xD2 {f fI C:Addr}{fd fdI:FuncData}(F:Fun K "_law_told" "_law_told" xa1 f fd) (EC:Nfl K mg C) (hm:PySem.W.exmOne K (.ref C) (.ref C)=some true) (hI:mg "inside" = some (.ref fI)) (FI:Fun K "inside" "inside" qp1 fI fdI) (bI:Binds K fdI ["shape", "row", "column"] []) (GI:FnOk P w K mg base (CX1 P w) 19 fI fdI ["shape", "row", "column"] (spIn C)) :
  FnOk P w K mg base CX0 20 f fd nLf3 spTd:=by
 refine F.ok scTd (λvs H Q E h=>?_) (λcdv A outer s H vs Q E hr h=>?_)
 ·obtain⟨t,n,tp,r,c,rows,rfl,_⟩:=h.ex
  rfl
 ·obtain⟨t,n,tp,r,c,rows,rfl,hSh,yH,wD,wN,q0,q⟩:=h.ex;refine qg5 ⟨_,⟨xp3 (FA:=C) (tb:=λE=>_) (th:=λx=>_) rfl rfl rfl (by rfl) EC.at_
   (λj8 E=>qa8 (qa9 (qI4 GI hr (by rfl) hI FI.kp bI .nil (xk9 rfl) (qa0 (pv 0) (qa0 (pv 1) (qa0 (pv 2) qa1))))))
   (λx=>qa8 (qa9 qB5))⟩,?_⟩
  refine⟨_,rfl,_,rfl,_,rfl,t,n,tp,r,c,rows,rfl,hSh,yH,wD,wN,q0,λe0 he hs kP=>⟨λh0 H' s'=>⟨C,rfl,hm,λx hx=>(q e0 he hs kP).1 h0 _ (s'.trans (qb2 hx))⟩,(q e0 he hs kP).2⟩⟩
end
end Pr
namespace Qf
open Tr
theorem qP8 (rows:List Row):(exr rows).length=rows.length:=by simp[exr]
theorem xp4 {rows:List Row}(ok:qd3 rows):∀x,x<rows.length+2->nlf (T (exr rows) (ex x))=nlf (T rows x):=by
 intro x
 induction x using Nat.strongRecOn with
 |ind x ih=>
  intro hx;by_cases z:x<2
  ·match x,z with
   |0,_=>rw[qh7,show ex 0=1 from rfl,qp4];rfl
   |1,_=>rw[qp4,show ex 1=0 from rfl,qh7];rfl
  ·obtain⟨p,a,b,c,d,rfl,hp⟩:=qn8 ok hx z;have jB:=(ok p _ hp).2;have jJ:=(gS_ hp).1;have la:=jB a (by simp);have lb:=jB b (by simp);have lc:=jB c (by simp);have ld:=jB d (by simp);have jQ:(exr rows)[p]?=some [ex a,ex b,ex c,ex d]:=by unfold exr;rw[Zg,hp];rfl
   have e:ex (p+2)=p+2:=Zl z;rw[e,qo0 ok hp,qo0 (qZ9 ok) jQ];show nlf _+nlf _+nlf _+nlf _=nlf _+nlf _+nlf _+nlf _;rw[ih a (by lia) (by lia),ih b (by lia) (by lia),ih c (by lia) (by lia),ih d (by lia) (by lia)]
end Qf
namespace Pr
open PySem L2 Qf
section
variable {P:Program}{w:World}{K:PySem.W.Frag}{mg:Str->Option Value}{base:Heap}
abbrev nEx:List Str:=["_law_told_here", "_law_n", "_law_top", "_law_rows", "_law_some"]
abbrev nExR:List Str:=["_law_row", "_law_told_here", "_law_n", "_law_top", "_law_rows", "_law_some"]
theorem xx5:nExR.Nodup:=by decide +kernel
theorem scEx:FnScope nEx ["_law_told_here"] (qa3 q11):=qc5
def spEx:Sp:=λvs H Q _=>∃(t:Addr) (n tp:Nat) (rows:List Row),vs=[.ref t]/\qc6 H t n tp rows/\∀H' t',Same H H'->qc6 H' t' n (ex tp) (exr rows)->Q (.ref t') H'
theorem xx6 (m:Nat):∃i:Int,(if (2:Int)<(m:Int) then 2 else (m:Int))=i/\atI [V.int 1,V.int 0,V.int (m:Nat)] i=some (.int (ex m:Nat)):=by
 by_cases h:m<2
 ·match m,h with
  |0,_=>exact⟨0,rfl,rfl⟩
  |1,_=>exact⟨1,rfl,rfl⟩
 ·refine⟨2,by split<;>lia,?_⟩;show some (V.int (m:Nat))=_;unfold ex;rw[Zl h]
theorem xD3 {f:Addr}{fd:FuncData}(F:Fun K "_law_exchanged" "_law_exchanged" q11 f fd) (B:Blt mg):FnOk P w K mg base CX0 1 f fd ["_law_told_here"] spEx:=by
 refine F.ok scEx (λvs H Q E h=>?_) (λcdv A outer s H vs Q E hr h=>?_)
 ·obtain⟨t,n,tp,rows,rfl,_⟩:=h
  rfl
 ·obtain⟨t,n,tp,rows,rfl,hS,q⟩:=h;obtain⟨⟨rp,ht,jN⟩,cn,hrl⟩:=id hS;obtain⟨bs,hp,j9,jE⟩:=id jN;have ok:=cn.rok;have jR:(bs.map V.ref).length=rows.length:=by rw[Zf];exact j9
  refine seqE ⟨_,⟨ql3 (pv 0) (qj0 rfl (qb6 (pgN 1 scEx.nd) (qb6 (pgN 2 scEx.nd) (qb6 (pgN 3 scEx.nd) qf8))))⟩,?_⟩;refine seqE ⟨_,⟨q02 (i0:=4) nEx (qa3 q11) rfl rfl rfl scEx.nd rfl rfl (piT K rfl (pv 3)) (λcl C fp s₀ H₀=>PEb.go ⟨qc4 (tupO K rfl) (by rfl) B.tuple Yj (qa0 (qf1 nExR _ rfl rfl rfl xx5 (piT K rfl (pv 0))
    (λcl2 C2 fp2 s2 H2=>PEb.go ⟨pxN (ixL K rfl) (PEb.go ⟨qg8 (qa0 qa2 (qa0 qa2 (qa0 (pv 0) qa1)))⟩) (PEb.go ⟨qa6 (qe6 rfl) (by rfl) B.min Yi (qa0 (pv 0) (qa0 qa2 qa1))⟩)⟩) (hfr:=by rfl)) qa1)⟩)⟩,?_⟩
  refine qg5 ⟨_,⟨qa9 (qe1 (Ars2.go (.cons ⟨pv 1⟩ (.cons ⟨pxN (ixL K rfl) (PEb.go ⟨qg8 (qa0 qa2 (qa0 qa2 (qa0 (pv 2) qa1)))⟩) (PEb.go ⟨qa6 (qe6 rfl) (by rfl) B.min Yi (qa0 (pv 2) (qa0 qa2 qa1))⟩)⟩ (.cons ⟨qc4 (tupO K rfl) (by rfl) B.tuple Yj (qa0 (pv 4) qa1)⟩ .nil rfl) rfl) rfl)))⟩,?_⟩;refine⟨_,rfl,t,_,rfl,SqT.of ht,rfl,_,_,rfl,_,_,rfl,_,_,rfl,rfl,?_⟩;refine qq8 (σ':=[some (.ref t),some (.int (n:Nat)),some (.int (tp:Nat)),some (.ref rp),none]) rfl ?_;refine⟨_,rfl,rp,rfl,⟨_,SqT.of hp⟩,λD hD=>qm2 hD (λ_=>true) (λi z H1=>∃b r,z=.ref b/\rows[i]?=some r/\H1 b=some (.tup (vN (r.map ex)))) (qk6 (K:=K) hp) (by rw[jR];exact qj9 (by lia)) ?_ ?_ ?_⟩
  ·rintro i z H1 H2 tk ⟨b,r,rfl,h1,h2⟩;exact⟨b,r,rfl,h1,tk _ _ h2⟩
  ·intro j x H3 hj hx s3 os ho Q1 Q' _ hq0;have hq:=hq0 rfl;have kZ:j<rows.length:=by rw[<- jR];exact hj
   rw[Zg] at hx;obtain⟨b,hb,rfl⟩:=Zj.mp hx;have jG:rows[j]?=some rows[j]:=by simp[kZ]
   have wZ:=s3 _ _ (jE j b _ hb jG);have rk:=ok j _ jG;generalize rows[j]=r at jG wZ rk;obtain⟨o1,rfl⟩:=L2.os1 ho
   ·
    refine⟨_,rfl,b,rfl,⟨_,SqT.of wZ⟩,λD2 vR=>qg4 vR (λi z _=>∃m:Nat,r[i]?=some m/\z=.int (ex m:Nat)) (qk6 (K:=K) wZ) (by rw[qh6,rk.1];decide) (λ_ _ _ _ _ _ h=>h) ?_ ?_⟩
    ·intro i x H4 hi hx s4 Q2 hq2;obtain⟨m,hm,rfl⟩:=qx5 hx;obtain⟨ix,e1,e3⟩:=xx6 m;refine⟨_,rfl,(by show 3<=sizeLine;decide),λk hk=>⟨_,rfl,_,_,rfl,k,_,ix,.int (ex m:Nat),rfl,Yh V.int e1,SqL.of qa4,e3,hq2 _ _ (qb2 hk) ⟨m,hm,rfl⟩⟩⟩
    ·intro ys H4 s4 jV kE kN;have ey:ys=vN (r.map ex):=by
      refine qi4 (by rw[kE,qh6,qh6,Zf]) λi x hx=>?_;obtain⟨m,hm,rfl⟩:=kN i x hx;exact xu8 (by rw[Zg,hm];rfl)
     refine⟨D2,ys,rfl,.inl ⟨SqL.of jV,λl jI=>hq _ _ (s4.trans (qb2 jI)) ⟨l,r,rfl,jG,?_⟩⟩⟩;rw[qa4,ey]
  ·intro ys H3 s3 vQ kE hrel;have ef:(List.range (bs.map V.ref).length).filter (λ_=>true)=List.range (bs.map V.ref).length:=XT.mpr λ_ _=>rfl;rw[ef] at kE hrel;rw[YA] at kE;have kN:∀(i:Nat) z,ys[i]?=some z->∃b r,z=.ref b/\rows[i]?=some r/\H3 b=some (.tup (vN (r.map ex))):=λi z e=>hrel i z i e (Xm (by rw[<- kE];exact (gS_ e).1));have refs:∀zs:List V,(∀z∈zs,∃b:Addr,z=.ref b)->∃cs:List Addr,zs=cs.map V.ref:=λzs=>by
    induction zs with
    |nil=>exact λ_=>⟨[],rfl⟩
    |cons z zs ih=>
     intro h;obtain⟨b,rfl⟩:=h z ZB;obtain⟨cs,rfl⟩:=ih λy hy=>h y (Zk _ hy);exact⟨b::cs,rfl⟩
   obtain⟨cs,rfl⟩:=refs ys λz hz=>by
    obtain⟨i,hi,e⟩:=ZD.mp hz;obtain⟨b,_,e2,_⟩:=kN i z (by simp[hi,e]);exact⟨b,e2⟩
   have kA:cs.length=rows.length:=by rw[Zf] at kE;rw[kE,jR]
   obtain⟨ix,e1,e3⟩:=xx6 tp;refine⟨_,rfl,_,rfl,(by show 3<=sizeLine;decide),λk hk=>⟨_,rfl,_,_,rfl,k,_,ix,.int (ex tp:Nat),rfl,Yh V.int e1,SqL.of qa4,e3,?_⟩⟩;refine⟨_,rfl,D,_,rfl,.inl ⟨SqL.of (qc9 vQ hk),λl hl=>⟨(by show 3<=sizeLine;decide),λt2 ht2=>?_⟩⟩⟩;refine q _ t2 (((s3.trans (qb2 hk)).trans (qb2 hl)).trans (qb2 ht2)) ⟨⟨l,qa4,cs,qc9 qa4 ht2,by rw[kA,qP8],λi b r e1 e2=>?_⟩,q01 cn,by rw[qP8];exact hrl⟩;obtain⟨b',r',e3,e4,e5⟩:=kN i (.ref b) (by rw[Zg,e1];rfl);cases e3;have:r=r'.map ex:=by
    unfold exr at e2;rw[Zg,e4] at e2;exact (ZM e2).symm
   rw[this];exact qc9 (qc9 (qc9 e5 hk) hl) ht2
end
end Pr
namespace Qf
def qK9 (n:Nat) (b:Row):Prop:=∃r c h w,b=[r,c,h,w]/\1<=h/\1<=w/\r+h<=2^n/\c+w<=2^n
def xp5 (b:Row):Prop:=∃r c h w,b=[r,c,h,w]/\((h<=9/\w<=9)\/∃s i j,h=2^s/\w=2^s/\r=i*2^s/\c=j*2^s)
def xe5 (n:Nat) (bs:List Row):Prop:=(∀b∈bs,qK9 n b)/\((n<4/\bs.length<=64)\/(bs.length<=5/\∀b∈bs,xp5 b))
theorem qv7 (k:Nat):(1:Int)*2^((k:Int)).toNat=((2^k:Nat):Int):=by
 rw[ZA,Ue];push_cast;rfl
theorem ql1 {n:Nat}(h:n<=12):2^n<=4096/\0<2^n:=⟨by
 have:=XH (n:=2) (by decide) h;simpa using this,Xr (by decide)⟩
end Qf
namespace Pr
open PySem L2 Qf
section
variable {P:Program}{w:World}{K:PySem.W.Frag}{mg:Str->Option Value}{base:Heap}
theorem scBox:FnScope ["_law_pot_here", "_law_n", "_law_most", "_law_side", "_law_size", "_law_row", "_law_column", "_law_high", "_law_wide"] ["_law_pot_here", "_law_n", "_law_most"] (qa3 lBox):=qc5
def xp6:Sp:=λvs H Q _=>∃(p:Addr) (n:Nat),vs=[.ref p,.int (n:Nat),.int 9]/\PurseAt H p/\n<=12 /\
 ∀(H':Hp) (t:Addr) (b:Row),But p H H'->PurseAt H' p->H' t=some (.tup (vN b))->qK9 n b->xp5 b->Q (.ref t) H'
theorem xx7 {f fD:Addr}{fd fdD:FuncData}(F:Fun K "_law_box" "_law_box" lBox f fd) (B:Blt mg) (hD:mg "_law_digit" = some (.ref fD)) (FD:Fun K "_law_digit" "_law_digit" qq5 fD fdD) (bD:Binds K fdD ["_law_pot_here", "_law_many"] []) :
  FnOk P w K mg base CX0 2 f fd ["_law_pot_here", "_law_n", "_law_most"] xp6:=by
 have GD:FnOk P w K mg base CX0 1 fD fdD ["_law_pot_here", "_law_many"] qm4:=qo6 FD;refine F.ok scBox (λvs H Q E h=>?_) (λcdv A outer s H vs Q E hr h=>?_)
 ·obtain⟨p,n,rfl,_⟩:=h
  rfl
 ·obtain⟨p,n,rfl,hp,hn,q⟩:=h;refine seqE ⟨_,⟨psN 3 scBox.nd (qa7 qf9 qa2 (pv 1))⟩,?_⟩;refine seqE ⟨_,⟨qd8 (qb7 qw0 (pcN GD hr hD FD.kp bD (qa0 (pv 0) (qa0 qa2 qa1))) qa2 (qb4 _))
   (StB.go (.cons ⟨psN 4 scBox.nd (pcN GD hr hD FD.kp bD (qa0 (pv 0) (qa0 (qa7 qd2 (pv 1) qa2) qa1)))⟩
    (.cons ⟨psN 5 scBox.nd (qa7 qi7 (pcN GD hr hD FD.kp bD (qa0 (pv 0) (qa0 (qa7 qf9 qa2 (qa7 qc2 (pv 1) (pv 4))) qa1))) (qa7 qf9 qa2 (pv 4)))⟩
    (.cons ⟨psN 6 scBox.nd (qa7 qi7 (pcN GD hr hD FD.kp bD (qa0 (pv 0) (qa0 (qa7 qf9 qa2 (qa7 qc2 (pv 1) (pv 4))) qa1))) (qa7 qf9 qa2 (pv 4)))⟩
    (.one ⟨qa9 (qe1 (Ars2.go (.cons ⟨pv 5⟩ (.cons ⟨pv 6⟩ (.cons ⟨qa7 qf9 qa2 (pv 4)⟩ (.cons ⟨qa7 qf9 qa2 (pv 4)⟩ .nil rfl) rfl) rfl) rfl)))⟩))))) qb8⟩,?_⟩
  refine seqE ⟨_,⟨psN 5 scBox.nd (pcN GD hr hD FD.kp bD (qa0 (pv 0) (qa0 (pv 3) qa1)))⟩,?_⟩;refine seqE ⟨_,⟨psN 6 scBox.nd (pcN GD hr hD FD.kp bD (qa0 (pv 0) (qa0 (pv 3) qa1)))⟩,?_⟩;refine seqE ⟨_,⟨psN 7 scBox.nd (qa7 qd2 qa2 (pcN GD hr hD FD.kp bD (qa0 (pv 0) (qa0 (qa6 (qe6 rfl) (by rfl) B.min Yi (qa0 (pv 2) (qa0 (qa7 qc2 (pv 3) (pv 5)) qa1))) qa1))))⟩,?_⟩;refine seqE ⟨_,⟨psN 8 scBox.nd (qa7 qd2 qa2 (pcN GD hr hD FD.kp bD (qa0 (pv 0) (qa0 (qa6 (qe6 rfl) (by rfl) B.min Yi (qa0 (pv 2) (qa0 (qa7 qc2 (pv 3) (pv 6)) qa1))) qa1))))⟩,?_⟩;refine qg5 ⟨_,⟨qa9 (qe1 (Ars2.go (.cons ⟨pv 5⟩ (.cons ⟨pv 6⟩ (.cons ⟨pv 7⟩ (.cons ⟨pv 8⟩ .nil rfl) rfl) rfl) rfl)))⟩,?_⟩;obtain⟨p1,p2⟩:=ql1 hn;refine⟨_,rfl,_,_,rfl,rfl,⟨by lia,by lia,by decide⟩,?_⟩;refine⟨_,rfl,p,2,rfl,hp,by decide,by decide,λd H1 hd b1 kB=>⟨rfl,_,rfl,?_⟩⟩;refine ite2 (λhc=>?_) (λhc=>?_)
  ·refine⟨_,rfl,_,rfl,_,_,rfl,rfl,p,n+1,rfl,kB,by lia,by lia,λz H2 hz b2 jQ=>?_⟩;have hzn:z<=n:=by lia
   obtain⟨s1,s2⟩:=ql1 (ZG hzn hn);obtain⟨m1,m2⟩:=ql1 (ZG (Nat.sub_le n z) hn);have em:(1:Int)*2^((n:Int)-(z:Int)).toNat=((2^(n-z):Nat):Int):=by
    rw[<- qv7 (n-z)];congr 3;lia
   have ez:=qv7 z;have hsplit:2^(n-z)*2^z=2^n:=by rw[<- Vf];congr 1;lia
   refine⟨_,rfl,_,rfl,_,rfl,_,_,rfl,rfl,_,_,rfl,rfl,⟨by lia,by lia,by decide⟩,p,2^(n-z),Yh (λx=>[V.ref p,V.int x]) em,jQ,m2,by lia,λi H3 hi b3 k6=>?_⟩;refine⟨_,rfl,_,_,rfl,rfl,⟨by lia,by lia,by decide⟩,_,_,rfl,rfl,.inl ⟨by lia,by lia⟩,?_⟩;refine⟨_,rfl,_,rfl,_,rfl,_,_,rfl,rfl,_,_,rfl,rfl,⟨by lia,by lia,by decide⟩,p,2^(n-z),Yh (λx=>[V.ref p,V.int x]) em,k6,m2,by lia,λj H4 hj b4 kW=>?_⟩;refine⟨_,rfl,_,_,rfl,rfl,⟨by lia,by lia,by decide⟩,_,_,rfl,rfl,.inl ⟨by lia,by lia⟩,?_⟩;refine⟨_,rfl,_,rfl,_,rfl,_,_,rfl,rfl,⟨by lia,by lia,by decide⟩,_,rfl,_,_,rfl,rfl,⟨by lia,by lia,by decide⟩,(by show 4<=sizeLine;decide),λt ht=>?_⟩;have bnd:∀i,i<2^(n-z)->i*2^z+2^z<=2^n:=λi hi=>by
    rw[<- hsplit,<- Xp];exact YY _ hi
   refine q _ t [i*2^z,j*2^z,2^z,2^z] ((((b1.trans b2).trans b3).trans b4).trans (But.of (qb2 ht))) (kW.same (qb2 ht)) ?_ ⟨_,_,_,_,rfl,s2,s2,bnd i hi,bnd j hj⟩ ⟨_,_,_,_,rfl,.inr ⟨z,i,j,rfl,rfl,rfl,rfl⟩⟩;rw[qa4];show some (HO.tup [V.int ((i:Int)*(1*2^((z:Int)).toNat)),V.int ((j:Int)*(1*2^((z:Int)).toNat)),V.int (1*2^((z:Int)).toNat),V.int (1*2^((z:Int)).toNat)])=some (HO.tup [V.int ((i*2^z:Nat):Int),V.int ((j*2^z:Nat):Int),V.int ((2^z:Nat):Int),V.int ((2^z:Nat):Int)]);rw[ez];push_cast
   rfl
  ·have es:=qv7 n;have hside:[V.ref p,V.int ((1:Int)*2^((n:Int)).toNat)]=[V.ref p,V.int ((2^n:Nat):Int)]:=by rw[es]
   refine⟨_,rfl,_,rfl,p,2^n,hside,kB,p2,by lia,λr H2 vF b2 jQ=>?_⟩;refine⟨_,rfl,_,rfl,p,2^n,hside,jQ,p2,by lia,λc H3 hc3 b3 k6=>?_⟩;have emin:∀r:Nat,r<2^n->[V.ref p,V.int (if (1:Int)*2^((n:Int)).toNat-(r:Int)<9 then (1:Int)*2^((n:Int)).toNat-(r:Int) else 9)]=[V.ref p,V.int ((min 9 (2^n-r):Nat):Int)]:=λr hr=>by
    rw[es];congr 3;split<;>lia
   refine⟨_,rfl,_,rfl,_,rfl,_,rfl,_,_,rfl,rfl,_,_,rfl,p,min 9 (2^n-r),emin r vF,k6,by lia,by lia,λh H4 hh b4 kW=>?_⟩;refine⟨_,_,rfl,rfl,?_⟩;refine⟨_,rfl,_,rfl,_,rfl,_,rfl,_,_,rfl,rfl,_,_,rfl,p,min 9 (2^n-c),emin c hc3,kW,by lia,by lia,λw' H5 hw b5 hp5=>?_⟩;refine⟨_,_,rfl,rfl,?_⟩;refine⟨_,rfl,_,rfl,_,rfl,_,rfl,(by show 4<=sizeLine;decide),λt ht=>?_⟩;refine q _ t [r,c,1+h,1+w'] (((((b1.trans b2).trans b3).trans b4).trans b5).trans (But.of (qb2 ht))) (hp5.same (qb2 ht)) ?_ ⟨_,_,_,_,rfl,by lia,by lia,by lia,by lia⟩ ⟨_,_,_,_,rfl,.inl ⟨by lia,by lia⟩⟩;rw[qa4]
   rfl
end
structure Grow (p D:Addr) (H:Hp) (ok:Row->Prop) (i:Nat) (xs:List V) (H2:Hp):Prop where
 but:But p H H2
 pot:PurseAt H2 p
 at_:H2 D=some (.lst xs)
 len:xs.length<=i
 its:∃(cs:List Addr) (bs:List Row),xs=cs.map V.ref/\cs.length=bs.length/\(∀b∈bs,ok b)/\∀(j:Nat) c b,cs[j]?=some c->bs[j]?=some b->H2 c=some (.tup (vN b))
theorem Grow.start {p D:Addr}{H:Hp}{ok:Row->Prop}(hp:PurseAt H p) (hD:H D=none):Grow p D H ok 0 [] (upd H D (.lst [])):=
 ⟨But.of (qb2 hD),hp.same (qb2 hD),qa4,Ze _,[],[],rfl,rfl,λb hb=>(nomatch hb),λj c b e=>by simp at e⟩
theorem Grow.kept {p D:Addr}{H H2 H3:Hp}{ok:Row->Prop}{i:Nat}{xs:List V}(g:Grow p D H ok i xs H2) (npD:p≠D) (b:But p H2 H3) (hp:PurseAt H3 p):Grow p D H ok (i+1) xs H3:=by
 obtain⟨b2,p2,a2,l2,cs,bs,e,hl,hok,hr⟩:=g;refine⟨b2.trans b,hp,b _ _ a2 (XC npD),by lia,cs,bs,e,hl,hok,λj c r e1 e2=>?_⟩;have:=hr j c r e1 e2;refine b _ _ this λz=>?_;obtain⟨x,y,e3,_⟩:=p2;rw[z,e3] at this;cases this
theorem Grow.more {p D t:Addr}{H H2 H3:Hp}{ok:Row->Prop}{i:Nat}{xs:List V}{r:Row}(g:Grow p D H ok i xs H2) (vI:H D=none) (npD:p≠D) (b:But p H2 H3) (hp:PurseAt H3 p) (ht:H3 t=some (.tup (vN r))) (hr:ok r) :
  H3 D=some (.lst xs)/\Grow p D H ok (i+1) (xs++[.ref t]) (upd H3 D (.lst (xs++[.ref t]))):=by
 have k:=g.kept npD b hp;obtain⟨b2,p2,a2,l2,cs,bs,rfl,hl,hok,hrr⟩:=k;have l1:=g.len;refine⟨a2,λc o e n=>?_,?_,qa4,by rw[ZC];show (cs.map V.ref).length+1<=_;lia,cs++[t],bs++[r],xb5 cs t,by rw[ZC,ZC,hl];rfl,?_,?_⟩
 ·rw[qb1 (qa5 e vI)];exact b2 c o e n
 ·obtain⟨x,y,e,rr⟩:=hp;exact⟨x,y,by rw[qb1 npD];exact e,rr⟩
 ·intro z hz;rcases Z7.mp hz with hz|hz
  ·exact hok z hz
  ·have:z=r:=by simpa using hz
   rw[this];exact hr
 ·intro j c q e1 e2;have nD:∀{c:Addr}{u:List V},H3 c=some (.tup u)->c≠D:=λ{c u} e z=>by rw[z,a2] at e;cases e
  by_cases hj:j<cs.length
  ·rw[ZF hj] at e1;rw[ZF (by lia)] at e2;have:=hrr j c q e1 e2;rw[qb1 (nD this)];exact this
  ·rw[ZK (by lia)] at e1;rw[ZK (by lia)] at e2;have hj0:j-cs.length=0:=by
    have:=(gS_ e1).1;simp at this;lia
   rw[hj0] at e1;rw[<- hl,hj0] at e2;have ec:c=t:=by simpa using e1.symm
   have eq:q=r:=by simpa using e2.symm
   rw[ec,eq,qb1 (nD ht)];exact ht
theorem Grow.rows {p D:Addr}{H H2:Hp}{ok:Row->Prop}{i:Nat}{xs:List V}(g:Grow p D H ok i xs H2):∃bs:List Row,RowsL H2 D bs/\(∀b∈bs,ok b)/\bs.length<=i:=by
 obtain⟨_,_,a2,l2,cs,bs,rfl,hl,hok,hr⟩:=g;exact⟨bs,⟨cs,a2,hl,hr⟩,hok,by rw[Zf] at l2;lia⟩
section
variable {P:Program}{w:World}{K:PySem.W.Frag}{mg:Str->Option Value}{base:Heap}
abbrev xi4:List Str:=["_law_pot_here", "_law_n", "_law_side"]
theorem scCells:FnScope xi4 ["_law_pot_here", "_law_n"] (qa3 qE4):=qc5
def q73:Sp:=λvs H Q _=>∃(p:Addr) (n:Nat),vs=[.ref p,.int (n:Nat)]/\PurseAt H p/\n<4 /\
 ∀(H':Hp) (l:Addr) (bs:List Row),But p H H'->PurseAt H' p->H l=none->RowsL H' l bs->(∀b∈bs,qK9 n b)->bs.length<=64->Q (.ref l) H'
theorem xe6 {f fD:Addr}{fd fdD:FuncData}(F:Fun K "_law_cells" "_law_cells" qE4 f fd) (B:Blt mg) (hD:mg "_law_digit" = some (.ref fD)) (FD:Fun K "_law_digit" "_law_digit" qq5 fD fdD) (bD:Binds K fdD ["_law_pot_here", "_law_many"] []) :
  FnOk P w K mg base CX0 2 f fd ["_law_pot_here", "_law_n"] q73:=by
 have GD:FnOk P w K mg base CX0 1 fD fdD ["_law_pot_here", "_law_many"] qm4:=qo6 FD;refine F.ok scCells (λvs H Q E h=>?_) (λcdv A outer s H vs Q E hr h=>?_)
 ·obtain⟨p,n,rfl,_⟩:=h
  rfl
 ·obtain⟨p,n,rfl,hp,hn,q⟩:=h;refine seqE ⟨_,⟨psN 2 scCells.nd (qa7 qf9 qa2 (pv 1))⟩,?_⟩;refine qg5 ⟨_,⟨qa9 (qD7 xi4 (qa3 qE4) rfl rfl rfl scCells.nd (qh4 (by rfl) B.range (qa0 (qa7 qi7 (pv 2) (pv 2)) qa1))
   (λcl C fp s₀ H₀=>qb7 qw0 (pcN GD hr hD FD.kp bD (qa0 (pv 1) (qa0 qa2 qa1))) qa2 (qb4 _))
   (λcl C fp s₀ H₀=>PEb.go ⟨qe1 (Ars2.go (.cons ⟨qa7 qj2 (pv 0) (pv 3)⟩ (.cons ⟨qa7 qt0 (pv 0) (pv 3)⟩ (.cons ⟨qa2⟩ (.cons ⟨qa2⟩ .nil rfl) rfl) rfl) rfl))⟩))⟩,?_⟩
  obtain⟨p1,p2⟩:=ql1 (show n<=12 by lia);have p8:2^n<=8:=by
   have:=XH (n:=2) (by decide) (show n<=3 by lia);simpa using this
  have es:=qv7 n;refine⟨_,rfl,_,_,rfl,rfl,⟨by lia,by lia,by decide⟩,?_⟩;have hsz:(2^n*2^n:Nat)<=64:=by
   have:=VE p8 p8;lia
  have esq:((1:Int)*2^((n:Int)).toNat)*(1*2^((n:Int)).toNat)=((2^n*2^n:Nat):Int):=by rw[es];push_cast;rfl
  have etn:(((1:Int)*2^((n:Int)).toNat)*(1*2^((n:Int)).toNat)).toNat=2^n*2^n:=by rw[esq,ZA]
  refine⟨_,rfl,_,rfl,_,_,rfl,rfl,.inl ⟨by lia,by lia⟩,_,rfl,by lia,by lia,λD vI=>?_⟩;have npD:p≠D:=by obtain⟨a,b,e,_⟩:=hp;exact qa5 e vI
  refine q65 (Grow p D H (qK9 n)) (by rw[etn];exact qd5 (by lia)) (Grow.start hp vI) (λi xs H2 g=>⟨g.at_,g.len⟩) ?_ ?_
  ·intro i xs H2 hi g os ho Q1 Q2 q1 q2;rw[etn] at hi;obtain⟨o1,rfl⟩:=L2.os1 ho
   ·
    refine⟨_,rfl,p,2,rfl,g.pot,by decide,by decide,λd H3 hd b3 k6=>⟨rfl,_,rfl,?_⟩⟩;refine ite2 (λ_=>?_) (λ_=>q1 H3 (g.kept npD b3 k6));refine⟨_,rfl,_,rfl,_,_,rfl,rfl,⟨by lia,by lia⟩,_,rfl,_,rfl,_,_,rfl,rfl,(by show (0:Int)<1*2^((n:Int)).toNat;lia),(by show 4<=sizeLine;decide),λt ht=>?_⟩;have hbx:qK9 n [i/2^n,i%2^n,1,1]:=by
     refine⟨_,_,_,_,rfl,Ze _,Ze _,?_,?_⟩
     ·exact (Nat.div_lt_iff_lt_mul p2).mpr hi
     ·exact Xk _ p2
    have e4:HO.tup [V.int ((0+(i:Int))/(1*2^((n:Int)).toNat)),V.int ((0+(i:Int))%(1*2^((n:Int)).toNat)),V.int 1,V.int 1]=HO.tup (vN [i/2^n,i%2^n,1,1]):=by
     rw[es,Int.zero_add];show HO.tup [V.int ((i:Int)/((2^n:Nat):Int)),V.int ((i:Int)%((2^n:Nat):Int)),V.int 1,V.int 1]=HO.tup [V.int ((i/2^n:Nat):Int),V.int ((i%2^n:Nat):Int),V.int 1,V.int 1];rw[W8,W9]
    show Q2 (.ref t) (upd H3 t (HO.tup [V.int ((0+(i:Int))/(1*2^((n:Int)).toNat)),V.int ((0+(i:Int))%(1*2^((n:Int)).toNat)),V.int 1,V.int 1]));rw[e4];have m:=g.more (t:=t) (r:=[i/2^n,i%2^n,1,1]) vI npD (b3.trans (But.of (qb2 ht))) (k6.same (qb2 ht)) qa4 hbx;exact q2 _ _ m.1 m.2
  ·intro xs H2 g;obtain⟨bs,h1,h2,h3⟩:=g.rows;exact q H2 D bs g.but g.pot vI h1 h2 (by rw[etn] at h3;lia)
abbrev xi5:List Str:=["_law_pot_here", "_law_n"]
theorem scBoxes:FnScope xi5 ["_law_pot_here", "_law_n"] (qa3 qE5):=qc5
def q74:Sp:=λvs H Q _=>∃(p:Addr) (n:Nat),vs=[.ref p,.int (n:Nat)]/\PurseAt H p/\n<=12 /\
 ∀(H':Hp) (l:Addr) (bs:List Row),But p H H'->PurseAt H' p->H l=none->RowsL H' l bs->xe5 n bs->Q (.ref l) H'
theorem xe7 {f fD fC fB:Addr}{fd fdD fdC fdB:FuncData}(F:Fun K "_law_boxes" "_law_boxes" qE5 f fd) (B:Blt mg) (hD:mg "_law_digit" = some (.ref fD)) (FD:Fun K "_law_digit" "_law_digit" qq5 fD fdD) (bD:Binds K fdD ["_law_pot_here", "_law_many"] [])
  (hC:mg "_law_cells" = some (.ref fC)) (FC:Fun K "_law_cells" "_law_cells" qE4 fC fdC) (bC:Binds K fdC ["_law_pot_here", "_law_n"] [])
  (hB:mg "_law_box" = some (.ref fB)) (FB:Fun K "_law_box" "_law_box" lBox fB fdB) (bB:Binds K fdB ["_law_pot_here", "_law_n", "_law_most"] []) :
  FnOk P w K mg base CX0 3 f fd ["_law_pot_here", "_law_n"] q74:=by
 have GD:FnOk P w K mg base CX0 1 fD fdD ["_law_pot_here", "_law_many"] qm4:=qo6 FD;have GC:FnOk P w K mg base CX0 2 fC fdC ["_law_pot_here", "_law_n"] q73:=xe6 FC B hD FD bD;have GB:FnOk P w K mg base CX0 2 fB fdB ["_law_pot_here", "_law_n", "_law_most"] xp6:=xx7 FB B hD FD bD;refine F.ok scBoxes (λvs H Q E h=>?_) (λcdv A outer s H vs Q E hr h=>?_)
 ·obtain⟨p,n,rfl,_⟩:=h
  rfl
 ·obtain⟨p,n,rfl,hp,hn,q⟩:=h;have jG:Room 1 _:=hr.mono (by decide);refine seqE ⟨_,⟨qd8 (PW.pt (qU0 (qb7 qj3 (pv 1) qa2 (qb4 _)) (qI2 (qb7 qw0 (pcN GD jG hD FD.kp bD (qa0 (pv 0) (qa0 qa2 qa1))) qa2 (qb4 _)))))
   (qa8 (qa9 (pcN GC hr hC FC.kp bC (qa0 (pv 0) (qa0 (pv 1) qa1))))) qb8⟩,?_⟩
  refine qg5 ⟨_,⟨qa9 (qf1 xi5 (qa3 qE5) rfl rfl rfl scBoxes.nd (qh4 (by rfl) B.range (qa0 (pcN GD jG hD FD.kp bD (qa0 (pv 0) (qa0 qa2 qa1))) qa1))
   (λcl C fp s₀ H₀=>pcN GB hr hB FB.kp bB (qa0 (pv 1) (qa0 (pv 2) (qa0 qa2 qa1)))))⟩,?_⟩
  have rest:∀H1,But p H H1->PurseAt H1 p->q89 (xr6 (qB8 (q86 qm4 [] E0 (qB8 (tVar 0) (qB8 (tC (.int 6)) tNil))) tNil)) (q86 xp6 [] E0 (qB8 (tVar 1) (qB8 (tVar 2) (qB8 (tC (.int 9)) tNil)))) [some (.ref p),some (.int (n:Nat))] H1 Q:=λH1 b1 kB=>by
   refine⟨_,rfl,p,6,rfl,kB,by decide,by decide,λd H2 hd b2 jQ=>⟨_,rfl,by lia,by lia,λD vI=>?_⟩⟩;have npD:p≠D:=by obtain⟨a,b,e,_⟩:=jQ;exact qa5 e vI
   have hDH:H D=none:=by
    cases e:H D with
    |none=>rfl
    |some o=>rw[(b1.trans b2) _ _ e (XC npD)] at vI;cases vI
   refine qP5 (Grow p D H2 (λb=>qK9 n b/\xp5 b)) (by rw[ZA];exact qd5 (by lia)) (Grow.start jQ vI) (λi xs H2 g=>⟨g.at_,g.len⟩) ?_ ?_
   ·intro i xs H3 hi g Q2 q2;refine⟨_,rfl,_,rfl,p,n,rfl,g.pot,hn,λH4 t b b4 kW ht h1 h2=>?_⟩;have m:=g.more (t:=t) (r:=b) vI npD b4 kW ht ⟨h1,h2⟩;exact q2 _ _ m.1 m.2
   ·intro xs H3 g;obtain⟨bs,h1,h2,h3⟩:=g.rows;rw[ZA] at h3;exact q H3 D bs ((b1.trans b2).trans g.but) g.pot hDH h1 ⟨λb hb=>(h2 b hb).1,.inr ⟨by lia,λb hb=>(h2 b hb).2⟩⟩
  refine⟨_,rfl,_,_,rfl,rfl,_,rfl,?_⟩;refine ite2 (λhc=>?_) (λhc=>?_)
  ·have n4:n<4:=by have:=ZH hc;lia
   refine⟨_,rfl,p,2,rfl,hp,by decide,by decide,λd H1 hd b1 kB=>⟨rfl,_,rfl,?_⟩⟩;refine ite2 (λ_=>?_) (λ_=>rest H1 b1 kB);refine⟨_,rfl,_,rfl,p,n,rfl,kB,n4,λH2 l bs b2 jQ hl hR hb j9=>q H2 l bs (b1.trans b2) jQ ?_ hR ⟨hb,.inl ⟨n4,j9⟩⟩⟩;cases e:H l with
   |none=>rfl
   |some o=>
    have nlp:l≠p:=by obtain⟨a,b,e2,_⟩:=kB;exact (qa5 e2 hl).symm
    rw[b1 _ _ e nlp] at hl;cases hl
  ·exact iteF (rest H (But.refl p H) hp)
end
theorem qs5 (v M:Int) (h:0<=M):0<=(if M<(if 0>v then 0 else v) then M else (if 0>v then 0 else v))/\(if M<(if 0>v then 0 else v) then M else (if 0>v then 0 else v))<=M:=by
 split<;>split at *<;>lia
section
variable {P:Program}{w:World}{K:PySem.W.Frag}{mg:Str->Option Value}{base:Heap}
abbrev nNr:List Str:=["_law_pot_here", "_law_boxes_here", "_law_n", "_law_row", "_law_column", "_law_box_here"]
abbrev nNr3:List Str:=["_law_pot_here", "_law_boxes_here", "_law_n"]
theorem scNr:FnScope nNr nNr3 (qa3 xa0):=qc5
def spNr:Sp:=λvs H Q _=>∃(p bp:Addr) (n:Nat) (boxes:List Row),vs=[.ref p,.ref bp,.int (n:Nat)]/\PurseAt H p/\RowsL H bp boxes/\bp≠p/\(∀b∈boxes,qK9 n b)/\boxes.length<=900/\n<=12 /\
 ∀(H':Hp) (q:Addr) (r c:Nat),But p H H'->PurseAt H' p->r<2^n->c<2^n->H' q=some (.tup (vN [r,c]))->Q (.ref q) H'
theorem xD4 {f fD:Addr}{fd fdD:FuncData}(F:Fun K "_law_near_box" "_law_near_box" xa0 f fd) (B:Blt mg) (hD:mg "_law_digit" = some (.ref fD)) (FD:Fun K "_law_digit" "_law_digit" qq5 fD fdD) (bD:Binds K fdD ["_law_pot_here", "_law_many"] []) :
  FnOk P w K mg base CX0 2 f fd nNr3 spNr:=by
 have GD:FnOk P w K mg base CX0 1 fD fdD ["_law_pot_here", "_law_many"] qm4:=qo6 FD;refine F.ok scNr (λvs H Q E h=>?_) (λcdv A outer s H vs Q E hr h=>?_)
 ·obtain⟨p,bp,n,boxes,rfl,_⟩:=h
  rfl
 ·obtain⟨p,bp,n,boxes,rfl,hp,hR,vG,jT,vC,hn,q⟩:=h;refine seqE ⟨_,⟨psN 3 scNr.nd (PEb.go ⟨pcN GD hr hD FD.kp bD (qa0 (pv 0) (qa0 (qa7 qf9 qa2 (pv 2)) qa1))⟩)⟩,?_⟩;refine seqE ⟨_,⟨psN 4 scNr.nd (PEb.go ⟨pcN GD hr hD FD.kp bD (qa0 (pv 0) (qa0 (qa7 qf9 qa2 (pv 2)) qa1))⟩)⟩,?_⟩;refine seqE ⟨_,⟨qd8 (PW.pt (qU0 (qb7 (qM0 hr) (pv 1) (qg8 qa1) (qb4 _)) (qI2 (qb7 q85 (PEb.go ⟨pcN GD hr hD FD.kp bD (qa0 (pv 0) (qa0 qa2 qa1))⟩) qa2 (qb4 _)))))
   (StB.go (.cons ⟨psN 5 scNr.nd (PEb.go ⟨pxN qf0 (pv 1) (PEb.go ⟨pcN GD hr hD FD.kp bD (Ars2.go (.cons ⟨pv 0⟩ (.cons ⟨qa6 qd4 (by rfl) B.len YS (qa0 (pv 1) qa1)⟩ .nil rfl) rfl))⟩)⟩)⟩
   (.cons ⟨psN 3 scNr.nd (PEb.go ⟨qa6 (qe6 rfl) (by rfl) B.min Yi (Ars2.go (.cons ⟨qa6 (qg1 rfl) (by rfl) B.max Yo (Ars2.go (.cons ⟨qa7 qc2 (PEb.go ⟨qa7 qd2 (PEb.go ⟨pxN qc8 (pv 5) qa2⟩) (PEb.go ⟨pxN qf0 (PEb.go ⟨qg8 (Ars2.go (.cons ⟨qa2⟩ (.cons ⟨pxN qc8 (pv 5) qa2⟩ .nil rfl) rfl))⟩) (PEb.go ⟨pcN GD hr hD FD.kp bD (qa0 (pv 0) (qa0 qa2 qa1))⟩)⟩)⟩) (PEb.go ⟨pcN GD hr hD FD.kp bD (qa0 (pv 0) (qa0 qa2 qa1))⟩)⟩ (.cons ⟨qa2⟩ .nil rfl) rfl))⟩ (.cons ⟨qa7 qc2 (qa7 qf9 qa2 (pv 2)) qa2⟩ .nil rfl) rfl))⟩)⟩
   (.one ⟨psN 4 scNr.nd (PEb.go ⟨qa6 (qe6 rfl) (by rfl) B.min Yi (Ars2.go (.cons ⟨qa6 (qg1 rfl) (by rfl) B.max Yo (Ars2.go (.cons ⟨qa7 qc2 (PEb.go ⟨qa7 qd2 (PEb.go ⟨pxN qc8 (pv 5) qa2⟩) (PEb.go ⟨pxN qf0 (PEb.go ⟨qg8 (Ars2.go (.cons ⟨qa2⟩ (.cons ⟨pxN qc8 (pv 5) qa2⟩ .nil rfl) rfl))⟩) (PEb.go ⟨pcN GD hr hD FD.kp bD (qa0 (pv 0) (qa0 qa2 qa1))⟩)⟩)⟩) (PEb.go ⟨pcN GD hr hD FD.kp bD (qa0 (pv 0) (qa0 qa2 qa1))⟩)⟩ (.cons ⟨qa2⟩ .nil rfl) rfl))⟩ (.cons ⟨qa7 qc2 (qa7 qf9 qa2 (pv 2)) qa2⟩ .nil rfl) rfl))⟩)⟩)))) qb8⟩,?_⟩
  refine qg5 ⟨_,⟨qa9 (qe1 (Ars2.go (.cons ⟨pv 3⟩ (.cons ⟨pv 4⟩ .nil rfl) rfl)))⟩,?_⟩;have h2n:=qO1 hn;have h2p:0<2^n:=Xr (by decide);have e1n:(1:Int)*2^((n:Nat):Int).toNat=((2^n:Nat):Int):=by rw[Ue,ZA];simp
  have eD:∀p:Addr,[V.ref p,V.int ((1:Int)*2^((n:Nat):Int).toNat)]=[V.ref p,V.int ((2^n:Nat):Int)]:=λp=>by rw[e1n]
  have hpt:∀{H1 H2:Hp},PurseAt H1 p->But p H1 H2->Tups H1 H2:=λ{H1 H2} h b=>by
   obtain⟨x,y,h1,_⟩:=h;exact b.tups h1 (λu z=>by cases z)
  have yD:∀{H1 H2:Hp},PurseAt H1 p->Same H1 H2->PurseAt H2 p:=λ{H1 H2} h s=>by
   obtain⟨x,y,h1,h2⟩:=h;exact⟨x,y,s _ _ h1,h2⟩
  have hpr:∀{H1 H2:Hp},RowsL H1 bp boxes->PurseAt H1 p->But p H1 H2->RowsL H2 bp boxes:=λ{H1 H2} hR h b=>by
   obtain⟨x,y,h1,_⟩:=h;exact hR.but b vG h1 (λu z=>by cases z)
  have fin:∀(H':Hp) (r c:Int) (q':Addr),But p H H'->PurseAt H' p->0<=r->r<=((2^n:Nat):Int)-1->0<=c->c<=((2^n:Nat):Int)-1->H' q'=none->Q (.ref q') (upd H' q' (.tup [.int r,.int c])):=λH' r c q' b hp' r0 r1 c0 c1 hq=>by
   refine q _ q' r.toNat c.toNat (b.trans (But.of (qb2 hq))) (yD hp' (qb2 hq)) (by lia) (by lia) ?_;rw[qa4];show some (HO.tup [.int r,.int c])=some (HO.tup [.int (r.toNat:Int),.int (c.toNat:Int)]);rw[show ((r.toNat:Nat):Int)=r by lia,show ((c.toNat:Nat):Int)=c by lia]
  refine⟨_,rfl,_,rfl,_,_,rfl,rfl,⟨by lia,by lia,by decide⟩,p,2^n,eD p,hp,h2p,by lia,λr H1 jG b1 kB=>?_⟩;refine⟨_,rfl,_,rfl,_,_,rfl,rfl,⟨by lia,by lia,by decide⟩,p,2^n,eD p,kB,h2p,by lia,λc H2 hc2 b2 jQ=>?_⟩;have B2:=b1.trans b2;have hR2:=hpr (hpr hR hp b1) kB b2;refine⟨_,rfl,(by show 0<=sizeLine;decide),λl hl=>?_⟩;have B3:But p H (upd H2 l (.lst [])):=B2.trans (But.of (qb2 hl));have k6:=yD jQ (qb2 (o:=.lst []) hl);have wA:=hR2.same (qb2 (o:=.lst []) hl);have vO:upd H2 l (.lst []) l=some (.lst []):=qa4;generalize upd H2 l (.lst [])=H3 at B3 k6 wA vO ⊢;refine⟨_,_,qk7 wA,.lst vO .nil,qo2 _,rfl,qi5 _,_,rfl,?_⟩;rw[qJ5];cases boxes with
  |nil=>exact iteF (iteF ⟨_,rfl,_,rfl,(by show 2<=sizeLine;decide),λq' hq=>fin H3 _ _ q' B3 k6 (by lia) (by lia) (by lia) (by lia) hq⟩)
  |cons b0 bs0=>
   refine iteT ?_;refine⟨_,rfl,p,4,rfl,k6,by decide,by decide,λd4 H4 jV b4 kW=>?_⟩;refine⟨_,_,rfl,rfl,_,rfl,?_⟩;have B4:=B3.trans b4;refine ite2 (λhc=>?_) (λhc=>⟨_,rfl,_,rfl,(by show 2<=sizeLine;decide),λq' hq=>fin H4 _ _ q' B4 kW (by lia) (by lia) (by lia) (by lia) hq⟩);have hR4:=hpr wA k6 b4;obtain⟨as,ha,vH,jE⟩:=id hR4;refine⟨_,rfl,_,rfl,_,rfl,bp,_,rfl,.inl (SqL.of ha),p,(as.map V.ref).length,rfl,kW,?_,?_,λj H5 hj b5 hp5=>?_⟩
   ·rw[Zf,vH];exact V7 _
   ·rw[Zf,vH];exact Y5 vC (by decide)
   ·rw[Zf] at hj;have haj:as[j]?=some as[j]:=Zd hj;have yL:(b0::bs0)[j]?=some ((b0::bs0)[j]'(by rw[<- vH];exact hj)):=Zd _;have kM:=jE j _ _ haj yL;obtain⟨x0,x1,x2,x3,eb,_⟩:=jT _ (Zz yL);rw[eb] at kM;generalize as[j]=ba at haj kM;have t5:=hpt kW b5;have hbt5:=t5 _ _ kM;have B5:=B4.trans b5;have ha5:=b5 _ _ ha vG;refine⟨bp,_,(j:Int),.ref ba,rfl,rfl,SqL.of ha5,qj4 (by rw[Zg,haj];rfl),?_⟩;refine⟨_,rfl,ba,_,0,_,rfl,rfl,SqT.of hbt5,rfl,_,rfl,ba,_,2,_,rfl,rfl,SqT.of hbt5,rfl,(by show 2<=sizeLine;decide),λl6 hl6=>?_⟩;have B6:=B5.trans (But.of (qb2 (o:=.lst [.int 0,.int (x2:Nat)]) hl6));have wF:=yD hp5 (qb2 (o:=.lst [.int 0,.int (x2:Nat)]) hl6);have hb6:=qc9 (u:=.lst [.int 0,.int (x2:Nat)]) hbt5 hl6;have hl6':upd H5 l6 (.lst [.int 0,.int (x2:Nat)]) l6=some (.lst [.int 0,.int (x2:Nat)]):=qa4;have nl6:l6≠p:=λz=>by
     obtain⟨u,v,h1,_⟩:=hp5;rw[z] at hl6;rw[hl6] at h1;cases h1
    generalize upd H5 l6 (.lst [.int 0,.int (x2:Nat)])=H6 at B6 wF hb6 hl6' ⊢;have two:∀(d x:Nat),d<2->atI [V.int 0,V.int (x:Nat)] (d:Int)=some (.int (if d=0 then 0 else (x:Int))):=λd x h=>by
     match d,h with
     |0,_=>rfl
     |1,_=>rfl
    refine⟨_,rfl,p,2,rfl,wF,by decide,by decide,λd7 H7 wM b7 wR=>?_⟩;refine⟨l6,_,(d7:Int),_,rfl,rfl,SqL.of (b7 _ _ hl6' nl6),two d7 x2 wM,_,_,rfl,rfl,?_⟩;refine⟨_,rfl,p,2,rfl,wR,by decide,by decide,λd8 H8 hd8 b8 hp8=>?_⟩;refine⟨_,_,rfl,rfl,_,_,rfl,_,rfl,_,_,rfl,rfl,⟨by lia,by lia,by decide⟩,_,_,rfl,rfl,_,_,rfl,?_⟩;have t7:=hpt wF b7;have t8:=hpt wR b8;have hb8:=t8 _ _ (t7 _ _ hb6);have B8:=(B6.trans b7).trans b8;rw[e1n];generalize hz1:(((x0:Nat):Int)+(if d7=0 then 0 else (x2:Int))-((d8:Nat):Int))=z1;refine⟨_,rfl,ba,_,1,_,rfl,rfl,SqT.of hb8,rfl,_,rfl,ba,_,3,_,rfl,rfl,SqT.of hb8,rfl,(by show 2<=sizeLine;decide),λl9 hl9=>?_⟩;have B9:=B8.trans (But.of (qb2 (o:=.lst [.int 0,.int (x3:Nat)]) hl9));have yE:=yD hp8 (qb2 (o:=.lst [.int 0,.int (x3:Nat)]) hl9);have hl9':upd H8 l9 (.lst [.int 0,.int (x3:Nat)]) l9=some (.lst [.int 0,.int (x3:Nat)]):=qa4;have nl9:l9≠p:=λz=>by
     obtain⟨u,v,h1,_⟩:=hp8;rw[z] at hl9;rw[hl9] at h1;cases h1
    generalize upd H8 l9 (.lst [.int 0,.int (x3:Nat)])=H9 at B9 yE hl9' ⊢;refine⟨_,rfl,p,2,rfl,yE,by decide,by decide,λda Ha kK ba' hpa=>?_⟩;refine⟨l9,_,(da:Int),_,rfl,rfl,SqL.of (ba' _ _ hl9' nl9),two da x3 kK,_,_,rfl,rfl,?_⟩;refine⟨_,rfl,p,2,rfl,hpa,by decide,by decide,λdb Hb kJ bb hpb=>?_⟩;refine⟨_,_,rfl,rfl,_,_,rfl,_,rfl,_,_,rfl,rfl,⟨by lia,by lia,by decide⟩,_,_,rfl,rfl,_,_,rfl,?_⟩;rw[e1n];have hM:(0:Int)<=((2^n:Nat):Int)-1:=by lia
    refine⟨_,rfl,_,rfl,(by show 2<=sizeLine;decide),λq' hq=>fin Hb _ _ q' ((B9.trans ba').trans bb) hpb (qs5 _ _ hM).1 (qs5 _ _ hM).2 (qs5 _ _ hM).1 (qs5 _ _ hM).2 hq⟩
end
end Pr
namespace Qf
open Tr
def qi8 (r c s:Nat) (b:Row):Bool:=decide (b.getD 0 0<r+s/\r<b.getD 0 0+b.getD 2 0/\c<b.getD 1 0+b.getD 3 0/\b.getD 1 0<c+s)
def hasB (r c s:Nat) (b:Row):Bool:=decide (b.getD 0 0<=r/\r+s<=b.getD 0 0+b.getD 2 0/\b.getD 1 0<=c/\c+s<=b.getD 1 0+b.getD 3 0)
def mk (a b c d:Tr):Tr:=if a=z/\b=z/\c=z/\d=z then z else if a=o/\b=o/\c=o/\d=o then o else .nd a b c d
def met (boxes:List Row) (r c s:Nat):List Row:=boxes.filter (qi8 r c s)
def bt:Nat->List Row->Nat->Nat->Tr
 |0,boxes,r,c=>if met boxes r c 1=[] then z else if (met boxes r c 1).any (hasB r c 1) then o else z
 |k+1,boxes,r,c=>if met boxes r c (2^(k+1))=[] then z else if (met boxes r c (2^(k+1))).any (hasB r c (2^(k+1))) then o else
   mk (bt k (met boxes r c (2^(k+1))) r c) (bt k (met boxes r c (2^(k+1))) r (c+2^k)) (bt k (met boxes r c (2^(k+1))) (r+2^k) c) (bt k (met boxes r c (2^(k+1))) (r+2^k) (c+2^k))
theorem xx8 {a b c d:Tr}(ha:Red a) (hb:Red b) (hc:Red c) (hd:Red d):Red (mk a b c d):=by
 unfold mk;split
 ·trivial
 ·split
  ·trivial
  ·exact⟨by assumption,by assumption,ha,hb,hc,hd⟩
theorem qH1:∀(k:Nat) (boxes:List Row) (r c:Nat),Red (bt k boxes r c)
 |0,boxes,r,c=>by
  unfold bt;split
  ·trivial
  ·split<;>trivial
 |k+1,boxes,r,c=>by
  unfold bt;split
  ·trivial
  ·split
   ·trivial
   ·exact xx8 (qH1 k _ _ _) (qH1 k _ _ _) (qH1 k _ _ _) (qH1 k _ _ _)
theorem xx9 {a b c d:Tr}{k:Nat}(ha:dep a<=k) (hb:dep b<=k) (hc:dep c<=k) (hd:dep d<=k):dep (mk a b c d)<=k+1:=by
 unfold mk;split
 ·show 0<=_;lia
 ·split
  ·show 0<=_;lia
  ·show 1+mx [dep a,dep b,dep c,dep d]<=k+1;have:=xu2 (l:=[dep a,dep b,dep c,dep d]) (b:=k) (by
    intro x hx;have:x=dep a\/x=dep b\/x=dep c\/x=dep d:=by simpa using hx
    rcases this with rfl|rfl|rfl|rfl<;>assumption)
   lia
theorem qH2:∀(k:Nat) (boxes:List Row) (r c:Nat),dep (bt k boxes r c)<=k
 |0,boxes,r,c=>by
  unfold bt;split
  ·exact Ze 0
  ·split<;>exact Ze 0
 |k+1,boxes,r,c=>by
  unfold bt;split
  ·exact Zx _
  ·split
   ·exact Zx _
   ·exact xx9 (qH2 k _ _ _) (qH2 k _ _ _) (qH2 k _ _ _) (qH2 k _ _ _)
def nds:Tr->Nat
 |.nd a b c d=>1+nds a+nds b+nds c+nds d
 |_=>0
theorem qq0:∀(t:Tr) (e:List Tr),(post t e).length<=e.length+nds t
 |.z,e=>Ze _
 |.o,e=>Ze _
 |.nd a b c d,e=>by
  unfold post;split
  ·exact Yx _ _
  ·have h1:=qq0 a e;have h2:=qq0 b (post a e);have h3:=qq0 c (post b (post a e));have h4:=qq0 d (post c (post b (post a e)));rw[ZC];show _+1<=e.length+(1+nds a+nds b+nds c+nds d);lia
theorem xi6 (a b c d:Tr):nds (mk a b c d)<=1+nds a+nds b+nds c+nds d:=by
 unfold mk;split
 ·exact Zx _
 ·split
  ·exact Zx _
  ·exact Ze _
def cnt (b:Row):Nat->Nat->Nat->Nat
 |0,_,_=>0
 |k+1,r,c=>if qi8 r c (2^(k+1)) b=true/\hasB r c (2^(k+1)) b=false then 1+cnt b k r c+cnt b k r (c+2^k)+cnt b k (r+2^k) c+cnt b k (r+2^k) (c+2^k) else 0
def cnts (boxes:List Row) (k r c:Nat):Nat:=(boxes.map λb=>cnt b k r c).sum
theorem qL0 {p:Row->Bool}(boxes:List Row) (k r c:Nat):cnts (boxes.filter p) k r c<=cnts boxes k r c:=by
 induction boxes with
 |nil=>exact Ze _
 |cons b bs ih=>
  unfold cnts at ih ⊢;rw[YV];split
  ·simp only[ZE,Wv];lia
  ·simp only[ZE,Wv];lia
theorem qT1 {boxes:List Row}{k r c:Nat}(hm:∀b∈boxes,qi8 r c (2^(k+1)) b=true/\hasB r c (2^(k+1)) b=false) :
  cnts boxes (k+1) r c=boxes.length+cnts boxes k r c+cnts boxes k r (c+2^k)+cnts boxes k (r+2^k) c+cnts boxes k (r+2^k) (c+2^k):=by
 induction boxes with
 |nil=>rfl
 |cons b bs ih=>
  have h1:=ih λx hx=>hm x (Zk _ hx);have e:cnt b (k+1) r c=1+cnt b k r c+cnt b k r (c+2^k)+cnt b k (r+2^k) c+cnt b k (r+2^k) (c+2^k):=by
   show (if _ then _ else _)=_;rw[Zt (hm b ZB)]
  unfold cnts at h1 ⊢;simp only[ZE,Wv,ZV,e,h1];lia
theorem qH3:∀(k:Nat) (boxes:List Row) (r c:Nat),nds (bt k boxes r c)<=cnts boxes k r c
 |0,boxes,r,c=>by
  unfold bt;split
  ·exact Zx _
  ·split<;>exact Zx _
 |k+1,boxes,r,c=>by
  unfold bt;split
  ·exact Zx _
  ·rename_i jK;split
   ·exact Zx _
   ·rename_i hany;refine ZG (xi6 _ _ _ _) ?_;have h1:=qH3 k (met boxes r c (2^(k+1))) r c;have h2:=qH3 k (met boxes r c (2^(k+1))) r (c+2^k);have h3:=qH3 k (met boxes r c (2^(k+1))) (r+2^k) c;have h4:=qH3 k (met boxes r c (2^(k+1))) (r+2^k) (c+2^k);have h5:cnts (met boxes r c (2^(k+1))) (k+1) r c<=cnts boxes (k+1) r c:=qL0 _ _ _ _;have hm:∀b∈met boxes r c (2^(k+1)),qi8 r c (2^(k+1)) b=true/\hasB r c (2^(k+1)) b=false:=λb hb=>by
     refine⟨(YE.mp hb).2,?_⟩;cases hh:hasB r c (2^(k+1)) b with
     |false=>rfl
     |true=>exact absurd (Wq.mpr ⟨b,hb,hh⟩) hany
    rw[qT1 hm] at h5;have hl:0<(met boxes r c (2^(k+1))).length:=Vp.mpr jK;lia
def sz:Nat->Nat
 |0=>0
 |k+1=>4*sz k+1
theorem qT2:∀(k:Nat) (boxes:List Row) (r c:Nat),nds (bt k boxes r c)<=sz k
 |0,boxes,r,c=>by
  unfold bt;split
  ·exact Zx _
  ·split<;>exact Zx _
 |k+1,boxes,r,c=>by
  unfold bt;split
  ·exact Zx _
  ·split
   ·exact Zx _
   ·refine ZG (xi6 _ _ _ _) ?_;have h1:=qT2 k (met boxes r c (2^(k+1))) r c;have h2:=qT2 k (met boxes r c (2^(k+1))) r (c+2^k);have h3:=qT2 k (met boxes r c (2^(k+1))) (r+2^k) c;have h4:=qT2 k (met boxes r c (2^(k+1))) (r+2^k) (c+2^k);show _<=4*sz k+1;lia
def lin (a h j:Nat):Nat->Nat->Nat
 |0,x=>0
 |k+1,x=>if j=k+1 then (if a<x+2^(k+1)/\x<a+h then 1 else 0) else lin a h j k x+lin a h j k (x+2^k)
def squ (a h c w:Nat):Nat->Nat->Nat->Nat->Nat
 |0,_,_,_=>0
 |j+1,k,x,y=>squ a h c w j k x y+lin a h (j+1) k x*lin c w (j+1) k y
theorem qH4 (a h c w:Nat):∀(j k x y:Nat),j<=k->squ a h c w j (k+1) x y=squ a h c w j k x y+squ a h c w j k x (y+2^k)+squ a h c w j k (x+2^k) y+squ a h c w j k (x+2^k) (y+2^k)
 |0,k,x,y,_=>rfl
 |j+1,k,x,y,hj=>by
  have ih:=qH4 a h c w j k x y (by lia);have e1:∀a h x,lin a h (j+1) (k+1) x=lin a h (j+1) k x+lin a h (j+1) k (x+2^k):=λa h x=>by
   show (if j+1=k+1 then _ else _)=_;rw[Zl (by lia)]
  show squ a h c w j (k+1) x y+lin a h (j+1) (k+1) x*lin c w (j+1) (k+1) y=_;rw[ih,e1,e1];show _=(squ a h c w j k x y+lin a h (j+1) k x*lin c w (j+1) k y)+(squ a h c w j k x (y+2^k)+lin a h (j+1) k x*lin c w (j+1) k (y+2^k))+(squ a h c w j k (x+2^k) y+lin a h (j+1) k (x+2^k)*lin c w (j+1) k y)+(squ a h c w j k (x+2^k) (y+2^k)+lin a h (j+1) k (x+2^k)*lin c w (j+1) k (y+2^k));generalize lin a h (j+1) k x=p,lin a h (j+1) k (x+2^k)=p',lin c w (j+1) k y=q,lin c w (j+1) k (y+2^k)=q';rw[VO,Wh,Wh];lia
theorem qv8 (a c h w:Nat):∀(k x y:Nat),cnt [a,c,h,w] k x y<=squ a h c w k k x y
 |0,x,y=>Ze _
 |k+1,x,y=>by
  show (if qi8 x y (2^(k+1)) [a,c,h,w]=true/\_ then _ else _)<=squ a h c w k (k+1) x y+lin a h (k+1) (k+1) x*lin c w (k+1) (k+1) y;split
  ·rename_i hm;have m:a<x+2^(k+1)/\x<a+h/\y<c+w/\c<y+2^(k+1):=ZH hm.1;have e1:lin a h (k+1) (k+1) x=1:=by
    show (if k+1=k+1 then (if _ then 1 else 0) else _)=1;rw[Zt rfl,Zt ⟨m.1,m.2.1⟩]
   have e2:lin c w (k+1) (k+1) y=1:=by
    show (if k+1=k+1 then (if _ then 1 else 0) else _)=1;rw[Zt rfl,Zt ⟨m.2.2.2,m.2.2.1⟩]
   rw[qH4 a h c w k k x y (Ze _),e1,e2];have h1:=qv8 a c h w k x y;have h2:=qv8 a c h w k x (y+2^k);have h3:=qv8 a c h w k (x+2^k) y;have h4:=qv8 a c h w k (x+2^k) (y+2^k);lia
  ·exact Zx _
theorem mm {l1 l2 u p t A:Nat}(h1:l1<=min (u+p) t-max u A) (h2:l2<=min (u+p+p) t-max (u+p) A):l1+l2<=min (u+(p+p)) t-max u A:=by
 rw[<- Nat.add_assoc];by_cases a:t<=u+p
 ·rw[Nat.min_eq_right a] at h1;rw[Nat.min_eq_right (ZG a (Yx _ _))] at h2 ⊢;have:=Nat.le_max_left (u+p) A;lia
 ·rw[Nat.min_eq_left (V4 a)] at h1;have m1:u+p<=min (u+p+p) t:=Nat.le_min.mpr ⟨Yx _ _,V4 a⟩;by_cases b:A<=u+p
  ·rw[Nat.max_eq_left b] at h2;have m2:max u A<=u+p:=Nat.max_le.mpr ⟨Yx _ _,b⟩;lia
  ·have b':=V4 b;rw[Nat.max_eq_right b'] at h2;rw[Nat.max_eq_right (ZG (Yx _ _) b')] at h1 ⊢;lia
theorem qB0 (a h j:Nat) (hh:1<=h):∀(i u:Nat),lin a h (j+1) (j+1+i) (u*2^(j+1))<=min (u+2^i) ((a+h-1)/2^(j+1)+1)-max u (a/2^(j+1))
 |0,u=>by
  have hp:0<2^(j+1):=Xr (by decide);show (if j+1=j+1 then (if _ then 1 else 0) else _)<=_;rw[Zt rfl];split
  ·rename_i m;have h1:a/2^(j+1)<=u:=by
    have:a/2^(j+1)<u+1:=(Nat.div_lt_iff_lt_mul hp).mpr (by rw[Xp];exact m.1);lia
   have h2:u<=(a+h-1)/2^(j+1):=(Nat.le_div_iff_mul_le hp).mpr (by lia);rw[Nat.pow_zero];lia
  ·exact Zx _
 |i+1,u=>by
  have e:lin a h (j+1) (j+1+(i+1)) (u*2^(j+1))=lin a h (j+1) (j+1+i) (u*2^(j+1))+lin a h (j+1) (j+1+i) (u*2^(j+1)+2^(j+1+i)):=by
   show (if j+1=j+1+i+1 then _ else _)=_;rw[Zl (by lia)]
   rfl
  have e2:u*2^(j+1)+2^(j+1+i)=(u+2^i)*2^(j+1):=by rw[VO,Vf 2 (j+1) i,Xo (2^i)]
  have h1:=qB0 a h j hh i u;have h2:=qB0 a h j hh i (u+2^i);have e3:2^(i+1)=2^i+2^i:=by rw[YJ];lia
  rw[e,e2,e3];exact mm h1 h2
def lim:Nat->Nat
 |1=>6
 |2=>4
 |3=>3
 |_=>2
theorem q75 {a h k j:Nat}(hh:1<=h) (h9:h<=9) (hj:j+1<=k):lin a h (j+1) k 0<=lim (j+1):=by
 obtain⟨i,rfl⟩:∃i,k=j+1+i:=⟨k-(j+1),by lia⟩;have h1:=qB0 a h j hh i 0;rw[Nat.zero_mul] at h1;have hp:0<2^(j+1):=Xr (by decide);have h2:(a+h-1)/2^(j+1)<=a/2^(j+1)+8/2^(j+1)+1:=by
  have:=Nat.add_div (a:=a) (b:=8) hp;have h3:(a+h-1)/2^(j+1)<=(a+8)/2^(j+1):=Nat.div_le_div_right (by lia);split at this<;>lia
 have h4:8/2^(j+1)+2<=lim (j+1):=by
  match j with
  |0=>decide
  |1=>decide
  |2=>decide
  |j+3=>
   have:2^(j+3+1)>=16:=by
    have:=XH (n:=2) (by decide) (show 4<=j+3+1 by lia);simpa using this
   rw[V0 (by lia)];exact Ze 2
 lia
def lims:Nat->Nat
 |0=>0
 |j+1=>lims j+lim (j+1)*lim (j+1)
theorem qP9 {a h c w k:Nat}(h1:1<=h) (h2:h<=9) (w1:1<=w) (w2:w<=9):∀j,j<=k->squ a h c w j k 0 0<=lims j
 |0,_=>Ze _
 |j+1,hj=>Nat.add_le_add (qP9 h1 h2 w1 w2 j (by lia)) (VE (q75 h1 h2 hj) (q75 w1 w2 hj))
theorem qH5:∀{j k:Nat},j<=k->lims j<=lims k
 |j,0,h=>by rw[show j=0 by lia];exact Ze _
 |j,k+1,h=>by
  by_cases e:j=k+1
  ·rw[e];exact Ze _
  ·exact ZG (qH5 (show j<=k by lia)) (Yx _ _)
theorem qi1 (s i j:Nat):∀(k u v:Nat),cnt [i*2^s,j*2^s,2^s,2^s] k (u*2^k) (v*2^k)<=k
 |0,u,v=>Ze _
 |k+1,u,v=>by
  show (if qi8 (u*2^(k+1)) (v*2^(k+1)) (2^(k+1)) [i*2^s,j*2^s,2^s,2^s]=true/\hasB (u*2^(k+1)) (v*2^(k+1)) (2^(k+1)) [i*2^s,j*2^s,2^s,2^s]=false then _ else _)<=_;split
  ·rename_i hm;have m:i*2^s<u*2^(k+1)+2^(k+1)/\u*2^(k+1)<i*2^s+2^s/\v*2^(k+1)<j*2^s+2^s/\j*2^s<v*2^(k+1)+2^(k+1):=ZH hm.1;have nh:¬(i*2^s<=u*2^(k+1)/\u*2^(k+1)+2^(k+1)<=i*2^s+2^s/\j*2^s<=v*2^(k+1)/\v*2^(k+1)+2^(k+1)<=j*2^s+2^s):=YB hm.2;have mul_up:∀{x y m:Nat},0<m->x*m<y*m+m->x*m<=y*m:=λ{x y m} hm h=>by
    have:x<y+1:=VJ (a:=m) (by rw[Xp];exact h);exact YY _ (by lia)
   have hk:s<=k:=by
    by_cases z:s<=k
    ·exact z
    ·exfalso;apply nh;obtain⟨d,rfl⟩:∃d,s=k+1+d:=⟨s-(k+1),by lia⟩;have hp:0<2^(k+1):=Xr (by decide);have ep:2^(k+1+d)=2^d*2^(k+1):=by rw[Vf,Xo]
     have e:∀i,i*2^(k+1+d)=i*2^d*2^(k+1):=λi=>by rw[ep,Y8]
     have e':∀i,i*2^(k+1+d)+2^(k+1+d)=(i*2^d+2^d)*2^(k+1):=λi=>by rw[VO,<- ep,<- e]
     have low:∀u i,i*2^(k+1+d)<u*2^(k+1)+2^(k+1)->i*2^(k+1+d)<=u*2^(k+1):=λu i h=>by
      rw[e] at h ⊢;exact mul_up hp h
     have up:∀u i,u*2^(k+1)<i*2^(k+1+d)+2^(k+1+d)->u*2^(k+1)+2^(k+1)<=i*2^(k+1+d)+2^(k+1+d):=λu i h=>by
      rw[e'] at h ⊢;rw[<- Xp];exact YY _ (VJ h)
     exact⟨low u i m.1,up u i m.2.1,low v j m.2.2.2,up v j m.2.2.1⟩
   obtain⟨d,rfl⟩:∃d,k=s+d:=⟨k-s,by lia⟩;have hp:0<2^s:=Xr (by decide);have es:2^(s+d)=2^d*2^s:=by rw[Vf,Xo]
   have ek:∀u,u*2^(s+d+1)=(2*u)*2^(s+d):=λu=>by rw[YJ,Xo (2^(s+d)) 2,<- Y8,Xo u 2]
   have ek2:∀u,u*2^(s+d+1)+2^(s+d)=(2*u+1)*2^(s+d):=λu=>by rw[ek];exact (Xp _ _).symm
   have half:∀u i,i*2^s+2^s<=(2*u+1)*2^(s+d)\/(2*u+1)*2^(s+d)<=i*2^s:=λu i=>by
    rw[es,<- Y8,<- Xp];rcases Nat.lt_or_ge i ((2*u+1)*2^d) with z|z
    ·exact .inl (YY _ z)
    ·exact .inr (YY _ z)
   have q0:∀x y,¬(x<i*2^s+2^s)\/¬(i*2^s<x+2^(s+d))\/¬(y<j*2^s+2^s)\/¬(j*2^s<y+2^(s+d))->cnt [i*2^s,j*2^s,2^s,2^s] (s+d) x y=0:=λx y hn=>by
    cases hsd:s+d with
    |zero=>rfl
    |succ k'=>
     rw[hsd] at hn;show (if qi8 x y (2^(k'+1)) [i*2^s,j*2^s,2^s,2^s]=true/\_ then _ else _)=0;rw[Zl];rintro⟨h1,_⟩;have m:i*2^s<x+2^(k'+1)/\x<i*2^s+2^s/\y<j*2^s+2^s/\j*2^s<y+2^(k'+1):=ZH h1;rcases hn with z|z|z|z
     ·exact z m.2.1
     ·exact z m.1
     ·exact z m.2.2.1
     ·exact z m.2.2.2
   have c1:=qi1 s i j (s+d) (2*u) (2*v);have c2:=qi1 s i j (s+d) (2*u) (2*v+1);have c3:=qi1 s i j (s+d) (2*u+1) (2*v);have c4:=qi1 s i j (s+d) (2*u+1) (2*v+1);rw[ek2,ek2,ek,ek];have st:∀u:Nat,(2*u)*2^(s+d)+2^(s+d)=(2*u+1)*2^(s+d):=λu=>(Xp _ _).symm;rcases half u i with hu|hu
   ·have z3:=q0 ((2*u+1)*2^(s+d)) ((2*v)*2^(s+d)) (.inl (by lia));have z4:=q0 ((2*u+1)*2^(s+d)) ((2*v+1)*2^(s+d)) (.inl (by lia));rcases half v j with hv|hv
    ·have z2:=q0 ((2*u)*2^(s+d)) ((2*v+1)*2^(s+d)) (.inr (.inr (.inl (by lia))));lia
    ·have z1:=q0 ((2*u)*2^(s+d)) ((2*v)*2^(s+d)) (.inr (.inr (.inr (by rw[st];lia))));lia
   ·have z1:=q0 ((2*u)*2^(s+d)) ((2*v)*2^(s+d)) (.inr (.inl (by rw[st];lia)));have z2:=q0 ((2*u)*2^(s+d)) ((2*v+1)*2^(s+d)) (.inr (.inl (by rw[st];lia)));rcases half v j with hv|hv
    ·have z4:=q0 ((2*u+1)*2^(s+d)) ((2*v+1)*2^(s+d)) (.inr (.inr (.inl (by lia))));lia
    ·have z3:=q0 ((2*u+1)*2^(s+d)) ((2*v)*2^(s+d)) (.inr (.inr (.inr (by rw[st];lia))));lia
  ·exact Zx _
theorem qH6 {n:Nat}{bs:List Row}(hn:n<=12) (h:xe5 n bs):nds (bt n bs 0 0)<=485:=by
 rcases h.2 with ⟨h4,_⟩|⟨h5,hs⟩
 ·refine ZG (qT2 n bs 0 0) ?_
  match n,h4 with
  |0,_|1,_|2,_|3,_=>decide
 ·refine ZG (qH3 n bs 0 0) ?_;have each:∀b∈bs,cnt b n 0 0<=97:=λb hb=>by
   obtain⟨r,c,hh,w,rfl,h1,w1,_⟩:=h.1 b hb;obtain⟨r',c',hh',w',e,sm⟩:=hs _ hb;simp only[Y1,Ud] at e;obtain⟨rfl,rfl,rfl,rfl⟩:=e;rcases sm with ⟨h9,w9⟩|⟨s,i,j,rfl,rfl,rfl,rfl⟩
   ·refine ZG (qv8 r c hh w n 0 0) (ZG (qP9 h1 h9 w1 w9 n (Ze _)) (ZG (qH5 hn) (by decide)))
   ·have:=qi1 s i j n 0 0;rw[Nat.zero_mul] at this;lia
  unfold cnts;have gen:∀l:List Row,(∀b∈l,cnt b n 0 0<=97)->(l.map λb=>cnt b n 0 0).sum<=l.length*97:=λl hl=>by
   induction l with
   |nil=>exact Zx _
   |cons b l ih=>
    have h1:=hl b ZB;have h2:=ih λx hx=>hl x (Zk _ hx);rw[ZE,Wv,ZV,Xp];lia
  have:=gen bs each;lia
theorem kp0 {t0 t1 t2 t3:Tr}{L L4:List Tr}(e4:L4=post t3 (post t2 (post t1 (post t0 L)))) (z:[0,0,0,0]=[name L4 t0,name L4 t1,name L4 t2,name L4 t3].map λx:Nat=>(x:Int)):L4=L/\mk t0 t1 t2 t3=.z/\name L4 t0=0:=by
 simp only[ZE,V6,Y1,Ud] at z;have g0:=qe8 (L:=L4) (t:=t0) (by lia);have g1:=qe8 (L:=L4) (t:=t1) (by lia);have g2:=qe8 (L:=L4) (t:=t2) (by lia);have g3:=qe8 (L:=L4) (t:=t3) (by lia);subst g0 g1 g2 g3;exact⟨e4,rfl,rfl⟩
theorem kp1 {t0 t1 t2 t3:Tr}{L L4:List Tr}(e4:L4=post t3 (post t2 (post t1 (post t0 L)))) (z:[1,1,1,1]=[name L4 t0,name L4 t1,name L4 t2,name L4 t3].map λx:Nat=>(x:Int)):L4=L/\mk t0 t1 t2 t3=.o/\name L4 t0=1:=by
 simp only[ZE,V6,Y1,Ud] at z;have g0:=qh1 (L:=L4) (t:=t0) (by lia);have g1:=qh1 (L:=L4) (t:=t1) (by lia);have g2:=qh1 (L:=L4) (t:=t2) (by lia);have g3:=qh1 (L:=L4) (t:=t3) (by lia);subst g0 g1 g2 g3;exact⟨e4,rfl,rfl⟩
theorem kpn {t0 t1 t2 t3:Tr}{L4:List Tr}(hc:¬(decide ([0,0,0,0]=[name L4 t0,name L4 t1,name L4 t2,name L4 t3].map λx:Nat=>(x:Int))||decide ([1,1,1,1]=[name L4 t0,name L4 t1,name L4 t2,name L4 t3].map λx:Nat=>(x:Int)))=true):mk t0 t1 t2 t3=.nd t0 t1 t2 t3:=by
 unfold mk;rw[Zl,Zl]
 ·rintro⟨rfl,rfl,rfl,rfl⟩;exact hc (by rw[Vj];exact .inr (Zv rfl))
 ·rintro⟨rfl,rfl,rfl,rfl⟩;exact hc (by rw[Vj];exact .inl (Zv rfl))
theorem kpi {t0 t1 t2 t3:Tr}{L L4:List Tr}(hO:Ord L) (e4:L4=post t3 (post t2 (post t1 (post t0 L)))) (yM:Tr.nd t0 t1 t2 t3∈L4):Tr.nd t0 t1 t2 t3∈L/\L4=L:=by
 have y6:Tr.nd t0 t1 t2 t3∈L:=by
  by_cases zz:Tr.nd t0 t1 t2 t3∈L
  ·exact zz
  ·exact absurd (e4▸yM) (Tr.not_below zz)
 obtain⟨i,hi,ei⟩:=ZD.mp y6;have kin:=λs hs=>(Tr.kid_in hO (i:=i) (t:=.nd t0 t1 t2 t3) (by rw[Zd hi,ei]) (s:=s) hs).1;exact⟨y6,by rw[e4,qv1 (kin t0 (by simp[Tr.kids])),qv1 (kin t1 (by simp[Tr.kids])),qv1 (kin t2 (by simp[Tr.kids])),qv1 (kin t3 (by simp[Tr.kids]))]⟩
theorem kpx {t0 t1 t2 t3:Tr}{L L4:List Tr}(e4:L4=post t3 (post t2 (post t1 (post t0 L)))) (yM:Tr.nd t0 t1 t2 t3∉L4):post (.nd t0 t1 t2 t3) L=L4++[.nd t0 t1 t2 t3]:=by
 have y6:Tr.nd t0 t1 t2 t3∉L:=λz=>yM (by
  rw[e4];obtain⟨s1,h1⟩:=Tr.post_ext t0 L;obtain⟨s2,h2⟩:=Tr.post_ext t1 (Tr.post t0 L);obtain⟨s3,h3⟩:=Tr.post_ext t2 (Tr.post t1 (Tr.post t0 L));obtain⟨s4,h4⟩:=Tr.post_ext t3 (Tr.post t2 (Tr.post t1 (Tr.post t0 L)));rw[h4,h3,h2,h1];simp[z])
 rw[e4];show (if Tr.nd t0 t1 t2 t3∈L then L else _)=_;rw[Zl y6]
end Qf
namespace Pr
open PySem L2 Qf
theorem xy0 {t0 t1 t2 t3:Tr}{L4:List Tr}(O4:Tr.Ord L4) (hk:∀s∈Tr.kids (.nd t0 t1 t2 t3),Tr.In L4 s) (hm:¬[Tr.name L4 t0,Tr.name L4 t1,Tr.name L4 t2,Tr.name L4 t3]∈Tr.rowsOf L4) :
  putK (tK (Tr.rowsOf L4)) (keyN [Tr.name L4 t0,Tr.name L4 t1,Tr.name L4 t2,Tr.name L4 t3]) (.int (((tK (Tr.rowsOf L4)).length:Int)+2))=tK (Tr.rowsOf (L4++[.nd t0 t1 t2 t3])):=by
 have er:=qx9 O4 hk;rw[show (Tr.kids (.nd t0 t1 t2 t3)).map (Tr.name L4)=[Tr.name L4 t0,Tr.name L4 t1,Tr.name L4 t2,Tr.name L4 t3] from rfl] at er;have jB:(tK (Tr.rowsOf L4)).length=L4.length:=by unfold tK;rw[qs1,Tr.rowsOf_len]
 have h1:=xb4 (key:=keyN) (k:=2) (λa b=>qz7) hm;rw[er,jB];unfold tK;rw[<- h1,Tr.rowsOf_len];congr 2;lia
end Pr
namespace Qf
open Tr
theorem qQ0 {m:Row->Bool}:∀(bs:List Nat) (rs:List Row),bs.length=rs.length ->
  ((List.range bs.length).filter (λi=>m (rs.getD i []))).map (λi=>bs.getD i 0)=((bs.zip rs).filter (λq=>m q.2)).map Prod.fst
 |[],[],_=>rfl
 |b::bs,r::rs,h=>by
  have ih:=qQ0 (m:=m) bs rs (by simpa using h);rw[ZV,WV,YV,WL,YV,List.filter_map];have e1:((λi=>m ((r::rs).getD i []))∘Nat.succ)=λi=>m (rs.getD i []):=by funext i;rfl
  have e2:((λi=>(b::bs).getD i 0)∘Nat.succ)=λi=>bs.getD i 0:=by funext i;rfl
  rw[e1];show List.map _ (if m r=true then _ else _)=List.map _ (if m r=true then _ else _);split
  ·rw[ZE,Z3,e2,ih,ZE];rfl
  ·rw[Z3,e2,ih]
theorem qB1 {m:Row->Bool}:∀(bs:List Nat) (rs:List Row),bs.length=rs.length->((bs.zip rs).filter (λq=>m q.2)).map Prod.snd=rs.filter m
 |[],[],_=>rfl
 |b::bs,r::rs,h=>by
  have ih:=qB1 (m:=m) bs rs (by simpa using h);rw[WL,YV,YV];show List.map _ (if m r=true then _ else _)=_;split
  ·rw[ZE,ih]
  ·exact ih
end Qf
namespace Pr
open PySem L2 Qf
theorem RowsL.filter {H H':Hp}{p D:Addr}{rs:List Row}{bs:List Addr}(m:Row->Bool) (hl:bs.length=rs.length) (hr:∀(i:Nat) b r,bs[i]?=some b->rs[i]?=some r->H b=some (.tup (vN r))) (s:Same H H')
  (hD:H' D=some (.lst (((List.range bs.length).filter (λi=>m (rs.getD i []))).map (λi=>V.ref (bs.getD i 0))))):RowsL H' D (rs.filter m):=by
 have e:((List.range bs.length).filter (λi=>m (rs.getD i []))).map (λi=>V.ref (bs.getD i 0))=(((bs.zip rs).filter (λq=>m q.2)).map Prod.fst).map V.ref:=by
  rw[<- qQ0 bs rs hl,Z3];rfl
 rw[e] at hD;refine⟨_,hD,by rw[<- qB1 bs rs hl,Zf,Zf],λi b r e1 e2=>?_⟩;rw[<- qB1 bs rs hl] at e2;rw[Zg] at e1 e2;obtain⟨q,hq,rfl⟩:=Zj.mp e1;rw[hq] at e2;have e3:q.2=r:=by simpa using e2
 have hm:=(YE.mp (Zz hq)).1;obtain⟨j,hj,ej⟩:=ZD.mp hm;rw[List.length_zip] at hj;have ez:(bs.zip rs)[j]?=some q:=by rw[Zd (by rw[List.length_zip];exact hj),ej]
 rw[List.getElem?_zip_eq_some] at ez;rw[<- e3];exact s _ _ (hr j q.1 q.2 ez.1 ez.2)
section
variable {P:Program}{w:World}{K:PySem.W.Frag}{mg:Str->Option Value}{base:Heap}
abbrev qo7:List Str:=["_law_box_here", "_law_row", "_law_column", "_law_side"]
theorem xp7:FnScope qo7 qo7 (qa3 qx4):=qc5
theorem xD5:FnScope qo7 qo7 (qa3 lHas):=qc5
def qB2 (m:Nat->Nat->Nat->Row->Bool):Sp:=λvs H Q _=>∃(b:Addr) (bx:Row) (r c s:Nat),vs=[.ref b,.int (r:Nat),.int (c:Nat),.int (s:Nat)]/\H b=some (.tup (vN bx))/\bx.length=4/\Q (.bl (m r c s bx)) H
theorem xe8 {f:Addr}{fd:FuncData}(F:Fun K "_law_meets" "_law_meets" qx4 f fd):FnOk P w K mg base CX0 1 f fd qo7 (qB2 qi8):=by
 refine F.ok xp7 (λvs H Q E h=>?_) (λcdv A outer s H vs Q E hr h=>?_)
 ·obtain⟨b,bx,r,c,s,rfl,_⟩:=h
  rfl
 ·obtain⟨b,bx,r,c,s,rfl,hb,h4,q⟩:=h;obtain⟨x,y,h',w',rfl⟩:=qp3 h4;refine seqE ⟨_,⟨qd8 (qs9 (qb7 qq9 (qa7 qd2 (pv 1) (pv 3)) (pxN qc8 (pv 0) qa2) (qb4 _))
   (ql2 (qb7 qq9 (qa7 qd2 (pxN qc8 (pv 0) qa2) (pxN qc8 (pv 0) qa2)) (pv 1) (qb4 _)))).pt (qa8 (qa9 qs7)) qb8⟩,?_⟩
  refine qg5 ⟨_,⟨qa9 (qi6 (qe0 qj3 (pv 2) (qa7 qd2 (pxN qc8 (pv 0) qa2) (pxN qc8 (pv 0) qa2)) (qb4 _)) (qm5 (qe0 qj3 (pxN qc8 (pv 0) qa2) (qa7 qd2 (pv 2) (pv 3)) (qb4 _))))⟩,?_⟩;have em:qi8 r c s [x,y,h',w']=decide (x<r+s/\r<x+h'/\c<y+w'/\y<c+s):=rfl;rw[em] at q;refine⟨_,rfl,_,rfl,_,_,rfl,rfl,_,rfl,b,_,0,.int (x:Nat),rfl,rfl,SqT.of hb,rfl,_,_,rfl,rfl,_,rfl,?_⟩;refine ite2 (λhc=>?_) (λhc=>?_)
  ·have:=ZH hc;rw[Zu (by lia)] at q;exact iteT q
  ·have h1:=YB (Z0.mpr hc);refine⟨_,rfl,b,_,0,.int (x:Nat),rfl,rfl,SqT.of hb,rfl,_,rfl,b,_,2,.int (h':Nat),rfl,rfl,SqT.of hb,rfl,_,_,rfl,rfl,_,rfl,_,_,rfl,rfl,_,rfl,?_⟩;refine ite2 (λhc=>?_) (λhc=>?_)
   ·have:=ZH hc;rw[Zu (by lia)] at q;exact q
   ·have h2:=YB (Z0.mpr hc);refine⟨_,rfl,_,rfl,b,_,1,.int (y:Nat),rfl,rfl,SqT.of hb,rfl,_,rfl,b,_,3,.int (w':Nat),rfl,rfl,SqT.of hb,rfl,_,_,rfl,rfl,_,_,rfl,rfl,_,rfl,?_⟩;refine ite2 (λhc=>?_) (λhc=>?_)
    ·have h3:=ZH hc;refine⟨_,rfl,b,_,1,.int (y:Nat),rfl,rfl,SqT.of hb,rfl,_,rfl,_,rfl,_,_,rfl,rfl,_,_,rfl,rfl,?_⟩;have e:decide ((y:Int)<(c:Int)+(s:Int))=decide (x<r+s/\r<x+h'/\c<y+w'/\y<c+s):=by
      congr 1;exact propext ⟨λz=>⟨by lia,by lia,by lia,by lia⟩,λz=>by lia⟩
     show Q (.bl (decide ((y:Int)<(c:Int)+(s:Int)))) H;rw[e];exact q
    ·have h3:=YB (Z0.mpr hc);rw[Zu (by lia)] at q;exact q
theorem xy1 {f:Addr}{fd:FuncData}(F:Fun K "_law_has" "_law_has" lHas f fd):FnOk P w K mg base CX0 1 f fd qo7 (qB2 hasB):=by
 refine F.ok xD5 (λvs H Q E h=>?_) (λcdv A outer s H vs Q E hr h=>?_)
 ·obtain⟨b,bx,r,c,s,rfl,_⟩:=h
  rfl
 ·obtain⟨b,bx,r,c,s,rfl,hb,h4,q⟩:=h;obtain⟨x,y,h',w',rfl⟩:=qp3 h4;refine seqE ⟨_,⟨qd8 (qs9 (qb7 qj3 (pv 1) (pxN qc8 (pv 0) qa2) (qb4 _))
   (ql2 (qb7 qj3 (qa7 qd2 (pxN qc8 (pv 0) qa2) (pxN qc8 (pv 0) qa2)) (qa7 qd2 (pv 1) (pv 3)) (qb4 _)))).pt (qa8 (qa9 qs7)) qb8⟩,?_⟩
  refine qg5 ⟨_,⟨qa9 (qi6 (qe0 qq9 (pxN qc8 (pv 0) qa2) (pv 2) (qb4 _)) (qm5 (qe0 qq9 (qa7 qd2 (pv 2) (pv 3)) (qa7 qd2 (pxN qc8 (pv 0) qa2) (pxN qc8 (pv 0) qa2)) (qb4 _))))⟩,?_⟩;have em:hasB r c s [x,y,h',w']=decide (x<=r/\r+s<=x+h'/\y<=c/\c+s<=y+w'):=rfl;rw[em] at q;refine⟨_,rfl,_,rfl,b,_,0,.int (x:Nat),rfl,rfl,SqT.of hb,rfl,_,_,rfl,rfl,_,rfl,?_⟩;refine ite2 (λhc=>?_) (λhc=>?_)
  ·have:=ZH hc;rw[Zu (by lia)] at q;exact iteT q
  ·have h1:=YB (Z0.mpr hc);refine⟨_,rfl,b,_,0,.int (x:Nat),rfl,rfl,SqT.of hb,rfl,_,rfl,b,_,2,.int (h':Nat),rfl,rfl,SqT.of hb,rfl,_,_,rfl,rfl,_,rfl,_,rfl,_,_,rfl,rfl,_,_,rfl,rfl,_,rfl,?_⟩;refine ite2 (λhc=>?_) (λhc=>?_)
   ·have:=ZH hc;rw[Zu (by lia)] at q;exact q
   ·have h2:=YB (Z0.mpr hc);refine⟨_,rfl,b,_,1,.int (y:Nat),rfl,rfl,SqT.of hb,rfl,_,rfl,_,_,rfl,rfl,_,rfl,?_⟩;refine ite2 (λhc=>?_) (λhc=>?_)
    ·have h3:=ZH hc;refine⟨_,rfl,_,rfl,_,_,rfl,rfl,_,rfl,b,_,1,.int (y:Nat),rfl,rfl,SqT.of hb,rfl,_,rfl,b,_,3,.int (w':Nat),rfl,rfl,SqT.of hb,rfl,_,_,rfl,rfl,_,_,rfl,rfl,?_⟩;have e:decide ((c:Int)+(s:Int)<=(y:Int)+(w':Int))=decide (x<=r/\r+s<=x+h'/\y<=c/\c+s<=y+w'):=by
      congr 1;exact propext ⟨λz=>⟨by lia,by lia,by lia,by lia⟩,λz=>by lia⟩
     show Q (.bl (decide ((c:Int)+(s:Int)<=(y:Int)+(w':Int)))) H;rw[e];exact q
    ·have h3:=YB (Z0.mpr hc);rw[Zu (by lia)] at q;exact q
end
end Pr
namespace Qf
open Tr
def qt (k:Nat) (m:List Row) (r c i:Nat):Tr:=bt k m (r+2^k*(i/2)) (c+2^k*(i%2))
def qL (k:Nat) (m:List Row) (r c:Nat) (L:List Tr):Nat->List Tr
 |0=>L
 |i+1=>post (qt k m r c i) (qL k m r c L i)
theorem qH7 {k:Nat}{m:List Row}{r c:Nat}{L:List Tr}(h:Ord L):∀i,Ord (qL k m r c L i)
 |0=>h
 |i+1=>(post_ord _ _ (qH7 h i)).1
theorem qT3 {k:Nat}{m:List Row}{r c:Nat}{L:List Tr}(h:Ord L){j:Nat}:∀i,j<i->In (qL k m r c L i) (qt k m r c j)
 |i+1,hj=>by
  by_cases e:j=i
  ·rw[e];exact (post_ord _ _ (qH7 h i)).2
  ·exact (qT3 h i (by lia)).post _
theorem xp8 {k:Nat}{m:List Row}{r c:Nat}{L:List Tr}(h:Ord L){i:Nat}{t:Tr}(ht:In (qL k m r c L i) t):name (qL k m r c L (i+1)) t=name (qL k m r c L i) t:=by
 obtain⟨s,e⟩:=post_ext (qt k m r c i) (qL k m r c L i);show name (post _ _) t=_;rw[e];exact name_app ht (qH7 h i)
theorem q76 {k:Nat}{m:List Row}{r c:Nat}{L:List Tr}:∀i,(qL k m r c L i).length<=L.length+i*sz k
 |0=>by show L.length<=_;lia
 |i+1=>by
  have h1:=q76 (k:=k) (m:=m) (r:=r) (c:=c) (L:=L) i;have h2:=qq0 (qt k m r c i) (qL k m r c L i);have h3:=qT2 k m (r+2^k*(i/2)) (c+2^k*(i%2));show (post _ _).length<=_;rw[Xp];unfold qt at h2;unfold qt;lia
def names (k:Nat) (m:List Row) (r c:Nat) (L:List Tr) (i:Nat):List Nat:=(List.range i).map λj=>name (qL k m r c L i) (qt k m r c j)
theorem qT4 {k:Nat}{m:List Row}{r c:Nat}{L:List Tr}(h:Ord L) (i:Nat):names k m r c L (i+1)=names k m r c L i++[name (post (qt k m r c i) (qL k m r c L i)) (qt k m r c i)]:=by
 unfold names;rw[Xl,Z9];congr 1;exact Yz λj hj=>xp8 h (qT3 h i (Yb.mp hj))
theorem xD6 (k:Nat) (boxes:List Row) (r c:Nat) (h1:met boxes r c (2^(k+1))≠[]) (h2:(met boxes r c (2^(k+1))).any (hasB r c (2^(k+1)))=false) :
  bt (k+1) boxes r c=mk (qt k (met boxes r c (2^(k+1))) r c 0) (qt k (met boxes r c (2^(k+1))) r c 1) (qt k (met boxes r c (2^(k+1))) r c 2) (qt k (met boxes r c (2^(k+1))) r c 3):=by
 unfold bt;rw[Zl h1,Zl (by rw[h2];decide)];unfold qt;simp
theorem xp9 {boxes:List Row}{r c s:Nat}:(met boxes r c s).length<=boxes.length:=Xx _ _
theorem xq0 {boxes:List Row}{r c:Nat}(h:met boxes r c 1≠[]):(met boxes r c 1).any (hasB r c 1)=true:=by
 obtain⟨b,hb⟩:=List.exists_mem_of_ne_nil _ h;refine Wq.mpr ⟨b,hb,?_⟩;have m:b.getD 0 0<r+1/\r<b.getD 0 0+b.getD 2 0/\c<b.getD 1 0+b.getD 3 0/\b.getD 1 0<c+1:=ZH (YE.mp hb).2;exact Zv ⟨by lia,by lia,by lia,by lia⟩
theorem xy2:∀{k n:Nat},k<=n->sz k<=sz n
 |k,0,h=>by rw[show k=0 by lia];exact Ze _
 |k,n+1,h=>by
  by_cases e:k=n+1
  ·rw[e];exact Ze _
  ·have:=xy2 (show k<=n by lia);show _<=4*sz n+1;lia
end Qf
namespace L2
open PySem
theorem q77 {H:Hp}{n:Nat}{te:TE}{σ:St}{Fin:Hp->Prop}{D:Addr}(Iv:Nat->List V->Hp->Prop) (hsz:n<sizeLine) (i0:Iv 0 [] (upd H D (.lst []))) (hD:∀i xs H2,Iv i xs H2->H2 D=some (.lst xs)/\xs.length<=i)
  (step:∀i xs H2,i<n->Iv i xs H2->∀Q2:VK,(∀v H3,H3 D=some (.lst xs)->Iv (i+1) (xs++[v]) (upd H3 D (.lst (xs++[v])))->Q2 v H3)->te (some (.int (0+(i:Int)))::σ) H2 Q2)
  (fin:∀xs H2,Iv n xs H2->Fin H2) :
  ∃W:Nat->Nat->List V->Hp->Prop,(∃m,W 0 m [] (upd H D (.lst []))) /\
   ∀i m xs H2,W i m xs H2->H2 D=some (.lst xs)/\xs.length<sizeLine/\(((Itr 0 n).stop i H2/\Fin H2)\/((Itr 0 n).go i H2/\∀y H3,(Itr 0 n).yld i H2 y H3->∀os:St,os.length=1 ->
    qd1 0 y (os++σ) H3 λσ4 H4=>qJ1 σ4 H4 λb H5=>if b=true then te σ4 H5 λv H6=>H6 D=some (.lst xs)/\∃m',m'<m/\W (i+1) m' (xs++[v]) (upd H6 D (.lst (xs++[v]))) else ∃m',m'<m/\W (i+1) m' xs H5)):=by
 obtain⟨W,w0,w⟩:=qP5 (te:=te) (σ:=σ) Iv hsz i0 hD step fin;refine⟨W,w0,λi m xs H2 h=>?_⟩;obtain⟨h1,h2,h3⟩:=w i m xs H2 h;refine⟨h1,h2,h3.imp id λ⟨g,y⟩=>⟨g,λx H3 hx os ho=>?_⟩⟩;obtain⟨o,rfl⟩:=L2.os1 ho
 ·
  show (if (true:Bool)=true then te (some x::σ) H3 (λv H6=>H6 D=some (.lst xs)/\∃m',m'<m/\W (i+1) m' (xs++[v]) (upd H6 D (.lst (xs++[v])))) else ∃m',m'<m/\W (i+1) m' xs H3);rw[Zt rfl];exact y x H3 hx
end L2
namespace Qf
theorem xq1:∀{k:Nat}{boxes:List Row}{r c:Nat},met boxes r c (2^k)=[]->bt k boxes r c=.z
 |0,_,_,_,h=>Zt h
 |_+1,_,_,_,h=>Zt h
theorem xq2:∀{k:Nat}{boxes:List Row}{r c:Nat},met boxes r c (2^k)≠[]->(met boxes r c (2^k)).any (hasB r c (2^k))=true->bt k boxes r c=.o
 |0,_,_,_,h,g=>(Zl h).trans (Zt g)
 |_+1,_,_,_,h,g=>(Zl h).trans (Zt g)
end Qf
namespace Pr
open PySem L2 Qf
section
variable {P:Program}{w:World}{K:PySem.W.Frag}{mg:Str->Option Value}{base:Heap}
abbrev qH8:List Str:=["_law_rows", "_law_boxes_here", "_law_row", "_law_column", "_law_side"]
abbrev nNum:List Str:=["_law_rows", "_law_boxes_here", "_law_row", "_law_column", "_law_side", "_law_met", "_law_half", "_law_quarters"]
theorem scNum:FnScope nNum qH8 (qa3 qj8):=qc5
def xe9 (k:Nat):Sp:=λvs H Q _=>∃(e bp:Addr) (boxes:List Row) (r c:Nat) (L:List Tr),vs=[.ref e,.ref bp,.int (r:Nat),.int (c:Nat),.int ((2^k:Nat):Int)]/\RowsL H bp boxes/\(∀b∈boxes,b.length=4)/\boxes.length<=900/\bp≠e/\Tr.Ord L /\
 H e=some (.dT (tK (Tr.rowsOf L)))/\L.length+sz k<=6000000/\∀H',But e H H'->H' e=some (.dT (tK (Tr.rowsOf (Tr.post (bt k boxes r c) L))))->Q (.int (Tr.name (Tr.post (bt k boxes r c) L) (bt k boxes r c):Nat)) H'
theorem q78 {f fM fH:Addr}{fd fdM fdH:FuncData}(F:Fun K "_law_number" "_law_number" qj8 f fd) (B:Blt mg) (hN:mg "_law_number" = some (.ref f)) (bN:Binds K fd qH8 [])
  (hM:mg "_law_meets" = some (.ref fM)) (FM:Fun K "_law_meets" "_law_meets" qx4 fM fdM) (bM:Binds K fdM qo7 [])
  (hH:mg "_law_has" = some (.ref fH)) (FH:Fun K "_law_has" "_law_has" lHas fH fdH) (bH:Binds K fdH qo7 []){m:Nat}(hk:m<=12){sp':Sp}(GI:FnOk P w K mg base CX0 (m+1) f fd qH8 sp') (vE:∀j,m=j+1->sp'=xe9 j):FnOk P w K mg base CX0 (m+2) f fd qH8 (xe9 m):=by
 have GM:FnOk P w K mg base CX0 1 fM fdM qo7 (qB2 qi8):=xe8 FM;have GH:FnOk P w K mg base CX0 1 fH fdH qo7 (qB2 hasB):=xy1 FH;refine F.ok scNum (λvs H Q E h=>?_) (λcdv A outer s H vs Q E hr h=>?_)
 ·obtain⟨e,bp,boxes,r,c,L,rfl,_⟩:=h
  rfl
 ·obtain⟨e,bp,boxes,r,c,L,rfl,hB,h4,vC,w4,hO,he,hLs,q⟩:=h;have jG:Room 1 _:=hr.mono (by lia);have hu:A.units+3+1<cLine:=by
   have h2:A.units+3+16*(m+1)+200<cLine:=hr.un;lia
  refine seqE ⟨_,⟨psN 5 scNum.nd (qD7 nNum (qa3 qj8) rfl rfl rfl scNum.nd (qj1 (pv 1))
   (λcl C fp s₀ H₀=>qf6 (pcN GM jG hM FM.kp bM (qa0 (pv 0) (qa0 (pv 3) (qa0 (pv 4) (qa0 (pv 5) qa1)))))) (λcl C fp s₀ H₀=>pv 0))⟩,?_⟩
  refine seqE ⟨_,⟨qd8 (PW.pt (qs9 (qb7 (qY4 hr) (pv 5) (qg8 qa1) (qb4 _)) (ql2 (qf6 (qa6 (qD9 rfl) (by rfl) B.any PyProof.Rows.boot_any (qa0 (qf1 nNum (qa3 qj8) rfl rfl rfl scNum.nd (qj1 (pv 5))
   (λcl C fp s₀ H₀=>pcN GH jG hH FH.kp bH (qa0 (pv 0) (qa0 (pv 3) (qa0 (pv 4) (qa0 (pv 5) qa1)))))) qa1))))))
   (qa8 (qa9 (qc4 qU9 (by rfl) B.int X8 (qa0 (qe0 (qM0 hr) (pv 5) (qg8 qa1) (qb4 _)) qa1)))) qb8⟩,?_⟩
  refine seqE ⟨_,⟨psN 6 scNum.nd (qa7 qj2 (pv 4) qa2)⟩,?_⟩;refine seqE ⟨_,⟨q02 (i0:=7) nNum (qa3 qj8) rfl rfl rfl scNum.nd rfl rfl (qh4 (by rfl) B.range (qa0 qa2 qa1)) (λcl C fp s₀ H₀=>PEb.go ⟨pcN GI hr hN F.kp bN (Ars2.go (.cons ⟨pv 1⟩ (.cons ⟨pv 6⟩
   (.cons ⟨qa7 qd2 (pv 3) (qa7 qi7 (pv 7) (qa7 qj2 (pv 0) qa2))⟩ (.cons ⟨qa7 qd2 (pv 4) (qa7 qi7 (pv 7) (qa7 qt0 (pv 0) qa2))⟩ (.cons ⟨pv 7⟩ .nil rfl) rfl) rfl) rfl) rfl))⟩)⟩,?_⟩
  refine seqE ⟨_,⟨qd8 (qb7 (xv5 hr) (pv 7) (PEb.go ⟨qe1 (Ars2.go (.cons ⟨qg8 (Ars2.go (.cons qg6 (.cons qg6 (.cons qg6 (.cons qg6 .nil rfl) rfl) rfl) rfl))⟩ (.cons ⟨qg8 (Ars2.go (.cons qg6 (.cons qg6 (.cons qg6 (.cons qg6 .nil rfl) rfl) rfl) rfl))⟩ .nil rfl) rfl))⟩) (by first|rfl|decide|with_unfolding_all rfl))
   (qa8 (qa9 (pxN qf0 (pv 7) qa2))) qb8⟩,?_⟩
  refine seqE ⟨_,⟨qd8 (qT9 (qW7 hu (qc4 (tupO K rfl) (by rfl) B.tuple Yj (qa0 (pv 7) qa1)) (pv 0)))
   (qa8 (qW8 hu (pv 0) (qc4 (tupO K rfl) (by rfl) B.tuple Yj (qa0 (pv 7) qa1)) (qa7 qd2 (qa6 q26 (by rfl) B.len YS (qa0 (pv 0) qa1)) qa2) (by rfl))) qb8⟩,?_⟩
  refine qg5 ⟨_,⟨qa9 (xk2 hu (pv 0) (qc4 (tupO K rfl) (by rfl) B.tuple Yj (qa0 (pv 7) qa1)) (λ_ _=>rfl))⟩,?_⟩;obtain⟨bs,hb,j9,jE⟩:=id hB;have jR:(bs.map V.ref).length=bs.length:=Zf ..;refine⟨_,rfl,bp,rfl,⟨_,SqL.of hb⟩,λD hD=>qf2 hD (λi=>qi8 r c (2^m) (boxes.getD i [])) (λi=>.ref (bs.getD i 0)) (qg9 (K:=K) hb) (by rw[jR];exact qd5 (by lia)) ?_ ?_⟩
  ·intro j x H2 hj hx s2 os ho Q1 Q2 q1 q2;rw[Zg] at hx;obtain⟨b,yL,rfl⟩:=Zj.mp hx;have kZ:j<boxes.length:=by rw[jR] at hj;lia
   have hg:boxes[j]?=some (boxes.getD j []):=by rw[Zw,Zd kZ];rfl
   have eb:bs.getD j 0=b:=by rw[Zw,yL];rfl
   rw[eb] at q2;obtain⟨o1,rfl⟩:=L2.os1 ho
   ·
    refine⟨_,rfl,_,rfl,_,rfl,_,rfl,b,boxes.getD j [],r,c,2^m,rfl,s2 _ _ (jE j b _ yL hg),h4 _ (Zz hg),_,rfl,?_⟩;refine ite2 (λhc=>⟨_,rfl,q2 hc H2 (Same.refl _)⟩) (λhc=>q1 (Z0.mpr hc) H2 (Same.refl _))
  ·intro H2 s2 vR;rw[jR] at vR;have hRm:RowsL H2 D (met boxes r c (2^m)):=RowsL.filter (p:=bp) (qi8 r c (2^m)) j9 jE s2 vR;have vV:(met boxes r c (2^m)).length<=900:=ZG xp9 vC;have hm4:∀b∈met boxes r c (2^m),b.length=4:=λb hb=>h4 b (YE.mp hb).1;have vX:=s2 _ _ he;have nDe:D≠e:=(qa5 he hD).symm;have etree:bt m boxes r c=bt m boxes r c:=rfl;refine⟨_,rfl,(by show 0<=sizeLine;decide),λl hl=>?_⟩;refine⟨_,_,qk7 (hRm.same (qb2 hl)),.lst qa4 .nil,qo2 _,rfl,qi5 _,_,rfl,?_⟩;rw[qJ5];have S3:Same H (upd H2 l (.lst [])):=s2.trans (qb2 hl);have wA:=hRm.same (qb2 (o:=.lst []) hl);have he3:=qc9 (u:=.lst []) vX hl;generalize upd H2 l (.lst [])=H3 at S3 wA he3;cases hmt:met boxes r c (2^m) with
   |nil=>
    have hT:bt m boxes r c=.z:=xq1 hmt;rw[hT] at q;rw[hmt] at wA;refine iteT (iteT ?_);refine⟨_,rfl,(by show 0<=sizeLine;decide),λl2 jI=>?_⟩;refine⟨_,_,qk7 (wA.same (qb2 jI)),.lst qa4 .nil,qo2 _,rfl,qi5 _,.inr ⟨_,rfl,?_⟩⟩;exact q _ (But.of (S3.trans (qb2 jI))) (qc9 he3 jI)
   |cons b0 ml=>
    have jK:met boxes r c (2^m)≠[]:=by rw[hmt];exact λz=>nomatch z
    rw[<- hmt];clear hmt;have hie:(met boxes r c (2^m)).isEmpty=false:=by
     cases hq:met boxes r c (2^m) with
     |nil=>exact absurd hq jK
     |cons _ _=>rfl
    rw[hie];refine iteF ?_;obtain⟨ms,hms,hmsl,hmrow⟩:=id wA;have hml2:(ms.map V.ref).length=(met boxes r c (2^m)).length:=by rw[Zf,hmsl]
    refine⟨_,rfl,D,rfl,⟨_,SqL.of hms⟩,λD2 hDD=>qg4 hDD (λi y _=>y=.bl (hasB r c (2^m) ((met boxes r c (2^m)).getD i []))) (qg9 (K:=K) hms) (by rw[hml2];exact qd5 (by lia)) (λ_ _ _ _ _ _ h=>h) ?_ ?_⟩
    ·intro j x H4 hj hx s4 Q' hq;rw[Zg] at hx;obtain⟨b,yL,rfl⟩:=Zj.mp hx;have kZ:j<(met boxes r c (2^m)).length:=by rw[hml2] at hj;exact hj
     have hg:(met boxes r c (2^m))[j]?=some ((met boxes r c (2^m)).getD j []):=by rw[Zw,Zd kZ];rfl
     exact⟨_,rfl,_,rfl,_,rfl,_,rfl,b,_,r,c,2^m,rfl,s4 _ _ (hmrow j b _ yL hg),hm4 _ (Zz hg),hq _ _ (Same.refl _) rfl⟩
    ·intro ys H4 s4 jV kE kN;have ey:ys=((met boxes r c (2^m)).map (hasB r c (2^m))).map V.bl:=by
      refine qi4 (by rw[kE,hml2,Zf,Zf]) λj x hx=>?_;have kZ:j<(met boxes r c (2^m)).length:=by
       have:=(gS_ hx).1;rw[kE,hml2] at this;exact this
      rw[kN j x hx,Zg,Zg,Zd kZ,Zw,Zd kZ]
      rfl
     subst ey;refine⟨D2,_,rfl,jV,_,rfl,?_⟩;have eany:((met boxes r c (2^m)).map (hasB r c (2^m))).any id=(met boxes r c (2^m)).any (hasB r c (2^m)):=by rw[List.any_map];rfl
     rw[eany];have S4:=S3.trans s4;have hR4:=wA.same s4;have he4:=s4 _ _ he3;cases hh:(met boxes r c (2^m)).any (hasB r c (2^m)) with
     |true=>
      have hT:bt m boxes r c=.o:=xq2 jK hh;rw[hT] at q;refine iteT ?_;refine⟨_,rfl,(by show 0<=sizeLine;decide),λl2 jI=>?_⟩;refine⟨_,_,qk7 (hR4.same (qb2 jI)),.lst qa4 .nil,qo2 _,rfl,qi5 _,.inr ⟨_,rfl,?_⟩⟩;rw[qJ5,hie];exact q _ (But.of (S4.trans (qb2 jI))) (qc9 he4 jI)
     |false=>
      obtain⟨k,rfl⟩:∃k,m=k+1:=by
       rcases m with _|k
       ·simp only[Nat.pow_zero] at jK hh;rw[xq0 jK] at hh;cases hh
       ·exact⟨k,rfl⟩
      cases vE k rfl;refine iteF ?_;have hT:=xD6 k boxes r c jK hh;obtain⟨p1,p2⟩:=ql1 (show k<=12 by lia);obtain⟨p3,p4⟩:=ql1 hk;have ehalf:(((2^(k+1):Nat):Int))/2=((2^k:Nat):Int):=by
       rw[YJ];lia
      clear hie hms hmsl hmrow hml2 jV kE kN eany hRm wA vR S3 s4 jR;generalize met boxes r c (2^(k+1))=m at hT hR4 vV hm4 jK hh;refine⟨_,rfl,_,_,rfl,rfl,⟨by decide,by decide⟩,?_⟩;refine⟨_,rfl,by decide,by decide,λD4 vD=>?_⟩;have nD4e:D4≠e:=(qa5 he4 vD).symm;refine q77 (λi xs H5=>But e H4 H5/\H5 D4=some (.lst xs)/\xs=vN (names k m r c L i)/\H5 e=some (.dT (tK (Tr.rowsOf (qL k m r c L i))))) (by decide) ⟨But.of (qb2 vD),qa4,rfl,qc9 he4 vD⟩ (λi xs H5 h=>⟨h.2.1,by rw[h.2.2.1,qh6];simp[names]⟩) ?_ ?_
      ·rintro i xs H5 hi ⟨b5,wY,rfl,he5⟩ Q2 q2;have yK:i<4:=hi;have veq:[V.ref e,V.ref D,V.int ((r:Int)+((2^(k+1):Nat):Int)/2*((0+(i:Int))/2)),V.int ((c:Int)+((2^(k+1):Nat):Int)/2*((0+(i:Int))%2)),V.int (((2^(k+1):Nat):Int)/2)]=[V.ref e,V.ref D,V.int ((r+2^k*(i/2):Nat):Int),V.int ((c+2^k*(i%2):Nat):Int),V.int ((2^k:Nat):Int)]:=by
        rw[ehalf,Int.zero_add,Vl,WC,W8,Vl,WC,W9]
        rfl
       refine⟨_,rfl,_,rfl,_,rfl,_,rfl,_,rfl,_,_,rfl,rfl,⟨by decide,by decide⟩,_,_,rfl,rfl,.inl ⟨by lia,by lia⟩,_,_,rfl,rfl,_,rfl,_,rfl,_,rfl,_,_,rfl,rfl,(by show (0:Int)<2;decide),_,_,rfl,rfl,.inl ⟨by lia,by lia⟩,_,_,rfl,rfl,_,rfl,
        e,D,m,r+2^k*(i/2),c+2^k*(i%2),qL k m r c L i,veq,hR4.but b5 nDe he4 (λu z=>by cases z),hm4,vV,nDe,qH7 hO i,he5,?_,λH6 b6 he6=>?_⟩
       ·have h1:=q76 (k:=k) (m:=m) (r:=r) (c:=c) (L:=L) i;have h2:sz (k+1)=4*sz k+1:=rfl;have h3:i*sz k<=3*sz k:=YY _ (by lia);lia
       ·refine q2 _ _ (b6 _ _ wY nD4e) ⟨?_,qa4,?_,?_⟩
        ·intro b o z nb;rw[qb1 (qa5 z vD)];exact b6 _ _ (b5 _ _ z nb) nb
        ·rw[qT4 hO];unfold vN;rw[Z9]
         rfl
        ·rw[qb1 (XC nD4e)];exact he6
      ·rintro xs H5 ⟨b5,wY,rfl,he5⟩;have wY:H5 D4=some (.lst (vN (names k m r c L 4))):=wY;have he5:H5 e=some (.dT (tK (Tr.rowsOf (qL k m r c L 4)))):=he5;have O4:=qH7 (k:=k) (m:=m) (r:=r) (c:=c) hO 4;have in0:=qT3 (k:=k) (m:=m) (r:=r) (c:=c) hO (j:=0) 4 (by decide);have in1:=qT3 (k:=k) (m:=m) (r:=r) (c:=c) hO (j:=1) 4 (by decide);have in2:=qT3 (k:=k) (m:=m) (r:=r) (c:=c) hO (j:=2) 4 (by decide);have in3:=qT3 (k:=k) (m:=m) (r:=r) (c:=c) hO (j:=3) 4 (by decide);have hl4:=q76 (k:=k) (m:=m) (r:=r) (c:=c) (L:=L) 4;have hs4:sz (k+1)=4*sz k+1:=rfl;have e4:qL k m r c L 4=Tr.post (qt k m r c 3) (Tr.post (qt k m r c 2) (Tr.post (qt k m r c 1) (Tr.post (qt k m r c 0) L))):=rfl;have en:names k m r c L 4=[Tr.name (qL k m r c L 4) (qt k m r c 0),Tr.name (qL k m r c L 4) (qt k m r c 1),Tr.name (qL k m r c L 4) (qt k m r c 2),Tr.name (qL k m r c L 4) (qt k m r c 3)]:=rfl;rw[en] at wY;rw[hT] at q;generalize qL k m r c L 4=L4 at he5 O4 in0 in1 in2 in3 hl4 e4 wY;generalize qt k m r c 0=t0,qt k m r c 1=t1,qt k m r c 2=t2,qt k m r c 3=t3 at in0 in1 in2 in3 e4 wY q;have B5:But e H H5:=(But.of S4).trans b5;refine⟨_,rfl,(by show 4<=sizeLine;decide),λa ha=>⟨(by show 4<=sizeLine;decide),λb hb'=>⟨(by show 2<=sizeLine;decide),λt ht=>?_⟩⟩⟩;have S6:Same H5 (upd (upd (upd H5 a (.lst [.int 0,.int 0,.int 0,.int 0])) b (.lst [.int 1,.int 1,.int 1,.int 1])) t (.tup [.ref a,.ref b])):=((qb2 ha).trans (qb2 hb')).trans (qb2 ht);have da:DataAt (upd (upd (upd H5 a (.lst [.int 0,.int 0,.int 0,.int 0])) b (.lst [.int 1,.int 1,.int 1,.int 1])) t (.tup [.ref a,.ref b])) (.ref a) (dL [0,0,0,0]):=.lst (qc9 (qc9 qa4 hb') ht) (DatasAt.ints [0,0,0,0]);have db:DataAt (upd (upd (upd H5 a (.lst [.int 0,.int 0,.int 0,.int 0])) b (.lst [.int 1,.int 1,.int 1,.int 1])) t (.tup [.ref a,.ref b])) (.ref b) (dL [1,1,1,1]):=.lst (qc9 qa4 ht) (DatasAt.ints [1,1,1,1]);have wX:=S6 _ _ wY;have he6:=S6 _ _ he5;have ht6:upd (upd (upd H5 a (.lst [.int 0,.int 0,.int 0,.int 0])) b (.lst [.int 1,.int 1,.int 1,.int 1])) t (.tup [.ref a,.ref b]) t=some (.tup [.ref a,.ref b]):=qa4;generalize upd (upd (upd H5 a (.lst [.int 0,.int 0,.int 0,.int 0])) b (.lst [.int 1,.int 1,.int 1,.int 1])) t (.tup [.ref a,.ref b])=H6 at S6 da db wX he6 ht6 ⊢;refine⟨t,[.ref a,.ref b],[dL [0,0,0,0],dL [1,1,1,1]],dL ([Tr.name L4 t0,Tr.name L4 t1,Tr.name L4 t2,Tr.name L4 t3].map λx:Nat=>(x:Int)),rfl,ht6,.cons da (.cons db .nil),.lst (wX.trans (Yh (λz=>some (HO.lst z)) (qq6 _))) (DatasAt.ints _),qM1 _,(by simp[PyData.canLayAll0,qM1]),ZG (qN7 _) (by decide),?_⟩;rw[X6,X6,List.any_nil,qY6,qY6,Bool.or_false];have B6:But e H H6:=B5.trans (But.of S6);refine⟨_,rfl,?_⟩;have hk:∀s∈Tr.kids (.nd t0 t1 t2 t3),Tr.In L4 s:=λs hs=>by
        have:s=t0\/s=t1\/s=t2\/s=t3:=by simpa [Tr.kids] using hs
        rcases this with rfl|rfl|rfl|rfl<;>assumption
       refine ite2 (λhc=>?_) (λhc=>?_)
       ·rcases Vj _ _▸hc with z|z
        ·obtain⟨eL,em,e0⟩:=kp0 e4 (ZH z);rw[em] at q;have q':=q H6 B6 (show H6 e=some (.dT (tK (Tr.rowsOf L))) from eL▸he6);exact⟨_,rfl,D4,_,0,.int (Tr.name L4 t0:Nat),rfl,rfl,SqL.of wX,rfl,by rw[e0];exact q'⟩
        ·obtain⟨eL,em,e0⟩:=kp1 e4 (ZH z);rw[em] at q;have q':=q H6 B6 (show H6 e=some (.dT (tK (Tr.rowsOf L))) from eL▸he6);exact⟨_,rfl,D4,_,0,.int (Tr.name L4 t0:Nat),rfl,rfl,SqL.of wX,rfl,by rw[e0];exact q'⟩
       ·have hmk:=kpn hc;rw[hmk] at q;have hrow4:(Tr.kids (.nd t0 t1 t2 t3)).map (Tr.name L4)=[Tr.name L4 t0,Tr.name L4 t1,Tr.name L4 t2,Tr.name L4 t3]:=rfl;have jH:=xm5 O4 hk;rw[hrow4] at jH;refine⟨_,rfl,D4,_,rfl,.inl ⟨SqL.of wX,λu hu=>?_⟩⟩;have S7:=qb2 (o:=.tup (vN [Tr.name L4 t0,Tr.name L4 t1,Tr.name L4 t2,Tr.name L4 t3])) hu;have he7:=S7 _ _ he6;have hu7:upd H6 u (.tup (vN [Tr.name L4 t0,Tr.name L4 t1,Tr.name L4 t2,Tr.name L4 t3])) u=some (.tup ((keyN [Tr.name L4 t0,Tr.name L4 t1,Tr.name L4 t2,Tr.name L4 t3]).map kV)):=by rw[qa4,qv0]
        have wM:=S7 _ _ wX;have B7:=B6.trans (But.of (e:=e) S7);generalize upd H6 u (.tup (vN [Tr.name L4 t0,Tr.name L4 t1,Tr.name L4 t2,Tr.name L4 t3]))=H7 at S7 he7 hu7 wM B7 ⊢;refine⟨_,rfl,e,_,rfl,DGet.t he7 hu7,_,rfl,?_⟩;rw[xg9];by_cases hm:[Tr.name L4 t0,Tr.name L4 t1,Tr.name L4 t2,Tr.name L4 t3]∈Tr.rowsOf L4
        ·rw[Zt hm];refine iteF ?_;have yM:=jH.mp hm;obtain⟨y6,eL⟩:=kpi hO e4 yM;rw[qv1 (.inr (.inr y6))] at q;rw[<- eL] at q y6;refine⟨_,rfl,_,rfl,D4,_,rfl,.inl ⟨SqL.of wM,λu2 y9=>⟨e,_,rfl,xh0 O4 y6 (qc9 he7 y9) qa4,?_⟩⟩⟩;exact q _ (B7.trans (But.of (qb2 y9))) (qc9 he7 y9)
        ·rw[Zl hm];refine iteT ?_;have yM:Tr.nd t0 t1 t2 t3∉L4:=λz=>hm (jH.mpr z);have ep:=kpx e4 yM;have O5:=(Tr.post_ord (.nd t0 t1 t2 t3) L hO).1;rw[ep] at q O5;have er:=qx9 O4 hk;rw[hrow4] at er;have jB:(tK (Tr.rowsOf L4)).length=L4.length:=by unfold tK;rw[qs1,Tr.rowsOf_len]
         have hli:L4.length+1<=6000000:=by lia
         refine⟨_,rfl,e,_,rfl,he7,_,_,rfl,rfl,_,rfl,_,rfl,D4,_,rfl,.inl ⟨SqL.of wM,λu2 y9=>?_⟩⟩;have he8:=qc9 (u:=.tup (vN [Tr.name L4 t0,Tr.name L4 t1,Tr.name L4 t2,Tr.name L4 t3])) he7 y9;refine⟨e,_,rfl,DPut.t he8 (by rw[qa4,qv0]) (by rw[jB];exact Y5 (show L4.length<=6000000 by lia) (by decide)),?_⟩;have eput:=xy0 O4 hk hm;rw[eput];have hd8:upd (upd H7 u2 (.tup (vN [Tr.name L4 t0,Tr.name L4 t1,Tr.name L4 t2,Tr.name L4 t3]))) e (.dT (tK (Tr.rowsOf (L4++[.nd t0 t1 t2 t3])))) D4=some (.lst (vN [Tr.name L4 t0,Tr.name L4 t1,Tr.name L4 t2,Tr.name L4 t3])):=by
          rw[qb1 nD4e];exact qc9 wM y9
         have he9:upd (upd H7 u2 (.tup (vN [Tr.name L4 t0,Tr.name L4 t1,Tr.name L4 t2,Tr.name L4 t3]))) e (.dT (tK (Tr.rowsOf (L4++[.nd t0 t1 t2 t3])))) e=some (.dT (tK (Tr.rowsOf (L4++[.nd t0 t1 t2 t3])))):=qa4;have B8:But e H (upd (upd H7 u2 (.tup (vN [Tr.name L4 t0,Tr.name L4 t1,Tr.name L4 t2,Tr.name L4 t3]))) e (.dT (tK (Tr.rowsOf (L4++[.nd t0 t1 t2 t3]))))):=(B7.trans (But.of (qb2 y9))).trans But.upd;generalize upd (upd H7 u2 (.tup (vN [Tr.name L4 t0,Tr.name L4 t1,Tr.name L4 t2,Tr.name L4 t3]))) e (.dT (tK (Tr.rowsOf (L4++[.nd t0 t1 t2 t3]))))=H8 at hd8 he9 B8 ⊢;have enm:∀s,Tr.In L4 s->Tr.name (L4++[.nd t0 t1 t2 t3]) s=Tr.name L4 s:=λs hs=>Tr.name_app hs O4;refine⟨_,rfl,_,rfl,D4,_,rfl,.inl ⟨SqL.of hd8,λu3 hu3=>⟨e,_,rfl,xh0 (a:=t0) (b:=t1) (c:=t2) (d:=t3) O5 (by simp) (qc9 he9 hu3) (by rw[qa4,enm t0 in0,enm t1 in1,enm t2 in2,enm t3 in3]),?_⟩⟩⟩;exact q _ (B8.trans (But.of (qb2 hu3))) (qc9 he9 hu3)
theorem xi7 {f fM fH:Addr}{fd fdM fdH:FuncData}(F:Fun K "_law_number" "_law_number" qj8 f fd) (B:Blt mg) (hN:mg "_law_number" = some (.ref f)) (bN:Binds K fd qH8 [])
  (hM:mg "_law_meets" = some (.ref fM)) (FM:Fun K "_law_meets" "_law_meets" qx4 fM fdM) (bM:Binds K fdM qo7 [])
  (hH:mg "_law_has" = some (.ref fH)) (FH:Fun K "_law_has" "_law_has" lHas fH fdH) (bH:Binds K fdH qo7 []):∀k,k<=12->FnOk P w K mg base CX0 (k+2) f fd qH8 (xe9 k)
 |0,h=>q78 F B hN bN hM FM bM hH FH bH h (sp':=λ_ _ _ _=>False) ⟨λ_ _ _ _ h=>h.elim,λ_ _ _ _ _ _ _ _ _ _ _ _ _ h=>h.elim⟩ (λj e=>nomatch e)
 |k+1,h=>q78 F B hN bN hM FM bM hH FH bH h (xi7 F B hN bN hM FM bM hH FH bH k (by lia)) (λj e=>by cases e;rfl)
end
def bTop (n:Nat) (boxes:List Row):Nat:=Tr.name (Tr.post (bt n boxes 0 0) []) (bt n boxes 0 0)
def qq1 (n:Nat) (boxes:List Row):List Row:=Tr.rowsOf (Tr.post (bt n boxes 0 0) [])
theorem xq3 {n:Nat}{boxes:List Row}(hn:n<=12):Canon n (bTop n boxes) (qq1 n boxes):=qR9 hn (qH1 n boxes 0 0) (qH2 n boxes 0 0)
theorem xD7 {n:Nat}{boxes:List Row}(hn:n<=12) (h:xe5 n boxes):(qq1 n boxes).length<=485:=by
 unfold qq1;rw[Tr.rowsOf_len];have h1:=qq0 (bt n boxes 0 0) [];have h2:=qH6 hn h;simp at h1;lia
theorem b_T {n:Nat}{boxes:List Row}:T (qq1 n boxes) (bTop n boxes)=bt n boxes 0 0:=by
 obtain⟨ho,hi⟩:=Tr.post_ord (bt n boxes 0 0) [] Tr.ord_nil;exact qu9 ho _ hi
section
variable {P:Program}{w:World}{K:PySem.W.Frag}{mg:Str->Option Value}{base:Heap}
abbrev nBSh:List Str:=["_law_n", "_law_boxes_here", "_law_rows", "_law_top"]
theorem scBSh:FnScope nBSh ["_law_n", "_law_boxes_here"] (qa3 qN4):=qc5
def xy3:Sp:=λvs H Q _=>∃(bp:Addr) (n:Nat) (boxes:List Row),vs=[.int (n:Nat),.ref bp]/\RowsL H bp boxes/\xe5 n boxes/\n<=12/\∀(H':Hp) (t:Addr),Same H H'->qc6 H' t n (bTop n boxes) (qq1 n boxes)->Q (.ref t) H'
theorem xy4 {f fN fM fH:Addr}{fd fdN fdM fdH:FuncData}(F:Fun K "_law_shape" "_law_shape" qN4 f fd) (B:Blt mg) (hN:mg "_law_number" = some (.ref fN)) (FN:Fun K "_law_number" "_law_number" qj8 fN fdN) (bN:Binds K fdN qH8 [])
  (hM:mg "_law_meets" = some (.ref fM)) (FM:Fun K "_law_meets" "_law_meets" qx4 fM fdM) (bM:Binds K fdM qo7 [])
  (hH:mg "_law_has" = some (.ref fH)) (FH:Fun K "_law_has" "_law_has" lHas fH fdH) (bH:Binds K fdH qo7 []):FnOk P w K mg base CX0 15 f fd ["_law_n", "_law_boxes_here"] xy3:=by
 have GN:∀k,k<=12->FnOk P w K mg base CX0 (k+2) fN fdN qH8 (xe9 k):=xi7 FN B hN bN hM FM bM hH FH bH;refine F.ok scBSh (λvs H Q E h=>?_) (λcdv A outer s H vs Q E hr h=>?_)
 ·obtain⟨bp,n,boxes,rfl,_⟩:=h
  rfl
 ·obtain⟨bp,n,boxes,rfl,hR,y7,hn,q⟩:=h;have hrN:Room (n+2) _:=hr.mono (by lia);refine seqE ⟨_,⟨psN 2 scBSh.nd q91⟩,?_⟩;refine seqE ⟨_,⟨psN 3 scBSh.nd (qI4 (GN n hn) hrN (by rfl) hN FN.kp bN .nil xs7 (Ars2.go (.cons ⟨pv 2⟩ (.cons ⟨pv 1⟩ (.cons qg6 (.cons qg6 (.cons ⟨qa7 qf9 qa2 (pv 0)⟩ .nil rfl) rfl) rfl) rfl) rfl)))⟩,?_⟩;refine qg5 ⟨_,⟨qa9 (qe1 (Ars2.go (.cons ⟨pv 0⟩ (.cons ⟨pv 3⟩ (.cons ⟨qc4 (qF0 rfl) (by rfl) B.tuple Yj (qa0 (pv 2) qa1)⟩ .nil rfl) rfl) rfl)))⟩,?_⟩;intro e he;have nbe:bp≠e:=by obtain⟨bs,hb,_⟩:=hR;exact qa5 hb he
  have h4:∀b∈boxes,b.length=4:=λb hb=>by
   obtain⟨r,c,h,w',rfl,_⟩:=y7.1 b hb
   rfl
  have vC:boxes.length<=900:=by
   rcases y7.2 with ⟨_,h⟩|⟨h,_⟩<;>lia
  have hsz:sz n<=6000000:=ZG (xy2 hn) (by decide);have veq:[V.ref e,V.ref bp,V.int 0,V.int 0,V.int (1*2^((n:Int)).toNat)]=[V.ref e,V.ref bp,V.int ((0:Nat):Int),V.int ((0:Nat):Int),V.int ((2^n:Nat):Int)]:=by rw[qv7];rfl
  refine⟨_,rfl,_,rfl,_,rfl,_,_,rfl,rfl,⟨by lia,by lia,by decide⟩,e,bp,boxes,0,0,[],veq,hR.same (qb2 he),h4,vC,nbe,Tr.ord_nil,qa4,by simpa using hsz,λH1 b1 wV=>?_⟩;have S1:Same H H1:=λb o z=>b1 _ _ (qc9 z he) (qa5 z he);refine⟨_,rfl,_,rfl,_,rfl,e,_,rfl,wV,λl bs hl hbl2 hbs=>⟨(by show 3<=sizeLine;decide),λt ht=>?_⟩⟩;refine q _ t ((S1.trans (qb2 hl)).trans (qb2 ht)) ⟨⟨l,qa4,bs,qc9 qa4 ht,?_,?_⟩,xq3 hn,?_⟩
  ·rw[hbl2];unfold tK;rw[qs1]
   rfl
  ·intro i b r e1 e2;have hi:=(gS_ e2).1;have jB:(tK (qq1 n boxes)).length=(qq1 n boxes).length:=by unfold tK;rw[qs1]
   have hkv:(tK (qq1 n boxes))[i]?=some ((tK (qq1 n boxes))[i]'(by lia)):=Zd (by lia);have hk1:((tK (qq1 n boxes))[i]'(by lia)).1=keyN r:=by
    have h0:=hkv;unfold tK tabl at h0;rw[Zg] at h0;obtain⟨p,hp,ep⟩:=Zj.mp h0;rw[List.getElem?_zipIdx] at hp;obtain⟨r',hr',rfl⟩:=Zj.mp hp;rw[e2] at hr';cases hr';exact (Yh Prod.fst ep).symm
   have:=hbs i b _ e1 hkv;rw[hk1,qv0] at this;exact qc9 (qc9 this hl) ht
  ·exact ZG (xD7 hn y7) (by decide)
end
end Pr
namespace L2
open PySem
section
variable {X:Cx}
def xD8 (t:TS):TS:=λD σ H=>∃J:St->Hp->Prop,t { D with nx:=J } σ H/\∀σ' H',J σ' H'->D.nx σ' H'
theorem xq4 {st:Stmt}{t:TS}(h:PS X st t):PS X st (xD8 t):=by
 intro j8 s σ H D I hj;obtain⟨J,h1,h2⟩:=hj;refine Yp (h j8 s σ H _ I h1) (λf s' hs=>?_) λ_ _ e=>e;cases f with
 |next=>
  obtain⟨σ',H',I',j⟩:=hs;exact⟨σ',H',I',h2 _ _ j⟩
 |brk=>exact hs
 |cont=>exact hs
 |ret u=>exact hs
end
end L2
namespace Qf
open Tr
theorem qv9:∀t:Tr,nlf t=3*nds t+1
 |.z=>rfl
 |.o=>rfl
 |.nd a b c d=>by
  show nlf a+nlf b+nlf c+nlf d=3*(1+nds a+nds b+nds c+nds d)+1;rw[qv9 a,qv9 b,qv9 c,qv9 d];lia
end Qf
namespace Pr
open PySem L2 Qf
def dTx (L:List (List Nat)):List PyData:=L.map λe=>PyData.str (txt e)
theorem qB3 {H:Hp}:∀L:List (List Nat),DatasAt H (vT L) (dTx L)
 |[]=>.nil
 |e::L=>.cons (.str _) (qB3 L)
theorem q79:∀L:List (List Nat),(∀e∈L,∀d∈e,d<4)->PyData.canLayAll0 (dTx L)=true
 |[],_=>rfl
 |e::L,h=>by
  show (PyData.canLay0 (.str (txt e))&&PyData.canLayAll0 (dTx L))=true;rw[q79 L (λx hx=>h x (Zk _ hx)),Bool.and_true];have he:=h e (by simp);show PyData.strOk (txt e)=true;unfold PyData.strOk;simp only[txt,List.all_toArray,List.all_map,YK];intro d hd;have:=he d hd
  match d,this with
  |0,_|1,_|2,_|3,_=>decide +kernel
theorem qB4:∀L:List (List Nat),PyData.depthAll (dTx L)=0
 |[]=>rfl
 |e::L=>by
  show max (PyData.depth (.str (txt e))) (PyData.depthAll (dTx L))=0;rw[qB4 L]
  rfl
def dNe (x y z:Int) (ads:List (List Nat)):PyData:=.tuple [.int x,.tuple [.int y,.int z],.list (dTx ads)]
theorem xi8 {H:Hp}{p q l:Addr}{x y z:Int}{ads:List (List Nat)}(h1:H p=some (.tup [.int x,.ref q,.ref l])) (h2:H q=some (.tup [.int y,.int z])) (h3:H l=some (.lst (vT ads))):DataAt H (.ref p) (dNe x y z ads):=
 .tup h1 (.cons (.int _) (.cons (.tup h2 (.cons (.int _) (.cons (.int _) .nil))) (.cons (.lst h3 (qB3 _)) .nil)))
theorem xq5 {x y z:Int}{ads:List (List Nat)}(h:∀e∈ads,∀d∈e,d<4):(dNe x y z ads).canLay0=true:=by
 have:=q79 ads h;simp[dNe,PyData.canLay0,PyData.canLayAll0,this]
theorem q80 {x y z:Int}{ads:List (List Nat)}:(dNe x y z ads).depth<=60:=by
 simp[dNe,PyData.depth,PyData.depthAll,qB4]
def dBo (x:Int) (ads:List (List Nat)):PyData:=.tuple [.int x,.none,.list (dTx ads)]
theorem xi9 {H:Hp}{p l:Addr}{x:Int}{ads:List (List Nat)}(h1:H p=some (.tup [.int x,.non,.ref l])) (h3:H l=some (.lst (vT ads))):DataAt H (.ref p) (dBo x ads):=
 .tup h1 (.cons (.int _) (.cons .non (.cons (.lst h3 (qB3 _)) .nil)))
theorem xq6 {x:Int}{ads:List (List Nat)}(h:∀e∈ads,∀d∈e,d<4):(dBo x ads).canLay0=true:=by
 have:=q79 ads h;simp[dBo,PyData.canLay0,PyData.canLayAll0,this]
theorem q81 {x:Int}{ads:List (List Nat)}:(dBo x ads).depth<=60:=by
 simp[dBo,PyData.depth,PyData.depthAll,qB4]
theorem xf0 {t pa la:Addr}{n tp r c far:Nat}{rows:List Row}{Ha:Hp}{va:V}{ads:List (List Nat)}(hd:Tr.dep (T rows tp)<=n) (hr:r<2^n) (hc:c<2^n) (jK:far≠0) (hclr:qK8 (T rows tp) n r c (far-1))
  (hcase:(∀e∈lvT (T rows tp),qe9 n r c e=false)/\(far:Int)=edge n r c/\far≠0/\(∀a b,inSq r c far a b->kind (T rows tp) n a b≠0) \/
   ∃e0∈lvT (T rows tp),qe9 n r c e0=true/\(∀e∈lvT (T rows tp),qe9 n r c e=true->¬kF n r c e.1<kF n r c e0.1)/\(far:Int)=lfF n r c e0.1/\inSq r c far (lfR n r c e0.1) (lfC n r c e0.1)/\kind (T rows tp) n (lfR n r c e0.1) (lfC n r c e0.1)=0 /\
    ∀a b,inSq r c far a b->kind (T rows tp) n a b=0->lfR n r c e0.1<a\/lfR n r c e0.1=a/\lfC n r c e0.1<=b)
  (hpa:Ha pa=some (.tup [.int ((far:Int)-1),va,.ref la])) (hva:BlankIs Ha (T rows tp) n r c far va) (hla:Ha la=some (.lst (vT ads))) (hasc:ads.Pairwise (·<·)) (jH:∀x,x∈ads<->∃a b:Nat,inSq r c (far-1) a b/\lfAd (T rows tp) n a b=x) :
  ∃dd:PyData,DataAt Ha (.ref pa) dd/\dd.canLay0=true/\dd.depth<=60/\ads.length<=(lvT (T rows tp)).length/\∀Hx (Q:VK),qc6 Hx t n tp rows->nlf (T rows tp)<=2000 ->
   (∀Hb p l x cv,Same Hx Hb->Hx l=none->Hb p=some (.tup [x,cv,.ref l])->Hb l=some (.lst (vT ads))->DataAt Hb (.ref p) dd->Q (.ref p) Hb)->SpTd [.ref t,.int (r:Nat),.int (c:Nat)] Hx Q:=by
 have ec:=q72 hd hr hc jK hclr hasc jH;have vH:ads.length<=(lvT (T rows tp)).length:=by
  rw[<- ec];unfold ql5;rw[Zf];exact Xx _ _
 have jV:∀e∈ads,∀d∈e,d<4:=λe he=>by
  obtain⟨a,b,h1,rfl⟩:=(jH e).mp he;have vK:=qp9 (show kind (T rows tp) n a b≠2 by rw[hclr _ _ h1];decide);obtain⟨f,k1,_,_⟩:=qJ9 (r:=a) (c:=b) hd (by lia) (by lia);exact (qy0 n _ _ hd k1).1
 rcases hcase with ⟨hA,hf,_,h0⟩|⟨e0,wL,wC,yH,hf,wP,wG,hlex⟩
 ·have hv:va=.non:=by
   rcases hva with ⟨h,_⟩|⟨q,a,b,_,_,h1,h2,_⟩
   ·exact h
   ·exact absurd h2 (h0 a b h1)
  subst hv;refine⟨_,xi9 hpa hla,xq6 jV,q81,vH,λHx Q sh vB q=>.mk ⟨t,n,tp,r,c,rows,rfl,sh,vB,hr,hc,λ_ H' p l s' hl hp hl'=>?_,λe1 wV vU _=>?_⟩⟩
  ·rw[<- hf] at hp hl';rw[ec] at hl';exact q H' p l _ _ s' hl hp hl' (xi9 hp hl')
  ·rw[hA e1 wV] at vU;cases vU
 ·obtain⟨qa,rfl,hqa⟩:∃qa,va=.ref qa/\Ha qa=some (.tup [.int (lfR n r c e0.1),.int (lfC n r c e0.1)]):=by
   rcases hva with ⟨_,h⟩|⟨q,a,b,h1,h2,h3,h4,h5⟩
   ·exact absurd wG (h _ _ wP)
   ·have w1:=hlex a b h3 h4;have w2:=h5 _ _ wP wG;have e1:a=lfR n r c e0.1:=by lia
    have e2:b=lfC n r c e0.1:=by lia
    rw[e1,e2] at h2;exact⟨q,h1,h2⟩
  refine⟨_,xi8 hpa hqa hla,xq5 jV,q80,vH,λHx Q sh vB q=>.mk ⟨t,n,tp,r,c,rows,rfl,sh,vB,hr,hc,λhA=>?_,λe1 wV vU hm1=>?_⟩⟩
  ·rw[hA e0 wL] at wC;cases wC
  ·have ek:kF n r c e1.1=kF n r c e0.1:=Va (XJ.mp (hm1 _ wL wC)) (XJ.mp (yH _ wV vU));obtain⟨z1,z2,z3⟩:=qs2 ek;rw[z1,z2,z3,<- hf];refine⟨λh=>absurd h (by lia),λ_ H' p q' l s' hl hp hq hl'=>?_⟩;rw[ec] at hl';exact q H' p l _ _ s' hl hp hl' (xi8 hp hq hl')
theorem xf1 {t:Addr}{n tp r c:Nat}{rows:List Row}{e0:List Nat×Bool}{Hx:Hp}{Q:VK}(sh:qc6 Hx t n tp rows) (vB:nlf (T rows tp)<=2000) (hr:r<2^n) (hc:c<2^n) (wL:e0∈lvT (T rows tp)) (wC:qe9 n r c e0=true) (yH:∀e∈lvT (T rows tp),qe9 n r c e=true->¬kF n r c e.1<kF n r c e0.1)
  (h0:lfF n r c e0.1=0) (q:∀Hb,Same Hx Hb->Q .non Hb):SpTd [.ref t,.int (r:Nat),.int (c:Nat)] Hx Q:=by
 refine .mk ⟨t,n,tp,r,c,rows,rfl,sh,vB,hr,hc,λhA=>?_,λe1 wV vU hm1=>?_⟩
 ·rw[hA e0 wL] at wC;cases wC
 ·have ek:kF n r c e1.1=kF n r c e0.1:=Va (XJ.mp (hm1 _ wL wC)) (XJ.mp (yH _ wV vU));obtain⟨z1,_,_⟩:=qs2 ek;exact⟨λ_=>q,λh=>absurd (show lfF n r c e1.1=0 by lia) h⟩
section
variable {P:Program}{w:World}{K:PySem.W.Frag}{mg:Str->Option Value}{base:Heap}
abbrev nLaw:List Str:=["_law_script", "_law_k", "_law_pot_here", "_law_n", "_law_boxes_here", "_law_told_here", "_law_turn", "_law_row", "_law_column", "_law_due_here", "_law_some"]
theorem scLaw:FnScope nLaw ["_law_script"] (qa3 lLaw):=qc5
def xf2 (K:PySem.W.Frag):Sp:=λvs H Q _=>∃(a:Addr) (ns:List Int),vs=[.ref a]/\SqL K H a (ns.map V.int)/\ns.length<=63/\∀H',Q (.bl true) H'
theorem xy5 {f fP fD fX fT fA fU fO fE:Addr}{fd fdP fdD fdX fdT fdA fdU fdO fdE:FuncData}(F:Fun K "law" "law" lLaw f fd) (B:Blt mg) (C:Blt2 mg)
  (hP:mg "_law_pot" = some (.ref fP)) (FP:Fun K "_law_pot" "_law_pot" lPot fP fdP) (bP:Binds K fdP ["_law_script", "_law_k"] [])
  (hD:mg "_law_digit" = some (.ref fD)) (FD:Fun K "_law_digit" "_law_digit" qq5 fD fdD) (bD:Binds K fdD ["_law_pot_here", "_law_many"] [])
  (hX:mg "_law_boxes" = some (.ref fX)) (FX:Fun K "_law_boxes" "_law_boxes" qE5 fX fdX) (bX:Binds K fdX ["_law_pot_here", "_law_n"] []) (GX:FnOk P w K mg base CX0 3 fX fdX ["_law_pot_here", "_law_n"] q74)
  (hT:mg "_law_shape" = some (.ref fT)) (FT:Fun K "_law_shape" "_law_shape" qN4 fT fdT) (bT:Binds K fdT ["_law_n", "_law_boxes_here"] []) (GT:FnOk P w K mg base CX0 15 fT fdT ["_law_n", "_law_boxes_here"] xy3)
  (hA:mg "_law_near_box" = some (.ref fA)) (FA:Fun K "_law_near_box" "_law_near_box" xa0 fA fdA) (bA:Binds K fdA nNr3 []) (GA:FnOk P w K mg base CX0 2 fA fdA nNr3 spNr)
  (hE:mg "_law_exchanged" = some (.ref fE)) (FE:Fun K "_law_exchanged" "_law_exchanged" q11 fE fdE) (bE:Binds K fdE ["_law_told_here"] [])
  (hU:mg "_law_due" = some (.ref fU)) (FU:Fun K "_law_due" "_law_due" lDue fU fdU) (bU:Binds K fdU nLf3 []) (GU:FnOk P w K mg base CX0 3 fU fdU nLf3 spDu)
  (hO:mg "_law_told" = some (.ref fO)) (FO:Fun K "_law_told" "_law_told" xa1 fO fdO) (bO:Binds K fdO nLf3 []) (GO:FnOk P w K mg base CX0 20 fO fdO nLf3 spTd) :
  FnOk P w K mg base CX0 21 f fd ["_law_script"] (xf2 K):=by
 have GP:FnOk P w K mg base CX0 1 fP fdP ["_law_script", "_law_k"] (xw8 K):=xw9 FP B C;have GD:FnOk P w K mg base CX0 1 fD fdD ["_law_pot_here", "_law_many"] qm4:=qo6 FD;have GE:FnOk P w K mg base CX0 1 fE fdE ["_law_told_here"] spEx:=xD3 FE B;refine F.ok scLaw (λvs H Q E h=>?_) (λcdv A outer s H vs Q E hr h=>?_)
 ·obtain⟨a,ns,rfl,_⟩:=h
  rfl
 ·obtain⟨a,ns,rfl,hSq,j9,q⟩:=h;have jG:Room 1 _:=hr.mono (by decide);have vF:Room 2 _:=hr.mono (by decide);have hr3:Room 3 _:=hr.mono (by decide);have hr15:Room 15 _:=hr.mono (by decide);refine seqE ⟨_,⟨qq2 Y0 rfl (qh4 (by rfl) B.range (qa0 (qa6 (qg1 rfl) (by rfl) B.max Yo (qa0 qa2 (qa0 (qa6 (qe6 rfl) (by rfl) B.min Yi (qa0 (qa6 qd4 (by rfl) B.len YS (qa0 (pv 0) qa1)) (qa0 qa2 qa1))) qa1))) qa1)) (pgN 1 scLaw.nd)
    (StB.go (.cons ⟨psN 2 scLaw.nd (pcN GP jG hP FP.kp bP (qa0 (pv 0) (qa0 (pv 1) qa1)))⟩
    (.cons ⟨psN 3 scLaw.nd (pcN GD jG hD FD.kp bD (qa0 (pv 2) (qa0 qa2 qa1)))⟩
    (.cons ⟨psN 4 scLaw.nd (pcN GX hr3 hX FX.kp bX (qa0 (pv 2) (qa0 (pv 3) qa1)))⟩
    (.cons ⟨psN 5 scLaw.nd (pcN GT hr15 hT FT.kp bT (qa0 (pv 3) (qa0 (pv 4) qa1)))⟩
    (.cons ⟨xq4 (qd8 (qb7 qw0 (PEb.go ⟨pcN GD jG hD FD.kp bD (qa0 (pv 2) (qa0 qa2 qa1))⟩) qa2 (qb4 _)) (StB.go (.one ⟨psN 5 scLaw.nd (pcN GE jG hE FE.kp bE (qa0 (pv 5) qa1))⟩)) qb8)⟩
    (.one ⟨qq2 Y0 rfl (qh4 (by rfl) B.range (qa0 qa2 qa1)) (pgN 6 scLaw.nd)
     (StB.go (.cons ⟨ql3 (PEb.go ⟨pcN GA vF hA FA.kp bA (qa0 (pv 2) (qa0 (pv 4) (qa0 (pv 3) qa1)))⟩) (qj0 rfl (qb6 (pgN 7 scLaw.nd) (qb6 (pgN 8 scLaw.nd) qf8)))⟩
     (.cons ⟨psN 9 scLaw.nd (pcN GU hr3 hU FU.kp bU (qa0 (pv 5) (qa0 (pv 7) (qa0 (pv 8) qa1))))⟩
     (.cons ⟨psN 10 scLaw.nd (pcN GO hr hO FO.kp bO (qa0 (pv 5) (qa0 (pv 7) (qa0 (pv 8) qa1))))⟩
     (.cons ⟨qd8 (qb7 (qM0 hr) (pv 10) (pv 9) (qb4 _)) (qa8 (qa9 qs7)) qb8⟩
     (.cons ⟨qd8 (qb7 xj3 (pv 9) qB5 (qb4 _)) (StB.go (.one ⟨qd7 (qV8 Xg Xa Xb qg2 (PEb.go ⟨pxN qc8 (pv 10) qa2⟩) (qa0 qw6 qa1))⟩)) qb8⟩
     (.one ⟨qd8 (qb7 (qM0 hr) (PEb.go ⟨pcN GO hr hO FO.kp bO (qa0 (pv 5) (qa0 (pv 7) (qa0 (pv 8) qa1)))⟩) (pv 9) (qb4 _)) (qa8 (qa9 qs7)) qb8⟩)))))))⟩)))))))⟩,?_⟩
  refine qg5 ⟨_,⟨qa9 qs7⟩,?_⟩;refine⟨_,rfl,a,_,rfl,.inl hSq,_,_,rfl,_,_,rfl,_,rfl,?_,?_,qB6 (λi σ H2=>(i:Int)<=5/\Same H H2/\∃v1 v2 v3 v4 v5 v6 v7 v8 v9 v10,σ=[some (.ref a),v1,v2,v3,v4,v5,v6,v7,v8,v9,v10]) ⟨by decide,Same.refl _,none,none,none,none,none,none,none,none,none,none,rfl⟩ ?_ ?_⟩
  ·split<;>(try split)<;>lia
  ·split<;>(try split)<;>lia
  ·rintro i σ H2 hi ⟨i1,s2,v1,v2,v3,v4,v5,v6,v7,v8,v9,v10,rfl⟩;have hi':(i:Int)<5:=by
    revert hi;split<;>(try split)<;>lia
   refine⟨_,rfl,_,rfl,a,_,ns,rfl,s2.seq hSq,j9,by lia,by lia,λH3 p s3 wE k6=>?_⟩;refine⟨_,rfl,p,5,rfl,k6,by decide,by decide,λn H4 hn b4 kW=>?_⟩;refine⟨_,rfl,_,rfl,p,n,rfl,kW,by lia,λH5 l boxes b5 hp5 hl hRb y7=>?_⟩;have kY:l≠p:=λz=>by
    obtain⟨x,y,h1,_⟩:=kW;rw[z,h1] at hl;cases hl
   have vC:boxes.length<=900:=by rcases y7.2 with ⟨_,h⟩|⟨h,_⟩<;>lia
   refine⟨_,rfl,_,rfl,l,n,boxes,rfl,hRb,y7,by lia,λH6 t s6 sh6=>?_⟩;have hfew:=qH6 (by lia) y7;have eT:T (qq1 n boxes) (bTop n boxes)=bt n boxes 0 0:=b_T;have vB:nlf (T (qq1 n boxes) (bTop n boxes))<=2000:=by rw[eT,qv9];lia
   generalize bTop n boxes=tp,qq1 n boxes=rows at sh6 eT vB;have wF:=hp5.same s6;have hR6:=hRb.same s6;have B6:But p H2 H6:=λb o e nb=>s6 _ _ (b5 _ _ (b4 _ _ (s3 _ _ e) nb) nb);have tups:∀{Ha Hb:Hp},PurseAt Ha p->But p Ha Hb->Tups Ha Hb:=λ{Ha Hb} h b=>by
    obtain⟨x,y,h1,_⟩:=h;exact b.tups h1 (λu z=>by cases z)
   refine⟨λσ H7=>∃(t':Addr) (tp':Nat) (rows':List Row),But p H6 H7/\PurseAt H7 p/\qc6 H7 t' n tp' rows'/\nlf (T rows' tp')<=2000/\σ=[some (.ref a),some (.int (0+(i:Int))),some (.ref p),some (.int (n:Nat)),some (.ref l),some (.ref t'),v6,v7,v8,v9,v10],?_,?_⟩
   ·refine⟨_,rfl,p,2,rfl,wF,by decide,by decide,λdg H7 hdg b7 wR=>⟨rfl,_,rfl,?_⟩⟩;have sh7:qc6 H7 t n tp rows:=⟨sh6.1.mono (tups wF b7),sh6.2⟩;refine ite2 (λ_=>?_) (λ_=>?_)
    ·refine⟨_,rfl,t,n,tp,rows,rfl,sh7,λH8 t8 s8 sh8=>⟨t8,_,_,b7.trans (But.of s8),wR.same s8,sh8,?_,rfl⟩⟩;rw[xp4 sh6.2.1.rok tp sh6.2.1.inn];exact vB
    ·exact⟨t,tp,rows,b7,wR,sh7,vB,rfl⟩
   rintro σ H7 ⟨t',tp',rows',b7,wR,sh7,hnl',rfl⟩;clear sh6 vB eT hfew;have hdep:=qk2 sh7.2.1;refine⟨6,rfl,by decide,by decide,qB6 (lo:=0) (n:=6) (λj σ H8=>But p H7 H8/\PurseAt H8 p/\∃v6 v7 v8 v9 v10,σ=[some (.ref a),some (.int (0+(i:Int))),some (.ref p),some (.int (n:Nat)),some (.ref l),some (.ref t'),v6,v7,v8,v9,v10]) ⟨But.refl _ _,wR,v6,v7,v8,v9,v10,rfl⟩ ?_ ?_⟩
   ·rintro j σ H8 hj ⟨b8,hp8,w6,w7,w8,w9,w10,rfl⟩;have hR8:RowsL H8 l boxes:=by
     obtain⟨x,y,h1,_⟩:=wF;exact hR6.but (b7.trans b8) kY h1 (λu z=>by cases z)
    refine⟨_,rfl,_,rfl,_,rfl,p,l,n,boxes,rfl,hp8,hR8,kY,y7.1,vC,by lia,λH9 q9 r c b9 yE wD wN hq9=>?_⟩;refine⟨q9,_,rfl,SqT.of hq9,rfl,_,_,rfl,_,_,rfl,rfl,?_⟩;refine qq8 (σ':=[some (.ref a),some (.int (0+(i:Int))),some (.ref p),some (.int (n:Nat)),some (.ref l),some (.ref t'),some (.int (0+(j:Int))),some (.int (r:Nat)),some (.int (c:Nat)),w9,w10]) rfl ?_;have b79:But p H7 H9:=b8.trans b9;have sh9:qc6 H9 t' n tp' rows':=⟨sh7.1.mono (tups wR b79),sh7.2⟩;obtain⟨far,hf16,kA,hncl,hcase⟩:=xx4 hdep wD wN (by lia);refine⟨_,rfl,_,rfl,_,rfl,t',n,tp',r,c,far,rows',rfl,sh9,by lia,hf16,kA,hncl,λh0 Ha sa=>?_,λHa pa la va ads jK sa hpa hva hla hasc jH=>?_⟩
    ·rcases hcase with ⟨_,_,jK,_⟩|⟨e0,wL,wC,yH,hf,_⟩
     ·exact absurd h0 jK
     have ask:=λHx (Q:VK) (sh:qc6 Hx t' n tp' rows') (q:∀Hb,Same Hx Hb->Q .non Hb)=>xf1 sh hnl' wD wN wL wC yH (by lia) q;refine⟨_,rfl,_,rfl,_,rfl,?_⟩;show SpTd [.ref t',.int (r:Nat),.int (c:Nat)] Ha _;refine ask Ha _ (qh3 sh9 sa) λHb sb=>?_;refine⟨_,rfl,_,rfl,.none,.none,.non,.non,rfl,rfl,by decide,_,rfl,iteF ?_⟩;refine⟨_,rfl,rfl,_,rfl,iteF ?_⟩;have sab:=sa.trans sb;refine⟨_,rfl,_,rfl,_,rfl,?_⟩;show SpTd [.ref t',.int (r:Nat),.int (c:Nat)] Hb _;refine ask Hb _ (qh3 sh9 sab) λHc sc=>?_;refine⟨_,rfl,.none,.none,.non,.non,rfl,rfl,by decide,_,rfl,iteF ?_⟩;have s9c:=sab.trans sc;exact⟨b79.trans (But.of s9c),yE.same s9c,_,_,_,_,_,rfl⟩
    ·obtain⟨dd,vY,hlay,wW,vH,ask⟩:=xf0 (t:=t') hdep wD wN jK (kA _ (by lia)) hcase hpa hva hla hasc jH;have hrf:PyData.eqv dd dd=true:=PySem.SeqAt.eqv_refl _ hlay;have sha:=qh3 sh9 sa;refine⟨_,rfl,_,rfl,_,rfl,?_⟩;show SpTd [.ref t',.int (r:Nat),.int (c:Nat)] Ha _;refine ask Ha _ sha hnl' λHb pb lb xb cb sb jR hpb hlb2 kJ=>?_;refine⟨_,rfl,_,rfl,_,_,kJ,vY.same sb,hlay,hlay,wW,_,rfl,?_⟩;rw[hrf];refine iteF ?_;refine⟨_,rfl,rfl,_,rfl,iteT ?_⟩;refine⟨_,rfl,pb,_,2,.ref lb,rfl,rfl,SqT.of hpb,rfl,.inl ⟨rfl,_,SqL.of hlb2⟩,lb,_,_,rfl,rfl,hlb2,?_,?_⟩
     ·unfold vT;rw[Zf];rw[qk3] at vH;exact qj9 (by lia)
     have sc:Same Ha (upd Hb lb (.lst (vT ads++[.str ""]))):=λb o e=>by rw[qb1 (qa5 e jR)];exact sb _ _ e
     generalize upd Hb lb (.lst (vT ads++[.str ""]))=Hc at sc ⊢;refine⟨_,rfl,_,rfl,_,rfl,?_⟩;show SpTd [.ref t',.int (r:Nat),.int (c:Nat)] Hc _;refine ask Hc _ (qh3 sha sc) hnl' λHd pd ld xd cd sd hld hpd hld2 hdd2=>?_;refine⟨_,rfl,_,_,hdd2,vY.same (sc.trans sd),hlay,hlay,wW,_,rfl,?_⟩;rw[hrf];refine iteF ?_;have s9d:=sa.trans (sc.trans sd);exact⟨b79.trans (But.of s9d),yE.same s9d,_,_,_,_,_,rfl⟩
   ·rintro σ H8 ⟨b8,hp8,w6,w7,w8,w9,w10,rfl⟩;refine⟨by lia,λb o e=>?_,_,_,_,_,_,_,_,_,_,_,rfl⟩;have e2:=s2 b o e;have nb:b≠p:=qa5 e2 wE;exact b8 _ _ (b7 _ _ (B6 _ _ e2 nb) nb) nb
  ·rintro σ H2 ⟨_,s2,v1,v2,v3,v4,v5,v6,v7,v8,v9,v10,rfl⟩;exact q H2
end
def qc7 (K:PySem.W.Frag) (x:Str) (st:Stmt):Prop:=∃(f:Addr) (fd:FuncData),PySem.W.nsIn K mainGlobals x=some (some (.ref f))/\Fun K x x st f fd
theorem d_mk {K:PySem.W.Frag}{x:Str}{st:Stmt}{f:Addr}{od an:Option Addr}{sl:Array (Option Value)}{oc kV dc pm cd ct:Value}(a:PySem.W.nsIn K mainGlobals x=some (some (.ref f)))
  (l:K.lookup f=some ⟨oc,od,.func (PySem.W.fnOf x x (qi2 st) (qf5 st) (qa3 st) .none kV dc pm an cd ct),sl⟩) (c:PySem.W.codeIn K cd x=true) (k:PySem.W.keepIn K (.ref f)=true):qc7 K x st:=⟨f,_,a,xf9 l c k⟩
def qb9 (K:PySem.W.Frag) (x:Str):Prop:=PySem.W.nsIn K mainGlobals x=some none
theorem us1 {α:Type}{P:List α->Prop}(h:∀a:α,P [a]):∀us:List α,us.length=1->P us
 |[a],_=>h a
theorem us2 {α:Type}{P:List α->Prop}(h:∀a b:α,P [a,b]):∀us:List α,us.length=2->P us
 |[a,b],_=>h a b
theorem us3 {α:Type}{P:List α->Prop}(h:∀a b c:α,P [a,b,c]):∀us:List α,us.length=3->P us
 |[a,b,c],_=>h a b c
theorem us4 {α:Type}{P:List α->Prop}(h:∀a b c d:α,P [a,b,c,d]):∀us:List α,us.length=4->P us
 |[a,b,c,d],_=>h a b c d
theorem us5 {α:Type}{P:List α->Prop}(h:∀a b c d e:α,P [a,b,c,d,e]):∀us:List α,us.length=5->P us
 |[a,b,c,d,e],_=>h a b c d e
theorem xy6 {l:PySem.W.OpenLaw}{w:World}{K:PySem.W.Frag}{h:Heap}{mg:Str->Option Value}{fa fL CN:Addr}(X:K.In h) (G:h.Ns mainGlobals mg) (hfa:mg "law" = some (.ref fa)){odL anL:Option Addr}{slL:Array (Option Value)}{ocL kVL dcL pmL cdL ctL:Value}{t0 t1 t2 t3:Tok}
  (aL:PySem.W.nsIn K mainGlobals "law" = some (some (.ref fL))) (lL:K.lookup fL=some ⟨ocL,odL,.func (PySem.W.fnOf "law" "law" (qi2 lLaw) (qf5 lLaw) (qa3 lLaw) .none kVL dcL pmL anL cdL ctL),slL⟩) (cL:PySem.W.codeIn K cdL "law" = true) (kL:PySem.W.keepIn K (.ref fL)=true)
  (g0:PySem.W.nsIn K mainGlobals "FIRST" = some (some (.int 2 t0))) (g1:PySem.W.nsIn K mainGlobals "FULL" = some (some (.int 1 t1))) (g2:PySem.W.nsIn K mainGlobals "GREATEST_SIZE" = some (some (.int 12 t2))) (g3:PySem.W.nsIn K mainGlobals "MOST_LEAVES" = some (some (.int 2000 t3)))
  (d0:qc7 K "is_whole" qx3) (d1:qc7 K "is_plain" qM8) (d2:qc7 K "depths_of" q05) (d3:qc7 K "end_rows" sEnd) (d4:qc7 K "places_as_ended" qz1) (d5:qc7 K "is_size" q06) (d6:qc7 K "is_number" qu2) (d7:qc7 K "is_row" sRow) (d8:qc7 K "are_rows" q08) (d9:qc7 K "is_telling" qr9) (d10:qc7 K "is_shape" qE2) (d11:qc7 K "want_shape" qE3) (d12:qc7 K "is_address" q07) (d13:qc7 K "is_cell" q99) (d14:qc7 K "want_floor" qM9) (d15:qc7 K "want_address" qN0) (d16:qc7 K "want_cell" qn4) (d17:qc7 K "side_of" qR7) (d18:qc7 K "box_at" qN1) (d19:qc7 K "box_of" qN2) (d20:qc7 K "count_leaves" qu3) (d21:qc7 K "gather_leaves" qs0) (d22:qc7 K "want_leaves" qN3) (d23:qc7 K "want_coarse" qz2) (d24:qc7 K "leaves_of" qn5) (d25:qc7 K "least_far" qn6) (d26:qc7 K "seen_leaves" q09) (d27:qc7 K "inside" qp1) (d28:qc7 K "_law_pot" lPot) (d29:qc7 K "_law_digit" qq5) (d30:qc7 K "_law_cells" qE4) (d31:qc7 K "_law_box" lBox) (d32:qc7 K "_law_boxes" qE5) (d33:qc7 K "_law_meets" qx4) (d34:qc7 K "_law_has" lHas) (d35:qc7 K "_law_number" qj8) (d36:qc7 K "_law_shape" qN4) (d37:qc7 K "_law_leaf" q10) (d38:qc7 K "_law_near_box" xa0) (d39:qc7 K "_law_exchanged" q11) (d40:qc7 K "_law_cell_kind" qn7) (d41:qc7 K "_law_around" qu4) (d42:qc7 K "_law_due" lDue) (d43:qc7 K "_law_told" xa1)
  (z0:qb9 K "isinstance") (z1:qb9 K "int") (z2:qb9 K "bool") (z3:qb9 K "tuple") (z4:qb9 K "list") (z5:qb9 K "set") (z6:qb9 K "len") (z7:qb9 K "all") (z8:qb9 K "any") (z9:qb9 K "enumerate") (z10:qb9 K "range") (z11:qb9 K "max") (z12:qb9 K "min") (z13:qb9 K "abs") (z14:qb9 K "repr") (z15:qb9 K "str") (z16:qb9 K "sum") (z17:qb9 K "sorted")
  (xat:PySem.W.nsIn K mainGlobals "NotFull" = some (some (.ref CN)))
  (xex:PySem.W.excIn K CN bmV "ValueError.__new__" = true)
  (xm:PySem.W.exmOne K (.ref CN) (.ref CN)=some true) :
  ∃fd:FuncData,(∀(s:Shared) (v:Value),BindsTo s fd ⟨[v],[]⟩ [("_law_script",v)])/\∀base:Heap,K.In base->base.Ns mainGlobals mg->FnOk l.prog w K mg base CX0 21 fa fd ["_law_script"] (xf2 K):=by
 have e:=hfa.symm.trans (Zo X G aL);cases e;have nn:∀{x:Str},qb9 K x->mg x=none:=λz=>PySem.W.mg_none_of X G z;have B:Blt mg:=⟨nn z0,nn z1,nn z2,nn z3,nn z4,nn z5,nn z6,nn z7,nn z8,nn z9,nn z10,nn z11,nn z12⟩;have C:Blt2 mg:=⟨nn z13,nn z14,nn z15⟩;have T:Cst mg:=⟨⟨t0,Zo X G g0⟩,⟨t1,Zo X G g1⟩,⟨t2,Zo X G g2⟩⟩;have FL:=xf9 (st:=lLaw) lL cL kL;obtain⟨f0,fd0,a0,F0⟩:=d0;have h0:=Zo X G a0;have b0:=F0.binds (ps:=["thing"]) λ_ _ _ _ _ _=>us1 λ_=>rfl;obtain⟨f1,fd1,a1,F1⟩:=d1;have h1:=Zo X G a1;have b1:=F1.binds (ps:=["row"]) λ_ _ _ _ _ _=>us1 λ_=>rfl;obtain⟨f2,fd2,a2,F2⟩:=d2;have h2:=Zo X G a2;have b2:=F2.binds (ps:=["rows"]) λ_ _ _ _ _ _=>us1 λ_=>rfl;obtain⟨f3,fd3,a3,F3⟩:=d3;have h3:=Zo X G a3;have b3:=F3.binds (ps:=["rows", "number", "ended"]) λ_ _ _ _ _ _=>us3 λ_ _ _=>rfl;obtain⟨f4,fd4,a4,F4⟩:=d4;have h4:=Zo X G a4;have b4:=F4.binds (ps:=["rows", "top"]) λ_ _ _ _ _ _=>us2 λ_ _=>rfl;obtain⟨f5,fd5,a5,F5⟩:=d5;have h5:=Zo X G a5;have b5:=F5.binds (ps:=["thing"]) λ_ _ _ _ _ _=>us1 λ_=>rfl;obtain⟨f6,fd6,a6,F6⟩:=d6;have h6:=Zo X G a6;have b6:=F6.binds (ps:=["thing", "many"]) λ_ _ _ _ _ _=>us2 λ_ _=>rfl;obtain⟨f7,fd7,a7,F7⟩:=d7;have h7:=Zo X G a7;have b7:=F7.binds (ps:=["thing", "before"]) λ_ _ _ _ _ _=>us2 λ_ _=>rfl;obtain⟨f8,fd8,a8,F8⟩:=d8;have h8:=Zo X G a8;have b8:=F8.binds (ps:=["thing"]) λ_ _ _ _ _ _=>us1 λ_=>rfl;obtain⟨f9,fd9,a9,F9⟩:=d9;have h9:=Zo X G a9;have b9:=F9.binds (ps:=["thing"]) λ_ _ _ _ _ _=>us1 λ_=>rfl;obtain⟨f10,fd10,a10,F10⟩:=d10;have h10:=Zo X G a10;have b10:=F10.binds (ps:=["thing"]) λ_ _ _ _ _ _=>us1 λ_=>rfl;obtain⟨f11,fd11,a11,F11⟩:=d11;have h11:=Zo X G a11;have b11:=F11.binds (ps:=["shape"]) λ_ _ _ _ _ _=>us1 λ_=>rfl;obtain⟨f12,fd12,a12,F12⟩:=d12;have h12:=Zo X G a12;have b12:=F12.binds (ps:=["n", "thing"]) λ_ _ _ _ _ _=>us2 λ_ _=>rfl;obtain⟨f13,fd13,a13,F13⟩:=d13;have h13:=Zo X G a13;have b13:=F13.binds (ps:=["n", "row", "column"]) λ_ _ _ _ _ _=>us3 λ_ _ _=>rfl;obtain⟨f14,fd14,a14,F14⟩:=d14;have h14:=Zo X G a14;have b14:=F14.binds (ps:=["n"]) λ_ _ _ _ _ _=>us1 λ_=>rfl;obtain⟨f15,fd15,a15,F15⟩:=d15;have h15:=Zo X G a15;have b15:=F15.binds (ps:=["n", "address"]) λ_ _ _ _ _ _=>us2 λ_ _=>rfl;obtain⟨f16,fd16,a16,F16⟩:=d16;have h16:=Zo X G a16;have b16:=F16.binds (ps:=["n", "row", "column"]) λ_ _ _ _ _ _=>us3 λ_ _ _=>rfl;obtain⟨f17,fd17,a17,F17⟩:=d17;have h17:=Zo X G a17;have b17:=F17.binds (ps:=["n"]) λ_ _ _ _ _ _=>us1 λ_=>rfl;obtain⟨f18,fd18,a18,F18⟩:=d18;have h18:=Zo X G a18;have b18:=F18.binds (ps:=["n", "address"]) λ_ _ _ _ _ _=>us2 λ_ _=>rfl;obtain⟨f19,fd19,a19,F19⟩:=d19;have h19:=Zo X G a19;have b19:=F19.binds (ps:=["n", "address"]) λ_ _ _ _ _ _=>us2 λ_ _=>rfl;obtain⟨f20,fd20,a20,F20⟩:=d20;have h20:=Zo X G a20;have b20:=F20.binds (ps:=["top", "rows"]) λ_ _ _ _ _ _=>us2 λ_ _=>rfl;obtain⟨f21,fd21,a21,F21⟩:=d21;have h21:=Zo X G a21;have b21:=F21.binds (ps:=["rows", "number", "address", "leaves"]) λ_ _ _ _ _ _=>us4 λ_ _ _ _=>rfl;obtain⟨f22,fd22,a22,F22⟩:=d22;have h22:=Zo X G a22;have b22:=F22.binds (ps:=["shape", "most"]) λ_ _ _ _ _ _=>us2 λ_ _=>rfl;obtain⟨f23,fd23,a23,F23⟩:=d23;have h23:=Zo X G a23;have b23:=F23.binds (ps:=["shape"]) λ_ _ _ _ _ _=>us1 λ_=>rfl;obtain⟨f24,fd24,a24,F24⟩:=d24;have h24:=Zo X G a24;have b24:=F24.binds (ps:=["shape"]) λ_ _ _ _ _ _=>us1 λ_=>rfl;obtain⟨f25,fd25,a25,F25⟩:=d25;have h25:=Zo X G a25;have b25:=F25.binds (ps:=["row", "column", "box"]) λ_ _ _ _ _ _=>us3 λ_ _ _=>rfl;obtain⟨f26,fd26,a26,F26⟩:=d26;have h26:=Zo X G a26;have b26:=F26.binds (ps:=["shape", "row", "column"]) λ_ _ _ _ _ _=>us3 λ_ _ _=>rfl;obtain⟨f27,fd27,a27,F27⟩:=d27;have h27:=Zo X G a27;have b27:=F27.binds (ps:=["shape", "row", "column"]) λ_ _ _ _ _ _=>us3 λ_ _ _=>rfl;obtain⟨f28,fd28,a28,F28⟩:=d28;have h28:=Zo X G a28;have b28:=F28.binds (ps:=["_law_script", "_law_k"]) λ_ _ _ _ _ _=>us2 λ_ _=>rfl;obtain⟨f29,fd29,a29,F29⟩:=d29;have h29:=Zo X G a29;have b29:=F29.binds (ps:=["_law_pot_here", "_law_many"]) λ_ _ _ _ _ _=>us2 λ_ _=>rfl;obtain⟨f30,fd30,a30,F30⟩:=d30;have h30:=Zo X G a30;have b30:=F30.binds (ps:=["_law_pot_here", "_law_n"]) λ_ _ _ _ _ _=>us2 λ_ _=>rfl;obtain⟨f31,fd31,a31,F31⟩:=d31;have h31:=Zo X G a31;have b31:=F31.binds (ps:=["_law_pot_here", "_law_n", "_law_most"]) λ_ _ _ _ _ _=>us3 λ_ _ _=>rfl;obtain⟨f32,fd32,a32,F32⟩:=d32;have h32:=Zo X G a32;have b32:=F32.binds (ps:=["_law_pot_here", "_law_n"]) λ_ _ _ _ _ _=>us2 λ_ _=>rfl;obtain⟨f33,fd33,a33,F33⟩:=d33;have h33:=Zo X G a33;have b33:=F33.binds (ps:=["_law_box_here", "_law_row", "_law_column", "_law_side"]) λ_ _ _ _ _ _=>us4 λ_ _ _ _=>rfl;obtain⟨f34,fd34,a34,F34⟩:=d34;have h34:=Zo X G a34;have b34:=F34.binds (ps:=["_law_box_here", "_law_row", "_law_column", "_law_side"]) λ_ _ _ _ _ _=>us4 λ_ _ _ _=>rfl;obtain⟨f35,fd35,a35,F35⟩:=d35;have h35:=Zo X G a35;have b35:=F35.binds (ps:=["_law_rows", "_law_boxes_here", "_law_row", "_law_column", "_law_side"]) λ_ _ _ _ _ _=>us5 λ_ _ _ _ _=>rfl;obtain⟨f36,fd36,a36,F36⟩:=d36;have h36:=Zo X G a36;have b36:=F36.binds (ps:=["_law_n", "_law_boxes_here"]) λ_ _ _ _ _ _=>us2 λ_ _=>rfl;obtain⟨f37,fd37,a37,F37⟩:=d37;have h37:=Zo X G a37;have b37:=F37.binds (ps:=["_law_told_here", "_law_row", "_law_column"]) λ_ _ _ _ _ _=>us3 λ_ _ _=>rfl;obtain⟨f38,fd38,a38,F38⟩:=d38;have h38:=Zo X G a38;have b38:=F38.binds (ps:=["_law_pot_here", "_law_boxes_here", "_law_n"]) λ_ _ _ _ _ _=>us3 λ_ _ _=>rfl;obtain⟨f39,fd39,a39,F39⟩:=d39;have h39:=Zo X G a39;have b39:=F39.binds (ps:=["_law_told_here"]) λ_ _ _ _ _ _=>us1 λ_=>rfl;obtain⟨f40,fd40,a40,F40⟩:=d40;have h40:=Zo X G a40;have b40:=F40.binds (ps:=["_law_told_here", "_law_row", "_law_column"]) λ_ _ _ _ _ _=>us3 λ_ _ _=>rfl;obtain⟨f41,fd41,a41,F41⟩:=d41;have h41:=Zo X G a41;have b41:=F41.binds (ps:=["_law_row", "_law_column", "_law_far"]) λ_ _ _ _ _ _=>us3 λ_ _ _=>rfl;obtain⟨f42,fd42,a42,F42⟩:=d42;have h42:=Zo X G a42;have b42:=F42.binds (ps:=["_law_told_here", "_law_row", "_law_column"]) λ_ _ _ _ _ _=>us3 λ_ _ _=>rfl;obtain⟨f43,fd43,a43,F43⟩:=d43;have h43:=Zo X G a43;have b43:=F43.binds (ps:=["_law_told_here", "_law_row", "_law_column"]) λ_ _ _ _ _ _=>us3 λ_ _ _=>rfl;refine⟨PySem.W.fnOf "law" "law" (qi2 lLaw) (qf5 lLaw) (qa3 lLaw) .none kVL dcL pmL anL cdL ctL,λs v=>.of_eq rfl,λbase _ _=>?_⟩;have gSize:FnOk l.prog w K mg base CX0 2 _ _ _ _:=xl7 F5 B T h0 F0 b0;have gNum:FnOk l.prog w K mg base CX0 2 _ _ _ _:=q13 F6 B T h0 F0 b0;have gPl:∀d,FnOk l.prog w K mg base CX0 (d+2) _ _ _ (qz6 d):=λd=>q18 F4 B T h3 F3 b3 d;have gRow:FnOk l.prog w K mg base CX0 3 _ _ _ _:=xv4 F7 B h6 F6 b6 gNum;have gRows:FnOk l.prog w K mg base CX0 4 _ _ _ _:=xm3 F8 B h7 F7 b7 gRow;have gTell:FnOk l.prog w K mg base CX0 5 _ _ _ _:=qS0 F9 B h5 F5 b5 gSize h8 F8 b8 gRows h6 F6 b6 gNum h2 F2 b2;have gShape:FnOk l.prog w K mg base CX0 15 _ _ _ _:=xa7 F10 B T h9 F9 b9 gTell h1 F1 b1 h4 F4 b4 gPl;have gWant:FnOk l.prog w K mg base CX0 16 _ _ _ _:=xa8 F11 h10 F10 b10 gShape;have yA:mg "sum" = none:=nn z16;have hso:mg "sorted" = none:=nn z17;have hmo:∃t,mg "MOST_LEAVES" = some (.int 2000 t):=⟨t3,Zo X G g3⟩;have gAd:FnOk l.prog w K mg base CX0 2 _ _ _ _:=xm8 F12 B C.str;have gWA:FnOk l.prog w K mg base CX0 3 _ _ _ _:=xb9 F15 h12 F12 b12 gAd;have gCl:FnOk l.prog w K mg base CX0 2 _ _ _ _:=xn0 F13 B h0 F0 b0 h17 F17 b17;have gBA:FnOk l.prog w K mg base CX0 2 _ _ _ _:=xc0 F18 B h17 F17 b17;have gWF:FnOk l.prog w K mg base CX0 3 _ _ _ _:=xC0 F14 h5 F5 b5 gSize;have gWC:FnOk l.prog w K mg base CX0 3 _ _ _ _:=xC1 F16 h13 F13 b13 gCl;have gBO:FnOk l.prog w K mg base CX0 4 _ _ _ _:=xC2 F19 h14 F14 b14 gWF h15 F15 b15 gWA h18 F18 b18 gBA;have gGL:FnOk l.prog w K mg base CX0 13 _ _ _ (spGL 12):=xB7 F21 T C.str B.enum T.full h21 b21 12;have gCo:FnOk l.prog w K mg base CX0 1 _ _ _ _:=xB3 F20 yA;have gWL:FnOk l.prog w K mg base CX0 2 _ _ _ _:=xB4 F22 h20 F20 b20 gCo;have gCs:FnOk l.prog w K mg base CX0 3 _ _ _ _:=xB5 F23 hmo h22 F22 b22 gWL;have gLO:FnOk l.prog w K mg base CX0 17 _ _ _ _:=xC3 F24 h11 F11 b11 gWant h23 F23 b23 gCs h21 F21 b21 gGL;have gLF:FnOk l.prog w K mg base CX0 1 _ _ _ _:=xC4 F25 B;have gSL:FnOk l.prog w K mg base CX0 18 _ _ _ _:=xC5 F26 h11 F11 b11 gWant h16 F16 b16 gWC h24 F24 b24 gLO h25 F25 b25 gLF h19 F19 b19 gBO;have EC:Nfl K mg CN:=⟨Zo X G xat,xex⟩;have gIn:FnOk l.prog w K mg base (CX1 l.prog w) 19 _ _ _ _:=xC6 F27 B EC h17 F17 b17 h26 F26 b26 gSL;have gBx:FnOk l.prog w K mg base CX0 3 _ _ _ _:=xe7 F32 B h29 F29 b29 h30 F30 b30 h31 F31 b31;have gBS:FnOk l.prog w K mg base CX0 15 _ _ _ _:=xy4 F36 B h35 F35 b35 h33 F33 b33 h34 F34 b34;have gNr:FnOk l.prog w K mg base CX0 2 _ _ _ _:=xD4 F38 B h29 F29 b29;have gCk:FnOk l.prog w K mg base CX0 2 _ _ _ _:=xC7 F40 B h37 F37 b37;have gDu:FnOk l.prog w K mg base CX0 3 _ _ _ _:=xC9 F42 B hso h37 F37 b37 h40 F40 b40 gCk h41 F41 b41;have gTd:FnOk l.prog w K mg base CX0 20 _ _ _ _:=xD2 F43 EC xm h27 F27 b27 gIn;exact xy5 FL B C h28 F28 b28 h29 F29 b29 h32 F32 b32 gBx h36 F36 b36 gBS h38 F38 b38 gNr h39 F39 b39 h42 F42 b42 gDu h43 F43 b43 gTd
theorem walk {l:PySem.W.OpenLaw}{q:Program}{loose:List Str}{XP:(Str->Option Value)->Heap->Prop}{YP:World->Heap->Prop}{d:DefRec}{K:Params->PySem.W.Frag}(hn:l.most=some 63) (hdf:d.params.defaults=[])
  (hY:∀(w:World) (h:Heap),YP w h->(K w.params).In h)
  (F:∀(w:World) (mg:Str->Option Value) (fa:Addr) (h:Heap),(K w.params).In h->h.Ns mainGlobals mg->mg d.name=some (.ref fa) ->
   ∃fd:FuncData,(∀(s:Shared) (u:Value),BindsTo s fd ⟨[u],[]⟩ [("_law_script",u)])/\∀base:Heap,(K w.params).In base->base.Ns mainGlobals mg->FnOk l.prog w (K w.params) mg base CX0 21 fa fd ["_law_script"] (xf2 (K w.params))) :
  PySem.W.WalkO q loose XP YP l.row.toRowW d [] (λf vs=>PySem.call f vs):=
 L2.xj8 (n:=63) (k:=21) (x:= "_law_script") (CX:=λ_=>CX0) (sp:=λw=>xf2 (K w.params)) hn (by decide) hdf ⟨rfl,by decide,by decide,rfl⟩ hY F (λ_ _ a ns hl _ hS=>⟨a,ns,rfl,hS,hl,λ_=>rfl⟩) λ_ _ _ _ _ z=>z
end Pr
open PySem PySem.W PyProof.Rows
set_option maxRecDepth 100000 in
set_option maxHeartbeats 0 in
theorem PySem.Challenge.cw_quarterfold_k55_inside_by_cells_holds : PySem.Challenge.rw_quarterfold_k55_inside_by_cells.Holds := by
 w_on;o_law
 refine holds_open (q:=Hd.q0) (loose:=[]) (Xt:=Hd.X0) (XP:=XL Hd.q0 []) (YP:=Hook.says (kHook Hd.K0 Hd.as0 Hd.as_K)) (N:=Hd.N0) Hd.xy7
  (Hook.of (kHook Hd.K0 Hd.as0 Hd.as_K)) (Hook.keeps (kHook Hd.K0 Hd.as0 Hd.as_K)) (λs e=>xl_of s (Bool.and_eq_true_iff.mp e).1) XL.keeps
  (by rfl) (by rfl) (by rfl) (λs e=>recFacts_of (Bool.and_eq_true_iff.mp e).2)
  (by rfl) (by first|assumption|decide +kernel) (by decide +kernel) ⟨rfl,rfl,rfl,rfl,rfl,by decide +kernel⟩ ?hw ?hc
 case hw=>w_witness2
 k_fill
 refine Pr.walk (l:=PySem.Challenge.rw_quarterfold_k55_inside_by_cells) rfl rfl (λw h Y=>PySem.W.kIn_of Y) ?F
 case F=>
  intro w mg fa h KX G hmg;refine' Pr.xy6 KX G hmg ?aL ?lL ?cL ?kL ?gc0 ?gc1 ?gc2 ?gc3 ?d0 ?d1 ?d2 ?d3 ?d4 ?d5 ?d6 ?d7 ?d8 ?d9 ?d10 ?d11 ?d12 ?d13 ?d14 ?d15 ?d16 ?d17 ?d18 ?d19 ?d20 ?d21 ?d22 ?d23 ?d24 ?d25 ?d26 ?d27 ?d28 ?d29 ?d30 ?d31 ?d32 ?d33 ?d34 ?d35 ?d36 ?d37 ?d38 ?d39 ?d40 ?d41 ?d42 ?d43 ?z0 ?z1 ?z2 ?z3 ?z4 ?z5 ?z6 ?z7 ?z8 ?z9 ?z10 ?z11 ?z12 ?z13 ?z14 ?z15 ?z16 ?z17 ?xat ?xex ?xm
  (case aL=>k_is);(case lL=>k_is);(case cL=>k_is);(case kL=>k_is)
  (case gc0=>k_is)
  (case gc1=>k_is)
  (case gc2=>k_is)
  (case gc3=>k_is)
  (case z0=>unfold Pr.qb9;k_is)
  (case z1=>unfold Pr.qb9;k_is)
  (case z2=>unfold Pr.qb9;k_is)
  (case z3=>unfold Pr.qb9;k_is)
  (case z4=>unfold Pr.qb9;k_is)
  (case z5=>unfold Pr.qb9;k_is)
  (case z6=>unfold Pr.qb9;k_is)
  (case z7=>unfold Pr.qb9;k_is)
  (case z8=>unfold Pr.qb9;k_is)
  (case z9=>unfold Pr.qb9;k_is)
  (case z10=>unfold Pr.qb9;k_is)
  (case z11=>unfold Pr.qb9;k_is)
  (case z12=>unfold Pr.qb9;k_is)
  (case z13=>unfold Pr.qb9;k_is)
  (case z14=>unfold Pr.qb9;k_is)
  (case z15=>unfold Pr.qb9;k_is)
  (case z16=>unfold Pr.qb9;k_is)
  (case z17=>unfold Pr.qb9;k_is)
  (case xat=>k_is)
  (case xex=>first|k_exc|k_is)
  (case xm=>kts_exm)
  all_goals (refine' Pr.d_mk ?qa ?ql ?qc ?qk;(case qa=>k_is);(case ql=>k_is);(case qc=>k_is);(case qk=>k_is))
