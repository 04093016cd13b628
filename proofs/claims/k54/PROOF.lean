import PyProof.Rows.All
import Wide.All
import OpenK.AllK
import Wide.FinOn
import Lean
import PyProof.EqAt
import PyProof.EqKinds
import PyProof.TupleCall
import Open.Row
import PySem.SetOps
import PyProof.SetRoads
import PyProof.Rows.SetFrom
import PyProof.FactsAll.subtypes_4
import PyProof.WalksMore
import OpenK.KOwn
import PyProof.NeData
import PyProof.ReprRoads
import PyProof.WalksEnum
import PyProof.EnumMake
import PyProof.Rows.EnumRows
import KE.KTryMore
import KE.KIntText
import KE.KDictList
import PyProof.ConsumeS
import PyProof.ListRange
import PyProof.ListMulRoad
import PyProof.CompUse
import PyProof.CompFree
import PyProof.DictUpdate
import PyProof.Rows.TupDisplay
import PyProof.DictWalks
import PyProof.TupleOfGen
import KE.BitLaws
import PyProof.Draws
import PyProof.StrLawsChain
import KE.KxText
import PyProof.MaxThree
import PyProof.Rows.SortRunsK
import PyProof.Rows.SortShellK
import PyProof.Rows.SortKeyStr
import PyProof.Rows.SortWalk
import PyProof.Rows.StrInSeq
import PyProof.P3Eq
import PyProof.DictKinds
import PyProof.StrOps
import PyProof.TupleKey
import PyProof.SetKind
import PySem.Challenge.RW_quarterfold_k54_whole_nearest_on_great_f
set_option Elab.async false
set_option linter.all false
set_option maxRecDepth 100000
set_option maxHeartbeats 8000000
def Za:=@PySem.wpAny_bind
def Zb:=@PySem.wpAny_pure
def Zc:=@PySem.Heap.get?_push_of_some
def Zd:=@List.getElem?_eq_getElem
def Ze:=@Nat.le_refl
def Zf:=@PySem.Heap.get?_push_size
def Zg:=@List.getElem?_map
def Zh:=@List.length_map
def Zi:=@PySem.Heap.lt_size
def Zj:=@Option.map_eq_some_iff
def Zk:=@if_neg
def Zl:=@List.mem_cons_of_mem
def Zm:=@PyProof.Rows.wpS_bind
def Zn:=@decide_eq_false
def Zo:=@PySem.W.mg_of
def Zp:=@Nat.ne_of_lt
def Zq:=@Bool.false_eq_true
def Zr:=@List.mem_of_getElem?
def Zs:=@Bool.false_ne_true
def Zt:=@List.mem_cons
def Zu:=@decide_eq_true
def Zv:=@Nat.zero_le
def Zw:=@PyProof.Rows.wpS_pure
def Zx:=@if_pos
def Zy:=@List.map_cons
def Zz:=@List.length_append
def ZA:=@List.getD_eq_getElem?_getD
def ZB:=@Int.toNat_natCast
def ZC:=@List.mem_cons_self
def ZD:=@List.getElem?_append_left
def ZE:=@List.mem_iff_getElem
def ZF:=@Nat.le_trans
def ZG:=@List.size_toArray
def ZH:=@List.getElem?_append_right
def ZI:=@of_decide_eq_true
def ZJ:=@Array.length_toList
def ZK:=@PySem.wpAny_newObj_type
def ZL:=@getElem?_pos
def ZM:=@PySem.wpAny_ite_split
def ZN:=@PyProof.Rows.boot_max
def ZO:=@Option.some.inj
def ZP:=@Nat.lt_of_lt_of_le
def ZQ:=@PyProof.Rows.KeyOrd.kle_trans
def ZR:=@Nat.lt_succ_of_lt
def ZS:=@List.mem_append_right
def ZT:=@PySem.Heap.get?_update_self
def ZU:=@List.cons_lt_cons_iff
def ZV:=@PySem.Heap.size_push
def ZW:=@List.length_cons
def ZX:=@PySem.wpAny_holding
def ZY:=@PySem.wpAny_setState_of
def ZZ:=@if_false
def Z0:=@PySem.Heap.get?_update_other
def Z1:=@PySem.Around.under_plainId
def Z2:=@PySem.wpAny_callSpecial?_slot
def Z3:=@PySem.wpAny_call_entry
def Z4:=@PyProof.Rows.KeyOrd.kle_of_klt
def Z5:=@List.mem_append
def Z6:=@PyProof.Rows.boot_isinstance
def Z7:=@List.map_append
def Z8:=@PySem.Heap.SameBut.update
def Z9:=@PyProof.Rows.F.plain_set_update_loop
def Yb:=@Array.toList_append
def Yc:=@Nat.lt_irrefl
def Yd:=@PySem.wpAny_truthy_bool
def Ye:=@PySem.codeAny_builtin
def Yg:=@Bool.eq_false_iff
def Yh:=@PyProof.Rows.boot_min
def Yi:=@Nat.lt_succ_self
def Yj:=@of_decide_eq_false
def Yk:=@congrArg
def Yl:=@Array.getElem?_toList
def Ym:=@List.mem_map
def Yn:=@PyProof.Rows.boot_tuple
def Yo:=@List.append_assoc
def Yp:=@PySem.Obj.data_mapFields
def Yq:=@List.take_of_length_le
def Yr:=@Nat.le_add_right
def Ys:=@List.getElem_mem
def Yt:=@List.getElem?_eq_none
def Yu:=@Nat.pow_succ
def Yv:=@List.map_map
def Yw:=@List.mem_range
def Yx:=@PySem.lookup_relabel_local
def Yy:=@PySem.boot_len
def Yz:=@PySem.W.kia_one
def YA:=@PySem.plainId_quiet
def YB:=@List.exists_cons_of_length_eq_add_one
def YC:=@List.lookup_cons
def YD:=@List.filter_cons
def YE:=@PySem.wpAny_askSetting
def YF:=@PySem.wpAny_mono
def YG:=@PyProof.Rows.F.entry_set_update_loop
def YH:=@Bool.not_true
def YI:=@List.mem_filter
def YJ:=@List.nodup_cons
def YK:=@PySem.PassesOwn.never
def YL:=@PySem.F.slot_dict_keyiterator_next
def YM:=@PyProof.Rows.KeyOrd.kle_refl
def YN:=@List.all_eq_true
def YO:=@List.pairwise_append
def YQ:=@decide_eq_decide
def YR:=@PySem.F.plain_min_loop
def YS:=@List.filterMap_cons
def YT:=@List.append_nil
def YU:=@PySem.wpAny_field
def YV:=@List.cons.injEq
def YW:=@Nat.pow_pos
def YX:=@Array.getElem?_eq_getElem
def YY:=@List.take_append_drop
def YZ:=@PyProof.Rows.boot_int
def Y0:=@PySem.wpAny_pyIter_tuple
def Y1:=@Nat.lt_of_le_of_lt
def Y2:=@PySem.Paired.length
def Y3:=@Nat.mul_assoc
def Y4:=@forall_congr'
def Y5:=@PyProof.Rows.wpS_forRange
def Y6:=@PySem.wpAny_typeNameOfWhole_keyiter
def Y7:=@Nat.mul_le_mul_right
def Y8:=@PySem.wpAny_pyIter_list
def Y9:=@List.length_range
def Xa:=@Array.toList_push
def Xb:=@Bool.eq_iff_iff
def Xc:=@Nat.two_pow_pos
def Xd:=@PySem.wpAny_rule
def Xe:=@List.range_succ
def Xf:=@Int.natCast_add
def Xg:=@List.length_pos_iff
def Xh:=@List.map_congr_left
def Xi:=@PyProof.Rows.callWith_type1
def Xj:=@PySem.F.slot_tuple_iterator_next
def Xk:=@PySem.wpAny_setField
def Xl:=@List.pairwise_cons
def Xm:=@PySem.Obj.isFreed_of_fields
def Xn:=@PyProof.Rows.boot_abs
def Xo:=@List.pairwise_iff_getElem
def Xp:=@Nat.not_lt_zero
def Xq:=@if_true
def Xr:=@List.ext_getElem?
def Xs:=@Array.toList_extract
def Xu:=@Nat.succ_mul
def Xv:=@PySem.wpAny_attempt
def Xw:=@List.take_append_getElem
def Xx:=@PySem.F.slot_list_append
def Xy:=@PySem.F.type_list_append
def Xz:=@PySem.wpAny_typeNameOf_keyiter
def XA:=@PyProof.Rows.wpS_modify
def XB:=@PyProof.Rows.slot_tuple_getitem
def XC:=@Ne.symm
def XD:=@PySem.mem_of_lookup
def XE:=@List.getElem?_range
def XF:=@List.getElem_of_mem
def XG:=@List.reverse_append
def XH:=@List.length_take
def XI:=@PySem.wpAny_seqItems
def XJ:=@List.not_mem_nil
def XM:=@PySem.wpAny_isInstance
def XN:=@PySem.F.plainAttrs_list
def XO:=@List.lt_irrefl
def XQ:=@PySem.sizeLine_eq
def XR:=@Nat.le_of_lt
def XS:=@Nat.ne_of_gt
def XT:=@Nat.mul_comm
def XU:=@Nat.mod_lt
def XV:=@Int.emod_lt_of_pos
def XW:=@PySem.wpAny_setField_rec
def XX:=@List.mem_singleton
def XY:=@List.find?_cons
def XZ:=@Int.natCast_mul
def X1:=@List.any_cons
def X4:=@List.sum_cons
def X5:=@PySem.F.slot_enumerate_next
def X6:=@List.length_filter_le
def X7:=@List.nodup_append
def X8:=@PySem.Heap.SameBut.refl
def X9:=@List.mem_append_left
def Wa:=@Bool.false_and
def Wb:=@Nat.mul_add
def Wc:=@Array.toList_setIfInBounds
def Wd:=@Array.getElem?_eq_some_iff
def We:=@PySem.codeAny_call_builtin
def Wf:=@Nat.le_succ
def Wg:=@beq_iff_eq
def Wh:=@PySem.wpAny_fieldsOf
def Wi:=@Nat.pow_le_pow_right
def Wj:=@Int.le_refl
def Wk:=@Array.perm_iff_toList_perm
def Wl:=@Array.toList_reverse
def Wm:=@PySem.codeAny_mono
def Wn:=@PySem.wpAny_forIn_list
def Wo:=@List.any_eq_true
def Wp:=@List.take_length
def Wq:=@Int.zero_add
def Wr:=@List.drop_eq_getElem_cons
def Ws:=@Option.isSome_iff_exists
def Wt:=@PySem.AutoSeq1.wpAny_loadPart'
def Wu:=@PyProof.Rows.wpS_mono
def Wv:=@PyProof.Rows.KeyOrd.klt_of_klt_of_kle
def Ww:=@PySem.wpAny_passesOwn
def Wx:=@List.length_nil
def Wy:=@Int.emod_nonneg
def Wz:=@List.foldl_cons
def WA:=@PySem.wpAny_updateSeq
def WB:=@Int.natCast_nonneg
def WC:=@PySem.tupleKind_room_in1
def WD:=@List.filter_append
def WE:=@PySem.wpAny_tupleItemsOf
def WF:=@List.zip_cons_cons
def WG:=@PySem.wpAny_of_eq
def WH:=@List.pairwise_singleton
def WI:=@List.length_eq_zero_iff
def WJ:=@Bool.not_false
def WK:=@PySem.wpAny_storeSet_of
def WL:=@PySem.Obj.cls_mapFields
def WM:=@decide_eq_true_eq
def WN:=@PyProof.Rows.boot_list
def WO:=@PySem.wpAny_dictEntries
def WP:=@Array.getElem?_eq_none
def WQ:=@List.range_succ_eq_map
def WR:=@List.take_succ_eq_append_getElem
def WS:=@Bool.not_eq_true'
def WT:=@List.reverse_perm
def WU:=@PySem.Heap.get?_push_ne
def WV:=@PyProof.Rows.boot_all
def WW:=@PySem.wpAny_isOneOf_keyiter
def WX:=@Nat.add_sub_add_right
def WY:=@List.Perm.append_left
def WZ:=@PyProof.Rows.KeyOrd.not_klt_of_kle
def W0:=@PySem.builtinLookup_eq_fast
def W1:=@Nat.mod_eq_of_lt
def W2:=@PySem.Heap.size_update
def W3:=@PyProof.Rows.wpS_get
def W4:=@Array.mem_extract_iff_getElem
def W5:=@PySem.wpAny_letGo
def W6:=@Nat.pow_add
def W7:=@List.not_lt
def W8:=@PySem.codeAny_of_tree
def W9:=@Bool.or_eq_true
def Va:=@and_congr_right
def Vb:=@Array.getElem?_setIfInBounds
def Vc:=@beq_eq_false_iff_ne
def Vd:=@List.replicate_succ
def Ve:=@PySem.wpAny_setEntries_of
def Vf:=@PySem.wpAny_typeOf
def Vg:=@Nat.le_of_eq
def Vh:=@Nat.lt_trans
def Vi:=@Nat.zero_add
def Vj:=@Int.add_zero
def Vk:=@LawfulMonad.pure_bind
def Vl:=@List.mem_filterMap
def Vm:=@Int.fdiv_eq_ediv_of_nonneg
def Vn:=@PySem.wpAny_Call_Name_kw
def Vo:=@List.nodup_nil
def Vp:=@PySem.Code.quiet_builtin
def Vq:=@PySem.wpAny_runValue
def Vr:=@PySem.Walks.list
def Vs:=@List.take_zero
def Vt:=@PySem.wpAny_tryCatch
def Vu:=@PySem.isSubtype_type
def Vv:=@List.length_eraseIdx_of_lt
def Vw:=@Array.getElem?_eq_none_iff
def Vx:=@List.nodup_iff_pairwise_ne
def Vy:=@Nat.lt_of_mul_lt_mul_right
def Vz:=@PySem.F.plain_extend_loop
def VA:=@List.any_eq_false
def VB:=@Option.isSome_map
def VC:=@Nat.add_mul
def VD:=@Array.getElem_mem
def VE:=@PySem.Moved.trans
def VF:=@Nat.le_succ_of_le
def VG:=@Nat.lt_trichotomy
def VH:=@PySem.wpAny_pyIter_slot
def VI:=@Int.one_mul
def VJ:=@List.pairwise_map
def VL:=@List.Pairwise.imp
def VM:=@PySem.fits_of_scanBound
def VN:=@Prod.mk.injEq
def VO:=@Bool.and_eq_true
def VP:=@Nat.le_of_not_lt
def VQ:=@beq_self_eq_true
def VR:=@PySem.putSet_of
def VS:=@Int.natCast_ediv
def VT:=@Int.natCast_emod
def VU:=@PyProof.Rows.wpS_lift
def VV:=@Nat.le_of_not_le
def VW:=@Nat.succ.inj
def VX:=@List.map_nil
def VY:=@Nat.add_zero
def VZ:=@Nat.succ_pos
def V0:=@Nat.sub_self
def V1:=@bind_congr
def V2:=@List.of_mem_zip
def V3:=@List.forIn_cons
def V4:=@Nat.le_antisymm
def V5:=@Bool.and_false
def V6:=@or_false
def V7:=@and_true
def V8:=@List.drop_drop
theorem gS_{α:Type}{l:List α}{i:Nat}{a:α}(h:l[i]?=some a):∃h:i<l.length,l[i]=a:=List.getElem?_eq_some_iff.mp h
namespace L2
open PySem
def qh7 (s:Stmt):Arguments:=match s with
 |.FunctionDef _ a _ _ _ _ _ _ _ _=>a
 |_=>{ posonlyargs:=[],args:=[],vararg:=none,kwonlyargs:=[],kw_defaults:=[],kwarg:=none,defaults:=[] }
def qg7 (s:Stmt):List Stmt:=match s with
 |.FunctionDef _ _ b _ _ _ _ _ _ _=>b
 |_=>[]
def qa4 (s:Stmt):Scope:=match s with
 |.FunctionDef _ _ _ _ _ _ sc _ _ _=>sc
 |_=>{ kind:=.function,names:=[],isGenerator:=false,isCoroutine:=false }
end L2
namespace Pr
open PySem
def top (i:Nat):Stmt:=PySem.Challenge.pw_quarterfold_k54_whole_nearest_on_great_f.main.body.getD i (.Pass ⟨0,0,0,0⟩)
end Pr
namespace Hd
open PySem PySem.W
abbrev pw:Program:=PySem.Challenge.pw_quarterfold_k54_whole_nearest_on_great_f
abbrev u0_:Value:=.str "quarterfold.floors" 332
abbrev u1_:Value:=.str "law_quarterfold_k54_whole_nearest_on_great_f" 531
abbrev u2_:Value:=.str "quarterfold.tellings" 410
abbrev u3_:Value:=.str "quarterfold.rows" 287
abbrev u4_:Value:=.str "quarterfold.leaves" 455
def kh (P:Params) (x:Str):Int:=PySem.PyData.keyHash P x
def oF (n:Str) (st:Stmt) (m:Value) (c:Nat):Obj:=⟨.type "function",none,.func (fnOf n n (L2.qh7 st) (L2.qg7 st) (L2.qa4 st) .none .none .none m none (.ref c) .none),#[]⟩
def oT (n q:Str) (st:Stmt):Obj:=⟨.none,none,.func { fnOf n q (L2.qh7 st) (L2.qg7 st) (L2.qa4 st) .none .none .none .none none .none .none with globals:=0 },#[]⟩
def oC (n q:Str) (t1 t2 t3 l a r1 r2:Nat) (y z:Value) (r6 k t5:Nat):Obj:=⟨.type "code",none,.fields #[.str n t1,.str q t2,.str "/claim/cut.py" t3,.int l 0,.int a 0,.int 0 0,.int 0 0,.int 3 0,.ref r1,.bool true,.int 181 0,.ref r2,.none,y,z,.ref r6,.int k 0,.int l 0,.str "/claim/cut.py" t5],#[]⟩
abbrev e0_:PySem.Obj:=⟨.type "tuple",none,(.seq #[] 0),#[]⟩
abbrev e1_:PySem.Obj:=⟨.none,none,(.fields #[]),#[]⟩
abbrev e2_ (a:Array PySem.Value):PySem.Obj:=⟨.type "tuple",none,(.seq a 0),#[]⟩
abbrev e3_ (P:Params) (x:Str) (n:Tok) (v:Value):DictEntry:=⟨kh P x,.str x n,v⟩
def K0 (P:Params):Frag:=
(nat_lit 2,⟨.none,none,(.dict #[] 0),#[]⟩) ::
(nat_lit 3,⟨.type "dict",none,(.dict #[e3_ P "__name__" 165 (.str "law_quarterfold_k54_whole_nearest_on_great_f" 531),e3_ P "__doc__" 166 .none,e3_ P "__package__" 167 .none,e3_ P "__loader__" 168 (.builtin "__main__.__loader__#opaque"),e3_ P "__spec__" 169 .none,e3_ P "__annotations__" 170 (.ref 6),e3_ P "__builtins__" 171 (.ref 4),e3_ P "__file__" 173 (.str "/claim/cut.py" 172),e3_ P "__cached__" 174 .none,e3_ P "FloorError" 206 (.ref 24),e3_ P "NoFloor" 222 (.ref 37),e3_ P "NoAddress" 238 (.ref 49),e3_ P "NoCell" 254 (.ref 61),e3_ P "NoShape" 270 (.ref 73),e3_ P "TooMany" 286 (.ref 85),e3_ P "FULL" 290 (.int 1 289),e3_ P "FIRST" 292 (.int 2 291),e3_ P "is_whole" 299 (.ref 94),e3_ P "is_plain" 306 (.ref 101),e3_ P "depths_of" 312 (.ref 106),e3_ P "end_rows" 322 (.ref 113),e3_ P "places_as_ended" 331 (.ref 120),e3_ P "GREATEST_SIZE" 335 (.int 12 334),e3_ P "is_size" 342 (.ref 127),e3_ P "is_address" 348 (.ref 132),e3_ P "is_cell" 358 (.ref 139),e3_ P "want_floor" 365 (.ref 146),e3_ P "want_address" 373 (.ref 153),e3_ P "want_cell" 382 (.ref 160),e3_ P "side_of" 389 (.ref 167),e3_ P "box_at" 401 (.ref 174),e3_ P "box_of" 409 (.ref 181),e3_ P "is_number" 419 (.ref 188),e3_ P "is_row" 425 (.ref 193),e3_ P "are_rows" 431 (.ref 198),e3_ P "is_telling" 441 (.ref 205),e3_ P "is_shape" 447 (.ref 210),e3_ P "want_shape" 454 (.ref 217),e3_ P "MOST_LEAVES" 458 (.int 2000 457),e3_ P "count_leaves" 464 (.ref 222),e3_ P "gather_leaves" 476 (.ref 229),e3_ P "want_leaves" 484 (.ref 236),e3_ P "want_coarse" 491 (.ref 243),e3_ P "leaves_of" 501 (.ref 250),e3_ P "least_far" 518 (.ref 257),e3_ P "seen_leaves" 524 (.ref 262),e3_ P "nearest" 530 (.ref 267),e3_ P "_law_pot" 541 (.ref 274),e3_ P "_law_digit" 550 (.ref 281),e3_ P "_law_cells" 556 (.ref 286),e3_ P "_law_box" 571 (.ref 293),e3_ P "_law_boxes" 577 (.ref 298),e3_ P "_law_meets" 587 (.ref 305),e3_ P "_law_has" 597 (.ref 312),e3_ P "_law_number" 603 (.ref 317),e3_ P "_law_shape" 613 (.ref 324),e3_ P "_law_leaf" 628 (.ref 331),e3_ P "_law_square" 640 (.ref 338),e3_ P "_law_near_box" 652 (.ref 345),e3_ P "_law_common" 662 (.ref 352),e3_ P "_law_ahead" 676 (.ref 359),e3_ P "_law_share" 682 (.ref 364),e3_ P "_law_right" 703 (.ref 371),e3_ P "law" 718 (.ref 378)] 64),#[]⟩) ::
(nat_lit 15,(e2_ #[.type "ValueError"])) ::
(nat_lit 22,e0_) ::
(nat_lit 23,⟨.type "dict",none,(.dict #[e3_ P "__module__" 196 (.str "quarterfold.errors" 187),e3_ P "__firstlineno__" 200 (.int 2 199),e3_ P "__static_attributes__" 201 (.ref 22),e3_ P "__weakref__" 203 (.ref 25),e3_ P "__doc__" 204 .none] 3),#[]⟩) ::
(nat_lit 24,⟨.type "type",none,(.cls ⟨"FloorError",[.type "ValueError"],[.ref 24,.type "ValueError",.type "Exception",.type "BaseException",.type "object"],23, "FloorError",true,[],[.ref 37,.ref 49,.ref 61,.ref 73,.ref 85],false,none,false⟩),#[some (.ref 15),none,some (.str "FloorError" 189),some (.str "FloorError" 197),some (.builtin "ValueError.__new__"),some (.bool true)]⟩) ::
(nat_lit 25,⟨.type "getset_descriptor",none,(.fields #[.str "__weakref__" 202,.ref 24,.builtin "ExceptionGroup.__weakref__",.none]),#[]⟩) ::
(nat_lit 28,(e2_ #[.ref 24])) ::
(nat_lit 35,e0_) ::
(nat_lit 36,⟨.type "dict",none,(.dict #[e3_ P "__module__" 214 (.str "quarterfold.errors" 187),e3_ P "__firstlineno__" 218 (.int 4 217),e3_ P "__static_attributes__" 219 (.ref 35),e3_ P "__doc__" 220 .none] 2),#[]⟩) ::
(nat_lit 37,⟨.type "type",none,(.cls ⟨"NoFloor",[.ref 24],[.ref 37,.ref 24,.type "ValueError",.type "Exception",.type "BaseException",.type "object"],36, "NoFloor",true,[],[],false,none,false⟩),#[some (.ref 28),none,some (.str "NoFloor" 207),some (.str "NoFloor" 215),some (.builtin "ValueError.__new__"),some (.bool true)]⟩) ::
(nat_lit 40,(e2_ #[.ref 24])) ::
(nat_lit 47,e0_) ::
(nat_lit 48,⟨.type "dict",none,(.dict #[e3_ P "__module__" 230 (.str "quarterfold.errors" 187),e3_ P "__firstlineno__" 234 (.int 6 233),e3_ P "__static_attributes__" 235 (.ref 47),e3_ P "__doc__" 236 .none] 2),#[]⟩) ::
(nat_lit 49,⟨.type "type",none,(.cls ⟨"NoAddress",[.ref 24],[.ref 49,.ref 24,.type "ValueError",.type "Exception",.type "BaseException",.type "object"],48, "NoAddress",true,[],[],false,none,false⟩),#[some (.ref 40),none,some (.str "NoAddress" 223),some (.str "NoAddress" 231),some (.builtin "ValueError.__new__"),some (.bool true)]⟩) ::
(nat_lit 52,(e2_ #[.ref 24])) ::
(nat_lit 59,e0_) ::
(nat_lit 60,⟨.type "dict",none,(.dict #[e3_ P "__module__" 246 (.str "quarterfold.errors" 187),e3_ P "__firstlineno__" 250 (.int 8 249),e3_ P "__static_attributes__" 251 (.ref 59),e3_ P "__doc__" 252 .none] 2),#[]⟩) ::
(nat_lit 61,⟨.type "type",none,(.cls ⟨"NoCell",[.ref 24],[.ref 61,.ref 24,.type "ValueError",.type "Exception",.type "BaseException",.type "object"],60, "NoCell",true,[],[],false,none,false⟩),#[some (.ref 52),none,some (.str "NoCell" 239),some (.str "NoCell" 247),some (.builtin "ValueError.__new__"),some (.bool true)]⟩) ::
(nat_lit 64,(e2_ #[.ref 24])) ::
(nat_lit 71,e0_) ::
(nat_lit 72,⟨.type "dict",none,(.dict #[e3_ P "__module__" 262 (.str "quarterfold.errors" 187),e3_ P "__firstlineno__" 266 (.int 10 265),e3_ P "__static_attributes__" 267 (.ref 71),e3_ P "__doc__" 268 .none] 2),#[]⟩) ::
(nat_lit 73,⟨.type "type",none,(.cls ⟨"NoShape",[.ref 24],[.ref 73,.ref 24,.type "ValueError",.type "Exception",.type "BaseException",.type "object"],72, "NoShape",true,[],[],false,none,false⟩),#[some (.ref 64),none,some (.str "NoShape" 255),some (.str "NoShape" 263),some (.builtin "ValueError.__new__"),some (.bool true)]⟩) ::
(nat_lit 76,(e2_ #[.ref 24])) ::
(nat_lit 83,e0_) ::
(nat_lit 84,⟨.type "dict",none,(.dict #[e3_ P "__module__" 278 (.str "quarterfold.errors" 187),e3_ P "__firstlineno__" 282 (.int 12 281),e3_ P "__static_attributes__" 283 (.ref 83),e3_ P "__doc__" 284 .none] 2),#[]⟩) ::
(nat_lit 85,⟨.type "type",none,(.cls ⟨"TooMany",[.ref 24],[.ref 85,.ref 24,.type "ValueError",.type "Exception",.type "BaseException",.type "object"],84, "TooMany",true,[],[],false,none,false⟩),#[some (.ref 76),none,some (.str "TooMany" 271),some (.str "TooMany" 279),some (.builtin "ValueError.__new__"),some (.bool true)]⟩) ::
(nat_lit 88,e0_) ::
(nat_lit 90,(e2_ #[.str "thing" 296])) ::
(nat_lit 91,e0_) ::
(nat_lit 93,oC "is_whole" "is_whole" 293 294 295 17 1 88 89 (.ref 90) (.ref 91) 92 297 298) ::
(nat_lit 94,oF "is_whole" (Pr.top 10) u3_ 93) ::
(nat_lit 95,e0_) ::
(nat_lit 97,(e2_ #[.str "row" 303])) ::
(nat_lit 98,e0_) ::
(nat_lit 100,oC "is_plain" "is_plain" 300 301 302 19 1 95 96 (.ref 97) (.ref 98) 99 304 305) ::
(nat_lit 101,oF "is_plain" (Pr.top 11) u3_ 100) ::
(nat_lit 102,e0_) ::
(nat_lit 105,oC "depths_of" "depths_of" 307 308 309 21 1 102 103 .none .none 104 310 311) ::
(nat_lit 106,oF "depths_of" (Pr.top 12) u3_ 105) ::
(nat_lit 107,e0_) ::
(nat_lit 109,(e2_ #[.str "rows" 316,.str "number" 317,.str "ended" 318,.str "quarter" 319])) ::
(nat_lit 110,e0_) ::
(nat_lit 112,oC "end_rows" "end_rows" 313 314 315 26 3 107 108 (.ref 109) (.ref 110) 111 320 321) ::
(nat_lit 113,oF "end_rows" (Pr.top 13) u3_ 112) ::
(nat_lit 114,e0_) ::
(nat_lit 116,(e2_ #[.str "rows" 326,.str "top" 327,.str "ended" 328])) ::
(nat_lit 117,e0_) ::
(nat_lit 119,oC "places_as_ended" "places_as_ended" 323 324 325 32 2 114 115 (.ref 116) (.ref 117) 118 329 330) ::
(nat_lit 120,oF "places_as_ended" (Pr.top 14) u3_ 119) ::
(nat_lit 121,e0_) ::
(nat_lit 123,(e2_ #[.str "thing" 339])) ::
(nat_lit 124,e0_) ::
(nat_lit 126,oC "is_size" "is_size" 336 337 338 38 1 121 122 (.ref 123) (.ref 124) 125 340 341) ::
(nat_lit 127,oF "is_size" (Pr.top 17) u0_ 126) ::
(nat_lit 128,e0_) ::
(nat_lit 131,oC "is_address" "is_address" 343 344 345 40 2 128 129 .none .none 130 346 347) ::
(nat_lit 132,oF "is_address" (Pr.top 18) u0_ 131) ::
(nat_lit 133,e0_) ::
(nat_lit 135,(e2_ #[.str "n" 352,.str "row" 353,.str "column" 354,.str "side" 355])) ::
(nat_lit 136,e0_) ::
(nat_lit 138,oC "is_cell" "is_cell" 349 350 351 42 3 133 134 (.ref 135) (.ref 136) 137 356 357) ::
(nat_lit 139,oF "is_cell" (Pr.top 19) u0_ 138) ::
(nat_lit 140,e0_) ::
(nat_lit 142,(e2_ #[.str "n" 362])) ::
(nat_lit 143,e0_) ::
(nat_lit 145,oC "want_floor" "want_floor" 359 360 361 45 1 140 141 (.ref 142) (.ref 143) 144 363 364) ::
(nat_lit 146,oF "want_floor" (Pr.top 20) u0_ 145) ::
(nat_lit 147,e0_) ::
(nat_lit 149,(e2_ #[.str "n" 369,.str "address" 370])) ::
(nat_lit 150,e0_) ::
(nat_lit 152,oC "want_address" "want_address" 366 367 368 48 2 147 148 (.ref 149) (.ref 150) 151 371 372) ::
(nat_lit 153,oF "want_address" (Pr.top 21) u0_ 152) ::
(nat_lit 154,e0_) ::
(nat_lit 156,(e2_ #[.str "n" 377,.str "row" 378,.str "column" 379])) ::
(nat_lit 157,e0_) ::
(nat_lit 159,oC "want_cell" "want_cell" 374 375 376 51 3 154 155 (.ref 156) (.ref 157) 158 380 381) ::
(nat_lit 160,oF "want_cell" (Pr.top 22) u0_ 159) ::
(nat_lit 161,e0_) ::
(nat_lit 163,(e2_ #[.str "n" 386])) ::
(nat_lit 164,e0_) ::
(nat_lit 166,oC "side_of" "side_of" 383 384 385 54 1 161 162 (.ref 163) (.ref 164) 165 387 388) ::
(nat_lit 167,oF "side_of" (Pr.top 23) u0_ 166) ::
(nat_lit 168,e0_) ::
(nat_lit 170,(e2_ #[.str "n" 393,.str "address" 394,.str "row" 395,.str "column" 396,.str "side" 397,.str "figure" 398])) ::
(nat_lit 171,e0_) ::
(nat_lit 173,oC "box_at" "box_at" 390 391 392 56 2 168 169 (.ref 170) (.ref 171) 172 399 400) ::
(nat_lit 174,oF "box_at" (Pr.top 24) u0_ 173) ::
(nat_lit 175,e0_) ::
(nat_lit 177,(e2_ #[.str "n" 405,.str "address" 406])) ::
(nat_lit 178,e0_) ::
(nat_lit 180,oC "box_of" "box_of" 402 403 404 64 2 175 176 (.ref 177) (.ref 178) 179 407 408) ::
(nat_lit 181,oF "box_of" (Pr.top 25) u0_ 180) ::
(nat_lit 182,e0_) ::
(nat_lit 184,(e2_ #[.str "thing" 415,.str "many" 416])) ::
(nat_lit 185,e0_) ::
(nat_lit 187,oC "is_number" "is_number" 412 413 414 69 2 182 183 (.ref 184) (.ref 185) 186 417 418) ::
(nat_lit 188,oF "is_number" (Pr.top 27) u2_ 187) ::
(nat_lit 189,e0_) ::
(nat_lit 192,oC "is_row" "is_row" 420 421 422 71 2 189 190 .none .none 191 423 424) ::
(nat_lit 193,oF "is_row" (Pr.top 28) u2_ 192) ::
(nat_lit 194,e0_) ::
(nat_lit 197,oC "are_rows" "are_rows" 426 427 428 75 1 194 195 .none .none 196 429 430) ::
(nat_lit 198,oF "are_rows" (Pr.top 29) u2_ 197) ::
(nat_lit 199,e0_) ::
(nat_lit 201,(e2_ #[.str "thing" 435,.str "n" 436,.str "top" 437,.str "rows" 438])) ::
(nat_lit 202,e0_) ::
(nat_lit 204,oC "is_telling" "is_telling" 432 433 434 77 1 199 200 (.ref 201) (.ref 202) 203 439 440) ::
(nat_lit 205,oF "is_telling" (Pr.top 30) u2_ 204) ::
(nat_lit 206,e0_) ::
(nat_lit 209,oC "is_shape" "is_shape" 442 443 444 84 1 206 207 .none .none 208 445 446) ::
(nat_lit 210,oF "is_shape" (Pr.top 31) u2_ 209) ::
(nat_lit 211,e0_) ::
(nat_lit 213,(e2_ #[.str "shape" 451])) ::
(nat_lit 214,e0_) ::
(nat_lit 216,oC "want_shape" "want_shape" 448 449 450 91 1 211 212 (.ref 213) (.ref 214) 215 452 453) ::
(nat_lit 217,oF "want_shape" (Pr.top 32) u2_ 216) ::
(nat_lit 218,e0_) ::
(nat_lit 221,oC "count_leaves" "count_leaves" 459 460 461 96 2 218 219 .none .none 220 462 463) ::
(nat_lit 222,oF "count_leaves" (Pr.top 35) u4_ 221) ::
(nat_lit 223,e0_) ::
(nat_lit 225,(e2_ #[.str "rows" 468,.str "number" 469,.str "address" 470,.str "leaves" 471,.str "at" 472,.str "quarter" 473])) ::
(nat_lit 226,e0_) ::
(nat_lit 228,oC "gather_leaves" "gather_leaves" 465 466 467 101 4 223 224 (.ref 225) (.ref 226) 227 474 475) ::
(nat_lit 229,oF "gather_leaves" (Pr.top 36) u4_ 228) ::
(nat_lit 230,e0_) ::
(nat_lit 232,(e2_ #[.str "shape" 480,.str "most" 481])) ::
(nat_lit 233,e0_) ::
(nat_lit 235,oC "want_leaves" "want_leaves" 477 478 479 107 2 230 231 (.ref 232) (.ref 233) 234 482 483) ::
(nat_lit 236,oF "want_leaves" (Pr.top 37) u4_ 235) ::
(nat_lit 237,e0_) ::
(nat_lit 239,(e2_ #[.str "shape" 488])) ::
(nat_lit 240,e0_) ::
(nat_lit 242,oC "want_coarse" "want_coarse" 485 486 487 110 1 237 238 (.ref 239) (.ref 240) 241 489 490) ::
(nat_lit 243,oF "want_coarse" (Pr.top 38) u4_ 242) ::
(nat_lit 244,e0_) ::
(nat_lit 246,(e2_ #[.str "shape" 495,.str "top" 496,.str "rows" 497,.str "leaves" 498])) ::
(nat_lit 247,e0_) ::
(nat_lit 249,oC "leaves_of" "leaves_of" 492 493 494 112 1 244 245 (.ref 246) (.ref 247) 248 499 500) ::
(nat_lit 250,oF "leaves_of" (Pr.top 39) u4_ 249) ::
(nat_lit 251,e0_) ::
(nat_lit 253,(e2_ #[.str "row" 507,.str "column" 508,.str "box" 509,.str "first_row" 510,.str "first_column" 511,.str "side" 512,.str "above" 513,.str "left" 514,.str "far" 515])) ::
(nat_lit 254,e0_) ::
(nat_lit 256,oC "least_far" "least_far" 504 505 506 120 3 251 252 (.ref 253) (.ref 254) 255 516 517) ::
(nat_lit 257,oF "least_far" (Pr.top 41) (.str "quarterfold.near" 502) 256) ::
(nat_lit 258,e0_) ::
(nat_lit 261,oC "seen_leaves" "seen_leaves" 519 520 521 126 3 258 259 .none .none 260 522 523) ::
(nat_lit 262,oF "seen_leaves" (Pr.top 42) (.str "quarterfold.near" 502) 261) ::
(nat_lit 263,e0_) ::
(nat_lit 266,oC "nearest" "nearest" 525 526 527 131 3 263 264 .none .none 265 528 529) ::
(nat_lit 267,oF "nearest" (Pr.top 43) (.str "quarterfold.near" 502) 266) ::
(nat_lit 268,e0_) ::
(nat_lit 270,(e2_ #[.str "_law_script" 536,.str "_law_k" 537,.str "_law_cell" 538])) ::
(nat_lit 271,e0_) ::
(nat_lit 273,oC "_law_pot" "_law_pot" 533 534 535 139 2 268 269 (.ref 270) (.ref 271) 272 539 540) ::
(nat_lit 274,oF "_law_pot" (Pr.top 45) u1_ 273) ::
(nat_lit 275,e0_) ::
(nat_lit 277,(e2_ #[.str "_law_pot_here" 545,.str "_law_many" 546,.str "_law_digit_here" 547])) ::
(nat_lit 278,e0_) ::
(nat_lit 280,oC "_law_digit" "_law_digit" 542 543 544 144 2 275 276 (.ref 277) (.ref 278) 279 548 549) ::
(nat_lit 281,oF "_law_digit" (Pr.top 46) u1_ 280) ::
(nat_lit 282,e0_) ::
(nat_lit 285,oC "_law_cells" "_law_cells" 551 552 553 151 2 282 283 .none .none 284 554 555) ::
(nat_lit 286,oF "_law_cells" (Pr.top 47) u1_ 285) ::
(nat_lit 287,e0_) ::
(nat_lit 289,(e2_ #[.str "_law_pot_here" 560,.str "_law_n" 561,.str "_law_most" 562,.str "_law_side" 563,.str "_law_size" 564,.str "_law_row" 565,.str "_law_column" 566,.str "_law_high" 567,.str "_law_wide" 568])) ::
(nat_lit 290,e0_) ::
(nat_lit 292,oC "_law_box" "_law_box" 557 558 559 154 3 287 288 (.ref 289) (.ref 290) 291 569 570) ::
(nat_lit 293,oF "_law_box" (Pr.top 48) u1_ 292) ::
(nat_lit 294,e0_) ::
(nat_lit 297,oC "_law_boxes" "_law_boxes" 572 573 574 166 2 294 295 .none .none 296 575 576) ::
(nat_lit 298,oF "_law_boxes" (Pr.top 49) u1_ 297) ::
(nat_lit 299,e0_) ::
(nat_lit 301,(e2_ #[.str "_law_box_here" 581,.str "_law_row" 582,.str "_law_column" 583,.str "_law_side" 584])) ::
(nat_lit 302,e0_) ::
(nat_lit 304,oC "_law_meets" "_law_meets" 578 579 580 170 4 299 300 (.ref 301) (.ref 302) 303 585 586) ::
(nat_lit 305,oF "_law_meets" (Pr.top 50) u1_ 304) ::
(nat_lit 306,e0_) ::
(nat_lit 308,(e2_ #[.str "_law_box_here" 591,.str "_law_row" 592,.str "_law_column" 593,.str "_law_side" 594])) ::
(nat_lit 309,e0_) ::
(nat_lit 311,oC "_law_has" "_law_has" 588 589 590 174 4 306 307 (.ref 308) (.ref 309) 310 595 596) ::
(nat_lit 312,oF "_law_has" (Pr.top 51) u1_ 311) ::
(nat_lit 313,e0_) ::
(nat_lit 316,oC "_law_number" "_law_number" 598 599 600 178 5 313 314 .none .none 315 601 602) ::
(nat_lit 317,oF "_law_number" (Pr.top 52) u1_ 316) ::
(nat_lit 318,e0_) ::
(nat_lit 320,(e2_ #[.str "_law_n" 607,.str "_law_boxes_here" 608,.str "_law_rows" 609,.str "_law_top" 610])) ::
(nat_lit 321,e0_) ::
(nat_lit 323,oC "_law_shape" "_law_shape" 604 605 606 189 2 318 319 (.ref 320) (.ref 321) 322 611 612) ::
(nat_lit 324,oF "_law_shape" (Pr.top 53) u1_ 323) ::
(nat_lit 325,e0_) ::
(nat_lit 327,(e2_ #[.str "_law_told" 617,.str "_law_row" 618,.str "_law_column" 619,.str "_law_n" 620,.str "_law_number_here" 621,.str "_law_rows" 622,.str "_law_address" 623,.str "_law_k" 624,.str "_law_quarter" 625])) ::
(nat_lit 328,e0_) ::
(nat_lit 330,oC "_law_leaf" "_law_leaf" 614 615 616 193 3 325 326 (.ref 327) (.ref 328) 329 626 627) ::
(nat_lit 331,oF "_law_leaf" (Pr.top 54) u1_ 330) ::
(nat_lit 332,e0_) ::
(nat_lit 334,(e2_ #[.str "_law_n" 632,.str "_law_address" 633,.str "_law_row" 634,.str "_law_column" 635,.str "_law_side" 636,.str "_law_figure" 637])) ::
(nat_lit 335,e0_) ::
(nat_lit 337,oC "_law_square" "_law_square" 629 630 631 202 2 332 333 (.ref 334) (.ref 335) 336 638 639) ::
(nat_lit 338,oF "_law_square" (Pr.top 55) u1_ 337) ::
(nat_lit 339,e0_) ::
(nat_lit 341,(e2_ #[.str "_law_pot_here" 644,.str "_law_boxes_here" 645,.str "_law_n" 646,.str "_law_row" 647,.str "_law_column" 648,.str "_law_box_here" 649])) ::
(nat_lit 342,e0_) ::
(nat_lit 344,oC "_law_near_box" "_law_near_box" 641 642 643 211 3 339 340 (.ref 341) (.ref 342) 343 650 651) ::
(nat_lit 345,oF "_law_near_box" (Pr.top 56) u1_ 344) ::
(nat_lit 346,e0_) ::
(nat_lit 348,(e2_ #[.str "_law_box_here" 656,.str "_law_other" 657,.str "_law_high" 658,.str "_law_wide" 659])) ::
(nat_lit 349,e0_) ::
(nat_lit 351,oC "_law_common" "_law_common" 653 654 655 219 2 346 347 (.ref 348) (.ref 349) 350 660 661) ::
(nat_lit 352,oF "_law_common" (Pr.top 57) u1_ 351) ::
(nat_lit 353,e0_) ::
(nat_lit 355,(e2_ #[.str "_law_row" 666,.str "_law_column" 667,.str "_law_far" 668,.str "_law_place" 669,.str "_law_above" 670,.str "_law_first" 671,.str "_law_amid" 672,.str "_law_wide" 673])) ::
(nat_lit 356,e0_) ::
(nat_lit 358,oC "_law_ahead" "_law_ahead" 663 664 665 223 4 353 354 (.ref 355) (.ref 356) 357 674 675) ::
(nat_lit 359,oF "_law_ahead" (Pr.top 58) u1_ 358) ::
(nat_lit 360,e0_) ::
(nat_lit 363,oC "_law_share" "_law_share" 677 678 679 231 2 360 361 .none .none 362 680 681) ::
(nat_lit 364,oF "_law_share" (Pr.top 59) u1_ 363) ::
(nat_lit 365,e0_) ::
(nat_lit 367,(e2_ #[.str "_law_told" 686,.str "_law_row" 687,.str "_law_column" 688,.str "_law_some" 689,.str "_law_side" 690,.str "_law_far" 691,.str "_law_place" 692,.str "_law_leaves" 693,.str "_law_ahead_here" 694,.str "_law_many" 695,.str "_law_leaf_here" 696,.str "_law_first" 697,.str "_law_left" 698,.str "_law_wide" 699,.str "_law_share_here" 700])) ::
(nat_lit 368,e0_) ::
(nat_lit 370,oC "_law_right" "_law_right" 683 684 685 233 4 365 366 (.ref 367) (.ref 368) 369 701 702) ::
(nat_lit 371,oF "_law_right" (Pr.top 60) u1_ 370) ::
(nat_lit 372,e0_) ::
(nat_lit 374,(e2_ #[.str "_law_script" 707,.str "_law_k" 708,.str "_law_pot_here" 709,.str "_law_n" 710,.str "_law_boxes_here" 711,.str "_law_told" 712,.str "_law_turn" 713,.str "_law_row" 714,.str "_law_column" 715])) ::
(nat_lit 375,e0_) ::
(nat_lit 377,oC "law" "law" 704 705 706 253 1 372 373 (.ref 374) (.ref 375) 376 716 717) ::
(nat_lit 378,oF "law" (Pr.top 61) u1_ 377)::[]
def as0:List Addr:=[2,3,15,22,23,24,25,28,35,36,37,40,47,48,49,52,59,60,61,64,71,72,73,76,83,84,85,88,90,91,93,94,95,97,98,100,101,102,105,106,107,109,110,112,113,114,116,117,119,120,121,123,124,126,127,128,131,132,133,135,136,138,139,140,142,143,145,146,147,149,150,152,153,154,156,157,159,160,161,163,164,166,167,168,170,171,173,174,175,177,178,180,181,182,184,185,187,188,189,192,193,194,197,198,199,201,202,204,205,206,209,210,211,213,214,216,217,218,221,222,223,225,226,228,229,230,232,233,235,236,237,239,240,242,243,244,246,247,249,250,251,253,254,256,257,258,261,262,263,266,267,268,270,271,273,274,275,277,278,280,281,282,285,286,287,289,290,292,293,294,297,298,299,301,302,304,305,306,308,309,311,312,313,316,317,318,320,321,323,324,325,327,328,330,331,332,334,335,337,338,339,341,342,344,345,346,348,349,351,352,353,355,356,358,359,360,363,364,365,367,368,370,371,372,374,375,377,378]
def keep0:List Nat:=[1,2,3,4,5,6,8,9,10,11,12,13,14,16,17,18,19,20,21,22,23,24,25,27,28,29,30,31,32,34,35,36,37,38,39,41,42,43,45,46,47,48,49,50,51,52,53,54,55,56,57,58,59,60,61]
def N0:Nat:=5582
noncomputable def bx (P:Params) (a t l:Nat) (x:Str):List Obj:=[(e2_ #[.ref 24]),
⟨.type "builtin_function_or_method",none,(.fields #[.builtin "type.__prepare__",.type "type"]),#[]⟩,
⟨.type "dict",none,(.dict #[⟨kh P "__module__",.str "__module__" (t+7),.str "quarterfold.errors" 187⟩,⟨kh P "__qualname__",.str "__qualname__" (t+9),.str x (t+8)⟩,⟨kh P "__firstlineno__",.str "__firstlineno__" (t+11),.int l (t+10)⟩,⟨kh P "__static_attributes__",.str "__static_attributes__" (t+12),.ref (a+7)⟩] 4),#[]⟩,
e0_,
e1_,
⟨.type "code",none,(.fields #[.str x (t+2),.str x (t+3),.str "/claim/cut.py" (t+4),.int l 0,.int 0 0,.int 0 0,.int 0 0,.int 0 0,.ref (a+3),.bool false,.int 181 0,.ref (a+4),.none,.none,.none,.none,.int (t+5) 0,.int l 0,.str "/claim/cut.py" (t+6)]),#[]⟩,
⟨.type "frame",none,.plain,#[some (.ref (a+5)),some (.ref 3),some (.ref (a+2)),none,some (.str "quarterfold.errors" 187),none,some (.ref 0)]⟩,
e0_,
⟨.type "dict",none,(.dict #[⟨kh P "__module__",.str "__module__" (t+7),.str "quarterfold.errors" 187⟩,⟨kh P "__firstlineno__",.str "__firstlineno__" (t+11),.int l (t+10)⟩,⟨kh P "__static_attributes__",.str "__static_attributes__" (t+12),.ref (a+7)⟩,⟨kh P "__doc__",.str "__doc__" (t+13),.none⟩] 2),#[]⟩,
⟨.type "type",none,(.cls ⟨x,[.ref 24],[.ref (a+9),.ref 24,.type "ValueError",.type "Exception",.type "BaseException",.type "object"],(a+8),x,true,[],[],false,none,false⟩),#[some (.ref a),none,some (.str x t),some (.str x (t+8)),some (.builtin "ValueError.__new__"),some (.bool true)]⟩,
⟨.type "super",none,(.fields #[.ref (a+9),.ref (a+9),.ref (a+9)]),#[]⟩,
⟨.type "builtin_function_or_method",none,(.fields #[.builtin "object.__init_subclass__",.ref (a+9)]),#[]⟩]
noncomputable def ob (P:Params):List Obj:=[boot_o_0 P,boot_o_1 P,boot_o_2 P,⟨.type "dict",none,(.dict #[e3_ P "__name__" 165 (.str "quarterfold.leaves" 455),e3_ P "__doc__" 166 .none,e3_ P "__package__" 167 .none,e3_ P "__loader__" 168 (.builtin "__main__.__loader__#opaque"),e3_ P "__spec__" 169 .none,e3_ P "__annotations__" 170 (.ref 6),e3_ P "__builtins__" 171 (.ref 4),e3_ P "__file__" 173 (.str "/claim/cut.py" 172),e3_ P "__cached__" 174 .none,e3_ P "FloorError" 206 (.ref 24),e3_ P "NoFloor" 222 (.ref 37),e3_ P "NoAddress" 238 (.ref 49),e3_ P "NoCell" 254 (.ref 61),e3_ P "NoShape" 270 (.ref 73),e3_ P "TooMany" 286 (.ref 85),e3_ P "FULL" 290 (.int 1 289),e3_ P "FIRST" 292 (.int 2 291),e3_ P "is_whole" 299 (.ref 94),e3_ P "is_plain" 306 (.ref 101),e3_ P "depths_of" 312 (.ref 106),e3_ P "end_rows" 322 (.ref 113),e3_ P "places_as_ended" 331 (.ref 120),e3_ P "GREATEST_SIZE" 335 (.int 12 334),e3_ P "is_size" 342 (.ref 127),e3_ P "is_address" 348 (.ref 132),e3_ P "is_cell" 358 (.ref 139),e3_ P "want_floor" 365 (.ref 146),e3_ P "want_address" 373 (.ref 153),e3_ P "want_cell" 382 (.ref 160),e3_ P "side_of" 389 (.ref 167),e3_ P "box_at" 401 (.ref 174),e3_ P "box_of" 409 (.ref 181),e3_ P "is_number" 419 (.ref 188),e3_ P "is_row" 425 (.ref 193),e3_ P "are_rows" 431 (.ref 198),e3_ P "is_telling" 441 (.ref 205),e3_ P "is_shape" 447 (.ref 210),e3_ P "want_shape" 454 (.ref 217),e3_ P "MOST_LEAVES" 458 (.int 2000 457),e3_ P "count_leaves" 464 (.ref 222),e3_ P "gather_leaves" 476 (.ref 229),e3_ P "want_leaves" 484 (.ref 236),e3_ P "want_coarse" 491 (.ref 243)] 43),#[]⟩,boot_o_4 P,boot_o_5 P,boot_o_6 P,boot_o_7 P,boot_o_8 P,boot_o_9 P,boot_o_10 P,e0_,⟨.none,none,(.fields #[.int 2 0,.int 0 0,.ref 20,.int 4 0,.int 0 0,.ref 33,.int 6 0,.int 0 0,.ref 45,.int 8 0,.int 0 0,.ref 57,.int 10 0,.int 0 0,.ref 69,.int 12 0,.int 0 0,.ref 81,.int 17 0,.int 0 0,.ref 93,.int 19 0,.int 0 0,.ref 100,.int 21 0,.int 0 0,.ref 105,.int 26 0,.int 0 0,.ref 112,.int 32 0,.int 0 0,.ref 119,.int 38 0,.int 0 0,.ref 126,.int 40 0,.int 0 0,.ref 131,.int 42 0,.int 0 0,.ref 138,.int 45 0,.int 0 0,.ref 145,.int 48 0,.int 0 0,.ref 152,.int 51 0,.int 0 0,.ref 159,.int 54 0,.int 0 0,.ref 166,.int 56 0,.int 0 0,.ref 173,.int 64 0,.int 0 0,.ref 180,.int 69 0,.int 0 0,.ref 187,.int 71 0,.int 0 0,.ref 192,.int 75 0,.int 0 0,.ref 197,.int 77 0,.int 0 0,.ref 204,.int 84 0,.int 0 0,.ref 209,.int 91 0,.int 0 0,.ref 216,.int 96 0,.int 0 0,.ref 221,.int 101 0,.int 0 0,.ref 228,.int 107 0,.int 0 0,.ref 235,.int 110 0,.int 0 0,.ref 242]),#[]⟩,⟨.type "code",none,(.fields #[.str "<module>" 182,.str "<module>" 183,.str "/claim/cut.py" 184,.int 1 0,.int 0 0,.int 0 0,.int 0 0,.int 0 0,.ref 11,.bool false,.int 181 0,.ref 12,.none,.none,.none,.none,.int 185 0,.int 1 0,.str "/claim/cut.py" 186]),#[]⟩,⟨.type "frame",none,.plain,#[some (.ref 13),some (.ref 3),some (.ref 3),none,some (.str "__main__" 164),none,some (.ref 0)]⟩,(e2_ #[.type "ValueError"]),⟨.type "builtin_function_or_method",none,(.fields #[.builtin "type.__prepare__",.type "type"]),#[]⟩,⟨.type "dict",none,(.dict #[e3_ P "__module__" 196 (.str "quarterfold.errors" 187),e3_ P "__qualname__" 198 (.str "FloorError" 197),e3_ P "__firstlineno__" 200 (.int 2 199),e3_ P "__static_attributes__" 201 (.ref 22)] 4),#[]⟩,e0_,e1_,⟨.type "code",none,(.fields #[.str "FloorError" 191,.str "FloorError" 192,.str "/claim/cut.py" 193,.int 2 0,.int 0 0,.int 0 0,.int 0 0,.int 0 0,.ref 18,.bool false,.int 181 0,.ref 19,.none,.none,.none,.none,.int 194 0,.int 2 0,.str "/claim/cut.py" 195]),#[]⟩,⟨.type "frame",none,.plain,#[some (.ref 20),some (.ref 3),some (.ref 17),none,some (.str "quarterfold.errors" 187),none,some (.ref 0)]⟩,e0_,⟨.type "dict",none,(.dict #[e3_ P "__module__" 196 (.str "quarterfold.errors" 187),e3_ P "__firstlineno__" 200 (.int 2 199),e3_ P "__static_attributes__" 201 (.ref 22),e3_ P "__weakref__" 203 (.ref 25),e3_ P "__doc__" 204 .none] 3),#[]⟩,⟨.type "type",none,(.cls ⟨"FloorError",[.type "ValueError"],[.ref 24,.type "ValueError",.type "Exception",.type "BaseException",.type "object"],23, "FloorError",true,[],[.ref 37,.ref 49,.ref 61,.ref 73,.ref 85],false,none,false⟩),#[some (.ref 15),none,some (.str "FloorError" 189),some (.str "FloorError" 197),some (.builtin "ValueError.__new__"),some (.bool true)]⟩,⟨.type "getset_descriptor",none,(.fields #[.str "__weakref__" 202,.ref 24,.builtin "ExceptionGroup.__weakref__",.none]),#[]⟩,⟨.type "super",none,(.fields #[.ref 24,.ref 24,.ref 24]),#[]⟩,⟨.type "builtin_function_or_method",none,(.fields #[.builtin "object.__init_subclass__",.ref 24]),#[]⟩]++(bx P 28 207 4 "NoFloor" ++ (bx P 40 223 6 "NoAddress" ++ (bx P 52 239 8 "NoCell" ++ (bx P 64 255 10 "NoShape" ++ (bx P 76 271 12 "TooMany" ++ ([e0_,e1_,(e2_ #[.str "thing" 296]),e0_,oT "is_whole" "is_whole" (Pr.top 10),oC "is_whole" "is_whole" 293 294 295 17 1 88 89 (.ref 90) (.ref 91) 92 297 298,oF "is_whole" (Pr.top 10) u3_ 93,e0_,e1_,(e2_ #[.str "row" 303]),e0_,oT "is_plain" "is_plain" (Pr.top 11),oC "is_plain" "is_plain" 300 301 302 19 1 95 96 (.ref 97) (.ref 98) 99 304 305,oF "is_plain" (Pr.top 11) u3_ 100,e0_,e1_,oT "depths_of" "depths_of" (Pr.top 12),oC "depths_of" "depths_of" 307 308 309 21 1 102 103 .none .none 104 310 311,oF "depths_of" (Pr.top 12) u3_ 105,e0_,e1_,(e2_ #[.str "rows" 316,.str "number" 317,.str "ended" 318,.str "quarter" 319]),e0_,oT "end_rows" "end_rows" (Pr.top 13),oC "end_rows" "end_rows" 313 314 315 26 3 107 108 (.ref 109) (.ref 110) 111 320 321,oF "end_rows" (Pr.top 13) u3_ 112,e0_,e1_,(e2_ #[.str "rows" 326,.str "top" 327,.str "ended" 328]),e0_,oT "places_as_ended" "places_as_ended" (Pr.top 14),oC "places_as_ended" "places_as_ended" 323 324 325 32 2 114 115 (.ref 116) (.ref 117) 118 329 330,oF "places_as_ended" (Pr.top 14) u3_ 119,e0_,e1_,(e2_ #[.str "thing" 339]),e0_,oT "is_size" "is_size" (Pr.top 17),oC "is_size" "is_size" 336 337 338 38 1 121 122 (.ref 123) (.ref 124) 125 340 341,oF "is_size" (Pr.top 17) u0_ 126,e0_,e1_,oT "is_address" "is_address" (Pr.top 18),oC "is_address" "is_address" 343 344 345 40 2 128 129 .none .none 130 346 347,oF "is_address" (Pr.top 18) u0_ 131,e0_,e1_,(e2_ #[.str "n" 352,.str "row" 353,.str "column" 354,.str "side" 355]),e0_,oT "is_cell" "is_cell" (Pr.top 19),oC "is_cell" "is_cell" 349 350 351 42 3 133 134 (.ref 135) (.ref 136) 137 356 357,oF "is_cell" (Pr.top 19) u0_ 138,e0_,e1_,(e2_ #[.str "n" 362]),e0_,oT "want_floor" "want_floor" (Pr.top 20),oC "want_floor" "want_floor" 359 360 361 45 1 140 141 (.ref 142) (.ref 143) 144 363 364,oF "want_floor" (Pr.top 20) u0_ 145,e0_,e1_,(e2_ #[.str "n" 369,.str "address" 370]),e0_,oT "want_address" "want_address" (Pr.top 21),oC "want_address" "want_address" 366 367 368 48 2 147 148 (.ref 149) (.ref 150) 151 371 372,oF "want_address" (Pr.top 21) u0_ 152,e0_,e1_,(e2_ #[.str "n" 377,.str "row" 378,.str "column" 379]),e0_,oT "want_cell" "want_cell" (Pr.top 22),oC "want_cell" "want_cell" 374 375 376 51 3 154 155 (.ref 156) (.ref 157) 158 380 381,oF "want_cell" (Pr.top 22) u0_ 159,e0_,e1_,(e2_ #[.str "n" 386]),e0_,oT "side_of" "side_of" (Pr.top 23),oC "side_of" "side_of" 383 384 385 54 1 161 162 (.ref 163) (.ref 164) 165 387 388,oF "side_of" (Pr.top 23) u0_ 166,e0_,e1_,(e2_ #[.str "n" 393,.str "address" 394,.str "row" 395,.str "column" 396,.str "side" 397,.str "figure" 398]),e0_,oT "box_at" "box_at" (Pr.top 24),oC "box_at" "box_at" 390 391 392 56 2 168 169 (.ref 170) (.ref 171) 172 399 400,oF "box_at" (Pr.top 24) u0_ 173,e0_,e1_,(e2_ #[.str "n" 405,.str "address" 406]),e0_,oT "box_of" "box_of" (Pr.top 25),oC "box_of" "box_of" 402 403 404 64 2 175 176 (.ref 177) (.ref 178) 179 407 408,oF "box_of" (Pr.top 25) u0_ 180,e0_,e1_,(e2_ #[.str "thing" 415,.str "many" 416]),e0_,oT "is_number" "is_number" (Pr.top 27),oC "is_number" "is_number" 412 413 414 69 2 182 183 (.ref 184) (.ref 185) 186 417 418,oF "is_number" (Pr.top 27) u2_ 187,e0_,e1_,oT "is_row" "is_row" (Pr.top 28),oC "is_row" "is_row" 420 421 422 71 2 189 190 .none .none 191 423 424,oF "is_row" (Pr.top 28) u2_ 192,e0_,e1_,oT "are_rows" "are_rows" (Pr.top 29),oC "are_rows" "are_rows" 426 427 428 75 1 194 195 .none .none 196 429 430,oF "are_rows" (Pr.top 29) u2_ 197,e0_,e1_,(e2_ #[.str "thing" 435,.str "n" 436,.str "top" 437,.str "rows" 438]),e0_,oT "is_telling" "is_telling" (Pr.top 30),oC "is_telling" "is_telling" 432 433 434 77 1 199 200 (.ref 201) (.ref 202) 203 439 440,oF "is_telling" (Pr.top 30) u2_ 204,e0_,e1_,oT "is_shape" "is_shape" (Pr.top 31),oC "is_shape" "is_shape" 442 443 444 84 1 206 207 .none .none 208 445 446,oF "is_shape" (Pr.top 31) u2_ 209,e0_,e1_,(e2_ #[.str "shape" 451]),e0_,oT "want_shape" "want_shape" (Pr.top 32),oC "want_shape" "want_shape" 448 449 450 91 1 211 212 (.ref 213) (.ref 214) 215 452 453,oF "want_shape" (Pr.top 32) u2_ 216,e0_,e1_,oT "count_leaves" "count_leaves" (Pr.top 35),oC "count_leaves" "count_leaves" 459 460 461 96 2 218 219 .none .none 220 462 463,oF "count_leaves" (Pr.top 35) u4_ 221,e0_,e1_,(e2_ #[.str "rows" 468,.str "number" 469,.str "address" 470,.str "leaves" 471,.str "at" 472,.str "quarter" 473]),e0_,oT "gather_leaves" "gather_leaves" (Pr.top 36),oC "gather_leaves" "gather_leaves" 465 466 467 101 4 223 224 (.ref 225) (.ref 226) 227 474 475,oF "gather_leaves" (Pr.top 36) u4_ 228,e0_,e1_,(e2_ #[.str "shape" 480,.str "most" 481]),e0_,oT "want_leaves" "want_leaves" (Pr.top 37),oC "want_leaves" "want_leaves" 477 478 479 107 2 230 231 (.ref 232) (.ref 233) 234 482 483,oF "want_leaves" (Pr.top 37) u4_ 235,e0_,e1_,(e2_ #[.str "shape" 488]),e0_,oT "want_coarse" "want_coarse" (Pr.top 38),oC "want_coarse" "want_coarse" 485 486 487 110 1 237 238 (.ref 239) (.ref 240) 241 489 490,oF "want_coarse" (Pr.top 38) u4_ 242]))))))
noncomputable def hA (P:Params):Heap:=⟨⟨((((ob P).take 15).set 3 (boot_o_3 P)).set 12 (e1_))⟩,(boot_heap P).life⟩
noncomputable def h1 (P:Params):Heap:=⟨⟨((((ob P).take 95).set 3 (⟨.type "dict",none,(.dict #[e3_ P "__name__" 165 (.str "quarterfold.rows" 287),e3_ P "__doc__" 166 .none,e3_ P "__package__" 167 .none,e3_ P "__loader__" 168 (.builtin "__main__.__loader__#opaque"),e3_ P "__spec__" 169 .none,e3_ P "__annotations__" 170 (.ref 6),e3_ P "__builtins__" 171 (.ref 4),e3_ P "__file__" 173 (.str "/claim/cut.py" 172),e3_ P "__cached__" 174 .none,e3_ P "FloorError" 206 (.ref 24),e3_ P "NoFloor" 222 (.ref 37),e3_ P "NoAddress" 238 (.ref 49),e3_ P "NoCell" 254 (.ref 61),e3_ P "NoShape" 270 (.ref 73),e3_ P "TooMany" 286 (.ref 85),e3_ P "FULL" 290 (.int 1 289),e3_ P "FIRST" 292 (.int 2 291),e3_ P "is_whole" 299 (.ref 94)] 18),#[]⟩)).set 12 (⟨.none,none,(.fields #[.int 2 0,.int 0 0,.ref 20,.int 4 0,.int 0 0,.ref 33,.int 6 0,.int 0 0,.ref 45,.int 8 0,.int 0 0,.ref 57,.int 10 0,.int 0 0,.ref 69,.int 12 0,.int 0 0,.ref 81,.int 17 0,.int 0 0,.ref 93]),#[]⟩))⟩,(boot_heap P).life⟩
noncomputable def h2 (P:Params):Heap:=⟨⟨(ob P)⟩,(boot_heap P).life⟩
noncomputable def bd:List Stmt:=behindTheImports pw
noncomputable def ev:Env:={ scope:=pw.main.scope,locals:=mainNs,globals:=mainNs,cells:=[],code:=.ref 13,frame:=some 14 }
noncomputable def cE:Code:=.body bd ev
noncomputable abbrev sh (h:Params->Heap) (k:Nat) (w:World) (os:OsState):Shared:=⟨h w.params,Array.mk [],boot_drawn,k,os⟩
noncomputable abbrev fr:List Frame:=[topFrame ⟨0,0,0,0⟩]
theorem pre0 (w:World) (os:OsState):topGo treeTable pw w 11 (some (.ref 6)) 12 (sh boot_heap boot_toks w os) (topStub pw)=some (sh hA 187 w os,⟨denote treeTable cE,cE,⟨0,0,0,0⟩,fr⟩):=by kernel_rfl
theorem blk0 (w:World) (os:OsState):segRun treeTable pw w 11 (some (.ref 6)) 1 1 (sh hA 187 w os) (blockOf bd ev cE ⟨0,0,0,0⟩ fr)=some (.next,sh hA 187 w os,cE,⟨0,0,0,0⟩):=by kernel_rfl
theorem qs2 {tb:String->Option Builtin}{p:Program}{w:World}{n₀:Nat}{ann:Option Value}{env:Env}{q:Pos}{n N j:Nat}{s s' r:Shared}{l:List Stmt}{c:Code}{pos p':Pos}(h:segRun tb p w n₀ ann 1 n s (piecesOf (l.take j) env c pos [topFrame q])=some (.next,s',c,p'))
  (k:topRun tb p w n₀ ann N s' (restOf (l.drop j) env c p' [topFrame q])=some r):topRun tb p w n₀ ann (n+N) s (restOf l env c pos [topFrame q])=some r:=by
 have:=piece_app (l:=l.take j) (rest:=l.drop j) h k
 rwa [YY] at this
theorem q74 {p q:Program}{loose:List Str}{Xt:Shared->Bool}{α:Type}{Yf:Shared->α}{Ya:World->α}{N:Nat}{g0:Bool}{H₀:Params->Heap}{gs₀:Array GenState}{d₀:Drawn}{k₀ m₀ M N2:Nat}{ann:Option Value}{Z:World->OsState->Shared}{T:Thread}
  (open_:∀w:World,(fencedOpening treeTable p w N).map (λs=>(s.heap,s.gens,s.drawn,s.toks))=some (H₀ w.params,gs₀,d₀,k₀))
  (size:∀w:World,((H₀ w.params).isNs mainGlobals&&gs₀.size==0,(H₀ w.params).objs.size,(H₀ w.params).nsMap mainGlobals "__annotations__")=(true,m₀,ann))
  (run:∀(w:World) (os:OsState) (r:Shared),topRun treeTable p w m₀ ann N2 (Z w os) T=some r->topRun treeTable p w m₀ ann M ⟨H₀ w.params,gs₀,d₀,k₀,os⟩ (topStub p)=some r) (le:Nat.ble M N=true)
  (fin:∀(w:World) (os:OsState),(topRun treeTable p w m₀ ann N2 (Z w os) T).map (λs=>(staticsOk (importedModules p.main.body) (H₀ w.params) s.heap&&namesBound p s.heap&&gensDone s&&laidKept (H₀ w.params) s.heap,openSeen q loose (importedModules p.main.body) Xt g0 s,Yf s))=some (true,openGood q loose,Ya w)):LeftO p q loose Xt Yf Ya N g0:=λw=>by
 obtain⟨⟨h,gs,d,k,os⟩,e,e'⟩:=Zj.mp (open_ w);obtain⟨rfl,rfl,rfl,rfl⟩:h=H₀ w.params/\gs=gs₀/\d=d₀/\k=k₀:=by simpa using e'
 obtain⟨z1,z2,z3⟩:_/\_/\_:=by simpa only [VN] using size w
 obtain⟨r,hr,e2⟩:=Zj.mp (fin w os);obtain⟨l1,l2,l3⟩:_/\_/\_:=by simpa only [VN] using e2
 have r1:=topRun_mono (N-M) _ _ _ _ (run w os r hr);rw[show M+(N-M)=N by have:=Nat.le_of_ble_eq_true le;lia] at r1;have t:topFrom treeTable p w N ⟨H₀ w.params,gs,d,k,os⟩=some r:=by
  unfold topFrom;dsimp only;rw[z1,z2,z3,r1];show (match staticsOk (importedModules p.main.body) (H₀ w.params) r.heap&&namesBound p r.heap&&gensDone r&&laidKept (H₀ w.params) r.heap with|true=>_|false=>_)=_;rw[l1]
 unfold openEnds;rw[e];show (topFrom treeTable p w N ⟨H₀ w.params,gs,d,k,os⟩).map _=_;rw[t];show some (_,_)=some (_,_);rw[l2,l3]
theorem seg1 (w:World) (os:OsState):segRun treeTable pw w 11 (some (.ref 6)) 1 1366 (sh hA 187 w os) (piecesOf (bd.take 11) ev cE ⟨0,0,0,0⟩ fr)=some (.next,sh h1 300 w os,cE,⟨17,0,18,67⟩):=by kernel_rfl
theorem seg2 (w:World) (os:OsState):segRun treeTable pw w 11 (some (.ref 6)) 1 771 (sh h1 300 w os) (piecesOf ((bd.drop 11).take 28) ev cE ⟨17,0,18,67⟩ fr)=some (.next,sh h2 492 w os,cE,⟨110,0,111,35⟩):=by kernel_rfl
theorem run0 (w:World) (os:OsState) (r:Shared) (h:topRun treeTable pw w 11 (some (.ref 6)) 752 (sh h2 492 w os) (restOf ((bd.drop 11).drop 28) ev cE ⟨110,0,111,35⟩ fr)=some r):topRun treeTable pw w 11 (some (.ref 6)) (12+(1+(1366+(771+752)))) (sh boot_heap boot_toks w os) (topStub pw)=some r:=go_top (pre0 w os) (piece_block (blk0 w os) (qs2 (seg1 w os) (qs2 (seg2 w os) h)))
theorem opn0:opening pw=plainProg pw.main.scope.names:=by kernel_rfl
theorem fen0 (s:Shared):fenceModules? pw s=some s:=by kernel_rfl
def q0:Program:={ pw with main:={ pw.main with body:=keep0.map Pr.top } }
theorem as_K:∀P,as0=(K0 P).map (·.1):=λ_=>by kernel_rfl
abbrev X0:Shared->Bool:=λs=>xlAt q0 [] s&&recOk (RowW.records (OpenRow.toRowW (OpenLaw.row PySem.Challenge.rw_quarterfold_k54_whole_nearest_on_great_f))) s
set_option maxHeartbeats 0 in
theorem fin0 (w:World) (os:OsState):(topRun treeTable pw w 11 (some (.ref 6)) 752 (sh h2 492 w os) (restOf ((bd.drop 11).drop 28) ev cE ⟨110,0,111,35⟩ fr)).map (λs=>(staticsOk (importedModules pw.main.body) (boot_heap w.params) s.heap&&namesBound pw s.heap&&gensDone s&&laidKept (boot_heap w.params) s.heap,openSeen q0 [] (importedModules pw.main.body) X0 true s,Hook.obs (kHook Hd.K0 Hd.as0 Hd.as_K) s))=some (true,openGood q0 [],Hook.val (kHook Hd.K0 Hd.as0 Hd.as_K) w):=by kernel_rfl
theorem xv6:LeftO pw q0 [] X0 (Hook.obs (kHook Hd.K0 Hd.as0 Hd.as_K)) (Hook.val (kHook Hd.K0 Hd.as0 Hd.as_K)) N0:=q74 (boot_open opn0 rfl fen0) (λw=>by kernel_rfl) run0 (by rfl) fin0
end Hd
namespace L2
theorem os1 {α:Type}{l:List α}(h:l.length=1):∃a,l=[a]:=List.length_eq_one_iff.mp h
theorem os2 {α:Type}{l:List α}(h:l.length=2):∃a b,l=[a,b]:=by
 obtain⟨a,m,rfl⟩:=YB h;obtain⟨b,rfl⟩:=os1 (VW h);exact⟨a,b,rfl⟩
theorem os3 {α:Type}{l:List α}(h:l.length=3):∃a b c,l=[a,b,c]:=by
 obtain⟨a,m,rfl⟩:=YB h;obtain⟨b,c,rfl⟩:=os2 (VW h);exact⟨a,b,c,rfl⟩
theorem os4 {α:Type}{l:List α}(h:l.length=4):∃a b c d,l=[a,b,c,d]:=by
 obtain⟨a,m,rfl⟩:=YB h;obtain⟨b,c,d,rfl⟩:=os3 (VW h);exact⟨a,b,c,d,rfl⟩
theorem os5 {α:Type}{l:List α}(h:l.length=5):∃a b c d e,l=[a,b,c,d,e]:=by
 obtain⟨a,m,rfl⟩:=YB h;obtain⟨b,c,d,e,rfl⟩:=os4 (VW h);exact⟨a,b,c,d,e,rfl⟩
end L2
namespace L2
open PySem PySem.Spec PyProof.Rows
abbrev Key:=Sum Int Str
def qH8:Key->Value->Bool
 |.inl k,v=>Value.isInt k v
 |.inr x,v=>Value.isStrOf x v
def keyH (w:World):Key->Int
 |.inl k=>hashInt k
 |.inr x=>hashStr w x
theorem qd0:∀{k:Key}{v:Value},qH8 k v=true->(∃i t,k=Sum.inl i/\v=Value.int i t)\/(∃x t,k=Sum.inr x/\v=Value.str x t)
 |.inl i,v,h=>by
  obtain⟨t,e⟩:=Value.isInt_shape (k:=i) (v:=v) h;exact .inl ⟨i,t,rfl,e⟩
 |.inr x,v,h=>by
  obtain⟨t,e⟩:=Value.isStrOf_shape (x:=x) (v:=v) h;exact .inr ⟨x,t,rfl,e⟩
theorem qS4 (i:Int) (t:Tok):qH8 (.inl i) (.int i t)=true:=by simp[qH8,Value.isInt]
theorem qS5 (x:Str) (t:Tok):qH8 (.inr x) (.str x t)=true:=by simp[qH8,Value.isStrOf]
theorem xp1 (a b:Int):decide ((Sum.inl a:Key)=Sum.inl b)=(a==b):=by
 by_cases e:a=b
 ·subst e;simp
 ·have h:¬(Sum.inl a:Key)=Sum.inl b:=λq=>e (Sum.inl.inj q);rw[Zn h];exact (Vc.mpr e).symm
theorem xp2 (a b:Str):decide ((Sum.inr a:Key)=Sum.inr b)=decide (a=b):=by
 by_cases e:a=b
 ·subst e;simp
 ·have h:¬(Sum.inr a:Key)=Sum.inr b:=λq=>e (Sum.inr.inj q);rw[Zn h,Zn e]
theorem xp3 (a:Int) (b:Str):decide ((Sum.inl a:Key)=Sum.inr b)=false:=Zn (λq=>nomatch q)
theorem xp4 (a:Str) (b:Int):decide ((Sum.inr a:Key)=Sum.inl b)=false:=Zn (λq=>nomatch q)
def qd6 (prog:Program) (w:World):PySem.KeyKind prog w Key where
 is:=qH8
 hash:=keyH w
 inj:=λv a b ha hb=>by
  rcases qd0 ha with ⟨i,t,rfl,rfl⟩|⟨x,t,rfl,rfl⟩
  ·rcases qd0 hb with ⟨j,u,rfl,e⟩|⟨y,u,rfl,e⟩
   ·injection e with e1 _;rw[e1]
   ·exact nomatch e
  ·rcases qd0 hb with ⟨j,u,rfl,e⟩|⟨y,u,rfl,e⟩
   ·exact nomatch e
   ·injection e with e1 _;rw[e1]
 byValue:=λk v h=>by
  rcases qd0 h with ⟨i,t,rfl,rfl⟩|⟨x,t,rfl,rfl⟩<;>rfl
 pyHash:=λhv h=>by
  rcases qd0 hv with ⟨i,t,rfl,rfl⟩|⟨x,t,rfl,rfl⟩
  ·exact wpAny_pyHash_int h
  ·exact wpAny_pyHash_str h
 eqBool:=λhu hv h=>by
  rcases qd0 hu with ⟨i,t,rfl,rfl⟩|⟨x,t,rfl,rfl⟩
  ·rcases qd0 hv with ⟨j,u,rfl,rfl⟩|⟨y,u,rfl,rfl⟩
   ·rw[xp1] at h;exact wpAny_eqBool_int h
   ·rw[xp3] at h;exact SeqAt.EqAt.int_str i t y u _ _ _ _ h
  ·rcases qd0 hv with ⟨j,u,rfl,rfl⟩|⟨y,u,rfl,rfl⟩
   ·rw[xp4] at h;exact SeqAt.EqAt.str_int x t j u _ _ _ _ h
   ·rw[xp2] at h;exact wpAny_eqBool_str h
 «strs»:=λk x t v h=>by
  rcases qd0 h with ⟨i,u,rfl,e⟩|⟨y,u,rfl,e⟩
  ·exact nomatch e
  ·injection e with e1 _
   subst e1;cases v<;>rfl
theorem qH9 (prog:Program) (w:World) (i:Int) (t:Tok):(qd6 prog w).is (.inl i) (.int i t)=true:=qS4 i t
theorem qI0 (prog:Program) (w:World) (x:Str) (t:Tok):(qd6 prog w).is (.inr x) (.str x t)=true:=qS5 x t
inductive V where
 |non|bl (b:Bool)|int (i:Int)|str (x:Str)|byt (b:Array UInt8)|flt (b:UInt64)|ref (a:Addr)|ty (n:String)
 deriving DecidableEq
def RelV:V->Value->Prop
 |.non,u=>u=Value.none
 |.bl b,u=>u=Value.bool b
 |.int i,u=>∃t,u=Value.int i t
 |.str x,u=>∃t,u=Value.str x t
 |.byt b,u=>∃t,u=Value.bytes b t
 |.flt b,u=>∃t,u=Value.float b t
 |.ref a,u=>u=Value.ref a
 |.ty n,u=>u=Value.type n
abbrev Vals:List V->List Value->Prop:=Paired RelV
theorem Vals.length {xs:List V}{us:List Value}(r:Vals xs us):xs.length=us.length:=Y2 r
theorem Vals.get:∀{xs:List V}{us:List Value}{i:Nat}{x:V},Vals xs us->xs[i]?=some x->∃u,us[i]?=some u/\RelV x u
 |_,_,_,_,.nil,e=>by simp at e
 |_,_,0,_,.cons r _,e=>by simp at e;subst e;exact⟨_,rfl,r⟩
 |_,_,i+1,x,.cons _ t,e=>by
  obtain⟨u,h1,h2⟩:=Vals.get (i:=i) (x:=x) t (by simpa using e);exact⟨u,by simpa using h1,h2⟩
theorem Vals.set {x:V}{u:Value}(r:RelV x u):∀{xs:List V}{us:List Value}(i:Nat),Vals xs us->Vals (xs.set i x) (us.set i u)
 |_,_,_,.nil=>.nil
 |_,_,0,.cons _ t=>.cons r t
 |_,_,i+1,.cons q t=>.cons q (Vals.set r i t)
theorem Vals.append:∀{xs ys:List V}{us ws:List Value},Vals xs us->Vals ys ws->Vals (xs++ys) (us++ws)
 |_,_,_,_,.nil,s=>s
 |_,_,_,_,.cons r t,s=>.cons r (Vals.append t s)
theorem Vals.take:∀{xs:List V}{us:List Value}(n:Nat),Vals xs us->Vals (xs.take n) (us.take n)
 |_,_,0,_=>.nil
 |_,_,_+1,.nil=>.nil
 |_,_,n+1,.cons r t=>.cons r (Vals.take n t)
theorem Vals.drop:∀{xs:List V}{us:List Value}(n:Nat),Vals xs us->Vals (xs.drop n) (us.drop n)
 |_,_,0,r=>r
 |_,_,_+1,.nil=>.nil
 |_,_,n+1,.cons _ t=>Vals.drop n t
def RelO:Option V->Option Value->Prop
 |some v,some u=>RelV v u
 |none,none=>True
 |_,_=>False
def KV {κ:Type}:List (κ×V)->List (κ×Value)->Prop:=Paired λ(p:κ×V) (q:κ×Value)=>p.1=q.1/\RelV p.2 q.2
def kV:Key->V
 |.inl i=>.int i
 |.inr x=>.str x
inductive HO where
 |lst (xs:List V)
 |tup (xs:List V)
 |dK (kvs:List (Key×V))|dT (kvs:List (List Key×V))
 |set (S:Int->Bool) (n:Nat)
 |ins (C dx:Addr) (fs:List (Str×V))
 |own (x:Addr)
 |xd (fs:List (Str×V))
 |met (f x:Addr)
 |rng (lo hi:Int)
 |frz (o:Obj) (u:HO)
 |tbl (ps:Array Value)
 |ext (φ:Heap->Prop)
abbrev Hp:=Addr->Option HO
def upd (H:Hp) (a:Addr) (o:HO):Hp:=λb=>if b=a then some o else H b
theorem qa3 {H:Hp}{a:Addr}{o:HO}:upd H a o a=some o:=by unfold upd;rw[Zx rfl]
theorem qb9 {H:Hp}{a b:Addr}{o:HO}(h:b≠a):upd H a o b=H b:=by unfold upd;rw[Zk h]
theorem xi2 {H:Hp}{a:Addr}{o u:HO}:upd (upd H a o) a u=upd H a u:=by
 funext b;unfold upd;split<;>rfl
theorem xv7 {H:Hp}{a b:Addr}{o u:HO}(h:H a=some o) (h':H b=some u) (d:o≠u):a≠b:=by
 intro e;subst e;rw[h] at h';exact d (ZO h')
theorem qa7 {H:Hp}{a b:Addr}{o:HO}(h:H a=some o) (h':H b=none):a≠b:=by
 intro e;subst e;rw[h] at h';cases h'
def IsTupX (h:Heap) (a:Addr) (items:Array Value):Prop:=∃o,h.get? a=some o/\o.cls=.type "tuple" /\ ∃n:{n:Nat // o.dict=none},o.data=.seq items n.1
theorem IsTupX.is {h:Heap}{a:Addr}{items:Array Value}(x:IsTupX h a items):IsTup h a items:=let ⟨o,h1,h2,n,h3⟩:=x;⟨o,h1,h2,n.1,h3⟩
theorem IsTupX.new (h:Heap) (items:Array Value):IsTupX (h.push { cls:=.type "tuple",data:=.seq items }) h.objs.size items:=⟨_,Zf _ rfl,rfl,⟨_,rfl⟩,rfl⟩
instance {h:Heap}{a:Addr}{items:Array Value}:Coe (IsTupX h a items) (IsTup h a items):=⟨IsTupX.is⟩
instance {h:Heap}{a:Addr}{items:Array Value}:Coe (IsTupX h a items) (h.IsTuple a items):=⟨IsTupX.is⟩
section
variable (P:Program) (w:World)
def ObjOk (H:Hp) (h:Heap) (a:Addr):HO->Prop
 |.lst xs=>xs.length<=sizeLine/\∃(its:List Value) (n:Nat),Vals xs its/\h.get? a=some { cls:=.type "list",data:=.seq its.toArray n }
 |.tup xs=>xs.length<=sizeLine/\∃its:List Value,Vals xs its/\IsTupX h a its.toArray
 |.dK kvs=>kvs.length<=sizeLine/\(a==sysModules)=false/\∃vs,KV kvs vs/\h.DictOf (qd6 P w) a vs
 |.dT kvs=>kvs.length<=sizeLine/\(a==sysModules)=false/\∃xs:List (List Key×Addr×Value),
   Paired (λ(p:List Key×V) (q:List Key×Addr×Value)=>p.1=q.1/\H q.2.1=some (.tup (p.1.map kV))/\RelV p.2 q.2.2) kvs xs /\
   ∃o es ep,h.get? a=some o/\o.ExactDict/\o.data=.dict es ep/\es.toList=xs.map (entryOfKey (tupleKind (qd6 P w)))/\(xs.map (·.1)).Nodup
 |.set S n=>h.SetOf (intKind P w) a S n
 |.ins C dx fs=>H dx=some (.own a)/\fs.length<=1000/\dx≠a/\h.get? a=some (PySem.W.instObj C dx) /\
   ∃mA,h.Ns1 dx mA/\(∀f,RelO (fs.lookup f) (mA f))/\PySem.Within mA (fs.map (·.1))
 |.own _=>∃o,h.get? a=some o
 |.xd fs=>∃mA,h.Ns1 a mA/\∀f,RelO (fs.lookup f) (mA f)
 |.rng lo hi=>∃t u v,h.get? a=some { cls:=.type "range",data:=.fields #[.int lo t,.int hi u,.int 1 v] }
 |.frz o u=>h.get? a=some o/\ObjOk H h a u
 |.tbl ps=>h.get? a=some { cls:=.none,data:=.fields ps }
 |.met f x=>h.get? a=some (PySem.W.methodObj (.ref f) (.ref x))
 |.ext φ=>φ h/\(∃o,h.get? a=some o)/\∀h1 h2:Heap,φ h1->(∀o,h1.get? a=some o->h2.get? a=some o)->φ h2
def HOk (H:Hp) (h:Heap):Prop:=∀a o,H a=some o->ObjOk P w H h a o
end
section
variable {P:Program}{w:World}{H H':Hp}{h h':Heap}{a:Addr}{o:HO}
theorem ObjOk.lt (x:ObjOk P w H h a o):a<h.objs.size:=by
 cases o with
 |lst xs=>obtain⟨_,_,_,_,e⟩:=x;exact Zi e
 |tup xs=>obtain⟨_,_,_,p⟩:=x;exact (IsTupX.is p).lt
 |dK kvs=>obtain⟨_,_,_,_,o,_,_,e,_⟩:=x;exact Zi e
 |dT kvs=>obtain⟨_,_,_,_,o,_,_,e,_⟩:=x;exact Zi e
 |set S n=>obtain⟨o,_,_,_,e,_⟩:=x;exact Zi e
 |ins C dx fs=>obtain⟨_,_,_,e,_⟩:=x;exact Zi e
 |own y=>obtain⟨_,e⟩:=x;exact Zi e
 |xd fs=>obtain⟨_,⟨_,_,_,e,_⟩,_⟩:=x;exact Zi e
 |rng lo hi=>obtain⟨_,_,_,e⟩:=x;exact Zi e
 |frz ob u=>obtain⟨e,_⟩:=x;exact Zi e
 |tbl ps=>exact Zi (show h.get? a=some _ from x)
 |met f y=>exact Zi (show h.get? a=some _ from x)
 |ext φ=>obtain⟨_,⟨_,e⟩,_⟩:=x;exact Zi e
theorem Paired.mapP {α β:Type}{F G:α->β->Prop}:∀{l₁:List α}{l₂:List β},Paired F l₁ l₂->(∀a b,F a b->G a b)->Paired G l₁ l₂
 |_,_,.nil,_=>.nil
 |_,_,.cons r t,f=>.cons (f _ _ r) (Paired.mapP t f)
theorem ObjOk.stay (x:ObjOk P w H h a o) (k:∀b u,(b=a\/H b=some (.own a))->h.get? b=some u->h'.get? b=some u)
  (ho:∀b,H b=some (.own a)->H' b=some (.own a)) (ht:∀b xs,H b=some (.tup xs)->H' b=some (.tup xs)):ObjOk P w H' h' a o:=by
 induction o with
 |lst xs=>obtain⟨z,its,n,r,e⟩:=x;exact⟨z,its,n,r,k _ _ (.inl rfl) e⟩
 |tup xs=>obtain⟨z,its,r,ob,e,c⟩:=x;exact⟨z,its,r,ob,k _ _ (.inl rfl) e,c⟩
 |dK kvs=>obtain⟨z,y,vs,r,ob,es,ep,e,c⟩:=x;exact⟨z,y,vs,r,ob,es,ep,k _ _ (.inl rfl) e,c⟩
 |dT kvs=>
  obtain⟨z,y,xs,r,ob,es,ep,e,c⟩:=x;exact⟨z,y,xs,Paired.mapP r λp q z=>⟨z.1,ht _ _ z.2.1,z.2.2⟩,ob,es,ep,k _ _ (.inl rfl) e,c⟩
 |set S n=>obtain⟨ob,es,ep,t,e,c⟩:=x;exact⟨ob,es,ep,t,k _ _ (.inl rfl) e,c⟩
 |ins C dx fs=>
  obtain⟨d,z,ne,e,mA,⟨od,es,ep,e2,c⟩,r⟩:=x;exact⟨ho _ d,z,ne,k _ _ (.inl rfl) e,mA,⟨od,es,ep,k _ _ (.inr d) e2,c⟩,r⟩
 |own y=>obtain⟨ob,e⟩:=x;exact⟨ob,k _ _ (.inl rfl) e⟩
 |xd fs=>obtain⟨mA,⟨od,es,ep,e,c⟩,r⟩:=x;exact⟨mA,⟨od,es,ep,k _ _ (.inl rfl) e,c⟩,r⟩
 |rng lo hi=>obtain⟨t,u,v,e⟩:=x;exact⟨t,u,v,k _ _ (.inl rfl) e⟩
 |frz ob u ih=>obtain⟨e,q⟩:=x;exact⟨k _ _ (.inl rfl) e,ih q⟩
 |tbl ps=>
  have e:h.get? a=some { cls:=.none,data:=.fields ps }:=x;show h'.get? a=some { cls:=.none,data:=.fields ps };exact k a _ (.inl rfl) e
 |met f y=>
  have e:h.get? a=some (PySem.W.methodObj (.ref f) (.ref y)):=x;show h'.get? a=some (PySem.W.methodObj (.ref f) (.ref y));exact k a _ (.inl rfl) e
 |ext φ=>obtain⟨p,⟨o,e⟩,st⟩:=x;exact⟨st _ _ p λo q=>k _ _ (.inl rfl) q,⟨o,k _ _ (.inl rfl) e⟩,st⟩
theorem HOk.lt (x:HOk P w H h) (e:H a=some o):a<h.objs.size:=(x a o e).lt
theorem HOk.fresh (x:HOk P w H h) (e:h.objs.size<=a):H a=none:=by
 cases q:H a with
 |none=>rfl
 |some u=>exact absurd (ZP (x.lt q) e) (Yc _)
theorem HOk.kept (x:HOk P w H h) (k:∀b u,h.get? b=some u->h'.get? b=some u):HOk P w H h':=λa o e=>
 (x a o e).stay (λb u _ q=>k b u q) (λ_ q=>q) λ_ _ q=>q
theorem HOk.laid (x:HOk P w H h) (k:∀b u,h.get? b=some u->h'.get? b=some u) (hp:h.objs.size<=a) (new:ObjOk P w (upd H a o) h' a o):HOk P w (upd H a o) h':=λb u e=>by
 have hn:=x.fresh hp;by_cases hb:b=a
 ·subst hb;rw[qa3] at e;cases e;exact new
 ·rw[qb9 hb] at e;exact (x b u e).stay (λc v _ q=>k c v q) (λc q=>by rw[qb9 (qa7 q hn)];exact q) λc xs q=>by rw[qb9 (qa7 q hn)];exact q
end
def Rd (H:Hp) (a:Addr) (u:HO):Prop:=H a=some u\/∃o,H a=some (.frz o u)
theorem Rd.ok {P:Program}{w:World}{H:Hp}{h:Heap}{a:Addr}{u:HO}(r:Rd H a u) (x:HOk P w H h):ObjOk P w H h a u:=by
 rcases r with r|⟨o,r⟩
 ·exact x a u r
 ·obtain⟨_,q⟩:=x a _ r;exact q
def Mut:Option HO->Prop
 |some (.lst _)=>True
 |some (.dK _)=>True
 |some (.dT _)=>True
 |some (.set _ _)=>True
 |some (.ins _ _ _)=>True
 |some (.ext _)=>True
 |_=>False
section
variable {P:Program}{w:World}{H:Hp}{h h':Heap}{x e:Addr}{o':HO}
theorem HOk.write (ok:HOk P w H h) (mu:Mut (H x)) (he:e=x\/H e=some (.own x)) (k:∀b u,b≠e->h.get? b=some u->h'.get? b=some u) (heo:∃u,h'.get? e=some u)
  (new:ObjOk P w (upd H x o') h' x o'):HOk P w (upd H x o') h':=λb u q=>by
 have nown:∀c y,H c=some (.own y)->c≠x:=λc y r z=>by subst z;rw[r] at mu;exact mu
 have ntup:∀c xs,H c=some (.tup xs)->c≠x:=λc xs r z=>by subst z;rw[r] at mu;exact mu
 by_cases hb:b=x
 ·subst hb;rw[qa3] at q;cases q;exact new
 ·rw[qb9 hb] at q;by_cases vQ:b=e
  ·have q':H b=some (.own x):=by
    rcases he with z|z
    ·exact absurd (vQ.trans z) hb
    ·rw[vQ];exact z
   rw[q] at q';cases q';obtain⟨v,hv⟩:=heo;exact⟨v,by rw[vQ];exact hv⟩
  ·refine (ok b u q).stay (λc v hc r=>k c v ?_ r) (λc r=>by rw[qb9 (nown c b r)];exact r) λc xs r=>by rw[qb9 (ntup c xs r)];exact r
   rcases hc with rfl|hc
   ·exact vQ
   ·rintro rfl;rcases he with z|z
    ·exact nown c b hc z
    ·rw[hc] at z;cases z;exact hb rfl
end
structure Un (fs ex:List Addr) (H H':Hp) (h h':Heap):Prop where
 keep:∀b o,h.get? b=some o->H b=none->b∉fs->b∉ex->h'.get? b=some o
 slot:∀b o,h.get? b=some o->H b=none->b∈fs->b∉ex->∃sl,h'.get? b=some { o with slots:=sl }
 free:∀b o,h.get? b=some o->H b=none->b∉ex->H' b=none
 there:∀b o,h.get? b=some o->b∉ex->∃o',h'.get? b=some o'
 tups:∀b xs,H b=some (.tup xs)->H' b=some (.tup xs)
 frzs:∀b o u,H b=some (.frz o u)->H' b=some (.frz o u)
 tbls:∀b ps,H b=some (.tbl ps)->∃more,H' b=some (.tbl (ps++more))
section
variable {fs fs' ex ex':List Addr}{H H1 H2:Hp}{h h1 h2 h':Heap}{a x e:Addr}{o:HO}
theorem Un.any (u:Un fs ex H H1 h h1){b:Addr}{ob:Obj}(q:h.get? b=some ob) (n:H b=none) (hx:b∉ex):∃sl,h1.get? b=some { ob with slots:=sl }:=by
 by_cases hb:b∈fs
 ·exact u.slot b ob q n hb hx
 ·exact⟨ob.slots,u.keep b ob q n hb hx⟩
theorem Un.kept (k:∀b u,h.get? b=some u->h'.get? b=some u):Un fs ex H H h h':=
 ⟨λb ob q _ _ _=>k b ob q,λb ob q _ _ _=>⟨ob.slots,k b ob q⟩,λ_ _ _ n _=>n,λb ob q _=>⟨ob,k b ob q⟩,λ_ _ q=>q,λ_ _ _ q=>q,λ_ ps q=>⟨#[],by rw[q];simp⟩⟩
theorem Un.refl:Un fs ex H H h h:=Un.kept λ_ _ q=>q
theorem Un.laid (k:∀b u,h.get? b=some u->h'.get? b=some u) (hp:h.objs.size<=a) (hn:H a=none):Un fs ex H (upd H a o) h h' where
 keep:=λb u q _ _ _=>k b u q
 slot:=λb u q _ _ _=>⟨u.slots,k b u q⟩
 free:=λb u q n _=>by rw[qb9 (Zp (ZP (Zi q) hp))];exact n
 there:=λb u q _=>⟨u,k b u q⟩
 tups:=λb xs q=>by rw[qb9 (qa7 q hn)];exact q
 frzs:=λb u xs q=>by rw[qb9 (qa7 q hn)];exact q
 tbls:=λb ps q=>⟨#[],by rw[qb9 (qa7 q hn),q];simp⟩
theorem Un.write (mu:Mut (H x)) (he:e=x\/H e=some (.own x)) (k:∀b u,b≠e->h.get? b=some u->h'.get? b=some u) (heo:∃u,h'.get? e=some u):Un fs ex H (upd H x o) h h':=by
 have hx:∀b,H b=none->b≠x:=λb n z=>by subst z;rw[n] at mu;exact mu
 have hb:∀b,H b=none->b≠e:=λb n z=>by
  subst z;rcases he with r|r
  ·exact hx b n r
  ·rw[n] at r;cases r
 have hm:∀b u,H b=some u->¬Mut (some u)->b≠x:=λb u q nm z=>by subst z;rw[q] at mu;exact nm mu
 refine⟨λb u q n _ _=>k b u (hb b n) q,λb u q n _ _=>⟨u.slots,k b u (hb b n) q⟩,λb u q n _=>by rw[qb9 (hx b n)];exact n,λb u q _=>?_,
  λb xs q=>by rw[qb9 (hm b _ q λz=>z)];exact q,λb u xs q=>by rw[qb9 (hm b _ q λz=>z)];exact q,λb ps q=>⟨#[],by rw[qb9 (hm b _ q λz=>z),q];simp⟩⟩
 by_cases vQ:b=e
 ·subst vQ;exact heo
 ·exact⟨u,k b u vQ q⟩
end
def trk (h:Heap) (H:Hp):List Addr:=(List.range h.objs.size).filter λa=>(H a).isSome
def hidT (h:Heap) (H:Hp):Heap:=PySem.W.hideAll h (trk h H)
theorem qS6 (h:Heap) (H:Hp):(hidT h H).objs.size=h.objs.size:=PySem.W.hideAll_size _ _
theorem q75 {h:Heap}{H:Hp}{b:Addr}{o:Obj}(e:h.get? b=some o) (n:H b=none):(hidT h H).get? b=some o:=
 PySem.W.hideAll_get _ e λhm=>by
  have q:(H b).isSome=true:=(YI.mp hm).2;rw[n] at q;simp at q
theorem xi3 {h:Heap}{H:Hp}{b:Addr}{o:Obj}(e:(hidT h H).get? b=some o):h.get? b=some o/\H b=none:=by
 have e':h.get? b=some o:=PySem.W.of_hideAll (trk h H) e;refine⟨e',?_⟩;cases q:H b with
 |none=>rfl
 |some x=>
  have hm:b∈trk h H:=YI.mpr ⟨Yw.mpr (Zi e'),by simp[q]⟩;have z:(hidT h H).get? b=none:=PySem.W.hideAll_none (trk h H) hm;rw[z] at e;cases e
structure Mod (K:PySem.W.Frag) (mg:Str->Option Value) (base:Heap):Prop where
 kin:K.In base
 glob:base.Ns mainGlobals mg
 blt:∃mb,base.Ns builtinsNs mb/\∀x:Str,x ≠ "__name__" -> mb x=bootBuiltins x
 nolimit:base.NoLimit
structure Cx where
 prog:Program
 w:World
 K:PySem.W.Frag
 mg:Str->Option Value
 base:Heap
 A:Around
 N:List Str
 s₀:Shared
 H₀:Hp
 env:Env
 outer:List Env
 stack:List Env
 ex:List Addr
 fn:Str->Bool
 calm:Bool
 pn:List (Addr×Obj)
 xe:Value->Shared->Prop
def frs (l:List Env):List Addr:=l.filterMap (·.frame)
abbrev Cx.fs (X:Cx):List Addr:=frs X.outer
def Vis (sc:Scope) (x:Str):Prop:=sc.names.lookup x=some .local\/sc.names.lookup x=some .cell\/sc.names.lookup x=some .free
def Loc (sc:Scope) (x:Str):Prop:=sc.names.lookup x=some .local\/sc.names.lookup x=some .cell
def Look (env:Env) (h:Heap) (m:Str->Option Value) (x:Str) (u:Value):Prop:=
 (env.kindOf x=some .local/\m x=some u)\/((env.kindOf x=some .cell\/env.kindOf x=some .free)/\∃c,env.cells.lookup x=some c/\h.IsCell c (some u))
structure Cx.Ok (X:Cx):Prop where
 mod:Mod X.K X.mg X.base
 kind:X.env.scope.kind=.function
 glob:X.env.globals=mainGlobals
 blt:X.env.builtins=builtinsNs
 above:X.s₀.heap.objs.size<=X.env.locals
 inj:∀x y c,X.env.cells.lookup x=some c->X.env.cells.lookup y=some c->x=y
 has:∀x,(X.env.kindOf x=some .cell\/X.env.kindOf x=some .free)->∃c,X.env.cells.lookup x=some c
 cab:∀x c,X.fn x=true->X.env.cells.lookup x=some c->X.s₀.heap.objs.size<=c
 hd:X.calm=true->X.A.handled=none
 frames:X.A.frames=some X.stack
 stk:X.stack=X.outer\/(X.stack=X.env::X.outer/\X.env.frame=some X.env.locals)
 exf:∀b∈X.ex,b≠X.env.locals/\∀x c,X.env.cells.lookup x=some c->c≠b
 bs:∀b o,X.base.get? b=some o->X.s₀.heap.get? b=some o/\X.H₀ b=none
 bsz:X.base.objs.size<=X.s₀.heap.objs.size
 noex:∀b o,X.base.get? b=some o->b∉X.ex
 exfs:∀b∈X.ex,b∉X.fs
 funs:X.s₀.heap.FunFrames X.base X.outer
 frf:∀b∈X.fs,X.H₀ b=none
structure Inv (X:Cx) (j8:List (Addr×Obj)) (σ:List (Option V)) (H:Hp) (s:Shared):Prop where
 ok:X.Ok
 os:s.os=X.s₀.os
 bare:AllBare s.gens
 base:Un X.fs X.ex X.H₀ H X.s₀.heap s.heap
 loc:∃m,s.heap.Ns X.env.locals m/\∀(i:Nat) (x:Str) (v:V),X.N[i]?=some x->σ[i]?=some (some v)->Vis X.env.scope x->∃u,RelV v u/\Look X.env s.heap m x u
 cell:∀x c,X.env.cells.lookup x=some c->∃v,s.heap.IsCell c v
 free:H X.env.locals=none
 freeC:∀x c,X.env.cells.lookup x=some c->H c=none
 pin:∀p∈X.pn++j8,s.heap.get? p.1=some p.2/\H p.1=none/\p.1≠X.env.locals/\p.1∉X.fs/\∀v,p.2.data≠.cell v
 hok:HOk X.prog X.w H s.heap
 len:σ.length=X.N.length
section
variable {X:Cx}{j8:List (Addr×Obj)}{σ:List (Option V)}{H H':Hp}{s:Shared}{h':Heap}
theorem Cx.Ok.nofr (ok:X.Ok){b:Addr}{o:Obj}(e:X.base.get? b=some o):b∉X.fs:=λhb=>by
 have:=(ok.funs.mem hb).1;rw[e] at this;cases this
theorem Inv.bs (I:Inv X j8 σ H s):∀b o,X.base.get? b=some o->s.heap.get? b=some o/\H b=none:=λb o e=>
 ⟨I.base.keep b o (I.ok.bs b o e).1 (I.ok.bs b o e).2 (I.ok.nofr e) (I.ok.noex b o e),I.base.free b o (I.ok.bs b o e).1 (I.ok.bs b o e).2 (I.ok.noex b o e)⟩
theorem Inv.bk (I:Inv X j8 σ H s):∀b o,X.base.get? b=some o->s.heap.get? b=some o:=λb o e=>(I.bs b o e).1
theorem Inv.mod (I:Inv X j8 σ H s):Mod X.K X.mg X.base:=I.ok.mod
theorem Inv.kIn (I:Inv X j8 σ H s):X.K.In s.heap:=I.ok.mod.kin.keeps I.bk
theorem Inv.lt (I:Inv X j8 σ H s):X.env.locals<s.heap.objs.size:=let ⟨_,hn,_⟩:=I.loc;hn.lt
theorem Inv.sz (I:Inv X j8 σ H s):X.s₀.heap.objs.size<=s.heap.objs.size:=ZF I.ok.above (XR I.lt)
theorem Inv.nofs (I:Inv X j8 σ H s){a:Addr}(h:s.heap.objs.size<=a):a∉X.fs:=λhb=>by
 obtain⟨_,o,ho,_⟩:=I.ok.funs.mem hb;exact absurd (ZP (Zi ho) (ZF I.sz h)) (Yc _)
theorem Inv.cne (I:Inv X j8 σ H s):∀x c,X.env.cells.lookup x=some c->c≠X.env.locals:=λx c e z=>by
 obtain⟨v,o,ho,hd⟩:=I.cell x c e;obtain⟨m,⟨o',es,ep,ho',hd',_⟩,_⟩:=I.loc;rw[z,ho'] at ho;cases ho;rw[hd'] at hd;cases hd
theorem Inv.funs (I:Inv X j8 σ H s):s.heap.FunFrames X.base X.outer:=by
 have all:∀(l:List Env),(∀b∈frs l,b∈X.fs)->X.s₀.heap.FunFrames X.base l->s.heap.FunFrames X.base l:=by
  intro l
  induction l with
  |nil=>intro _ _;trivial
  |cons env r ih=>
   intro hs hl;obtain⟨hk,⟨L,o,hf,hn,ho,hd⟩,hr⟩:=hl;have hL:L∈X.fs:=hs L (by unfold frs;rw[YS,hf];exact ZC);obtain⟨sl,e⟩:=I.base.slot L o ho (I.ok.frf L hL) hL λz=>I.ok.exfs L z hL;exact⟨hk,⟨L,_,hf,hn,e,hd⟩,ih (λb hb=>hs b (by unfold frs;rw[YS,hf];exact Zl _ hb)) hr⟩
 exact all X.outer (λ_ hb=>hb) I.ok.funs
theorem Inv.stack (I:Inv X j8 σ H s):s.heap.FunFrames X.base X.stack:=by
 rcases I.ok.stk with e|⟨e,hf⟩
 ·rw[e];exact I.funs
 ·rw[e];obtain⟨m,hn,_⟩:=I.loc;refine .cons (by rw[I.ok.kind];decide) hf hn ?_ I.funs;exact Heap.get?_none_of_le (ZF I.ok.bsz I.ok.above)
theorem Inv.stkSub (I:Inv X j8 σ H s):∀b∈frs X.stack,b∈X.env.locals::X.fs:=λb hb=>by
 rcases I.ok.stk with e|⟨e,hf⟩
 ·rw[e] at hb;exact Zl _ hb
 ·rw[e] at hb;unfold frs at hb;rw[YS,hf] at hb;exact hb
theorem Inv.stkFree (I:Inv X j8 σ H s):∀b∈frs X.stack,H b=none:=λb hb=>by
 rcases Zt.mp (I.stkSub b hb) with e|hb
 ·rw[e];exact I.free
 ·obtain⟨_,o,ho,_⟩:=I.ok.funs.mem hb;exact I.base.free b o ho (I.ok.frf b hb) λz=>I.ok.exfs b z hb
theorem Inv.step {g':Array GenState}{t':Nat}{d':Drawn}{ch:List Addr}(I:Inv X j8 σ H s)
  (vO:∀b∈ch,(b∈X.ex\/X.s₀.heap.objs.size<=b)/\b≠X.env.locals/\(∀x c,X.env.cells.lookup x=some c->c≠b)/\∀p∈X.pn++j8,p.1≠b)
  (keep:∀b o,b≠X.env.locals->b∉X.fs->b∉ch->s.heap.get? b=some o->H b=none->h'.get? b=some o)
  (slot:∀b o,b≠X.env.locals->b∈X.fs->b∉ch->s.heap.get? b=some o->H b=none->∃sl,h'.get? b=some { o with slots:=sl }) (free:∀b o,b∉ch->s.heap.get? b=some o->H b=none->H' b=none)
  (there:∀b o,b∉ch->s.heap.get? b=some o->∃o',h'.get? b=some o')
  (tups:∀b xs,H b=some (.tup xs)->H' b=some (.tup xs)) (frzs:∀b o u,H b=some (.frz o u)->H' b=some (.frz o u)) (tbls:∀b ps,H b=some (.tbl ps)->∃more,H' b=some (.tbl (ps++more)))
  (ns:∀m,s.heap.Ns X.env.locals m->h'.Ns X.env.locals m) (hok:HOk X.prog X.w H' h') (hg:AllBare g') :
  Inv X j8 σ H' { s with heap:=h',gens:=g',drawn:=d',toks:=t' }:=by
 have neL:∀b o,X.s₀.heap.get? b=some o->b≠X.env.locals:=λb o e=>Zp (ZP (Zi e) I.ok.above);have neC:∀b o,X.s₀.heap.get? b=some o->b∉X.ex->b∉ch:=λb o e hx hb=>by
  rcases (vO b hb).1 with z|z
  ·exact hx z
  ·exact absurd (ZP (Zi e) z) (Yc _)
 have cellK:∀x c,X.env.cells.lookup x=some c->∀v,s.heap.IsCell c v->h'.IsCell c v:=λx c e v ⟨o,ho,hd⟩=>by
  have nch:c∉ch:=λz=>(vO c z).2.2.1 x c e rfl;by_cases hc:c∈X.fs
  ·obtain⟨sl,q⟩:=slot c o (I.cne x c e) hc nch ho (I.freeC x c e);exact⟨_,q,hd⟩
  ·exact⟨o,keep c o (I.cne x c e) hc nch ho (I.freeC x c e),hd⟩
 refine⟨I.ok,I.os,hg,⟨λb o e n hb hx=>?_,λb o e n hb hx=>?_,λb o e n hx=>?_,λb o e hx=>?_,λb xs e=>tups b xs (I.base.tups b xs e),λb o xs e=>frzs b o xs (I.base.frzs b o xs e),λb ps e=>?_⟩,?_,λx c e=>?_,?_,λx c e=>?_,λp hp=>?_,hok,I.len⟩
 ·exact keep b o (neL b o e) hb (neC b o e hx) (I.base.keep b o e n hb hx) (I.base.free b o e n hx)
 ·obtain⟨sl,e1⟩:=I.base.slot b o e n hb hx;obtain⟨sl',e2⟩:=slot b _ (neL b o e) hb (neC b o e hx) e1 (I.base.free b o e n hx);exact⟨sl',e2⟩
 ·obtain⟨o',e1⟩:=I.base.there b o e hx;exact free b o' (neC b o e hx) e1 (I.base.free b o e n hx)
 ·obtain⟨o',e1⟩:=I.base.there b o e hx;exact there b o' (neC b o e hx) e1
 ·obtain⟨m1,e1⟩:=I.base.tbls b ps e;obtain⟨m2,e2⟩:=tbls b _ e1;exact⟨m1++m2,by rw[e2,Array.append_assoc]⟩
 ·obtain⟨m,hn,hl⟩:=I.loc;refine⟨m,ns m hn,λi x v e1 e2 e3=>?_⟩;obtain⟨u,r,l⟩:=hl i x v e1 e2 e3;refine⟨u,r,?_⟩;rcases l with l|⟨k,c,e,z⟩
  ·exact .inl l
  ·exact .inr ⟨k,c,e,cellK x c e _ z⟩
 ·obtain⟨v,z⟩:=I.cell x c e;exact⟨v,cellK x c e v z⟩
 ·obtain⟨m,⟨o,_,_,ho,_⟩,_⟩:=I.loc;exact free _ o (λz=>(vO _ z).2.1 rfl) ho I.free
 ·obtain⟨v,o,ho,hd⟩:=I.cell x c e;exact free c o (λz=>(vO c z).2.2.1 x c e rfl) ho (I.freeC x c e)
 ·obtain⟨e,n,ne,nf,d⟩:=I.pin p hp;have nch:p.1∉ch:=λz=>(vO p.1 z).2.2.2 p hp rfl;exact⟨keep p.1 p.2 ne nf nch e n,free p.1 p.2 nch e n,ne,nf,d⟩
theorem Inv.un {t':Nat}(I:Inv X j8 σ H s) (u:Un X.fs [] H H' s.heap h') (hok:HOk X.prog X.w H' h'):Inv X j8 σ H' { s with heap:=h',toks:=t' }:=by
 obtain⟨m,⟨o,es,ep,ho,r⟩,_⟩:=id I.loc;obtain⟨sl,hL⟩:=u.any ho I.free (by simp);exact I.step (g':=s.gens) (d':=s.drawn) (ch:=[]) (λ_ z=>nomatch z) (λb o _ hb _ e n=>u.keep b o e n hb (by simp)) (λb o _ hb _ e n=>u.slot b o e n hb (by simp)) (λb o _ e n=>u.free b o e n (by simp)) (λb o _ e=>u.there b o e (by simp)) u.tups u.frzs u.tbls (λm' hm=>by
  obtain⟨o',es',ep',ho',r'⟩:=hm;rw[ho] at ho';cases ho';exact⟨_,es',ep',hL,r'⟩) hok I.bare
theorem Inv.call {g':Array GenState}{t':Nat}{d':Drawn}{ch:List Addr}(I:Inv X j8 σ H s) (u:Un (frs X.stack) ch H H' s.heap h') (hok:HOk X.prog X.w H' h') (hg:AllBare g')
  (vO:∀b∈ch,(b∈X.ex\/X.s₀.heap.objs.size<=b)/\b≠X.env.locals/\(∀x c,X.env.cells.lookup x=some c->c≠b)/\∀p∈X.pn++j8,p.1≠b) :
  Inv X j8 σ H' { s with heap:=h',gens:=g',drawn:=d',toks:=t' }:=by
 obtain⟨m,⟨o,es,ep,ho,r⟩,_⟩:=id I.loc;obtain⟨sl,hL⟩:=u.any ho I.free λz=>(vO _ z).2.1 rfl;exact I.step (ch:=ch) vO (λb o hL hb hc e n=>u.keep b o e n (λz=>(Zt.mp (I.stkSub b z)).elim hL hb) hc) (λb o _ _ hc e n=>u.any e n hc) (λb o hc e n=>u.free b o e n hc) (λb o hc e=>u.there b o e hc) u.tups u.frzs u.tbls (λm' hm=>by
  obtain⟨o',es',ep',ho',r'⟩:=hm;rw[ho] at ho';cases ho';exact⟨_,es',ep',hL,r'⟩) hok hg
theorem Inv.turned {t':Nat}{it:Addr}(I:Inv X j8 σ H s) (k:∀b o,b≠it->s.heap.get? b=some o->h'.get? b=some o) (hn:H it=none) (hL:it≠X.env.locals)
  (h1:it∈X.ex\/X.s₀.heap.objs.size<=it) (h2:∀x c,X.env.cells.lookup x=some c->c≠it) (h3:∀p∈X.pn++j8,p.1≠it):Inv X j8 σ H { s with heap:=h',toks:=t' }:=by
 have nit:∀b u,H b=some u->b≠it:=λb u e z=>by rw[z,hn] at e;cases e
 refine I.step (g':=s.gens) (d':=s.drawn) (ch:=[it]) (λb hb=>?_) (λb o _ _ hc e _=>k b o (λz=>hc (by simp[z])) e) (λb o _ _ hc e _=>⟨o.slots,k b o (λz=>hc (by simp[z])) e⟩) (λ_ _ _ _ n=>n)
  (λb o hc e=>⟨o,k b o (λz=>hc (by simp[z])) e⟩) (λ_ _ e=>e) (λ_ _ _ e=>e) (λb ps e=>⟨#[],by rw[e];simp⟩) (λm hm=>?_) (λb u e=>?_) I.bare
 ·have e:b=it:=by simpa using hb
  subst e;exact⟨h1,hL,h2,h3⟩
 ·obtain⟨o,es,ep,ho,r⟩:=hm;exact⟨o,es,ep,k _ o (XC hL) ho,r⟩
 ·refine (I.hok b u e).stay (λc v hc q=>k c v ?_ q) (λ_ q=>q) λ_ _ q=>q;rcases hc with z|z
  ·rw[z];exact nit b u e
  ·exact nit c _ z
theorem Inv.tok (I:Inv X j8 σ H s) (t:Nat):Inv X j8 σ H { s with toks:=t }:=I.un (h':=s.heap) (t':=t) Un.refl I.hok
theorem Inv.kept {t':Nat}(I:Inv X j8 σ H s) (k:∀b u,s.heap.get? b=some u->h'.get? b=some u):Inv X j8 σ H { s with heap:=h',toks:=t' }:=I.un (Un.kept k) (I.hok.kept k)
theorem Inv.laid {a:Addr}{o:HO}{t':Nat}(I:Inv X j8 σ H s) (k:∀b u,s.heap.get? b=some u->h'.get? b=some u) (hp:s.heap.objs.size<=a) (new:ObjOk X.prog X.w (upd H a o) h' a o) :
  Inv X j8 σ (upd H a o) { s with heap:=h',toks:=t' }:=I.un (Un.laid k hp (I.hok.fresh hp)) (I.hok.laid k hp new)
theorem Inv.write {x e:Addr}{o:HO}{t':Nat}(I:Inv X j8 σ H s) (mu:Mut (H x)) (he:e=x\/H e=some (.own x)) (k:∀b u,b≠e->s.heap.get? b=some u->h'.get? b=some u) (heo:∃u,h'.get? e=some u)
  (new:ObjOk X.prog X.w (upd H x o) h' x o):Inv X j8 σ (upd H x o) { s with heap:=h',toks:=t' }:=I.un (Un.write mu he k heo) (I.hok.write mu he k heo new)
theorem Inv.pins_of {pins':List (Addr×Obj)}(I:Inv X j8 σ H s) (h:∀p∈pins',s.heap.get? p.1=some p.2/\H p.1=none/\p.1≠X.env.locals/\p.1∉X.fs/\∀v,p.2.data≠.cell v):Inv X pins' σ H s:=
 ⟨I.ok,I.os,I.bare,I.base,I.loc,I.cell,I.free,I.freeC,λp hp=>(Z5.mp hp).elim (λz=>I.pin p (X9 _ z)) (h p),I.hok,I.len⟩
theorem qK5 {N:List Str}(hN:N.Nodup){i j:Nat}{x:Str}(a:N[i]?=some x) (b:N[j]?=some x):i=j:=by
 obtain⟨h1,e1⟩:=gS_ a;obtain⟨h2,e2⟩:=gS_ b;exact (List.getElem_inj hN).mp (e1.trans e2.symm)
theorem qS7 {M:Model}{A:Around}{E:Value->Shared->Prop}{i:Nat}{x:Str}{v:V}{u:Value}{Q:Unit->Shared->Prop}(I:Inv X j8 σ H s) (hN:X.N.Nodup) (hi:X.N[i]?=some x) (hx:Loc X.env.scope x) (r:RelV v u)
  (h:∀s',Inv X j8 (σ.set i (some v)) H s'->(∃a,Heap.SameBut a s.heap s'.heap/\(a=X.env.locals\/X.env.cells.lookup x=some a))->Q () s') (hf:X.fn x=true\/X.env.scope.names.lookup x=some .local:=by first|exact .inl rfl|exact .inr rfl|assumption):wpAny M A (storeName X.env x u) Q E s:=by
 obtain⟨m,hn,hl⟩:=id I.loc;have hcls:(X.env.scope.kind==.class||(X.env.scope.kind==.module&&X.env.locals != X.env.globals))=false:=by rw[I.ok.kind];rfl
 have hiσ:i<σ.length:=by rw[I.len];exact (gS_ hi).1
 have cne:=I.cne;have tracked:∀{a:Addr}{h':Heap},(∃o,s.heap.get? a=some o/\H a=none)->Heap.SameBut a s.heap h'->HOk X.prog X.w H h':=λ{a h'} ha hs b ob e=>by
  obtain⟨_,_,hfree⟩:=ha;refine (I.hok b ob e).stay (λc w' hc q=>(hs.2 c ?_).trans q) (λ_ q=>q) λ_ _ q=>q;rintro rfl;rcases hc with rfl|hc
  ·rw[hfree] at e;cases e
  ·rw[hfree] at hc;cases hc
 rcases hx with hk|hk
 ·refine wpAny_storeName_local hk hn (λh' hn' hs=>?_) hcls;obtain⟨oL,_,_,hoL,_⟩:=id hn;refine h _ ⟨I.ok,I.os,I.bare,⟨λb o e n hb hx=>?_,λb o e n hb hx=>?_,I.base.free,λb o e hx=>?_,I.base.tups,I.base.frzs,I.base.tbls⟩,⟨_,hn',λj y v' e1 e2 e3=>?_⟩,λy c e=>?_,I.free,I.freeC,λp hp=>?_,tracked ⟨oL,hoL,I.free⟩ hs,by simpa using I.len⟩ ⟨_,hs,.inl rfl⟩
  ·exact (hs.2 b (Zp (ZP (Zi e) I.ok.above))).trans (I.base.keep b o e n hb hx)
  ·obtain⟨sl,e1⟩:=I.base.slot b o e n hb hx;exact⟨sl,(hs.2 b (Zp (ZP (Zi e) I.ok.above))).trans e1⟩
  ·obtain⟨o',e1⟩:=I.base.there b o e hx;exact⟨o',(hs.2 b (Zp (ZP (Zi e) I.ok.above))).trans e1⟩
  ·by_cases hj:j=i
   ·subst hj;rw[hi] at e1;cases e1;rw[List.getElem?_set_self hiσ] at e2;cases e2;exact⟨u,r,.inl ⟨hk,by simp⟩⟩
   ·rw[List.getElem?_set_ne (XC hj)] at e2;obtain⟨u',r',q⟩:=hl j y v' e1 e2 e3;refine⟨u',r',?_⟩;rcases q with ⟨k,e⟩|⟨k,c,e,z⟩
    ·refine .inl ⟨k,?_⟩;have:y≠x:=λe=>hj (qK5 hN e1 (e▸hi));simp[this,e]
    ·exact .inr ⟨k,c,e,z.sameBut hs (cne y c e)⟩
  ·obtain⟨w',z⟩:=I.cell y c e;exact⟨w',z.sameBut hs (cne y c e)⟩
  ·obtain⟨e,n,ne,nf,d⟩:=I.pin p hp;exact⟨(hs.2 p.1 ne).trans e,n,ne,nf,d⟩
 ·have hfn:X.fn x=true:=by
   rcases hf with z|z
   ·exact z
   ·rw[z] at hk;cases hk
  obtain⟨c,hc⟩:=I.ok.has x (.inl hk);obtain⟨w',z⟩:=I.cell x c hc;refine wpAny_storeName_cell I.ok.kind hk hc z (λh' hc' hs=>?_);obtain⟨oc,hoc,hocd⟩:=id z;refine h { s with heap:=h' } ⟨I.ok,I.os,I.bare,⟨λb o e n hb hx=>?_,λb o e n hb hx=>?_,I.base.free,λb o e hx=>?_,I.base.tups,I.base.frzs,I.base.tbls⟩,⟨m,hn.sameBut hs (XC (cne x c hc)),λj y v' e1 e2 e3=>?_⟩,λy c' e=>?_,I.free,I.freeC,λp hp=>?_,tracked ⟨oc,hoc,I.freeC x c hc⟩ hs,by simpa using I.len⟩ ⟨c,hs,.inr hc⟩
  ·exact (hs.2 b (Zp (ZP (Zi e) (I.ok.cab x c hfn hc)))).trans (I.base.keep b o e n hb hx)
  ·obtain⟨sl,e1⟩:=I.base.slot b o e n hb hx;exact⟨sl,(hs.2 b (Zp (ZP (Zi e) (I.ok.cab x c hfn hc)))).trans e1⟩
  ·obtain⟨o',e1⟩:=I.base.there b o e hx;exact⟨o',(hs.2 b (Zp (ZP (Zi e) (I.ok.cab x c hfn hc)))).trans e1⟩
  ·by_cases hj:j=i
   ·subst hj;rw[hi] at e1;cases e1;rw[List.getElem?_set_self hiσ] at e2;cases e2;exact⟨u,r,.inr ⟨.inl hk,c,hc,hc'⟩⟩
   ·rw[List.getElem?_set_ne (XC hj)] at e2;obtain⟨u',r',q⟩:=hl j y v' e1 e2 e3;refine⟨u',r',?_⟩;rcases q with q|⟨k,c',e,z'⟩
    ·exact .inl q
    ·refine .inr ⟨k,c',e,z'.sameBut hs ?_⟩;rintro rfl;exact hj (qK5 hN e1 (I.ok.inj _ _ _ e hc▸hi))
  ·by_cases hcc:c'=c
   ·subst hcc;exact⟨_,hc'⟩
   ·obtain⟨w2,z2⟩:=I.cell y c' e;exact⟨w2,z2.sameBut hs hcc⟩
  ·obtain⟨e,n,ne,nf,d⟩:=I.pin p hp;refine⟨(hs.2 p.1 ?_).trans e,n,ne,nf,d⟩;intro q;rw[q,hoc] at e;have q':oc=p.2:=ZO e;exact d w' (by rw[<- q'];exact hocd)
theorem qq7 {M:Model}{A:Around}{E:Value->Shared->Prop}{i:Nat}{x:Str}{v:V}{u:Value}{Q:Unit->Shared->Prop}(I:Inv X j8 σ H s) (hN:X.N.Nodup) (hi:X.N[i]?=some x) (hx:Loc X.env.scope x) (r:RelV v u)
  (h:∀s',Inv X j8 (σ.set i (some v)) H s'->Q () s') (hf:X.fn x=true\/X.env.scope.names.lookup x=some .local:=by first|exact .inl rfl|exact .inr rfl|assumption):wpAny M A (storeName X.env x u) Q E s:=
 qS7 I hN hi hx r (λs' I' _=>h s' I') hf
theorem Inv.call' {s':Shared}{ch:List Addr}(I:Inv X j8 σ H s) (ho:s'.os=s.os) (u:Un (frs X.stack) ch H H' s.heap s'.heap) (hok:HOk X.prog X.w H' s'.heap) (hg:AllBare s'.gens)
  (vO:∀b∈ch,(b∈X.ex\/X.s₀.heap.objs.size<=b)/\b≠X.env.locals/\(∀x c,X.env.cells.lookup x=some c->c≠b)/\∀p∈X.pn++j8,p.1≠b):Inv X j8 σ H' s':=by
 obtain⟨h',g',d',t',o'⟩:=s';have e:o'=s.os:=ho;subst e;exact I.call (g':=g') (t':=t') (d':=d') u hok hg vO
end
abbrev XK:=Value->Option Addr->Hp->Prop
abbrev St:=List (Option V)
abbrev VK:=V->Hp->Prop
abbrev TE:=St->Hp->VK->Prop
abbrev TT:=St->Hp->(Bool->Hp->Prop)->Prop
abbrev TA:=St->Hp->(List V->Hp->Prop)->Prop
structure Ends where
 nx:St->Hp->Prop
 rt:VK
 bk:St->Hp->Prop:=λ_ _=>False
 ct:St->Hp->Prop:=λ_ _=>False
abbrev TS:=Ends->St->Hp->Prop
def EP (X:Cx) (j8:List (Addr×Obj)) (σ:St) (Q:VK) (u:Value) (s':Shared):Prop:=∃v H',Inv X j8 σ H' s'/\RelV v u/\Q v H'
def TP (X:Cx) (j8:List (Addr×Obj)) (σ:St) (Q:Bool->Hp->Prop) (b:Bool) (s':Shared):Prop:=∃H',Inv X j8 σ H' s'/\Q b H'
def AP (X:Cx) (j8:List (Addr×Obj)) (σ:St) (Q:List V->Hp->Prop) (us:List Value) (s':Shared):Prop:=∃vs H',Inv X j8 σ H' s'/\Vals vs us/\Q vs H'
def SP (X:Cx) (j8:List (Addr×Obj)) (D:Ends) (f:Flow) (s':Shared):Prop:=
 match f with
 |.next=>∃σ' H',Inv X j8 σ' H' s'/\D.nx σ' H'
 |.brk=>∃σ' H',Inv X j8 σ' H' s'/\D.bk σ' H'
 |.cont=>∃σ' H',Inv X j8 σ' H' s'/\D.ct σ' H'
 |.ret u=>∃v σ' H',Inv X j8 σ' H' s'/\RelV v u/\D.rt v H'
def PE (X:Cx) (e:Expr) (t:TE):Prop:=
 ∀(j8:List (Addr×Obj)) (s:Shared) (σ:St) (H:Hp) (Q:VK),Inv X j8 σ H s->t σ H Q->wpAny (model X.prog X.w) X.A (eval e X.env) (EP X j8 σ Q) X.xe s
def PT (X:Cx) (e:Expr) (t:TT):Prop:=
 ∀(j8:List (Addr×Obj)) (s:Shared) (σ:St) (H:Hp) (Q:Bool->Hp->Prop),Inv X j8 σ H s->t σ H Q->wpAny (model X.prog X.w) X.A (isTrue e X.env (eval e X.env)) (TP X j8 σ Q) X.xe s
def PW (X:Cx) (e:Expr) (t:TT):Prop:=
 ∀(whole:Sem Value) (j8:List (Addr×Obj)) (s:Shared) (σ:St) (H:Hp) (Q:Bool->Hp->Prop),Inv X j8 σ H s->t σ H Q->wpAny (model X.prog X.w) X.A (isTrue e X.env whole) (TP X j8 σ Q) X.xe s
theorem PW.pt {X:Cx}{e:Expr}{t:TT}(h:PW X e t):PT X e t:=h _
def PA (X:Cx) (es:List Expr) (t:TA):Prop:=
 ∀(pos:Pos) (j8:List (Addr×Obj)) (s:Shared) (σ:St) (H:Hp) (Q:List V->Hp->Prop),Inv X j8 σ H s->t σ H Q->wpAny (model X.prog X.w) X.A (spliced (backTo pos (starEach es X.env))) (AP X j8 σ Q) X.xe s
def PS (X:Cx) (st:Stmt) (t:TS):Prop:=
 ∀(j8:List (Addr×Obj)) (s:Shared) (σ:St) (H:Hp) (D:Ends),Inv X j8 σ H s->t D σ H->wpAny (model X.prog X.w) X.A (exec st X.env) (SP X j8 D) X.xe s
def PSs (X:Cx) (st:List Stmt) (t:TS):Prop:=
 ∀(j8:List (Addr×Obj)) (s:Shared) (σ:St) (H:Hp) (D:Ends),Inv X j8 σ H s->t D σ H->wpAny (model X.prog X.w) X.A (execs st X.env) (SP X j8 D) X.xe s
theorem thn {α:Type}{t:Sem α}{Q Q':α->Shared->Prop}{M:Model}{A:Around}{E:Value->Shared->Prop}{s:Shared}(h:wpAny M A t Q E s) (hQ:∀a s,Q a s->Q' a s):wpAny M A t Q' E s:=YF h hQ λ_ _ x=>x
section
variable {X:Cx}
inductive tVar_ (i:Nat) (σ:St) (H:Hp) (Q:VK):Prop
 |mk (v:_) (e0:σ[i]?=some (some v)) (e1:Q v H)
def tVar (i:Nat):TE:=λσ H Q=>tVar_ i σ H Q
def tC (v:V):TE:=λ_ H Q=>Q v H
theorem xp5 {i:Nat}{x:Str}{pos:Pos}(hN:X.N[i]?=some x) (hv:Vis X.env.scope x) (hd:(x==("__debug__" : Str))=false:=by decide) (kW:(x==("__classdict__" : Str))=false:=by decide):PE X (.Name x pos) (tVar i):=by
 intro j8 s σ H Q I h;obtain⟨v,e,h⟩:=h;obtain⟨m,hn,hl⟩:=I.loc;obtain⟨u,r,l⟩:=hl i x v hN e hv;have fin:EP X j8 σ Q u s:=⟨v,H,I,r,h⟩;rcases l with ⟨hk,hm⟩|⟨hk,c,hc,jB⟩
 ·exact wpAny_Name (wpAny_loadName_local I.ok.kind hk hn hm fin) hd
 ·rcases hk with hk|hk
  ·exact wpAny_Name (wpAny_loadName_cell I.ok.kind hk hc jB fin) hd
  ·exact wpAny_Name (wpAny_loadName_free I.ok.kind hk hc jB fin kW) hd
theorem qa1 {i j pos}:PE X (.Constant (.int i) j pos) (tC (.int i)):=λ_ _ _ H _ I h=>wpAny_Constant_int ⟨.int i,H,I.tok _,⟨_,rfl⟩,h⟩
theorem qm4 {b j pos}:PE X (.Constant (.bool b) j pos) (tC (.bl b)):=λ_ _ _ H _ I h=>Constant_bool ⟨.bl b,H,I,rfl,h⟩
theorem xe2 {j pos}:PE X (.Constant .none j pos) (tC .non):=λ_ _ _ H _ I h=>Constant_none ⟨.non,H,I,rfl,h⟩
theorem qw6 {x j pos}:PE X (.Constant (.str x) j pos) (tC (.str x)):=λ_ _ _ H _ I h=>Calls.Constant_str ⟨.str x,H,I.tok _,⟨_,rfl⟩,h⟩
def Gl (X:Cx) (x:Str):Prop:=X.env.kindOf x=some .globalImplicit
theorem qS8 {E:Value->Shared->Prop}{j8:List (Addr×Obj)}{s:Shared}{σ:St}{H:Hp}{x:Str}{u:Value}{pos:Pos}{Q:Value->Shared->Prop}(I:Inv X j8 σ H s) (hg:Gl X x) (hm:X.mg x=some u) (h:Q u s)
  (hd:(x==("__debug__" : Str))=false:=by decide):wpAny (model X.prog X.w) X.A (eval (.Name x pos) X.env) Q E s:=
 Calls.Name_function_global I.ok.kind hg (Calls.loadGlobal_global (by rw[I.ok.glob];exact I.mod.glob.keeps I.bk) hm h) hd
theorem qw7 {E:Value->Shared->Prop}{j8:List (Addr×Obj)}{s:Shared}{σ:St}{H:Hp}{x:Str}{u:Value}{pos:Pos}{Q:Value->Shared->Prop}(I:Inv X j8 σ H s) (hg:Gl X x) (hm:X.mg x=none) (hv:bootBuiltins x=some u) (h:Q u s)
  (hn:x ≠ "__name__":=by decide) (hd:(x==("__debug__" : Str))=false:=by decide):wpAny (model X.prog X.w) X.A (eval (.Name x pos) X.env) Q E s:=by
 obtain⟨mb,h1,h2⟩:=I.mod.blt;exact Calls.Name_function_global I.ok.kind hg (Calls.loadGlobal_builtin (by rw[I.ok.glob];exact I.mod.glob.keeps I.bk) hm (by rw[I.ok.blt];exact h1.keeps I.bk) ((h2 x hn).trans hv) h) hd
theorem qe0 {x:Str}{v:V}{u:Value}{pos:Pos}(hg:Gl X x) (hm:X.mg x=some u) (r:RelV v u) (hd:(x==("__debug__" : Str))=false:=by decide):PE X (.Name x pos) (tC v):=
 λ_ _ _ H _ I h=>qS8 I hg hm ⟨v,H,I,r,h⟩ hd
theorem qi6 {x:Str}{v:V}{u:Value}{pos:Pos}(hg:Gl X x) (hm:X.mg x=none) (hv:bootBuiltins x=some u) (r:RelV v u) (hn:x ≠ "__name__":=by decide) (hd:(x==("__debug__" : Str))=false:=by decide):PE X (.Name x pos) (tC v):=
 λ_ _ _ H _ I h=>qw7 I hg hm hv ⟨v,H,I,r,h⟩ hn hd
variable {a b:Expr}{ta tb:TE}{pos:Pos}
def PC (X:Cx) (op:CmpOp) (a b:Expr) (t:TE):Prop:=
 ∀(j8:List (Addr×Obj)) (s:Shared) (σ:St) (H:Hp) (Q:VK),Inv X j8 σ H s->t σ H Q ->
  wpAny (model X.prog X.w) X.A (eval a X.env) (λv s₁=>wpAny (model X.prog X.w) X.A (eval b X.env) (λu s₂=>wpAny (model X.prog X.w) X.A (compareOp op v u) (EP X j8 σ Q) X.xe s₂) X.xe s₁) X.xe s
inductive tB_ (Q:Bool->Hp->Prop) (x:V) (H1:Hp):Prop
 |mk (c:_) (e0:x=.bl c) (e1:Q c H1)
def tB (t:TE):TT:=λσ H Q=>t σ H λx H1=>tB_ Q x H1
theorem qS9 {op:CmpOp}{t:TE}(h:PC X op a b t) (h1:behindInMarks op b=false:=by first|exact nobehind _ (by decide) (by decide)|rfl):PT X (.Compare a [op] [b] pos) (tB t):=by
 intro j8 s σ H Q I hw;refine wpAny_isTrue_Compare1 (thn (h j8 s σ H _ I hw) λv s1 h1=>thn h1 λu s2 h2=>thn h2 λc s3 ⟨x,H1,I1,r1,q1⟩=>?_) h1;obtain⟨d,rfl,q⟩:=q1;cases r1;exact Yd ⟨H1,I1,q⟩
theorem qe6 {e:Expr}{t:TE}(h:PE X e t) (he:∀whole,isTrue e X.env whole=(do let v <- whole;standAt e.pos;holding [v] (truthy v)):=by intro _;rfl):PT X e (tB t):=by
 intro j8 s σ H Q I hw;refine isTrue_plain (thn (h j8 s σ H _ I hw) λv s1 ⟨x,H1,I1,r1,q1⟩=>?_) (he _);obtain⟨d,rfl,q⟩:=q1;cases r1;exact Yd ⟨H1,I1,q⟩
variable {tA tB':TT}{rest:List Expr}
def tAnd (t u:TT):TT:=λσ H Q=>t σ H λc H1=>if c=true then u σ H1 Q else Q false H1
def tOr (t u:TT):TT:=λσ H Q=>t σ H λc H1=>if c=true then Q true H1 else u σ H1 Q
def tNot (t:TT):TT:=λσ H Q=>t σ H λc H1=>Q (!c) H1
theorem qT0 (ha:PT X a tA):PW X (.BoolOp .And [a] pos) tA:=by
 intro wh j8 s σ H Q I h;refine isTrue_and (thn (ha j8 s σ H Q I h) λc s1 e=>?_);cases c with
 |true=>exact isTrue_and_nil e
 |false=>exact e
theorem qg9 (ha:PT X a tA):PW X (.BoolOp .Or [a] pos) tA:=by
 intro wh j8 s σ H Q I h;refine isTrue_or (thn (ha j8 s σ H Q I h) λc s1 e=>?_);cases c with
 |false=>exact isTrue_or_nil e
 |true=>exact e
theorem xe3 (ha:PT X a tA) (hb:PW X (.BoolOp .And (b::rest) pos) tB'):PW X (.BoolOp .And (a::b::rest) pos) (tAnd tA tB'):=by
 intro wh j8 s σ H Q I h;refine isTrue_and (thn (ha j8 s σ H _ I h) λc s1 ⟨H1,I1,q1⟩=>?_);cases c with
 |true=>exact hb wh j8 s1 σ H1 Q I1 q1
 |false=>exact⟨H1,I1,q1⟩
theorem qk9 (ha:PT X a tA) (hb:PW X (.BoolOp .Or (b::rest) pos) tB'):PW X (.BoolOp .Or (a::b::rest) pos) (tOr tA tB'):=by
 intro wh j8 s σ H Q I h;refine isTrue_or (thn (ha j8 s σ H _ I h) λc s1 ⟨H1,I1,q1⟩=>?_);cases c with
 |true=>exact⟨H1,I1,q1⟩
 |false=>exact hb wh j8 s1 σ H1 Q I1 q1
theorem qg1 (ha:PT X a tA):PT X (.UnaryOp .Not a pos) (tNot tA):=by
 intro j8 s σ H Q I h;exact isTrue_not (ha j8 s σ H (λc H1=>Q (!c) H1) I h)
def xv8 (ta tb:TE):TE:=λσ H Q=>ta σ H λx H1=>∃c,x=.bl c/\if c=true then tb σ H1 Q else Q (.bl false) H1
def xv9 (ta:TE):TE:=λσ H Q=>ta σ H λx H1=>∃c,x=.bl c/\Q (.bl (!c)) H1
theorem qm5 {op}{t:TE}(h:PE X a t):PE X (.BoolOp op [a] pos) t:=λj8 s σ H Q I hw=>BoolOp_one (h j8 s σ H Q I hw)
theorem qi2 (ha:PE X a ta) (hb:PE X (.BoolOp .And (b::rest) pos) tb):PE X (.BoolOp .And (a::b::rest) pos) (xv8 ta tb):=by
 intro j8 s σ H Q I h;refine BoolOp_and (thn (ha j8 s σ H _ I h) λv s1 ⟨x,H1,I1,r1,q1⟩=>?_);obtain⟨c,rfl,q1⟩:=q1;cases r1;refine Yd ?_;cases c with
 |true=>exact hb j8 s1 σ H1 Q I1 q1
 |false=>exact⟨.bl false,H1,I1,rfl,q1⟩
theorem xp6 (ha:PE X a ta):PE X (.UnaryOp .Not a pos) (xv9 ta):=by
 intro j8 s σ H Q I h;refine UnaryOp_ (thn (ha j8 s σ H _ I h) λv s1 ⟨x,H1,I1,r1,q1⟩=>?_);obtain⟨c,rfl,q1⟩:=q1;cases r1;exact not_of (Yd ⟨.bl (!c),H1,I1,rfl,q1⟩)
end
def SqL (K:PySem.W.Frag) (H:Hp) (a:Addr) (xs:List V):Prop:=
 Rd H a (.lst xs) \/
  ∃(o:Obj) (its:Array Value) (n:Nat),K.lookup a=some o/\o.cls=.type "list" /\ o.dict=none/\o.data=.seq its n/\its.size<=sizeLine/\Vals xs its.toList
def SqT (K:PySem.W.Frag) (H:Hp) (a:Addr) (xs:List V):Prop:=
 Rd H a (.tup xs) \/
  ∃(o:Obj) (its:Array Value) (n:Nat),K.lookup a=some o/\o.cls=.type "tuple" /\ o.data=.seq its n/\its.size<=sizeLine/\Vals xs its.toList
def absV:Value->Option V
 |.none=>some .non
 |.bool b=>some (.bl b)
 |.int i _=>some (.int i)
 |.str x _=>some (.str x)
 |.bytes b _=>some (.byt b)
 |.float b _=>some (.flt b)
 |.ref a=>some (.ref a)
 |.type n=>some (.ty n)
 |_=>none
theorem RelV.abs {x:V}{u:Value}(r:RelV x u):absV u=some x:=by
 cases x with
 |non=>cases r;rfl
 |bl _=>cases r;rfl
 |int _=>obtain⟨t,rfl⟩:=r;rfl
 |str _=>obtain⟨t,rfl⟩:=r;rfl
 |byt _=>obtain⟨t,rfl⟩:=r;rfl
 |flt _=>obtain⟨t,rfl⟩:=r;rfl
 |ref _=>cases r;rfl
 |ty _=>cases r;rfl
theorem RelV.inj {x y:V}{u:Value}(r:RelV x u) (q:RelV y u):x=y:=ZO (r.abs.symm.trans q.abs)
theorem Vals.inj:∀{xs ys:List V}{us:List Value},Vals xs us->Vals ys us->xs=ys
 |_,_,_,.nil,.nil=>rfl
 |_,_,_,.cons r t,.cons r' t'=>by rw[r.inj r',Vals.inj t t']
section
variable {X:Cx}{j8:List (Addr×Obj)}{σ:St}{H:Hp}{s:Shared}{a:Addr}{xs ys:List V}
theorem SqL.of {K:PySem.W.Frag}(h:H a=some (.lst xs)):SqL K H a xs:=.inl (.inl h)
theorem SqT.of {K:PySem.W.Frag}(h:H a=some (.tup xs)):SqT K H a xs:=.inl (.inl h)
theorem Inv.list (I:Inv X j8 σ H s) (h:SqL X.K H a xs):∃its:List Value,Vals xs its/\PlainL s.heap a its.toArray/\xs.length<=sizeLine:=by
 rcases h with h|⟨o,its,n,hk,hc,hd,hs,hz,r⟩
 ·obtain⟨z,its,n,r,e⟩:=h.ok I.hok;exact⟨its,r,⟨_,n,e,rfl,rfl,rfl⟩,z⟩
 ·refine⟨its.toList,r,⟨o,n,I.kIn a o hk,hc,hd,by simpa using hs⟩,?_⟩;have e:=r.length;simp only[ZJ] at e;lia
theorem Inv.tuple (I:Inv X j8 σ H s) (h:SqT X.K H a xs):∃its:List Value,Vals xs its/\IsTup s.heap a its.toArray/\xs.length<=sizeLine:=by
 rcases h with h|⟨o,its,n,hk,hc,hs,hz,r⟩
 ·obtain⟨z,its,r,p⟩:=h.ok I.hok;exact⟨its,r,p,z⟩
 ·refine⟨its.toList,r,⟨o,I.kIn a o hk,hc,n,by simpa using hs⟩,?_⟩;have e:=r.length;simp only[ZJ] at e;lia
theorem Inv.list_inj (I:Inv X j8 σ H s) (h:SqL X.K H a xs) (h':SqL X.K H a ys):xs=ys:=by
 obtain⟨its,r,⟨o,n,e,_,_,d⟩,_⟩:=I.list h;obtain⟨its',r',⟨o',n',e',_,_,d'⟩,_⟩:=I.list h';rw[e] at e';cases e';rw[d] at d';injection d' with d1 _
 have:its=its':=by simpa using Yk Array.toList d1
 subst this;exact r.inj r'
theorem Inv.tuple_inj (I:Inv X j8 σ H s) (h:SqT X.K H a xs) (h':SqT X.K H a ys):xs=ys:=by
 obtain⟨its,r,⟨o,e,_,n,d⟩,_⟩:=I.tuple h;obtain⟨its',r',⟨o',e',_,n',d'⟩,_⟩:=I.tuple h';rw[e] at e';cases e';rw[d] at d';injection d' with d1 _
 have:its=its':=by simpa using Yk Array.toList d1
 subst this;exact r.inj r'
end
abbrev Cx.wish (X:Cx) (E:Value->Shared->Prop):Cx:={ X with xe:=E }
abbrev Cx.nox (X:Cx):Cx:=X.wish λ_ _=>False
theorem Cx.Ok.wish {X:Cx}(ok:X.Ok) (E:Value->Shared->Prop):(X.wish E).Ok:=
 ⟨ok.mod,ok.kind,ok.glob,ok.blt,ok.above,ok.inj,ok.has,ok.cab,ok.hd,ok.frames,ok.stk,ok.exf,ok.bs,ok.bsz,ok.noex,ok.exfs,ok.funs,ok.frf⟩
theorem Cx.Ok.unwish {X:Cx}{E:Value->Shared->Prop}(ok:(X.wish E).Ok):X.Ok:=
 ⟨ok.mod,ok.kind,ok.glob,ok.blt,ok.above,ok.inj,ok.has,ok.cab,ok.hd,ok.frames,ok.stk,ok.exf,ok.bs,ok.bsz,ok.noex,ok.exfs,ok.funs,ok.frf⟩
section
variable {X:Cx}{j8:List (Addr×Obj)}{σ:St}{H:Hp}{s:Shared}{E:Value->Shared->Prop}
theorem Inv.wish (I:Inv X j8 σ H s) (E:Value->Shared->Prop):Inv (X.wish E) j8 σ H s:=⟨I.ok.wish E,I.os,I.bare,I.base,I.loc,I.cell,I.free,I.freeC,I.pin,I.hok,I.len⟩
theorem Inv.unwish (I:Inv (X.wish E) j8 σ H s):Inv X j8 σ H s:=⟨I.ok.unwish,I.os,I.bare,I.base,I.loc,I.cell,I.free,I.freeC,I.pin,I.hok,I.len⟩
theorem SP.unwish {D:Ends}{f:Flow}{s':Shared}(h:SP (X.wish E) j8 D f s'):SP X j8 D f s':=by
 cases f with
 |next=>obtain⟨σ',H',I,q⟩:=h;exact⟨σ',H',I.unwish,q⟩
 |brk=>obtain⟨σ',H',I,q⟩:=h;exact⟨σ',H',I.unwish,q⟩
 |cont=>obtain⟨σ',H',I,q⟩:=h;exact⟨σ',H',I.unwish,q⟩
 |ret u=>obtain⟨v,σ',H',I,r,q⟩:=h;exact⟨v,σ',H',I.unwish,r,q⟩
theorem PSs.nox {st:List Stmt}{t:TS}(h:PSs X.nox st t):PSs X st t:=λj8 s σ H D I hw=>
 YF (h j8 s σ H D (I.wish _) hw) (λ_ _ q=>q.unwish) λ_ _ z=>False.elim z
end
section
variable {X:Cx}{st:Stmt}{rest:List Stmt}{t u:TS}{e:Expr}{te:TE}{pos:Pos}
def xw0:TS:=λD σ H=>D.nx σ H
def tSeq (t u:TS):TS:=λD σ H=>t { D with nx:=u D } σ H
theorem qb8:PSs X [] xw0:=λ_ _ σ H _ I h=>wpAny_execs_nil ⟨σ,H,I,h⟩
theorem qb5 (h1:PS X st t) (h2:PSs X rest u):PSs X (st::rest) (tSeq t u):=by
 intro j8 s σ H D I h;refine wpAny_execs_cons (thn (h1 j8 s σ H { D with nx:=u D } I h) λf s1 q=>?_);cases f with
 |next=>
  obtain⟨σ',H',I',q⟩:=q;exact h2 j8 s1 σ' H' D I' q
 |ret v=>exact q
 |brk=>exact q
 |cont=>exact q
theorem qa8 (h1:PS X st t):PSs X [st] t:=by
 intro j8 s σ H D I h;refine wpAny_execs_cons (thn (h1 j8 s σ H D I h) λf s1 q=>?_);cases f with
 |next=>exact wpAny_execs_nil q
 |ret v=>exact q
 |brk=>exact q
 |cont=>exact q
theorem Inv.quiet {j8:List (Addr×Obj)}{σ:St}{H:Hp}{s:Shared}(I:Inv X j8 σ H s):interactive X.env=false:=by simp[interactive,I.ok.kind]
def xw1 (te:TE):TS:=λD σ H=>te σ H λ_ H1=>D.nx σ H1
theorem qe1 (he:PE X e te) (hs:swapsWith e none pos.line X.env=pure false:=by rfl):PS X (.Expr e pos) (xw1 te):=by
 intro j8 s σ H D I h;exact wpAny_Expr_any (thn (he j8 s σ H _ I h) λv s1 ⟨x,H1,I1,r1,q1⟩=>⟨σ,H1,I1,q1⟩) I.quiet hs
def tRet (te:TE):TS:=λD σ H=>te σ H D.rt
theorem qa9 (he:PE X e te):PS X (.Return (some e) pos) (tRet te):=by
 intro j8 s σ H D I h;exact wpAny_Return_some (thn (he j8 s σ H _ I h) λv s1 ⟨x,H1,I1,r1,q1⟩=>⟨x,σ,H1,I1,r1,q1⟩)
def xw2:TS:=λD _ H=>D.rt .non H
theorem qy2:PS X (.Return none pos) xw2:=λ_ _ σ H _ I h=>wpAny_Return_none ⟨.non,σ,H,I,rfl,h⟩
def tIfS (c:TT) (t u:TS):TS:=λD σ H=>c σ H λb H1=>if b=true then t D σ H1 else u D σ H1
theorem qd9 {c:Expr}{a b:List Stmt}{tc:TT}(hc:PT X c tc) (ha:PSs X a t) (hb:PSs X b u):PS X (.If c a b pos) (tIfS tc t u):=by
 intro j8 s σ H D I h;refine wpAny_If (thn (hc j8 s σ H _ I h) λd s1 ⟨H1,I1,q1⟩=>?_);cases d with
 |true=>exact ha j8 s1 σ H1 D I1 q1
 |false=>exact hb j8 s1 σ H1 D I1 q1
def xp7:TS:=λ_ _ _=>False
theorem qf6 {sts:List Stmt}:PSs X sts xp7:=λ_ _ _ _ _ _ h=>h.elim
end
abbrev TG:=V->St->Hp->(St->Hp->Prop)->Prop
abbrev TGs:=List V->St->Hp->(St->Hp->Prop)->Prop
def PG (X:Cx) (target:Expr) (t:TG):Prop:=
 ∀(j8:List (Addr×Obj)) (s:Shared) (σ:St) (H:Hp) (v:V) (u:Value) (Q:St->Hp->Prop),Inv X j8 σ H s->RelV v u->t v σ H Q ->
  wpAny (model X.prog X.w) X.A (assign target X.env u) (λ_ s'=>∃σ' H',Inv X j8 σ' H' s'/\Q σ' H') X.xe s
def PGs (X:Cx) (ts:List Expr) (t:TGs):Prop:=
 ∀(j8:List (Addr×Obj)) (s:Shared) (σ:St) (H:Hp) (vs:List V) (us:List Value) (Q:St->Hp->Prop),Inv X j8 σ H s->Vals vs us->t vs σ H Q ->
  wpAny (model X.prog X.w) X.A (assignInOrder ((assignEach ts X.env).map (·.2)) us) (λ_ s'=>∃σ' H',Inv X j8 σ' H' s'/\Q σ' H') X.xe s
abbrev TSet:=V->V->V->Hp->(Hp->Prop)->Prop
def PSet (X:Cx) (t:TSet):Prop:=
 ∀(j8:List (Addr×Obj)) (s:Shared) (σ:St) (H:Hp) (o i v:V) (ov iv u:Value) (Q:Hp->Prop),Inv X j8 σ H s->RelV o ov->RelV i iv->RelV v u->t o i v H Q ->
  wpAny (model X.prog X.w) X.A (setItem ov iv u) (λ_ s'=>∃H',Inv X j8 σ H' s'/\Q H') X.xe s
abbrev TIp:=V->V->Hp->VK->Prop
def PIp (X:Cx) (op:Operator) (t:TIp):Prop:=
 ∀(j8:List (Addr×Obj)) (s:Shared) (σ:St) (H:Hp) (x y:V) (v u:Value) (Q:VK),Inv X j8 σ H s->RelV x v->RelV y u->t x y H Q ->
  wpAny (model X.prog X.w) X.A (inplaceOp op v u) (EP X j8 σ Q) X.xe s
section
variable {X:Cx}{pos:Pos}
def qd1 (i:Nat):TG:=λv σ H Q=>Q (σ.set i (some v)) H
theorem qh8 {i:Nat}{x:Str}(hN:X.N.Nodup) (hi:X.N[i]?=some x) (hx:Loc X.env.scope x) (hf:X.fn x=true\/X.env.scope.names.lookup x=some .local:=by first|exact .inl rfl|exact .inr rfl|assumption):PG X (.Name x pos) (qd1 i):=by
 intro j8 s σ H v u Q I r h;exact wpAny_assign_Name (qq7 I hN hi hx r (λs' I'=>⟨_,H,I',h⟩) hf)
def gNil:TGs:=λvs σ H Q=>vs=[]/\Q σ H
inductive gCons_ (t:TG) (u:TGs) (vs:List V) (σ:St) (H:Hp) (Q:St->Hp->Prop):Prop
 |mk (v:_) (r:_) (e0:vs=v::r) (e1:t v σ H λσ' H'=>u r σ' H' Q)
def qf3 (t:TG) (u:TGs):TGs:=λvs σ H Q=>gCons_ t u vs σ H Q
theorem qe9:PGs X [] gNil:=by
 intro j8 s σ H vs us Q I r h;obtain⟨e,h⟩:=h;subst e;cases r;exact assignInOrder_nil ⟨σ,H,I,h⟩
theorem qb1 {e:Expr}{es:List Expr}{t:TG}{u:TGs}(h1:PG X e t) (h2:PGs X es u)
  (hs:(assignEach (e::es) X.env).map (·.2)=assign e X.env::(assignEach es X.env).map (·.2):=by rfl):PGs X (e::es) (qf3 t u):=by
 intro j8 s σ H vs us Q I r h;obtain⟨v,vr,e1,h⟩:=h;subst e1;cases r with
 |cons r rr=>
  rw[hs];refine assignInOrder_cons (thn (h1 j8 s σ H _ _ _ I r h) λ_ s1 ⟨σ1,H1,I1,q1⟩=>?_);exact h2 j8 s1 σ1 H1 _ _ Q I1 rr q1
inductive gTup_ (K:PySem.W.Frag) (n:Nat) (t:TGs) (v:V) (σ:St) (H:Hp) (Q:St->Hp->Prop):Prop
 |mk (a:_) (xs:_) (e0:v=.ref a) (e1:SqT K H a xs) (e2:xs.length=n) (e3:t xs σ H Q)
def gTup (K:PySem.W.Frag) (n:Nat) (t:TGs):TG:=λv σ H Q=>gTup_ K n t v σ H Q
theorem qi3 {es:List Expr}{k:Nat}{t:TGs}{n:Nat}(hc:X.calm=true) (h:PGs X es t)
  (hn:(assignEach es X.env).length=n:=by rfl) (k5:(assignEach es X.env).findIdx? (·.1)=none:=by rfl):PG X (.Tuple es k pos) (gTup X.K n t):=by
 intro j8 s σ H v u Q I r hw;obtain⟨a,xs,e1,hq,hl,hw⟩:=hw;subst e1;cases r;obtain⟨its,rv,ht,hz⟩:=I.tuple hq;refine assign_Tuple_tuple (I.ok.hd hc) ht (by simp[hn,<- hl,rv.length]) k5 λh' hx=>?_;have I1:Inv X j8 σ H { s with heap:=h' }:=I.kept (t':=s.toks) λb o e=>hx b o (Zp (Zi e)) e;exact h j8 _ σ H xs _ Q I1 (by simpa using rv) hw
def gSub (to ti:TE) (t:TSet):TG:=λv σ H Q=>to σ H λo H1=>ti σ H1 λi H2=>t o i v H2 λH3=>Q σ H3
theorem xe4 {o i:Expr}{to ti:TE}{t:TSet}(ho:PE X o to) (hi:PE X i ti) (hs:PSet X t)
  (ha:∀v,assign (.Subscript o i pos) X.env v=(do
   let ov <- holding [v] (eval o X.env)
   let iv <- holding [v,ov] (eval i X.env)
   standAt pos
   holding [v,ov,iv] (setItem ov iv v)
   release [v,ov,iv] []):=by intro _;rfl):PG X (.Subscript o i pos) (gSub to ti t):=by
 intro j8 s σ H v u Q I r h;rw[ha];refine Za (ZX (thn (ho j8 s σ H _ I h) λov s1 ⟨x,H1,I1,r1,q1⟩=>?_));refine Za (ZX (thn (hi j8 s1 σ H1 _ I1 q1) λiv s2 ⟨y,H2,I2,r2,q2⟩=>?_));refine Za (wpAny_standAt (Za (ZX (thn (hs j8 s2 σ H2 x y v ov iv u _ I2 r1 r2 r q2) λ_ s3 ⟨H3,I3,q3⟩=>?_))));exact wpAny_release ⟨σ,H3,I3,q3⟩
def tAsg (te:TE) (g:TG):TS:=λD σ H=>te σ H λx H1=>g x σ H1 D.nx
theorem qi7 {tg e:Expr}{te:TE}{g:TG}(he:PE X e te) (hg:PG X tg g) (hs:swapsWithSole [tg] e pos.line X.env=pure false:=by rfl) (hw:swappedStores [tg] e X.env=pure none:=by rfl)
  (h1:(assignEach [tg] X.env).map (·.2)=[assign tg X.env]:=by rfl):PS X (.Assign [tg] e pos) (tAsg te g):=by
 intro j8 s σ H D I h;refine wpAny_Assign_stores (thn (he j8 s σ H _ I h) λv s1 ⟨x,H1,I1,r1,q1⟩=>?_) hs hw;rw[h1];exact thn (hg j8 s1 σ H1 x v _ I1 r1 q1) λ_ s2 q=>q
theorem xp8 {i:Nat}{x:Str}{e:Expr}{te:TE}{pos':Pos}(hN:X.N.Nodup) (hi:X.N[i]?=some x) (hx:Loc X.env.scope x) (he:PE X e te) (hs:swapsWith e (some (.Name x pos')) pos.line X.env=pure false:=by rfl) (hf:X.fn x=true\/X.env.scope.names.lookup x=some .local:=by first|exact .inl rfl|exact .inr rfl|assumption) :
  PS X (.Assign [.Name x pos'] e pos) (tAsg te (qd1 i)):=by
 intro j8 s σ H D I h;refine wpAny_Assign_Name (thn (he j8 s σ H _ I h) λv s1 ⟨y,H1,I1,r1,q1⟩=>?_) hs;exact qq7 I1 hN hi hx r1 (λs2 I2=>⟨_,H1,I2,q1⟩) hf
inductive tAug_ (i:Nat) (te:TE) (ti:TIp) (D:Ends) (σ:St) (H:Hp):Prop
 |mk (x:_) (e0:σ[i]?=some (some x)) (e1:te σ H λy H1=>ti x y H1 λz H2=>D.nx (σ.set i (some z)) H2)
def tAug (i:Nat) (te:TE) (ti:TIp):TS:=λD σ H=>tAug_ i te ti D σ H
theorem xe5 {i:Nat}{x:Str}{e:Expr}{te:TE}{op:Operator}{ti:TIp}{pos':Pos}(hN:X.N.Nodup) (hi:X.N[i]?=some x) (hx:Loc X.env.scope x) (he:PE X e te) (ho:PIp X op ti) (hf:X.fn x=true\/X.env.scope.names.lookup x=some .local:=by first|exact .inl rfl|exact .inr rfl|assumption) :
  PS X (.AugAssign (.Name x pos') op e pos) (tAug i te ti):=by
 intro j8 s σ H D I h;obtain⟨v,e1,h⟩:=h;obtain⟨m,hn,hl⟩:=I.loc;have vis:Vis X.env.scope x:=by rcases hx with k|k;exact .inl k;exact .inr (.inl k)
 obtain⟨u,r,l⟩:=hl i x v hi e1 vis;refine wpAny_AugAssign_Name ?_;have go:wpAny (model X.prog X.w) X.A (eval e X.env) (λw s₂=>wpAny (model X.prog X.w) X.A (inplaceOp op u w) (λr s₃=>wpAny (model X.prog X.w) X.A (storeName X.env x r) (λ_=>SP X j8 D .next) X.xe s₃) X.xe s₂) X.xe s:=by
  refine thn (he j8 s σ H _ I h) λw s1 ⟨y,H1,I1,r1,q1⟩=>?_;refine thn (ho j8 s1 σ H1 v y u w _ I1 r r1 q1) λz s2 ⟨zv,H2,I2,r2,q2⟩=>?_;exact qq7 I2 hN hi hx r2 (λs3 I3=>⟨_,H2,I3,q2⟩) hf
 rcases l with ⟨hk,hm⟩|⟨hk,c,hc,jB⟩
 ·exact wpAny_loadName_local I.ok.kind hk hn hm go
 ·rcases hk with hk|hk
  ·exact wpAny_loadName_cell I.ok.kind hk hc jB go
  ·rcases hx with k|k
   ·have:X.env.scope.names.lookup x=some .free:=hk;rw[k] at this;cases this
   ·have:X.env.scope.names.lookup x=some .free:=hk;rw[k] at this;cases this
end
section
variable {X:Cx}{pos:Pos}
end
structure It where
 go:Nat->Hp->Prop
 yld:Nat->Hp->V->Hp->Prop
 stop:Nat->Hp->Prop
def FpOk (X:Cx) (j8:List (Addr×Obj)) (H:Hp) (b:Addr):Prop:=
 H b=none/\b≠X.env.locals/\b∉X.fs/\(b∈X.ex\/X.s₀.heap.objs.size<=b)/\(∀x c,X.env.cells.lookup x=some c->c≠b)/\∀p∈X.pn++j8,p.1≠b
theorem Inv.fpOk {X:Cx}{j8:List (Addr×Obj)}{σ:St}{H H':Hp}{s:Shared}{b:Addr}(I:Inv X j8 σ H s) (hb:s.heap.objs.size<=b) (hn:H' b=none):FpOk X j8 H' b:=by
 refine⟨hn,XS (ZP I.lt hb),I.nofs hb,.inr (ZF I.sz hb),λx c e z=>?_,λp hp z=>?_⟩
 ·obtain⟨v,q⟩:=I.cell x c e;exact absurd (ZP q.lt (by rw[z];exact hb)) (Yc _)
 ·exact absurd (ZP (Zi (I.pin p hp).1) (by rw[z];exact hb)) (Yc _)
structure Turn (P:Program) (w:World) (K:PySem.W.Frag) (tg:Expr) (J:It) (fp:List Addr) (it:Addr) (tn:Nat->Heap->Prop):Prop where
 mem:it∈fp
 obj:∀i h,tn i h->∀b∈fp,∃o,h.get? b=some o/\∀v,o.data≠.cell v
 keep:∀i h h',tn i h->(∀b∈fp,∀o,h.get? b=some o->h'.get? b=some o)->tn i h'
 item:∀(X:Cx),X.prog=P->X.w=w->X.K=K->X.calm=true->∀(i:Nat) (j8:List (Addr×Obj)) (s:Shared) (σ:St) (H:Hp) (E:Value->Shared->Prop),Inv X j8 σ H s->(∀b∈fp,FpOk X j8 H b)->tn i s.heap->J.go i H ->
  wpAny (model P w) X.A (pyNext (.ref it)) (λr s1=>∃u,r=some u /\
   wpAny (model P w) X.A (letOwnedTupleGo tg (.ref it) u) (λ_ s2=>∃x H',Inv X j8 σ H' s2/\RelV x u/\J.yld i H x H'/\tn (i+1) s2.heap/\∀b∈fp,H' b=none) E s1) E s
 done:∀(X:Cx),X.prog=P->X.w=w->X.K=K->X.calm=true->∀(i:Nat) (j8:List (Addr×Obj)) (s:Shared) (σ:St) (H:Hp) (E:Value->Shared->Prop),Inv X j8 σ H s->(∀b∈fp,FpOk X j8 H b)->tn i s.heap->J.stop i H ->
  wpAny (model P w) X.A (pyNext (.ref it)) (λr s1=>r=none/\Inv X j8 σ H s1) E s
 self:∀(A:Around) (i:Nat) (s:Shared) (Q:Value->Shared->Prop) (E:Value->Shared->Prop),tn i s.heap->Q (.ref it) s->wpAny (model P w) A (pyIter (.ref it)) Q E s
abbrev TI:=St->Hp->(It->Hp->Prop)->Prop
def PIE (X:Cx) (j8:List (Addr×Obj)) (σ:St) (tg:Expr) (R:It->Hp->Prop) (itv:Value) (s2:Shared):Prop:=
 ∃(it:Addr) (fp:List Addr) (tn:Nat->Heap->Prop) (J:It) (H':Hp),itv=.ref it/\Inv X j8 σ H' s2/\Turn X.prog X.w X.K tg J fp it tn/\tn 0 s2.heap/\(∀b∈fp,FpOk X j8 H' b)/\R J H'
def PI (X:Cx) (tg iter:Expr) (wi:TI):Prop:=
 ∀(j8:List (Addr×Obj)) (s:Shared) (σ:St) (H:Hp) (R:It->Hp->Prop),Inv X j8 σ H s->wi σ H R ->
  wpAny (model X.prog X.w) X.A (eval iter X.env) (λv s1=>wpAny (model X.prog X.w) X.A (pyIter v) (PIE X j8 σ tg R) X.xe s1) X.xe s
theorem xi4 {M:Model}{A:Around}{E:Value->Shared->Prop}{s:Shared}{tg:Expr}{it:Addr}{u:Value}{o:Obj}{n:String}{vs:Array Value}{Q:Unit->Shared->Prop}(ho:s.heap.get? it=some o) (hc:o.cls=.type n) (hd:o.data=.fields vs)
  (hn:["enumerate", "zip", "dict_itemiterator", "dict_reverseitemiterator", "odict_iterator", "itertools.zip_longest", "itertools.pairwise"].contains n=false) (hQ:Q () s):wpAny M A (letOwnedTupleGo tg (.ref it) u) Q E s:=by
 unfold letOwnedTupleGo;cases tg<;>first
  |exact Zb hQ
  |(cases u<;>first
    |exact Zb hQ
    |(refine Za (wpAny_load ho ?_)
      rw[hc,hd];show wpAny M A (if (["enumerate", "zip", "dict_itemiterator", "dict_reverseitemiterator", "odict_iterator", "itertools.zip_longest", "itertools.pairwise"].contains n&&vs[0]?==some (rawInt _))=true then _ else _) Q E s;rw[Zk (by intro h;rw[hn,Wa] at h;cases h)];exact Zb hQ))
def Itl (K:PySem.W.Frag) (a:Addr):It:=
 ⟨λi H=>∃xs x,SqL K H a xs/\xs[i]?=some x,λi H x H'=>H'=H/\∀xs,SqL K H a xs->xs[i]?=some x,λi H=>∃xs,SqL K H a xs/\xs.length<=i⟩
def Itt (K:PySem.W.Frag) (a:Addr):It:=
 ⟨λi H=>∃xs x,SqT K H a xs/\xs[i]?=some x,λi H x H'=>H'=H/\∀xs,SqT K H a xs->xs[i]?=some x,λi H=>∃xs,SqT K H a xs/\xs.length<=i⟩
def Itr (lo:Int) (n:Nat):It:=⟨λi _=>i<n,λi H x H'=>H'=H/\x=.int (lo+i),λi _=>n<=i⟩
theorem qT1 {P:Program}{w:World}{K:PySem.W.Frag}{tg:Expr}(a it:Addr):Turn P w K tg (Itl K a) [it] it (λi h=>h.IsListIter it a i) where
 mem:=by simp
 obj:=λi h st b hb=>by
  have e:b=it:=by simpa using hb
  subst e;obtain⟨o,e,c,d⟩:=st;exact⟨o,e,λv z=>by rw[d] at z;cases z⟩
 keep:=λi h h' st k=>st.at λo e=>k it (by simp) o e
 item:=by
  intro X hP hw hK hc i j8 s σ H E I hf st hg;subst hP hw hK;obtain⟨xs,x,hq,hx⟩:=hg;obtain⟨its,rv,p,hz⟩:=I.list hq;obtain⟨u,hu,ru⟩:=rv.get hx;obtain⟨f0,f1,f2,f3,f4,f5⟩:=hf it (by simp);refine wpAny_pyNext_list_item st p.isList (x:=u) (by simpa using hu) λh' st' sb=>?_;have I1:Inv X j8 σ H { s with heap:=h' }:=I.turned (t':=s.toks) (λb o hb e=>(sb.2 b hb).trans e) f0 f1 f3 f4 f5;obtain⟨o,e,c,d⟩:=id st';exact⟨u,rfl,xi4 (s:={ s with heap:=h' }) e c d (by decide) ⟨x,H,I1,ru,⟨rfl,λys hy=>by rw[I.list_inj hy hq];exact hx⟩,st',λb hb=>(hf b hb).1⟩⟩
 done:=by
  intro X hP hw hK hc i j8 s σ H E I hf st hg;subst hP hw hK;obtain⟨xs,hq,hx⟩:=hg;obtain⟨its,rv,p,hz⟩:=I.list hq;obtain⟨f0,f1,f2,f3,f4,f5⟩:=hf it (by simp);have hl:=rv.length;exact wpAny_pyNext_list_end (I.ok.hd hc) st p.isList (by simp;lia) λh' eb=>⟨rfl,I.turned (t':=s.toks) (λb o hb e=>eb b o hb e) f0 f1 f3 f4 f5⟩
 self:=λ_ _ _ _ _ st h=>wpAny_pyIter_listiter st h
theorem qO8 {P:Program}{w:World}{K:PySem.W.Frag}{tg:Expr}(a it:Addr):Turn P w K tg (Itt K a) [it] it (λi h=>h.IsTupleIter it a i) where
 mem:=by simp
 obj:=λi h st b hb=>by
  have e:b=it:=by simpa using hb
  subst e;obtain⟨o,e,c,d⟩:=st;exact⟨o,e,λv z=>by rw[d] at z;cases z⟩
 keep:=λi h h' st k=>st.at λo e=>k it (by simp) o e
 item:=by
  intro X hP hw hK hc i j8 s σ H E I hf st hg;subst hP hw hK;obtain⟨xs,x,hq,hx⟩:=hg;obtain⟨its,rv,p,hz⟩:=I.tuple hq;obtain⟨u,hu,ru⟩:=rv.get hx;obtain⟨f0,f1,f2,f3,f4,f5⟩:=hf it (by simp);refine wpAny_pyNext_tuple_item st (show s.heap.IsTuple a its.toArray from p) (x:=u) (by simpa using hu) λh' st' sb=>?_;have I1:Inv X j8 σ H { s with heap:=h' }:=I.turned (t':=s.toks) (λb o hb e=>(sb.2 b hb).trans e) f0 f1 f3 f4 f5;obtain⟨o,e,c,d⟩:=id st';exact⟨u,rfl,xi4 (s:={ s with heap:=h' }) e c d (by decide) ⟨x,H,I1,ru,⟨rfl,λys hy=>by rw[I.tuple_inj hy hq];exact hx⟩,st',λb hb=>(hf b hb).1⟩⟩
 done:=by
  intro X hP hw hK hc i j8 s σ H E I hf st hg;subst hP hw hK;obtain⟨xs,hq,hx⟩:=hg;obtain⟨its,rv,p,hz⟩:=I.tuple hq;obtain⟨f0,f1,f2,f3,f4,f5⟩:=hf it (by simp);have hl:=rv.length;exact wpAny_pyNext_tuple_end (I.ok.hd hc) st (show s.heap.IsTuple a its.toArray from p) (by simp;lia) λh' eb=>⟨rfl,I.turned (t':=s.toks) (λb o hb e=>eb b o hb e) f0 f1 f3 f4 f5⟩
 self:=λ_ _ _ _ _ st h=>wpAny_pyIter_tupleiter st h
theorem qO9 {P:Program}{w:World}{K:PySem.W.Frag}{tg:Expr}(it:Addr) (lo:Int) (n:Nat):Turn P w K tg (Itr lo n) [it] it (λi h=>IsRangeIter h it (lo+(i:Nat)*1) ((n:Int)-(i:Nat)) 1) where
 mem:=by simp
 obj:=λi h st b hb=>by
  have e:b=it:=by simpa using hb
  subst e;exact⟨_,st,λv z=>by
   have z':Data.fields _=Data.cell v:=z;cases z'⟩
 keep:=λi h h' st k=>k it (by simp) _ st
 item:=by
  intro X hP hw hK hc i j8 s σ H E I hf st hg;subst hP hw hK;obtain⟨f0,f1,f2,f3,f4,f5⟩:=hf it (by simp);have W:=Walks.range (prog:=X.prog) (w:=X.w) (I.ok.hd hc) it lo 1 n;refine W.item i s _ _ hg st λv h' tk hv st' kk=>?_;obtain⟨t,rfl⟩:=hv;have I1:Inv X j8 σ H { s with heap:=h',toks:=tk }:=I.turned (λb o hb e=>kk b o (by simpa using hb) e) f0 f1 f3 f4 f5;refine⟨_,rfl,xi4 (s:={ s with heap:=h',toks:=tk }) (n:= "range_iterator") st' rfl rfl (by decide) ⟨.int (lo+i),H,I1,⟨t,?_⟩,⟨rfl,rfl⟩,st',λb hb=>(hf b hb).1⟩⟩;rw[Int.mul_one]
 done:=by
  intro X hP hw hK hc i j8 s σ H E I hf st hg;subst hP hw hK;obtain⟨f0,f1,f2,f3,f4,f5⟩:=hf it (by simp);exact wpAny_pyNext_range_end (I.ok.hd hc) st (by have:n<=i:=hg;lia) λh' eb=>⟨rfl,I.turned (t':=s.toks) (λb o hb e=>eb b o hb e) f0 f1 f3 f4 f5⟩
 self:=λ_ _ _ _ _ st h=>wpAny_pyIter_rangeiter st h
section
variable {X:Cx}{tg:Expr}
inductive iList_ (K:PySem.W.Frag) (R:It->Hp->Prop) (x:V) (H1:Hp):Prop
 |mk (a:_) (e0:x=.ref a) (e1:(∃xs,SqL K H1 a xs)) (e2:R (Itl K a) H1)
def xw3 (K:PySem.W.Frag) (tl:TE):TI:=λσ H R=>tl σ H λx H1=>iList_ K R x H1
inductive iTup_ (K:PySem.W.Frag) (R:It->Hp->Prop) (x:V) (H1:Hp):Prop
 |mk (a:_) (e0:x=.ref a) (e1:(∃xs,SqT K H1 a xs)) (e2:R (Itt K a) H1)
def iTup (K:PySem.W.Frag) (tl:TE):TI:=λσ H R=>tl σ H λx H1=>iTup_ K R x H1
theorem ql8 {l:Expr}{tl:TE}(hl:PE X l tl):PI X tg l (xw3 X.K tl):=by
 intro j8 s σ H R I h;refine thn (hl j8 s σ H _ I h) λv s1 ⟨x,H1,I1,r1,q1⟩=>?_;obtain⟨a,e,⟨xs,hq⟩,q⟩:=q1;subst e;cases r1;obtain⟨its,rv,p,hz⟩:=I1.list hq;refine Y8 p.isList ?_;refine⟨s1.heap.objs.size,[s1.heap.objs.size],_,_,H1,rfl,I1.kept (t':=s1.toks) λb o e=>Zc _ e,qT1 a _,⟨_,Zf _ rfl,rfl,rfl⟩,λb hb=>?_,q⟩;have e:b=s1.heap.objs.size:=by simpa using hb
 subst e;exact I1.fpOk (Ze _) (I1.hok.fresh (Ze _))
theorem qw8 {l:Expr}{tl:TE}(hl:PE X l tl):PI X tg l (iTup X.K tl):=by
 intro j8 s σ H R I h;refine thn (hl j8 s σ H _ I h) λv s1 ⟨x,H1,I1,r1,q1⟩=>?_;obtain⟨a,e,⟨xs,hq⟩,q⟩:=q1;subst e;cases r1;obtain⟨its,rv,p,hz⟩:=I1.tuple hq;refine Y0 (show s1.heap.IsTuple a its.toArray from p) ?_;refine⟨s1.heap.objs.size,[s1.heap.objs.size],_,_,H1,rfl,I1.kept (t':=s1.toks) λb o e=>Zc _ e,qO8 a _,⟨_,Zf _ rfl,rfl,rfl⟩,λb hb=>?_,q⟩;have e:b=s1.heap.objs.size:=by simpa using hb
 subst e;exact I1.fpOk (Ze _) (I1.hok.fresh (Ze _))
theorem range_it {j8:List (Addr×Obj)}{σ:St}{H:Hp}{s:Shared}{R:It->Hp->Prop}{E:Value->Shared->Prop}{lo hi:Int}{t u v:Tok}{tk:Nat}(I:Inv X j8 σ H s) (h1:-(2^62)<=lo) (h2:lo<2^62) (h3:-(2^62)<=hi) (h4:hi<2^62)
  (q:R (Itr lo (hi-lo).toNat) H):wpAny (model X.prog X.w) X.A (pyIter (.ref s.heap.objs.size)) (PIE X j8 σ tg R) E { s with heap:=s.heap.push { cls:=.type "range",data:=.fields #[.int lo t,.int hi u,.int 1 v] },toks:=tk }:=by
 refine wpAny_pyIter_range (IsRange.new ..) (small_one h1 h2 h3 h4) ?_;have I1:Inv X j8 σ H { s with heap:=s.heap.push { cls:=.type "range",data:=.fields #[.int lo t,.int hi u,.int 1 v] },toks:=tk }:=I.kept λb o e=>Zc _ e;refine⟨(s.heap.push { cls:=.type "range",data:=.fields #[.int lo t,.int hi u,.int 1 v] }).objs.size,[(s.heap.push { cls:=.type "range",data:=.fields #[.int lo t,.int hi u,.int 1 v] }).objs.size],_,_,H,rfl,
  I1.kept (t':=tk) λb o e=>Zc _ e,qO9 _ lo (hi-lo).toNat,?_,λb hb=>?_,q⟩
 ·have e1:lo+((0:Nat):Int)*1=lo:=by simp
  have e2:(((hi-lo).toNat:Nat):Int)-((0:Nat):Int)=Builtin.Range.rangeSize lo hi 1:=by rw[rangeSize_one];split<;>lia
  show IsRangeIter _ _ (lo+((0:Nat):Int)*1) ((((hi-lo).toNat:Nat):Int)-((0:Nat):Int)) 1;rw[e1,e2];exact Zf _ rfl
 ·have e:b=(s.heap.push { cls:=.type "range",data:=.fields #[.int lo t,.int hi u,.int 1 v] }).objs.size:=by simpa using hb
  subst e;exact I1.fpOk (Ze _) (I1.hok.fresh (Ze _))
inductive iRng1_ (R:It->Hp->Prop) (vs:List V) (H1:Hp):Prop
 |mk (j:Int) (e0:vs=[.int j]) (e1:-(2^62)<=j) (e2:j<2^62) (e3:R (Itr 0 j.toNat) H1)
def xp9 (ta:TA):TI:=λσ H R=>ta σ H λvs H1=>iRng1_ R vs H1
theorem qi8 {a:Expr}{ta:TA}{p pos:Pos}(hg:Gl X "range") (hm:X.mg "range" = none) (ha:PA X [a] ta) (hs:starEach [a] X.env=[(false,eval a X.env)]:=by rfl):PI X tg (.Call (.Name "range" p) [a] [] pos) (xp9 ta):=by
 intro j8 s σ H R I h;refine Call_ (qw7 I hg hm boot_range (Xi (thn (ha pos j8 s σ H _ I h) λus s1 ⟨vs,H1,I1,r1,q1⟩=>?_) hs rfl));obtain⟨j,e,q1,q2,q⟩:=q1;subst e;cases r1 with
 |cons r rr=>
  cases rr;obtain⟨t,rfl⟩:=r;exact call_range_1 (range_it I1 (by lia) (by lia) q1 q2 (by simpa using q))
def tFor (wi:TI) (g:TG) (tb:TS):TS:=λD σ H=>wi σ H λJ H1=>∃W:Nat->Nat->St->Hp->Prop,(∃m,W 0 m σ H1)/\∀i m σ H,W i m σ H ->
 (J.stop i H/\D.nx σ H)\/(J.go i H/\∃N:St->Hp->Prop,(∀σ' H',N σ' H'->∃m',m'<m/\W (i+1) m' σ' H')/\∀x H',J.yld i H x H'->g x σ H' λσ2 H2=>tb { D with nx:=N,ct:=N,bk:=D.nx } σ2 H2)
def qw9 (fp:List Addr) (h:Heap):List (Addr×Obj):=fp.filterMap λb=>(h.get? b).map λo=>(b,o)
theorem qh0 {fp:List Addr}{h:Heap}{b:Addr}{o:Obj}(hb:b∈fp) (e:h.get? b=some o):(b,o)∈qw9 fp h:=Vl.mpr ⟨b,hb,by rw[e];rfl⟩
theorem qT2 {fp:List Addr}{h:Heap}{p:Addr×Obj}(hp:p∈qw9 fp h):p.1∈fp/\h.get? p.1=some p.2:=by
 obtain⟨b,hb,e⟩:=Vl.mp hp;cases q:h.get? b with
 |none=>rw[q] at e;cases e
 |some o=>
  rw[q] at e;have e':(b,o)=p:=ZO e;subst e';exact⟨hb,q⟩
theorem Inv.pinned {j8:List (Addr×Obj)}{σ:St}{H:Hp}{s:Shared}{fp:List Addr}(I:Inv X j8 σ H s) (hf:∀b∈fp,FpOk X j8 H b) (ho:∀b∈fp,∃o,s.heap.get? b=some o/\∀v,o.data≠.cell v):Inv X (j8++qw9 fp s.heap) σ H s:=
 I.pins_of λp hp=>(Z5.mp hp).elim (λz=>I.pin p (ZS _ z)) λz=>by
  obtain⟨hb,e⟩:=qT2 z;obtain⟨f0,f1,f2,_⟩:=hf p.1 hb;obtain⟨o,e',d⟩:=ho p.1 hb;rw[e] at e';cases e';exact⟨e,f0,f1,f2,d⟩
theorem Inv.unpinned {j8 pl:List (Addr×Obj)}{σ:St}{H:Hp}{s:Shared}(I:Inv X (j8++pl) σ H s):Inv X j8 σ H s:=I.pins_of λp hp=>I.pin p (ZS _ (X9 _ hp))
theorem ql1 {iter:Expr}{body:List Stmt}{wi:TI}{g:TG}{tb:TS}{pos:Pos}(hp:PassesOwn (model X.prog X.w) X.A X.env X.xe) (hc:X.calm=true) (hi:PI X tg iter wi) (hg:PG X tg g) (hb:PSs X body tb)
  (hs:∀x,foldedSetIterable iter X.env x=pure x:=by intro _;rfl):PS X (.For tg iter body [] pos) (tFor wi g tb):=by
 intro j8 s σ H D I h;refine wpAny_For (thn (hi j8 s σ H _ I h) λv s1 h1=>thn h1 λitv s2 h2=>?_) hs;obtain⟨it,fp,tn,J,H2,e,I2,T,st2,f2,W,⟨m0,w0⟩,turn⟩:=h2;subst e;have stat:∀{H':Hp},(∀b∈fp,H' b=none)->∀b∈fp,FpOk X j8 H' b:=λhn b hb=>⟨hn b hb,(f2 b hb).2⟩;refine codeAny_forLoop_any (λn s'=>∃i σ' H',Inv X j8 σ' H' s'/\tn i s'.heap/\(∀b∈fp,H' b=none)/\W i n σ' H') ?_ m0 ⟨0,σ,H2,I2,st2,λb hb=>(f2 b hb).1,w0⟩;rintro n s3 ⟨i,σ3,H3,I3,st3,fr3,w3⟩;rcases turn i n σ3 H3 w3 with ⟨stop,qn⟩|⟨go,N,hN,step⟩
 ·refine Ww hp (thn (T.done X rfl rfl rfl hc i j8 s3 σ3 H3 X.xe I3 (stat fr3) st3 stop) λr s4 ⟨hr,I4⟩=>?_);subst hr;exact wpAny_execs_nil ⟨σ3,H3,I4,qn⟩
 ·refine Ww hp (thn (T.item X rfl rfl rfl hc i j8 s3 σ3 H3 X.xe I3 (stat fr3) st3 go) λr s4 ⟨u,hr,h4⟩=>?_);subst hr;refine Ww hp (thn h4 λ_ s5 ⟨x,H5,I5,r5,y5,st5,fr5⟩=>?_);have I5':=I5.pinned (stat fr5) (T.obj _ _ st5);refine Ww hp (thn (hg _ s5 σ3 H5 x u _ I5' r5 (step x H5 y5)) λ_ s6 ⟨σ6,H6,I6,q6⟩=>?_);refine Ww hp (thn (hb _ s6 σ6 H6 _ I6 q6) λf s7 q7=>?_);have again:∀{σ7:St}{H7:Hp},Inv X (j8++qw9 fp s5.heap) σ7 H7 s7->N σ7 H7->∃m,m<n/\∃i σ' H',Inv X j8 σ' H' s7/\tn i s7.heap/\(∀b∈fp,H' b=none)/\W i m σ' H':=λ{σ7 H7} I7 n7=>by
   obtain⟨m',hm,w7⟩:=hN σ7 H7 n7;refine⟨m',hm,i+1,σ7,H7,I7.unpinned,T.keep _ _ _ st5 λb hb o e=>(I7.pin (b,o) (ZS _ (ZS _ (qh0 hb e)))).1,λb hb=>?_,w7⟩;obtain⟨o,e,d⟩:=T.obj _ _ st5 b hb;exact (I7.pin (b,o) (ZS _ (ZS _ (qh0 hb e)))).2.1
  cases f with
  |next=>obtain⟨σ7,H7,I7,n7⟩:=q7;exact again I7 n7
  |cont=>obtain⟨σ7,H7,I7,n7⟩:=q7;exact again I7 n7
  |brk=>obtain⟨σ7,H7,I7,q7⟩:=q7;exact⟨σ7,H7,I7.unpinned,q7⟩
  |ret v=>obtain⟨x7,σ7,H7,I7,r7,q7⟩:=q7;exact⟨x7,σ7,H7,I7.unpinned,r7,q7⟩
end
theorem q76 {K:PySem.W.Frag}{a:Addr}{xs:List V}{g:TG}{tb:TS}{D:Ends}{σ:St}{H:Hp}(Pv:Nat->St->Hp->Prop) (h0:Pv 0 σ H) (hl:∀i σ H,i<=xs.length->Pv i σ H->SqL K H a xs)
  (hs:∀i x σ H,xs[i]?=some x->Pv i σ H->g x σ H λσ2 H2=>tb { D with nx:=Pv (i+1),ct:=Pv (i+1),bk:=D.nx } σ2 H2) (hd:∀σ H,Pv xs.length σ H->D.nx σ H) :
  ∃W:Nat->Nat->St->Hp->Prop,(∃m,W 0 m σ H)/\∀i m σ H,W i m σ H ->
   ((Itl K a).stop i H/\D.nx σ H)\/((Itl K a).go i H/\∃N:St->Hp->Prop,(∀σ' H',N σ' H'->∃m',m'<m/\W (i+1) m' σ' H')/\∀x H',(Itl K a).yld i H x H'->g x σ H' λσ2 H2=>tb { D with nx:=N,ct:=N,bk:=D.nx } σ2 H2):=by
 refine⟨λi m σ H=>m=xs.length-i/\i<=xs.length/\Pv i σ H,⟨xs.length,by simp,Zv _,h0⟩,?_⟩;rintro i m σ H ⟨rfl,hi,p⟩;have q:=hl i σ H hi p;by_cases jA:i<xs.length
 ·refine .inr ⟨⟨xs,xs[i],q,by simp[jA]⟩,Pv (i+1),λσ' H' p'=>⟨xs.length-(i+1),by lia,rfl,jA,p'⟩,λx H' y=>?_⟩;obtain⟨e,y⟩:=y;subst e;exact hs i x σ _ (y xs q) p
 ·have e:i=xs.length:=by lia
  subst e;exact .inl ⟨⟨xs,q,Ze _⟩,hd σ H p⟩
theorem qI1 {K:PySem.W.Frag}{a:Addr}{xs:List V}{g:TG}{tb:TS}{D:Ends}{σ:St}{H:Hp}(Pv:Nat->St->Hp->Prop) (h0:Pv 0 σ H) (hl:∀i σ H,i<=xs.length->Pv i σ H->SqT K H a xs)
  (hs:∀i x σ H,xs[i]?=some x->Pv i σ H->g x σ H λσ2 H2=>tb { D with nx:=Pv (i+1),ct:=Pv (i+1),bk:=D.nx } σ2 H2) (hd:∀σ H,Pv xs.length σ H->D.nx σ H) :
  ∃W:Nat->Nat->St->Hp->Prop,(∃m,W 0 m σ H)/\∀i m σ H,W i m σ H ->
   ((Itt K a).stop i H/\D.nx σ H)\/((Itt K a).go i H/\∃N:St->Hp->Prop,(∀σ' H',N σ' H'->∃m',m'<m/\W (i+1) m' σ' H')/\∀x H',(Itt K a).yld i H x H'->g x σ H' λσ2 H2=>tb { D with nx:=N,ct:=N,bk:=D.nx } σ2 H2):=by
 refine⟨λi m σ H=>m=xs.length-i/\i<=xs.length/\Pv i σ H,⟨xs.length,by simp,Zv _,h0⟩,?_⟩;rintro i m σ H ⟨rfl,hi,p⟩;have q:=hl i σ H hi p;by_cases jA:i<xs.length
 ·refine .inr ⟨⟨xs,xs[i],q,by simp[jA]⟩,Pv (i+1),λσ' H' p'=>⟨xs.length-(i+1),by lia,rfl,jA,p'⟩,λx H' y=>?_⟩;obtain⟨e,y⟩:=y;subst e;exact hs i x σ _ (y xs q) p
 ·have e:i=xs.length:=by lia
  subst e;exact .inl ⟨⟨xs,q,Ze _⟩,hd σ H p⟩
theorem qB7 {lo:Int}{n:Nat}{g:TG}{tb:TS}{D:Ends}{σ:St}{H:Hp}(Pv:Nat->St->Hp->Prop) (h0:Pv 0 σ H)
  (hs:∀i σ H,i<n->Pv i σ H->g (.int (lo+i)) σ H λσ2 H2=>tb { D with nx:=Pv (i+1),ct:=Pv (i+1),bk:=D.nx } σ2 H2) (hd:∀σ H,Pv n σ H->D.nx σ H) :
  ∃W:Nat->Nat->St->Hp->Prop,(∃m,W 0 m σ H)/\∀i m σ H,W i m σ H ->
   ((Itr lo n).stop i H/\D.nx σ H)\/((Itr lo n).go i H/\∃N:St->Hp->Prop,(∀σ' H',N σ' H'->∃m',m'<m/\W (i+1) m' σ' H')/\∀x H',(Itr lo n).yld i H x H'->g x σ H' λσ2 H2=>tb { D with nx:=N,ct:=N,bk:=D.nx } σ2 H2):=by
 refine⟨λi m σ H=>m=n-i/\i<=n/\Pv i σ H,⟨n,by simp,Zv _,h0⟩,?_⟩;rintro i m σ H ⟨rfl,hi,p⟩;by_cases jA:i<n
 ·refine .inr ⟨jA,Pv (i+1),λσ' H' p'=>⟨n-(i+1),by lia,rfl,jA,p'⟩,λx H' y=>?_⟩;obtain⟨e,y⟩:=y;subst e y;exact hs i σ _ jA p
 ·have e:i=n:=by lia
  subst e;exact .inl ⟨Ze _,hd σ H p⟩
abbrev R2:=V->V->Hp->VK->Prop
def OpR (X:Cx) (f:Value->Value->Sem Value) (r:R2):Prop:=
 ∀(j8:List (Addr×Obj)) (s:Shared) (σ:St) (H:Hp) (x y:V) (v u:Value) (Q:VK),Inv X j8 σ H s->RelV x v->RelV y u->r x y H Q ->
  wpAny (model X.prog X.w) X.A (f v u) (EP X j8 σ Q) X.xe s
def UnR (X:Cx) (f:Value->Sem Value) (r:V->Hp->VK->Prop):Prop:=
 ∀(j8:List (Addr×Obj)) (s:Shared) (σ:St) (H:Hp) (x:V) (v:Value) (Q:VK),Inv X j8 σ H s->RelV x v->r x H Q ->
  wpAny (model X.prog X.w) X.A (f v) (EP X j8 σ Q) X.xe s
def qe3 (X:Cx) (f:Value) (r:List V->Hp->VK->Prop):Prop:=
 ∀(j8:List (Addr×Obj)) (s:Shared) (σ:St) (H:Hp) (xs:List V) (us:List Value) (Q:VK),Inv X j8 σ H s->Vals xs us->r xs H Q ->
  wpAny (model X.prog X.w) X.A (call f us) (EP X j8 σ Q) X.xe s
def TruR (X:Cx) (r:V->Hp->(Bool->Hp->Prop)->Prop):Prop:=
 ∀(j8:List (Addr×Obj)) (s:Shared) (σ:St) (H:Hp) (x:V) (v:Value) (Q:Bool->Hp->Prop),Inv X j8 σ H s->RelV x v->r x H Q ->
  wpAny (model X.prog X.w) X.A (truthy v) (TP X j8 σ Q) X.xe s
def tOp (r:R2) (ta tb:TE):TE:=λσ H Q=>ta σ H λx H1=>tb σ H1 λy H2=>r x y H2 Q
def tUn (r:V->Hp->VK->Prop) (ta:TE):TE:=λσ H Q=>ta σ H λx H1=>r x H1 Q
inductive rI_ (C:Int->Int->Prop) (g:Int->Int->V) (x y:V) (H:Hp) (Q:VK):Prop
 |mk (i:_) (j:_) (e0:x=.int i) (e1:y=.int j) (e2:C i j) (e3:Q (g i j) H)
def rI (C:Int->Int->Prop) (g:Int->Int->V):R2:=λx y H Q=>rI_ C g x y H Q
inductive rI0_ (g:Int->Int->V) (x y:V) (H:Hp) (Q:VK):Prop
 |mk (i:_) (j:_) (e0:x=.int i) (e1:y=.int j) (e2:Q (g i j) H)
def rI0 (g:Int->Int->V):R2:=λx y H Q=>rI0_ g x y H Q
inductive rU_ (g:Int->V) (x:V) (H:Hp) (Q:VK):Prop
 |mk (i:_) (e0:x=.int i) (e1:Q (g i) H)
def rU (g:Int->V):V->Hp->VK->Prop:=λx H Q=>rU_ g x H Q
section
variable {X:Cx}{a b c:Expr}{ta tb tc:TE}{pos:Pos}
theorem binT (ha:PE X a ta) (hb:PE X b tb){j8:List (Addr×Obj)}{s:Shared}{σ:St}{H:Hp}{R:V->V->Hp->Prop}(I:Inv X j8 σ H s)
  (h:ta σ H λx H1=>tb σ H1 λy H2=>R x y H2){Q:Value->Shared->Prop}{f:Value->Value->Sem Value}
  (hf:∀v u s2 x y H2,Inv X j8 σ H2 s2->RelV x v->RelV y u->R x y H2->wpAny (model X.prog X.w) X.A (f v u) Q X.xe s2) :
  wpAny (model X.prog X.w) X.A (eval a X.env) (λv s₁=>wpAny (model X.prog X.w) X.A (eval b X.env) (λu s₂=>wpAny (model X.prog X.w) X.A (f v u) Q X.xe s₂) X.xe s₁) X.xe s:=by
 refine thn (ha j8 s σ H _ I h) λv s1 ⟨x,H1,I1,r1,q1⟩=>?_;refine thn (hb j8 s1 σ H1 _ I1 q1) λu s2 ⟨y,H2,I2,r2,q2⟩=>?_;exact hf v u s2 x y H2 I2 r1 r2 q2
theorem qa6 {op:Operator}{r:R2}(ho:OpR X (binaryOp op) r) (ha:PE X a ta) (hb:PE X b tb):PE X (.BinOp a op b pos) (tOp r ta tb):=by
 intro j8 s σ H Q I h;exact wpAny_BinOp (binT ha hb I h λv u s2 x y H2 I2 rx ry q=>ho j8 s2 σ H2 x y v u Q I2 rx ry q)
theorem xq0 {op:UnaryOp}{r:V->Hp->VK->Prop}(ho:UnR X (unaryOp op) r) (ha:PE X a ta):PE X (.UnaryOp op a pos) (tUn r ta):=by
 intro j8 s σ H Q I h;exact UnaryOp_ (thn (ha j8 s σ H _ I h) λv s1 ⟨x,H1,I1,r1,q1⟩=>ho j8 s1 σ H1 x v Q I1 r1 q1)
theorem opI {f:Value->Value->Sem Value}{C:Int->Int->Prop}{g:Int->Int->Int}
  (rule:∀(i j:Int) (t u:Tok) (s:Shared) (Q:Value->Shared->Prop) (E:Value->Shared->Prop),C i j->Q (.int (g i j) s.toks) { s with toks:=s.toks+1 }->wpAny (model X.prog X.w) X.A (f (.int i t) (.int j u)) Q E s) :
  OpR X f (rI C λi j=>.int (g i j)):=by
 intro j8 s σ H x y v u Q I rx ry h;obtain⟨i,j,rfl,rfl,hc,q⟩:=h;obtain⟨t,rfl⟩:=rx;obtain⟨t',rfl⟩:=ry;exact rule i j t t' s _ _ hc ⟨.int (g i j),H,I.tok _,⟨_,rfl⟩,q⟩
theorem opI0 {f:Value->Value->Sem Value}{g:Int->Int->Int}
  (rule:∀(i j:Int) (t u:Tok) (s:Shared) (Q:Value->Shared->Prop) (E:Value->Shared->Prop),Q (.int (g i j) s.toks) { s with toks:=s.toks+1 }->wpAny (model X.prog X.w) X.A (f (.int i t) (.int j u)) Q E s) :
  OpR X f (rI0 λi j=>.int (g i j)):=by
 intro j8 s σ H x y v u Q I rx ry h;obtain⟨i,j,rfl,rfl,q⟩:=h;obtain⟨t,rfl⟩:=rx;obtain⟨t',rfl⟩:=ry;exact rule i j t t' s _ _ ⟨.int (g i j),H,I.tok _,⟨_,rfl⟩,q⟩
theorem opB0 {f:Value->Value->Sem Value}{g:Int->Int->Bool}
  (rule:∀(i j:Int) (t u:Tok) (s:Shared) (Q:Value->Shared->Prop) (E:Value->Shared->Prop),Q (.bool (g i j)) s->wpAny (model X.prog X.w) X.A (f (.int i t) (.int j u)) Q E s) :
  OpR X f (rI0 λi j=>.bl (g i j)):=by
 intro j8 s σ H x y v u Q I rx ry h;obtain⟨i,j,rfl,rfl,q⟩:=h;obtain⟨t,rfl⟩:=rx;obtain⟨t',rfl⟩:=ry;exact rule i j t t' s _ _ ⟨.bl (g i j),H,I,rfl,q⟩
def CDiv (i j:Int):Prop:=0<j/\j<1073741824
def CPow (i j:Int):Prop:=0<=j/\j<=1000000/\i.natAbs<2^64
def CMul (i j:Int):Prop:=(-(2^64)<i/\i<2^64)\/(-(2^64)<j/\j<2^64)
theorem CMul.ok {i j:Int}(h:CMul i j):IntMulOk i j:=by
 rcases h with ⟨h1,h2⟩|⟨h1,h2⟩
 ·exact .of_left (intBits_le_64 h1 h2)
 ·exact .of_right (intBits_le_64 h1 h2)
theorem qP0 (k:Nat):(0:Int)<=2^k:=by
 rw[two_pow_cast];exact WB _
theorem qc3:OpR X (binaryOp .Add) (rI0 λi j=>.int (i+j)):=opI0 λ_ _ _ _ _ _ _ q=>add_int q
theorem qc0:OpR X (binaryOp .Sub) (rI0 λi j=>.int (i-j)):=opI0 λ_ _ _ _ _ _ _ q=>sub_int q
theorem qf7:OpR X (binaryOp .Mult) (rI CMul λi j=>.int (i*j)):=opI λ_ _ _ _ _ _ _ hc q=>mul_int q hc.ok
theorem qi9:OpR X (binaryOp .FloorDiv) (rI CDiv λi j=>.int (i/j)):=opI λi j _ _ _ _ _ hc q=>by
 have h1:(0:Int)<j:=hc.1;have h2:j<1073741824:=hc.2;exact floordiv_int (by lia) (by rw[Vm i (by lia)];exact q) (.inl (PyProof.noPylong_small (by lia)))
theorem qx0:OpR X (binaryOp .Mod) (rI (λ_ j=>0<j) λi j=>.int (i%j)):=opI λi j _ _ _ _ _ hc q=>by
 have h1:(0:Int)<j:=hc;exact mod_int' (by lia) (by rw[Int.fmod_eq_emod_of_nonneg i (by lia)];exact q)
theorem xq1:OpR X (binaryOp .Pow) (rI CPow λi j=>.int (i^j.toNat)):=opI λ_ _ _ _ _ _ _ hc q=>pow_int_small hc.1 hc.2.1 hc.2.2 q
theorem qf2:OpR X (binaryOp .LShift) (rI CPow λi j=>.int (i*2^j.toNat)):=opI λ_ _ _ _ _ _ _ hc q=>lshift_int_small hc.1 hc.2.1 hc.2.2 q
theorem xe6:OpR X (binaryOp .RShift) (rI (λ_ j=>0<=j) λi j=>.int (i/2^j.toNat)):=opI λi j _ _ _ _ _ hc q=>
 rshift_int hc (by rw[Vm i (qP0 _)];exact q)
theorem qT3:OpR X (binaryOp .BitAnd) (rI0 λi j=>.int (Builtin.bitAnd i j)):=opI0 λ_ _ _ _ _ _ _ q=>and_int q
theorem qT4:OpR X (inplaceOp .Add) (rI0 λi j=>.int (i+j)):=opI0 λ_ _ _ _ _ _ _ q=>iadd_int q
theorem unI {f:Value->Sem Value}{g:Int->Int}
  (rule:∀(i:Int) (t:Tok) (s:Shared) (Q:Value->Shared->Prop) (E:Value->Shared->Prop),Q (.int (g i) s.toks) { s with toks:=s.toks+1 }->wpAny (model X.prog X.w) X.A (f (.int i t)) Q E s) :
  UnR X f (rU λi=>.int (g i)):=by
 intro j8 s σ H x v Q I rx h;obtain⟨i,rfl,q⟩:=h;obtain⟨t,rfl⟩:=rx;exact rule i t s _ _ ⟨.int (g i),H,I.tok _,⟨_,rfl⟩,q⟩
theorem xe7:UnR X (unaryOp .USub) (rU λi=>.int (-i)):=unI λ_ _ _ _ _ q=>neg_int q
end
def scal:V->V->Bool
 |.non,.non=>true|.non,.int _=>true|.int _,.non=>true|.non,.bl _=>true|.bl _,.non=>true|.non,.str _=>true|.str _,.non=>true
 |.int _,.int _=>true|.bl _,.bl _=>true|.str _,.str _=>true|.byt _,.byt _=>true
 |.int _,.str _=>true|.str _,.int _=>true|.bl _,.str _=>true|.str _,.bl _=>true
 |_,_=>false
def rEq:R2:=λx y H Q=>scal x y=true/\Q (.bl (decide (x=y))) H
def rNe:R2:=λx y H Q=>scal x y=true/\Q (.bl (!decide (x=y))) H
theorem qT5 {i j:Int}:decide (V.int i=V.int j)=(i==j):=by
 rw[Xb];simp
theorem xe8 {i j:Bool}:decide (V.bl i=V.bl j)=(i==j):=by
 rw[Xb];simp
theorem qT6 {i j:Str}:decide (V.str i=V.str j)=(i==j):=by
 rw[Xb];simp
theorem qT7 {i j:Array UInt8}:decide (V.byt i=V.byt j)=(i.toList==j.toList):=by
 rw[Xb];cases i;cases j;simp
section
variable {X:Cx}{a b c:Expr}{ta tb tc:TE}{pos:Pos}
theorem qc5 {j8:List (Addr×Obj)}{σ:St}{H:Hp}{s:Shared}{Q:VK}{k k':Bool}(I:Inv X j8 σ H s) (q:Q (.bl k) H) (e:k=k'):EP X j8 σ Q (.bool k') s:=by
 subst e;exact⟨.bl k,H,I,rfl,q⟩
theorem qB8:OpR X (compareOp .Eq) rEq:=by
 intro j8 s σ H x y v u Q I rx ry h;obtain⟨hs,q⟩:=h;cases x with
 |non=>
  cases rx;cases y with
  |non=>cases ry;exact PySem.EqNone.eq_none_none (qc5 I q (by simp))
  |bl j=>cases ry;exact PySem.EqNone.eq_none_bool (qc5 I q (by simp))
  |int j=>obtain⟨t',rfl⟩:=ry;exact PySem.EqNone.eq_none_int (qc5 I q (by simp))
  |str j=>obtain⟨t',rfl⟩:=ry;exact PySem.EqNone.eq_none_str (qc5 I q (by simp))
  |_=>exact absurd (show false=true from hs) Zs
 |bl i=>
  cases rx;cases y with
  |non=>cases ry;exact PySem.EqNone.eq_bool_none (qc5 I q (by simp))
  |bl j=>cases ry;exact eq_bool (qc5 I q xe8)
  |str j=>obtain⟨t',rfl⟩:=ry;exact PySem.EqMixed.eq_bool_str (qc5 I q (by simp))
  |_=>exact absurd (show false=true from hs) Zs
 |int i=>
  obtain⟨t,rfl⟩:=rx;cases y with
  |non=>cases ry;exact PySem.EqNone.eq_int_none (qc5 I q (by simp))
  |int j=>obtain⟨t',rfl⟩:=ry;exact eq_int (qc5 I q qT5)
  |str j=>obtain⟨t',rfl⟩:=ry;exact PySem.EqMixed.eq_int_str (qc5 I q (by simp))
  |_=>exact absurd (show false=true from hs) Zs
 |str i=>
  obtain⟨t,rfl⟩:=rx;cases y with
  |non=>cases ry;exact PySem.EqNone.eq_str_none (qc5 I q (by simp))
  |bl j=>cases ry;exact PySem.EqMixed.eq_str_bool (qc5 I q (by simp))
  |int j=>obtain⟨t',rfl⟩:=ry;exact PySem.EqMixed.eq_str_int (qc5 I q (by simp))
  |str j=>obtain⟨t',rfl⟩:=ry;exact eq_str (qc5 I q qT6)
  |_=>exact absurd (show false=true from hs) Zs
 |byt i=>
  obtain⟨t,rfl⟩:=rx;cases y with
  |byt j=>obtain⟨t',rfl⟩:=ry;exact PySem.W.eq_bytes (qc5 I q qT7)
  |_=>exact absurd (show false=true from hs) Zs
 |_=>cases y<;>exact absurd (show false=true from hs) Zs
theorem qT8:OpR X (compareOp .NotEq) rNe:=by
 intro j8 s σ H x y v u Q I rx ry h;obtain⟨hs,q⟩:=h;cases x with
 |non=>
  cases rx;cases y with
  |non=>cases ry;exact PySem.EqNone.ne_none_none (qc5 I q (by simp))
  |bl j=>cases ry;exact PySem.EqNone.ne_none_bool (qc5 I q (by simp))
  |int j=>obtain⟨t',rfl⟩:=ry;exact PySem.EqNone.ne_none_int (qc5 I q (by simp))
  |str j=>obtain⟨t',rfl⟩:=ry;exact PySem.EqNone.ne_none_str (qc5 I q (by simp))
  |_=>exact absurd (show false=true from hs) Zs
 |bl i=>
  cases rx;cases y with
  |non=>cases ry;exact PySem.EqNone.ne_bool_none (qc5 I q (by simp))
  |bl j=>cases ry;exact ne_bool (qc5 I q (Yk not xe8))
  |str j=>obtain⟨t',rfl⟩:=ry;exact PySem.EqMixed.ne_bool_str (qc5 I q (by simp))
  |_=>exact absurd (show false=true from hs) Zs
 |int i=>
  obtain⟨t,rfl⟩:=rx;cases y with
  |non=>cases ry;exact PySem.EqNone.ne_int_none (qc5 I q (by simp))
  |int j=>obtain⟨t',rfl⟩:=ry;exact ne_int (qc5 I q (Yk not qT5))
  |str j=>obtain⟨t',rfl⟩:=ry;exact PySem.EqMixed.ne_int_str (qc5 I q (by simp))
  |_=>exact absurd (show false=true from hs) Zs
 |str i=>
  obtain⟨t,rfl⟩:=rx;cases y with
  |non=>cases ry;exact PySem.EqNone.ne_str_none (qc5 I q (by simp))
  |bl j=>cases ry;exact PySem.EqMixed.ne_str_bool (qc5 I q (by simp))
  |int j=>obtain⟨t',rfl⟩:=ry;exact PySem.EqMixed.ne_str_int (qc5 I q (by simp))
  |str j=>obtain⟨t',rfl⟩:=ry;exact ne_str (qc5 I q (Yk not qT6))
  |_=>exact absurd (show false=true from hs) Zs
 |byt i=>
  obtain⟨t,rfl⟩:=rx;cases y with
  |byt j=>obtain⟨t',rfl⟩:=ry;exact PySem.W.ne_bytes (qc5 I q (Yk not qT7))
  |_=>exact absurd (show false=true from hs) Zs
 |_=>cases y<;>exact absurd (show false=true from hs) Zs
theorem qj0:OpR X (compareOp .Lt) (rI0 λi j=>.bl (decide (i<j))):=opB0 λ_ _ _ _ _ _ _ q=>lt_int q
theorem qs3:OpR X (compareOp .LtE) (rI0 λi j=>.bl (decide (i<=j))):=opB0 λ_ _ _ _ _ _ _ q=>le_int q
theorem q77:OpR X (compareOp .Gt) (rI0 λi j=>.bl (decide (j<i))):=opB0 λ_ _ _ _ _ _ _ q=>gt_int q
theorem xw4:OpR X (compareOp .GtE) (rI0 λi j=>.bl (decide (j<=i))):=opB0 λ_ _ _ _ _ _ _ q=>ge_int q
theorem qs4:OpR X (compareOp .In) (λx y H Q=>∃i j,x=.str i/\y=.str j/\Q (.bl (!(Builtin.Str.occurrences j i 0 j.length 1).isEmpty)) H):=by
 intro j8 s σ H x y v u Q I rx ry h;obtain⟨i,j,rfl,rfl,q⟩:=h;obtain⟨t,rfl⟩:=rx;obtain⟨t',rfl⟩:=ry;exact in_str (qc5 I q rfl)
theorem xq2:OpR X (compareOp .Is) (λx y H Q=>y=.non/\Q (.bl (decide (x=.non))) H):=by
 intro j8 s σ H x y v u Q I rx ry h;obtain⟨rfl,q⟩:=h;cases ry;refine is_none_gen (qc5 I q ?_);cases x<;>first
  |(cases rx;rfl)
  |(obtain⟨t,rfl⟩:=rx;rfl)
theorem qb2 (b:Expr){op:CmpOp}(h:op≠.In:=by decide) (h2:op≠.NotIn:=by decide):behindInMarks op b=false:=by
 have e1:(op==CmpOp.In)=false:=by cases op<;>first|rfl|exact absurd rfl h
 have e2:(op==CmpOp.NotIn)=false:=by cases op<;>first|rfl|exact absurd rfl h2
 cases b<;>simp[behindInMarks,e1,e2]
theorem qd7 {op:CmpOp}{r:R2}(ho:OpR X (compareOp op) r) (ha:PE X a ta) (hb:PE X b tb) (hm:behindInMarks op b=false):PE X (.Compare a [op] [b] pos) (tOp r ta tb):=by
 intro j8 s σ H Q I h;exact wpAny_Compare1 (binT ha hb I h λv u s2 x y H2 I2 rx ry q=>ho j8 s2 σ H2 x y v u Q I2 rx ry q) hm
inductive tTest_ (Q:Bool->Hp->Prop) (x:V) (H':Hp):Prop
 |mk (k:_) (e0:x=.bl k) (e1:Q k H')
def xw5 (t:TE):TT:=λσ H Q=>t σ H λx H'=>tTest_ Q x H'
theorem qb7 {op:CmpOp}{r:R2}(ho:OpR X (compareOp op) r) (ha:PE X a ta) (hb:PE X b tb) (hm:behindInMarks op b=false):PT X (.Compare a [op] [b] pos) (xw5 (tOp r ta tb)):=by
 intro j8 s σ H Q I h;refine wpAny_isTrue_Compare1 (thn (ha j8 s σ H _ I h) λv s1 ⟨x,H1,I1,r1,q1⟩=>thn (hb j8 s1 σ H1 _ I1 q1) λu s2 ⟨y,H2,I2,r2,q2⟩=>
  thn (ho j8 s2 σ H2 x y v u _ I2 r1 r2 q2) λc s3 ⟨z,H3,I3,r3,k,e,q3⟩=>?_) hm
 subst e;cases r3;exact Yd ⟨H3,I3,q3⟩
def xq3 (r r':R2) (ta tb tc:TE):TE:=λσ H Q=>ta σ H λx H1=>tb σ H1 λy H2=>r x y H2 λz H3=>∃k,z=.bl k /\
 (if k=true then tc σ H3 λw' H4=>r' y w' H4 Q else Q (.bl false) H3)
theorem qq8 {op op':CmpOp}{r r':R2}(ho:OpR X (compareOp op) r) (ho':OpR X (compareOp op') r') (ha:PE X a ta) (hb:PE X b tb) (hc:PE X c tc)
  (hm:lastMarks [op,op'] [b,c]=false:=by with_unfolding_all rfl):PE X (.Compare a [op,op'] [b,c] pos) (xq3 r r' ta tb tc):=by
 intro j8 s σ H Q I h;refine Compare_chain (thn (ha j8 s σ H _ I h) λv s1 ⟨x,H1,I1,r1,q1⟩=>chain_link (thn (hb j8 s1 σ H1 _ I1 q1) λu s2 ⟨y,H2,I2,r2,q2⟩=>
  thn (ho j8 s2 σ H2 x y v u _ I2 r1 r2 q2) λd s3 ⟨z,H3,I3,r3,k,e,q3⟩=>?_)) hm
 subst e;cases r3;refine Yd ?_;cases k with
 |false=>exact ite_ff ⟨.bl false,H3,I3,rfl,q3⟩
 |true=>exact ite_tt (chain_last (thn (hc j8 s3 σ H3 _ I3 q3) λw' s4 ⟨z',H4,I4,r4,q4⟩=>ho' j8 s4 σ H4 y z' u w' Q I4 r2 r4 q4))
def TruV (K:PySem.W.Frag) (x:V) (H:Hp) (k:Bool):Prop:=
 match x with
 |.non=>k=false
 |.bl b=>k=b
 |.int i=>k=(i != 0)
 |.str y=>y.length<=sizeLine/\k=((y.length:Int) != 0)
 |.byt y=>y.size<=sizeLine/\k=((y.size:Int) != 0)
 |.ref p=>(∃xs,SqL K H p xs/\k=!xs.isEmpty)\/(∃xs,SqT K H p xs/\k=!xs.isEmpty)\/∃kvs,H p=some (.dK kvs)/\k=!kvs.isEmpty
 |_=>False
theorem qP1 {κ:Type}{kvs:List (κ×V)}{vs:List (κ×Value)}(r:KV kvs vs):(!vs.isEmpty)=!kvs.isEmpty:=by
 cases r<;>rfl
theorem qx1 {xs:List V}{its:List Value}(r:Vals xs its):(!its.toArray.isEmpty)=!xs.isEmpty:=by
 cases r<;>simp
theorem qs5:(sizeLine:Nat)<2^63:=by rw[XQ];decide
theorem xq4:TruR X (λx H Q=>∃k,TruV X.K x H k/\Q k H):=by
 intro j8 s σ H x v Q I rx h;obtain⟨k,e,q⟩:=h;have hl:=qs5;have hs:sizeLine=16777216:=XQ;cases x with
 |non=>
  cases rx;have e':k=false:=e;subst e';exact truthy_none ⟨H,I,q⟩
 |bl b=>
  cases rx;have e':k=b:=e;subst e';exact Yd ⟨H,I,q⟩
 |int i=>
  obtain⟨t,rfl⟩:=rx;have e':k=(i != 0):=e;subst e';exact PySem.P.truthy_int ⟨H,I,q⟩
 |str y=>
  obtain⟨t,rfl⟩:=rx;obtain⟨hy,e'⟩:y.length<=sizeLine/\k=((y.length:Int) != 0):=e;subst e';exact PySem.P.truthy_str (by lia) ⟨H,I.tok _,q⟩
 |byt y=>
  obtain⟨t,rfl⟩:=rx;obtain⟨hy,e'⟩:y.size<=sizeLine/\k=((y.size:Int) != 0):=e;subst e';exact PySem.W.truthy_bytes (by lia) ⟨H,I.tok _,q⟩
 |ref p=>
  cases rx;have e':(∃xs,SqL X.K H p xs/\k=!xs.isEmpty)\/(∃xs,SqT X.K H p xs/\k=!xs.isEmpty)\/∃kvs,H p=some (.dK kvs)/\k=!kvs.isEmpty:=e;rcases e' with ⟨xs,hx,e'⟩|⟨xs,hx,e'⟩|⟨kvs,hx,e'⟩
  ·subst e';obtain⟨its,r,pl,hz⟩:=I.list hx;have j9:=r.length;exact wpAny_truthy_list pl.isList (by simp only[ZG];lia) ⟨H,I.tok _,by rw[qx1 r];exact q⟩
  ·subst e';obtain⟨its,r,pl,hz⟩:=I.tuple hx;have j9:=r.length;exact truthy_tuple pl (by simp only[ZG];lia) ⟨H,I.tok _,by rw[qx1 r];exact q⟩
  ·subst e';obtain⟨hz,hS,vs,r,m⟩:kvs.length<=sizeLine/\(p==sysModules)=false/\∃vs,KV kvs vs/\s.heap.DictOf (qd6 X.prog X.w) p vs:=I.hok p _ hx;have j9:kvs.length=vs.length:=Y2 r;exact wpAny_truthy_dict hS m (by lia) ⟨H,I.tok _,by rw[qP1 r];exact q⟩
 |_=>exact (show False from e).elim
theorem q78 (ha:PE X a ta) (he:∀whole,isTrue a X.env whole=(do let v <- whole;standAt a.pos;holding [v] (truthy v))) :
  PT X a (λσ H Q=>ta σ H λx H'=>∃k,TruV X.K x H' k/\Q k H'):=by
 intro j8 s σ H Q I h;exact isTrue_plain (thn (ha j8 s σ H _ I h) λv s1 ⟨x,H1,I1,r1,q1⟩=>xq4 j8 s1 σ H1 x v Q I1 r1 q1) (he _)
theorem qx2:OpR X (binaryOp .Add) (λx y H Q=>∃i j,x=.str i/\y=.str j/\i.length+j.length<=sizeLine/\Q (.str (i++j)) H):=by
 intro j8 s σ H x y v u Q I rx ry h;obtain⟨i,j,rfl,rfl,hz,q⟩:=h;obtain⟨t,rfl⟩:=rx;obtain⟨t',rfl⟩:=ry;exact add_str (λt' tk=>⟨.str (i++j),H,I.tok _,⟨_,rfl⟩,q⟩) hz
theorem qf0 {x:V}{us:List Value}(r:Vals [x] us):∃u,us=[u]/\RelV x u:=by
 cases r with
 |cons r1 r2=>cases r2;exact⟨_,rfl,r1⟩
theorem xi5 {x y:V}{us:List Value}(r:Vals [x,y] us):∃u w',us=[u,w']/\RelV x u/\RelV y w':=by
 cases r with
 |cons r1 r2=>
  cases r2 with
  |cons r3 r4=>cases r4;exact⟨_,_,rfl,r1,r3⟩
theorem qm6:qe3 X (.builtin "abs") (λxs H Q=>∃i,xs=[.int i]/\Q (.int (if i<0 then -i else i)) H):=by
 intro j8 s σ H xs us Q I r h;obtain⟨i,rfl,q⟩:=h;obtain⟨u,rfl,t,rfl⟩:=qf0 r;exact call_abs_int λu tk=>⟨.int (if i<0 then -i else i),H,I.tok _,⟨_,rfl⟩,q⟩
theorem qd2 (hc:X.calm=true):qe3 X (.builtin "max") (λxs H Q=>∃i j,xs=[.int i,.int j]/\Q (.int (if j>i then j else i)) H):=by
 intro j8 s σ H xs us Q I r h;obtain⟨i,j,rfl,q⟩:=h;obtain⟨u,w',rfl,⟨t,rfl⟩,⟨t',rfl⟩⟩:=xi5 r;refine max_two_ints (I.ok.hd hc) λh' tk k=>⟨_,H,I.kept k,?_,q⟩;by_cases hj:j>i
 ·rw[Zx hj,Zx hj];exact⟨_,rfl⟩
 ·rw[Zk hj,Zk hj];exact⟨_,rfl⟩
theorem qe7 (hc:X.calm=true):qe3 X (.builtin "min") (λxs H Q=>∃i j,xs=[.int i,.int j]/\Q (.int (if j<i then j else i)) H):=by
 intro j8 s σ H xs us Q I r h;obtain⟨i,j,rfl,q⟩:=h;obtain⟨u,w',rfl,⟨t,rfl⟩,⟨t',rfl⟩⟩:=xi5 r;refine min_two_ints (I.ok.hd hc) λh' tk k=>⟨_,H,I.kept k,?_,q⟩;by_cases hj:j<i
 ·rw[Zx hj,Zx hj];exact⟨_,rfl⟩
 ·rw[Zk hj,Zk hj];exact⟨_,rfl⟩
theorem qs6:qe3 X (.type "int") (λxs H Q=>(∃i,xs=[.int i]/\Q (.int i) H)\/∃k,xs=[.bl k]/\Q (.int (if k then 1 else 0)) H):=by
 intro j8 s σ H xs us Q I r h;rcases h with ⟨i,rfl,q⟩|⟨k,rfl,q⟩
 ·obtain⟨u,rfl,t,rfl⟩:=qf0 r;exact call_int_int ⟨.int i,H,I,⟨_,rfl⟩,q⟩
 ·obtain⟨u,rfl,r1⟩:=qf0 r;cases r1;exact call_int_bool ⟨.int (if k then 1 else 0),H,I.tok _,⟨_,rfl⟩,q⟩
theorem qB9:qe3 X (.type "str") (λxs H Q=>∃i,xs=[.int i]/\i.natAbs.log2<1920/\Q (.str (toString i)) H):=by
 intro j8 s σ H xs us Q I r h;obtain⟨i,rfl,hz,q⟩:=h;obtain⟨u,rfl,t,rfl⟩:=qf0 r;exact PySem.P.str_of_int hz ⟨.str _,H,I.tok _,⟨_,rfl⟩,q⟩
end
structure ObjM (h:Heap) (x dx C:Addr) (mA:Str->Option Value):Prop where
 obj:h.get? x=some (PySem.W.instObj C dx)
 ns:h.Ns1 dx mA
 ne:dx≠x
theorem qT9 {h:Heap}{dx:Addr}{mA:Str->Option Value}(n:h.Ns1 dx mA):∃od,h.get? dx=some od/\∀name,PySem.W.lookIn name od=some (mA name):=by
 obtain⟨o,es,ep,ho,hd,hk,_,hm⟩:=n;refine⟨o,ho,λname=>?_⟩;have e:=hm name;unfold nsFind findBy at e;rw[<- Array.find?_toList] at e;unfold PySem.W.lookIn;rw[hd];dsimp only;split
 ·rename_i y q;rw[q] at e;exact Yk some e
 ·rename_i q;rw[q] at e;have a:es.toList.any (·.refKey)=false:=by
   rw[VA];intro y hy;obtain⟨z,t,kJ⟩:=hk y (Array.mem_toList_iff.mp hy);simp[DictEntry.refKey,kJ]
  have a':¬es.toList.any (·.refKey)=true:=by rw[a];exact Zs
  rw[Zk a'];exact Yk some e
theorem ObjM.look {h:Heap}{x dx C:Addr}{mA:Str->Option Value}(I:ObjM h x dx C mA):∃od,PySem.W.InstAt h x (PySem.W.instObj C dx) C (some od)/\∀name,PySem.W.lookIn name od=some (mA name):=
 let ⟨od,ho,hl⟩:=qT9 I.ns
 ⟨od,⟨I.obj,rfl,rfl,ho⟩,hl⟩
section
variable {prog:Program}{w:World}{A:Around}{E:Value->Shared->Prop}{s:Shared}{K:PySem.W.Frag}{x dx C f:Addr}{mA:Str->Option Value}{name:Str}{v:Value}
end
theorem RelO.some_of {v:V}{o:Option Value}(r:RelO (some v) o):∃u,o=some u/\RelV v u:=by
 cases o with
 |none=>exact (show False from r).elim
 |some u=>exact⟨u,rfl,r⟩
section
variable {P:Program}{w:World}{H H':Hp}{h h':Heap}{a C dx:Addr}{fs fs':List (Str×V)}
theorem xi6 (hok:HOk P w H h) (e:H a=some (.ins C dx fs)):∃mA,ObjM h a dx C mA/\(∀f,RelO (fs.lookup f) (mA f))/\PySem.Within mA (fs.map (·.1))/\fs.length<=1000/\H dx=some (.own a):=by
 obtain⟨d,z,ne,ob,mA,n,r,q⟩:=(show ObjOk P w H h a (.ins C dx fs) from hok a _ e);exact⟨mA,⟨ob,n,ne⟩,r,q,z,d⟩
end
structure Cls (K:PySem.W.Frag) (C:Addr):Prop where
 pg:PySem.W.plainGet K C Str.empty=true
 hd:PySem.W.hasDictIn K C=true
 po:PySem.W.plainOver K C=true
 sa:PySem.W.findIn K (.ref C) "__setattr__" = some (some (.builtin "object.__setattr__"))
theorem Cls.get {K:PySem.W.Frag}{C:Addr}(c:Cls K C) (f:Str):PySem.W.plainGet K C f=true:=c.pg
section
variable {X:Cx}{j8:List (Addr×Obj)}{σ:St}{H:Hp}{s:Shared}{a C dx:Addr}{fs:List (Str×V)}{f:Str}{v:V}{A:Around}{E:Value->Shared->Prop}
end
section
variable {X:Cx}{o e value:Expr}{f:Str}{pos pos' tpos:Pos}{ta tv:TE}
end
section
variable {X:Cx}{j8:List (Addr×Obj)}{σ:St}{H:Hp}{s:Shared}{A:Around}{E:Value->Shared->Prop}{Q:Value->Shared->Prop}{c:Value}{b:Bool}
inductive TyOf (K:PySem.W.Frag) (H:Hp):V->Value->Prop where
 |non:TyOf K H .non (.type "NoneType")
 |bl (x:Bool):TyOf K H (.bl x) (.type "bool")
 |int (i:Int):TyOf K H (.int i) (.type "int")
 |str (x:Str):TyOf K H (.str x) (.type "str")
 |flt (x:UInt64):TyOf K H (.flt x) (.type "float")
 |lst {a:Addr}{xs:List V}(e:H a=some (.lst xs)):TyOf K H (.ref a) (.type "list")
 |frz {a:Addr}{o:Obj}{xs:List V}(e:H a=some (.frz o (.lst xs))):TyOf K H (.ref a) (.type "list")
 |tup {a:Addr}{xs:List V}(e:H a=some (.tup xs)):TyOf K H (.ref a) (.type "tuple")
 |dK {a:Addr}{kvs:List (Key×V)}(e:H a=some (.dK kvs)):TyOf K H (.ref a) (.type "dict")
 |dT {a:Addr}{kvs:List (List Key×V)}(e:H a=some (.dT kvs)):TyOf K H (.ref a) (.type "dict")
 |ins {a C dx:Addr}{fs:List (Str×V)}(e:H a=some (.ins C dx fs)) (cl:Cls K C) (ha:PySem.W.findIn K (.ref C) "__class__" = some (some (.builtin "object.__class__")))
   (hn:PySem.W.specialIn K (.builtin "object.__class__") "__get__" = some (some (.builtin "getset_descriptor.__get__"))) (htk:PySem.W.takesIn K (.builtin "object.__class__")=some true)
   (hm:PySem.W.mroIn K C (.type "object")=some true):TyOf K H (.ref a) (.ref C)
theorem qU0 {x:V}{u t:Value}(I:Inv X j8 σ H s) (rx:RelV x u) (ty:TyOf X.K H x t) (e:PySem.W.kitOne X.K t c=some b) (h:∀tk,Q (.bool b) { s with toks:=tk }) :
  wpAny (model X.prog X.w) A (call (.builtin "isinstance") [u,c]) Q E s:=by
 cases ty with
 |non=>cases (show u=Value.none from rx);exact Yz PySem.W.kitx_none I.kIn True.intro e (λz=>nomatch z) h
 |bl y=>cases (show u=Value.bool y from rx);exact Yz PySem.W.kitx_bool I.kIn True.intro e (λz=>nomatch z) h
 |int i=>obtain⟨t,q⟩:=(show ∃t,u=Value.int i t from rx);cases q;exact Yz PySem.W.kitx_int I.kIn True.intro e (λz=>nomatch z) h
 |str y=>obtain⟨t,q⟩:=(show ∃t,u=Value.str y t from rx);cases q;exact Yz PySem.W.kitx_str I.kIn True.intro e (λz=>nomatch z) h
 |flt y=>obtain⟨t,q⟩:=(show ∃t,u=Value.float y t from rx);cases q;exact Yz PySem.W.kitx_float I.kIn True.intro e (λz=>nomatch z) h
 |@lst a xs ea=>
  cases (show u=Value.ref a from rx);obtain⟨_,_,n,_,h1⟩:=(show ObjOk X.prog X.w H s.heap a (.lst xs) from I.hok a _ ea);exact Yz PySem.W.kitx_list I.kIn ⟨_,h1,rfl⟩ e (λz=>nomatch z) h
 |@frz a ob xs ea=>
  cases (show u=Value.ref a from rx);obtain⟨_,_,_,n,_,h1⟩:=(show ObjOk X.prog X.w H s.heap a (.frz ob (.lst xs)) from I.hok a _ ea);exact Yz PySem.W.kitx_list I.kIn ⟨_,h1,rfl⟩ e (λz=>nomatch z) h
 |@tup a xs ea=>
  cases (show u=Value.ref a from rx);obtain⟨_,_,_,p⟩:=(show ObjOk X.prog X.w H s.heap a (.tup xs) from I.hok a _ ea);obtain⟨o,h1,h2,_⟩:=p;exact Yz PySem.W.kitx_tuple I.kIn ⟨o,h1,h2⟩ e (λz=>nomatch z) h
 |@dK a kvs ea=>
  cases (show u=Value.ref a from rx);obtain⟨_,_,vs,_,p⟩:=(show ObjOk X.prog X.w H s.heap a (.dK kvs) from I.hok a _ ea);obtain⟨o,es,ep,h1,h2,_⟩:=p;exact Yz PySem.W.kitx_dict I.kIn ⟨o,h1,h2.1⟩ e (λz=>nomatch z) h
 |@dT a kvs ea=>
  cases (show u=Value.ref a from rx);obtain⟨_,_,xs,_,o,es,ep,h1,h2,_⟩:=(show ObjOk X.prog X.w H s.heap a (.dT kvs) from I.hok a _ ea);exact Yz PySem.W.kitx_dict I.kIn ⟨o,h1,h2.1⟩ e (λz=>nomatch z) h
 |@ins a C dx fs ea cl ha hn htk hm=>
  cases (show u=Value.ref a from rx);obtain⟨mA,O,_⟩:=xi6 I.hok ea;obtain⟨od,J,_⟩:=O.look;exact Yz (PySem.W.kitx_own (cl.get _) cl.hd ha hn htk hm) I.kIn J e (λz=>nomatch z) h
end
structure Room (k:Nat) (A:Around):Prop where
 hd:A.handled=none
 dp:A.depth+3*k+5<recursionLimit
 un:A.units+16*k+200<cLine
 gd:A.guards=some []
theorem Room.mono {j k:Nat}{A:Around}(r:Room k A) (h:j<=k):Room j A:=⟨r.hd,by have:=r.dp;lia,by have:=r.un;lia,r.gd⟩
theorem Room.deeper {k:Nat}{A:Around}(r:Room (k+1) A) (env:Env):Room k (A.deeper env):=
 ⟨r.hd,by have:=r.dp;show A.depth+1+3*k+5<_;lia,by have:=r.un;show A.units+3+16*k+200<_;lia,r.gd⟩
theorem Room.depth {k:Nat}{A:Around}(r:Room k A):A.depth<recursionLimit:=by have:=r.dp;lia
theorem Room.units {k:Nat}{A:Around}(r:Room k A):A.units+64<cLine:=by have:=r.un;lia
def tNil:TA:=λ_ H Q=>Q [] H
def qC0 (ta:TE) (tr:TA):TA:=λσ H Q=>ta σ H λx H1=>tr σ H1 λxs H2=>Q (x::xs) H2
section
variable {X:Cx}{e:Expr}{es:List Expr}{te:TE}{t:TA}{pos:Pos}
theorem qa2:PA X [] tNil:=λ_ _ _ _ H Q I h=>Calls.spliced_nil ⟨[],H,I,.nil,h⟩
theorem qa0 (ha:PE X e te) (hr:PA X es t) (hs:starEach (e::es) X.env=(false,eval e X.env)::starEach es X.env:=by rfl):PA X (e::es) (qC0 te t):=by
 intro pos j8 s σ H Q I h;rw[hs];show wpAny _ _ (spliced ((false,eval e X.env)::backTo pos (starEach es X.env))) _ _ s;refine Calls.spliced_cons (thn (ha j8 s σ H _ I h) λu s1 ⟨x,H1,I1,r1,q1⟩=>?_);exact thn (hr pos j8 s1 σ H1 _ I1 q1) λus s2 ⟨xs,H2,I2,r2,q2⟩=>⟨x::xs,H2,I2,.cons r1 r2,q2⟩
def tTup (t:TA):TE:=λσ H Q=>t σ H λxs H1=>xs.length<=sizeLine/\∀p,H1 p=none->Q (.ref p) (upd H1 p (.tup xs))
def tLst (t:TA):TE:=λσ H Q=>t σ H λxs H1=>xs.length<=sizeLine/\∀p,H1 p=none->Q (.ref p) (upd H1 p (.lst xs))
theorem qd8 {x1} (h:PA X es t):PE X (.Tuple es x1 pos) (tTup t):=by
 intro j8 s σ H Q I hq;refine wpAny_Tuple_spliced (thn (h pos j8 s σ H _ I hq) λus s1 ⟨xs,H1,I1,r,z,q⟩=>⟨by rw[<- r.length];exact z,?_⟩);have hf:H1 s1.heap.objs.size=none:=I1.hok.fresh (Ze _);refine⟨.ref s1.heap.objs.size,upd H1 s1.heap.objs.size (.tup xs),I1.laid (t':=s1.toks) (λb u e=>Zc _ e) (Ze _) ?_,rfl,q _ hf⟩;exact⟨z,us,r,⟨_,Zf _ rfl,rfl,⟨_,rfl⟩,rfl⟩⟩
theorem qi4 (h:PA X es t):PE X (.List es pos) (tLst t):=by
 intro j8 s σ H Q I hq;refine wpAny_List_spliced (thn (h pos j8 s σ H _ I hq) λus s1 ⟨xs,H1,I1,r,z,q⟩=>⟨by rw[<- r.length];exact z,?_⟩);have hf:H1 s1.heap.objs.size=none:=I1.hok.fresh (Ze _);refine⟨.ref s1.heap.objs.size,upd H1 s1.heap.objs.size (.lst xs),I1.laid (t':=s1.toks) (λb u e=>Zc _ e) (Ze _) ?_,rfl,q _ hf⟩;exact⟨z,us,0,r,Zf _ rfl⟩
end
abbrev Sp:=List V->Hp->VK->XK->Prop
abbrev CXT:=List Env->Hp->Shared->XK->Value->Shared->Prop
structure Env0 (P:Program) (w:World) (K:PySem.W.Frag) (mg:Str->Option Value) (base:Heap) (A:Around) (outer:List Env) (s:Shared) (H:Hp):Prop where
 frames:A.frames=some outer
 mod:Mod K mg base
 bs:∀b o,base.get? b=some o->s.heap.get? b=some o/\H b=none
 bsz:base.objs.size<=s.heap.objs.size
 funs:s.heap.FunFrames base outer
 frf:∀b∈frs outer,H b=none
 hok:HOk P w H s.heap
 bare:AllBare s.gens
def CE (outer:List Env) (P:Program) (w:World) (H:Hp) (s:Shared) (Q:VK) (u:Value) (s':Shared):Prop:=
 ∃v H',s'.os=s.os/\AllBare s'.gens/\Un (frs outer) [] H H' s.heap s'.heap/\HOk P w H' s'.heap/\RelV v u/\Q v H'
def CR (CX:CXT) (outer:List Env) (P:Program) (w:World) (H:Hp) (s:Shared) (Q:VK) (E:XK) (r:Result) (s':Shared):Prop:=
 match r with
 |.ok (.ret u)=>CE outer P w H s Q u s'
 |.ok _=>False
 |.error e=>CX outer H s E e s'
structure FnOk (P:Program) (w:World) (K:PySem.W.Frag) (mg:Str->Option Value) (base:Heap) (CX:CXT) (k:Nat) (f:Addr) (fd:FuncData) (ps:List Str) (sp:Sp):Prop where
 len:∀vs H Q E,sp vs H Q E->vs.length=ps.length
 run:∀(A:Around) (outer:List Env) (s:Shared) (H:Hp) (args:Args) (us:List Value) (vs:List V) (Q:VK) (E:XK),Room k A->Env0 P w K mg base A outer s H->BindsTo s fd args (ps.zip us)->Vals vs us->sp vs H Q E ->
  codeAny (model P w) A (.call (.ref f) args) (CR CX outer P w H s Q E) s
section
variable {X:Cx}{j8:List (Addr×Obj)}{σ:St}{H:Hp}{s s':Shared}
theorem Inv.env0 (I:Inv X j8 σ H s):Env0 X.prog X.w X.K X.mg X.base X.A X.stack s H:=
 ⟨I.ok.frames,I.ok.mod,I.bs,ZF I.ok.bsz I.sz,I.stack,I.stkFree,I.hok,I.bare⟩
theorem Inv.after {Q:VK}{u:Value}(I:Inv X j8 σ H s) (h:CE X.stack X.prog X.w H s Q u s'):EP X j8 σ Q u s':=by
 obtain⟨v,H',os,bare,un,hok,r,q⟩:=h;obtain⟨hh,g,d,t,os'⟩:=s';obtain rfl:os'=s.os:=os;exact⟨v,H',I.call (h':=hh) (g':=g) (d':=d) (t':=t) (ch:=[]) un hok bare (λb z=>absurd z (by simp)),r,q⟩
end
def q79 (sp:Sp) (dvs:List V) (E:XK) (t:TA):TE:=λσ H Q=>t σ H λvs H1=>sp (vs++dvs) H1 Q E
def Binds (K:PySem.W.Frag) (fd:FuncData) (ps:List Str) (ds:List Value):Prop:=
 ∀(s:Shared) (us:List Value),K.In s.heap->(us++ds).length=ps.length->BindsTo s fd ⟨us,[]⟩ (ps.zip (us++ds))
theorem Binds.all {K:PySem.W.Frag}{fd:FuncData}{ps:List Str}(h:∀us:List Value,us.length=ps.length->bindArgs fd ⟨us,[]⟩=pure (ps.zip us)):Binds K fd ps []:=λs us _ hl=>by
 rw[YT] at hl ⊢;exact .of_eq (h us hl)
def qU1 (CX:CXT) (X:Cx) (E:XK):Prop:=∀(j8:List (Addr×Obj)) (σ:St) (H:Hp) (s:Shared) (e:Value) (s':Shared),Inv X j8 σ H s->CX X.stack H s E e s'->X.xe e s'
section
variable {X:Cx}{CX:CXT}{k:Nat}{f C:Addr}{fd:FuncData}{ps:List Str}{sp:Sp}{dvs:List V}{ds:List Value}{E:XK}{x m:Str}{p pos apos:Pos}{e o:Expr}{es:List Expr}{ta:TE}{t:TA}
theorem xq5 {j8:List (Addr×Obj)}{σ:St}{H:Hp}{s:Shared}{Q:VK}{us:List Value}{vs:List V}(F:FnOk X.prog X.w X.K X.mg X.base CX k f fd ps sp) (hr:Room k X.A) (hb:Binds X.K fd ps ds) (hd:Vals dvs ds) (hx:qU1 CX X E)
  (I:Inv X j8 σ H s) (r:Vals vs us) (h:sp (vs++dvs) H Q E):wpAny (model X.prog X.w) X.A (call (.ref f) us) (EP X j8 σ Q) X.xe s:=by
 have r2:Vals (vs++dvs) (us++ds):=r.append hd;have hl:(us++ds).length=ps.length:=by rw[<- r2.length];exact F.len _ _ _ _ h
 refine wpAny_call (Wm (F.run X.A X.stack s H ⟨us,[]⟩ (us++ds) (vs++dvs) Q E hr I.env0 (hb s us I.kIn hl) r2 h) λr s' hq=>?_);cases r with
 |error e=>exact hx j8 σ H s e s' I hq
 |ok fl=>
  cases fl with
  |ret u=>exact I.after hq
  |next=>exact False.elim hq
  |brk=>exact False.elim hq
  |cont=>exact False.elim hq
theorem qU2 (F:FnOk X.prog X.w X.K X.mg X.base CX k f fd ps sp) (hr:Room k X.A) (hg:Gl X x) (hm:X.mg x=some (.ref f)) (hk:PySem.W.keepIn X.K (.ref f)=true) (hb:Binds X.K fd ps ds) (hd:Vals dvs ds) (hx:qU1 CX X E)
  (ha:PA X (e::es) t) (vA:(x==("__debug__" : Str))=false:=by decide) (he:starEach (e::es) X.env=(false,eval e X.env)::starEach es X.env:=by rfl) (jI:(backTo pos (starEach es X.env)).any (·.1)=false:=by rfl) :
  PE X (.Call (.Name x p) (e::es) [] pos) (q79 sp dvs E t):=by
 intro j8 s σ H Q I h;refine Vn (qS8 I hg hm ?_ vA);refine PySem.W.callWith_K (h₀:=X.base) I.ok.mod.kin hk (thn (ha pos j8 s σ H _ I h) λus s1 ⟨vs,H1,I1,r,q⟩=>⟨I1.kIn,?_⟩) he jI;exact xq5 F hr hb hd hx I1 r q
end
section
variable {X:Cx}{CX:CXT}{k:Nat}{f C:Addr}{fd:FuncData}{ps ks:List Str}{sp:Sp}{E:XK}{x m:Str}{p pos apos kpos:Pos}{e o:Expr}{es:List Expr}{kws:List Keyword}{te ta:TE}{t tk:TA}{nm:Option Str}
variable {g:List Value->List Value->List Value}{gV:List V->List V->List V}
end
structure FnScope (N P:List Str) (sc:Scope):Prop where
 kind:sc.kind=.function
 co:sc.isCoroutine=false
 gen:sc.isGenerator=false
 nd:N.Nodup
 pre:N.take P.length=P
 par:∀x∈P,sc.names.lookup x=some .local\/sc.names.lookup x=some .cell
 nofree:∀y∈sc.names,y.2≠.free
theorem qC1 {kindOf:Str->Option NameKind}{x:Str}:∀{binds:List (Str×Value)}{m:Str->Option Value},(∀v,(x,v)∉binds)->bindL kindOf binds m x=m x
 |[],_,_=>rfl
 |(n,v)::r,m,h=>by
  unfold bindL;rw[qC1 λw hw=>h w (Zl _ hw)];split
  ·have:x≠n:=by rintro rfl;exact h v ZC
   simp[this]
  ·rfl
theorem qC2 {kindOf:Str->Option NameKind}{x:Str}:∀{binds:List (Str×Value)}{m:Str->Option Value},(∀v,(x,v)∉binds)->bindC kindOf binds m x=m x
 |[],_,_=>rfl
 |(n,v)::r,m,h=>by
  unfold bindC;rw[qC2 λw hw=>h w (Zl _ hw)];split
  ·rfl
  ·have:x≠n:=by rintro rfl;exact h v ZC
   simp[this]
theorem qC3 {kindOf:Str->Option NameKind}{x:Str}{v:Value}:∀{P:List Str}{vs:List Value}{i:Nat}{m:Str->Option Value},P.Nodup->P[i]?=some x->vs[i]?=some v->kindOf x=some .local ->
  bindL kindOf (P.zip vs) m x=some v
 |[],_,_,_,_,h,_,_=>by simp at h
 |_::_,[],_,_,_,_,h,_=>by simp at h
 |p::P,w::vs,0,m,nd,h1,h2,hk=>by
  simp at h1 h2;subst h1;subst h2;show bindL kindOf ((p,w)::P.zip vs) m p=_;unfold bindL;rw[qC1 λv hv=>(YJ.mp nd).1 (V2 hv).1,Zx hk];simp
 |p::P,w::vs,i+1,m,nd,h1,h2,hk=>by
  show bindL kindOf ((p,w)::P.zip vs) m x=_;unfold bindL;exact qC3 (i:=i) (YJ.mp nd).2 (by simpa using h1) (by simpa using h2) hk
theorem qC4 {kindOf:Str->Option NameKind}{x:Str}{v:Value}:∀{P:List Str}{vs:List Value}{i:Nat}{m:Str->Option Value},P.Nodup->P[i]?=some x->vs[i]?=some v->kindOf x≠some .local ->
  bindC kindOf (P.zip vs) m x=some v
 |[],_,_,_,_,h,_,_=>by simp at h
 |_::_,[],_,_,_,_,h,_=>by simp at h
 |p::P,w::vs,0,m,nd,h1,h2,hk=>by
  simp at h1 h2;subst h1;subst h2;show bindC kindOf ((p,w)::P.zip vs) m p=_;unfold bindC;rw[qC2 λv hv=>(YJ.mp nd).1 (V2 hv).1,Zk hk];simp
 |p::P,w::vs,i+1,m,nd,h1,h2,hk=>by
  show bindC kindOf ((p,w)::P.zip vs) m x=_;unfold bindC;exact qC4 (i:=i) (YJ.mp nd).2 (by simpa using h1) (by simpa using h2) hk
def start (N:List Str) (vs:List V):St:=vs.map some++List.replicate (N.length-vs.length) none
def cxOf (CX:CXT) (P:Program) (w:World) (K:PySem.W.Frag) (mg:Str->Option Value) (base:Heap) (N:List Str) (qual:Str) (scope:Scope) (f:Addr) (cd:Value) (A:Around) (outer:List Env) (s:Shared) (H:Hp) (E:XK):Cx where
 prog:=P
 w:=w
 K:=K
 mg:=mg
 base:=base
 A:=A.deeper (envOfC qual scope s.heap.objs.size f cd)
 N:=N
 s₀:=s
 H₀:=H
 env:=envOfC qual scope s.heap.objs.size f cd
 outer:=outer
 stack:=envOfC qual scope s.heap.objs.size f cd::outer
 ex:=[]
 calm:=true
 fn:=λ_=>true
 pn:=[]
 xe:=λe s'=>wpAny (model P w) (A.deeper (envOfC qual scope s.heap.objs.size f cd)) (leaving (envOfC qual scope s.heap.objs.size f cd) e) (λ_ s''=>CX outer H s E e s'') (λe' s''=>CX outer H s E e' s'') s'
theorem qK6 {sc:Scope}{n:Nat}{x:Str}(h:sc.names.lookup x=some .cell):∃c,(cellsFrom n sc.names []).lookup x=some c:=by
 have q:=PySem.W.cellsFrom_some sc.names n [] (.inl h);exact Ws.mp q
theorem qU3 {CX:CXT}{P:Program}{w:World}{K:PySem.W.Frag}{mg:Str->Option Value}{base:Heap}{N ps:List Str}{qual:Str}{scope:Scope}{f:Addr}{cd:Value}{A:Around}{outer:List Env}{s s1:Shared}{H:Hp}{E:XK}{us:List Value}{vs:List V}
  (S:FnScope N ps scope) (hd:A.handled=none) (e0:Env0 P w K mg base A outer s H) (hl:vs.length=ps.length) (r:Vals vs us)
  (x:InCallC s s.heap.objs.size (bindL (envOfC qual scope s.heap.objs.size f cd).kindOf (ps.zip us) λ_=>none) (cellsFrom (s.heap.objs.size+1) scope.names []) (bindC (envOfC qual scope s.heap.objs.size f cd).kindOf (ps.zip us) λ_=>none) s1) :
  Inv (cxOf CX P w K mg base N qual scope f cd A outer s H E) [] (start N vs) H s1:=by
 have jI:ps.length<=N.length:=by have:=Yk List.length S.pre;rw[XH] at this;lia
 obtain⟨h1,tk,rfl,hk⟩:=x.done;have noA:∀b:Addr,b∉(cxOf CX P w K mg base N qual scope f cd A outer s H E).ex:=λb z=>absurd (show b∈([]:List Addr) from z) (by simp);refine⟨⟨e0.mod,S.kind,rfl,rfl,Ze _,λy z c h1 h2=>?_,λy hy=>?_,λy c _ h=>?_,λ_=>hd,Around.frames_deeper e0.frames,.inr ⟨rfl,rfl⟩,λb z=>absurd z (noA b),e0.bs,e0.bsz,λb _ _=>noA b,λb z=>absurd z (noA b),e0.funs,e0.frf⟩,
  rfl,e0.bare,Un.kept hk,⟨_,x.toInCall.ns,λi y v h1 h2 h3=>?_⟩,λy c h=>⟨_,x.cell y c h⟩,e0.hok.fresh (Ze _),λy c h=>?_,λp hp=>absurd (show p∈([]:List (Addr×Obj)) from hp) (by simp),e0.hok.kept hk,?_⟩
 ·exact name_of_addr x.apart (XD h1) (XD h2)
 ·have hy:scope.names.lookup y=some .cell\/scope.names.lookup y=some .free:=hy;rcases hy with hy|hy
  ·exact qK6 hy
  ·exact absurd rfl (S.nofree _ (XD hy))
 ·exact XR (x.above y c (XD h))
 ·have hi:i<vs.length:=by
   unfold start at h2;by_cases hi:i<vs.length
   ·exact hi
   ·rw[ZH (by simpa using hi)] at h2;rw[List.getElem?_replicate] at h2;split at h2<;>cases h2
  have ha:vs[i]?=some v:=by
   unfold start at h2;rw[ZD (by simpa using hi),Zg] at h2;cases e:vs[i]? with
   |none=>rw[e] at h2;cases h2
   |some a=>rw[e] at h2;cases h2;rfl
  obtain⟨u,hu,rv⟩:=r.get ha;have hp:ps[i]?=some y:=by
   rw[<- S.pre,List.getElem?_take_of_lt (by lia)];exact h1
  have ndP:ps.Nodup:=by rw[<- S.pre];exact S.nd.sublist (List.take_sublist _ _)
  refine⟨u,rv,?_⟩;rcases S.par y (Zr hp) with k|k
  ·exact .inl ⟨k,qC3 ndP hp hu k⟩
  ·obtain⟨c,e⟩:=qK6 (n:=s.heap.objs.size+1) k;refine .inr ⟨.inl k,c,e,?_⟩;have q:=x.cell y c e;rw[qC4 ndP hp hu (by show scope.names.lookup y≠_;rw[k];decide)] at q;exact q
 ·exact e0.hok.fresh (XR (x.above y c (XD h)))
 ·unfold start;show _=N.length;rw[Zz,Zh,List.length_replicate];lia
theorem xw6 {CX:CXT}{P:Program}{w:World}{K:PySem.W.Frag}{mg:Str->Option Value}{base:Heap}{k:Nat}{f:Addr}{name qual:Str}{params:Arguments}{body:List Stmt}{scope:Scope}{dV kV doc pm cdv ct oc:Value}{an od:Option Addr}
  {osl:Array (Option Value)}{N ps:List Str}{sp:Sp}(lk:K.lookup f=some ⟨oc,od,.func (PySem.W.fnOf name qual params body scope dV kV doc pm an cdv ct),osl⟩) (kW:PySem.W.codeIn K cdv qual=true) (S:FnScope N ps scope)
  (len:∀vs H Q E,sp vs H Q E->vs.length=ps.length)
  (hbody:∀(A:Around) (outer:List Env) (s:Shared) (H:Hp) (vs:List V) (Q:VK) (E:XK),Room k (A.deeper (envOfC qual scope s.heap.objs.size f cdv))->sp vs H Q E ->
   ∃t,PSs (cxOf CX P w K mg base N qual scope f cdv A outer s H E) body t/\t { nx:=λ_ H'=>Q .non H',rt:=Q } (start N vs) H) :
  FnOk P w K mg base CX (k+1) f (PySem.W.fnOf name qual params body scope dV kV doc pm an cdv ct) ps sp:=by
 refine⟨len,λA outer s H args us vs Q E hr e0 hb r vK=>?_⟩;have hl:=len _ _ _ _ vK;have KX:K.In s.heap:=e0.mod.kin.keeps λb o e=>(e0.bs b o e).1;have lim:s.heap.NoLimit:=e0.mod.nolimit.keeps λb o e=>(e0.bs b o e).1;have jD:∀y∈ps.zip us,scope.names.lookup y.1=some .local\/(scope.names.lookup y.1=some .cell/\((cellsFrom (s.heap.objs.size+1) scope.names []).lookup y.1).isSome=true):=λ⟨n,v⟩ hy=>by
  rcases S.par n (V2 hy).1 with q|q
  ·exact .inl q
  ·exact .inr ⟨q,PySem.W.cellsFrom_some _ _ _ (.inl q)⟩
 refine codeAny_call_function hr.depth (KX _ _ lk) rfl S.co S.gen rfl (PySem.W.codeRec_of KX kW) (hb _ _ _ _ ?_);refine wpAny_newFunctionEnv_cells S.kind jD λenv he s1 x=>?_;subst he;refine⟨lim.keeps x.toInCall.keep,codeAny_func ?_⟩;obtain⟨t,ht,hq⟩:=hbody A outer s H vs Q E (hr.deeper _) vK;have I:Inv (cxOf CX P w K mg base N qual scope f cdv A outer s H E) [] (start N vs) H s1:=qU3 S hr.hd e0 hl r x;refine YF (ht [] s1 (start N vs) H _ I hq) (λfl s' hs=>?_) λe s' hs=>hs;have fin:∀{σ':St}{H':Hp}{v:V}{u:Value},Inv (cxOf CX P w K mg base N qual scope f cdv A outer s H E) [] σ' H' s'->RelV v u->Q v H'->CE outer P w H s Q u s':=
  λ{σ' H' v u} J rv q=>⟨v,H',J.os,J.bare,J.base,J.hok,rv,q⟩
 cases fl with
 |ret u=>
  obtain⟨v,σ',H',J,rv,q⟩:=hs;exact fin J rv q
 |next=>
  obtain⟨σ',H',J,q⟩:=hs;exact fin (v:=V.non) (u:=Value.none) J rfl q
 |brk=>
  obtain⟨_,_,_,q⟩:=hs;exact False.elim q
 |cont=>
  obtain⟨_,_,_,q⟩:=hs;exact False.elim q
section
variable {X:Cx}{x:Str}{p pos:Pos}{e:Expr}{es:List Expr}{t:TA}{id T:String}{r:List V->Hp->VK->Prop}
def tCB (r:List V->Hp->VK->Prop) (t:TA):TE:=λσ H Q=>t σ H λvs H1=>r vs H1 Q
theorem qa5 (hc:qe3 X (.builtin id) r) (hg:Gl X x) (hm:X.mg x=none) (hv:bootBuiltins x=some (.builtin id)) (ha:PA X (e::es) t) (hn:x ≠ "__name__":=by decide) (vA:(x==("__debug__" : Str))=false:=by decide)
  (he:starEach (e::es) X.env=(false,eval e X.env)::starEach es X.env:=by rfl) (jI:(backTo pos (starEach es X.env)).any (·.1)=false:=by rfl):PE X (.Call (.Name x p) (e::es) [] pos) (tCB r t):=by
 intro j8 s σ H Q I h;refine Vn (qw7 I hg hm hv ?_ hn vA);exact PyProof.Rows.callWith_builtin1 (thn (ha pos j8 s σ H _ I h) λus s1 ⟨vs,H1,I1,r1,q1⟩=>hc j8 s1 σ H1 vs us Q I1 r1 q1) he jI
theorem qc6 (hc:qe3 X (.type T) r) (hg:Gl X x) (hm:X.mg x=none) (hv:bootBuiltins x=some (.type T)) (ha:PA X (e::es) t) (hn:x ≠ "__name__":=by decide) (vA:(x==("__debug__" : Str))=false:=by decide)
  (he:starEach (e::es) X.env=(false,eval e X.env)::starEach es X.env:=by rfl) (jI:(backTo pos (starEach es X.env)).any (·.1)=false:=by rfl):PE X (.Call (.Name x p) (e::es) [] pos) (tCB r t):=by
 intro j8 s σ H Q I h;refine Vn (qw7 I hg hm hv ?_ hn vA);exact Xi (thn (ha pos j8 s σ H _ I h) λus s1 ⟨vs,H1,I1,r1,q1⟩=>hc j8 s1 σ H1 vs us Q I1 r1 q1) he jI
end
end L2
namespace HT
open PySem PyProof.Rows
section
open PySem.SeqAt
open PySem.AutoSeq1 (wpAny_loadPart')
open PySem.MeetsSeq PySem.MeetsSeq2 PySem.MeetsSeq3
end
section
variable {prog:Program}{w:World}{A:Around}{E:Value->Shared->Prop}{s:Shared}
def sIx (n d:Nat):Option Int->Nat
 |none=>d
 |some v=>if v<0 then (v+(n:Int)).toNat else min v.toNat n
theorem xq6 (n d:Nat) (hd:d<=n) (o:Option Int):sIx n d o<=n:=by
 cases o with
 |none=>exact hd
 |some v=>
  show (if v<0 then (v+(n:Int)).toNat else min v.toNat n)<=n;by_cases hv:v<0
  ·rw[Zx hv];lia
  ·rw[Zk hv];exact Nat.min_le_right _ _
theorem qU4 (v:Int) (n d:Nat):(if v<0 then max (v+(n:Int)) 0 else min v (n:Int))=((sIx n d (some v):Nat):Int):=by
 show (if v<0 then max (v+(n:Int)) 0 else min v (n:Int))=(((if v<0 then (v+(n:Int)).toNat else min v.toNat n):Nat):Int);by_cases hv:v<0
 ·simp only[Zx hv];lia
 ·simp only[Zk hv];lia
theorem qP2 (lo hi:Option Int) (n:Nat):Builtin.Slice.sliceAdjust lo hi 1 (n:Int)=(((sIx n 0 lo:Nat):Int),((sIx n n hi:Nat):Int)):=by
 have h1:¬((1:Int)<0):=by lia
 unfold Builtin.Slice.sliceAdjust;simp only[h1,ZZ];refine Prod.ext ?_ ?_
 ·cases lo with
  |none=>rfl
  |some v=>exact qU4 v n 0
 ·cases hi with
  |none=>rfl
  |some v=>exact qU4 v n n
theorem qP3 (i j:Nat):Builtin.Slice.slicePlaces (i:Int) (j:Int) 1=j-i:=by
 unfold Builtin.Slice.slicePlaces;have h1:(1:Int)>0:=by lia
 simp only[h1,Xq,Int.ediv_one];split<;>lia
theorem qx3 {v:Value}{o:Option Int}{Q:Option Int->Shared->Prop}(p:IsPart v o) (h:Q o s):wpAny (model prog w) A (Builtin.Slice.slicePartIndex v) Q E s:=by
 cases p with
 |none=>exact slicePart_none h
 |int i t=>exact slicePart_int h
theorem qq6 {sl:Addr}{vl vu:Value}{lo hi:Option Int}{n:Nat}{Q:Int×Int×Nat->Shared->Prop}(hs:s.heap.IsSliceOf sl vl vu .none) (pl:IsPart vl lo) (pu:IsPart vu hi)
  (h:Q (((sIx n 0 lo:Nat):Int),1,sIx n n hi-sIx n 0 lo) s):wpAny (model prog w) A (Builtin.Slice.sliceApplied (.ref sl) (pure (n:Int))) Q E s:=by
 obtain⟨os,vE,hcs,kD⟩:=id hs;unfold Builtin.Slice.sliceApplied Builtin.Slice.sliceFields;refine Za (Za (YU vE kD (x:=vl) rfl (Za (YU vE kD (x:=vu) rfl (Za (YU vE kD (x:=.none) rfl (Zb ?_)))))));refine Za (slicePart_none ?_);show wpAny _ _ (if ((1:Int)==0)=true then _ else _) _ _ s;rw[Zk (by decide)];refine Za (qx3 pl (Za (qx3 pu (Za (Zb ?_)))));show wpAny _ _ (match Builtin.Slice.sliceAdjust lo hi 1 (n:Int) with|(lo,hi)=>pure (lo,(1:Int),Builtin.Slice.slicePlaces lo hi 1)) _ _ s;rw[qP2 lo hi n];show wpAny _ _ (pure (((sIx n 0 lo:Nat):Int),(1:Int),Builtin.Slice.slicePlaces ((sIx n 0 lo:Nat):Int) ((sIx n n hi:Nat):Int) 1)) _ _ s;rw[qP3];exact Zb h
theorem q80 (xs:Array Value) (i k:Nat):((List.range k).filterMap λ(m:Nat)=>xs[((i:Int)+(m:Int)*1).toNat]?).toArray=((xs.toList.drop i).take k).toArray:=by
 have e:(λ(m:Nat)=>xs[((i:Int)+(m:Int)*1).toNat]?)=λm=>xs[i+m]?:=by
  funext m;have:((i:Int)+(m:Int)*1).toNat=i+m:=by lia
  rw[this]
 rw[e];have:=pick_run xs i k;rw[List.filterMap_map] at this;have e2:((λx=>xs[x]?)∘λx=>i+x)=λm=>xs[i+m]?:=rfl;rw[e2] at this;rw[this]
theorem getItem_tuple_cut {t sl:Addr}{items:Array Value}{vl vu:Value}{lo hi:Option Int}{Q:Value->Shared->Prop}(ht:IsTup s.heap t items) (hs:s.heap.IsSliceOf sl vl vu .none) (pl:IsPart vl lo) (pu:IsPart vu hi)
  (hw:¬(sIx items.size 0 lo=0/\sIx items.size items.size hi=items.size))
  (h:Q (.ref s.heap.objs.size) { s with heap:=s.heap.push { cls:=.type "tuple",data:=.seq ((items.toList.drop (sIx items.size 0 lo)).take (sIx items.size items.size hi-sIx items.size 0 lo)).toArray } })
  (hsz:items.size<=sizeLine):wpAny (model prog w) A (getItem (.ref t) (.ref sl)) Q E s:=by
 have htake:sizeOk (.seq ((items.toList.drop (sIx items.size 0 lo)).take (sIx items.size items.size hi-sIx items.size 0 lo)).toArray):=by
  show ((items.toList.drop (sIx items.size 0 lo)).take (sIx items.size items.size hi-sIx items.size 0 lo)).toArray.size<=sizeLine;rw[ZG,XH,List.length_drop,ZJ];lia
 have hj:sIx items.size items.size hi<=items.size:=xq6 _ _ (Ze _) hi;obtain⟨os,vE,hcs,kD⟩:=id hs;have hTs:s.TypeIs (.ref sl) "slice":=⟨os,vE,hcs⟩;unfold getItem
 try with_reducible refine ZX ?_
 first|refine Za (Zb ?_)|skip
 refine Za (wpAny_sequenceKey ht.typeIs (by decide) ?_);refine Za (Z2 (name:=Str.ofString "__getitem__") ht.typeIs XB
  (Z3 XB ht.typeIs entry_tuple_getitem ?_ (args_tuple_getitem _ _)))
 show wpAny _ _ (Builtin.Tuple.tupleItemsOf (.ref t) >>= _) _ _ s;refine Za (tupleItemsOf_ ht ?_);refine Za (Vf hTs ?_);rw[Zx (by decide)];refine Za (qq6 hs pl pu ?_);have wR:¬((((sIx items.size 0 lo:Nat):Int)==0&&(1:Int)==1&&(sIx items.size items.size hi-sIx items.size 0 lo)==items.size)=true):=by
  intro q;rw[VO,VO] at q;have q1:((sIx items.size 0 lo:Nat):Int)=0:=eq_of_beq q.1.1;have q2:sIx items.size items.size hi-sIx items.size 0 lo=items.size:=eq_of_beq q.2;exact hw ⟨by lia,by lia⟩
 show wpAny _ _ (if (((sIx items.size 0 lo:Nat):Int)==0&&(1:Int)==1&&(sIx items.size items.size hi-sIx items.size 0 lo)==items.size)=true then _ else _) _ _ s;rw[Zk wR,q80]
 first
  |exact Za (m:=Builtin.Tuple.tupleExact _) (ZK (Zb ⟨_,rfl,Zb h⟩) htake)
  |exact Za (m:=Builtin.Tuple.tupleExact _) (ZK (Za (Zb (Zb ⟨_,rfl,Zb h⟩))) htake)
  |exact Za (Za (m:=Builtin.Tuple.tupleExact _) (ZK (Zb (Zb ⟨_,rfl,Zb h⟩)) htake))
  |exact Za (Za (m:=Builtin.Tuple.tupleExact _) (ZK (Zb ⟨_,rfl,Zb h⟩) htake))
end
end HT
namespace L2
open PySem PySem.Spec PyProof.Rows
abbrev TO:=St->Hp->(Option Int->Hp->Prop)->Prop
def PO (X:Cx) (e:Option Expr) (t:TO):Prop:=
 ∀(j8:List (Addr×Obj)) (s:Shared) (σ:St) (H:Hp) (Q:Option Int->Hp->Prop),Inv X j8 σ H s->t σ H Q ->
  wpAny (model X.prog X.w) X.A (evalPart e X.env) (λu s'=>∃o H',Inv X j8 σ H' s'/\IsPart u o/\Q o H') X.xe s
def xi7:TO:=λ_ H Q=>Q none H
def xw7 (t:TE):TO:=λσ H Q=>t σ H λx H1=>∃i,x=.int i/\Q (some i) H1
section
variable {X:Cx}{e:Expr}{te:TE}{lo hi:Option Expr}{tl th:TO}{pos p2:Pos}
theorem qU5:PO X none xi7:=by
 intro j8 s σ H Q I h;rw[evalPart_none];exact Zb ⟨none,H,I,.none,h⟩
theorem qU6 (h:PE X e te):PO X (some e) (xw7 te):=by
 intro j8 s σ H Q I hw;rw[evalPart_some];refine thn (h j8 s σ H _ I hw) λu s1 ⟨x,H1,I1,r1,q1⟩=>?_;obtain⟨i,rfl,q⟩:=q1;obtain⟨t,rfl⟩:=r1;exact⟨some i,H1,I1,.int i t,q⟩
def SlR (X:Cx) (r:V->Option Int->Option Int->Hp->VK->Prop):Prop:=
 ∀(j8:List (Addr×Obj)) (s:Shared) (σ:St) (H:Hp) (x:V) (v vl vu:Value) (lo hi:Option Int) (sl:Addr) (Q:VK),Inv X j8 σ H s->RelV x v->s.heap.IsSliceOf sl vl vu .none->IsPart vl lo->IsPart vu hi->r x lo hi H Q ->
  ∃T id,typeLookup (.type T) "__getitem__" = pure (some (.builtin id))/\s.TypeIs v T/\wpAny (model X.prog X.w) X.A (getItem v (.ref sl)) (EP X j8 σ Q) X.xe s
def tSl (r:V->Option Int->Option Int->Hp->VK->Prop) (te:TE) (tl th:TO):TE:=λσ H Q=>te σ H λx H1=>tl σ H1 λl H2=>th σ H2 λu H3=>r x l u H3 Q
theorem qK7 {r:V->Option Int->Option Int->Hp->VK->Prop}(hr:SlR X r) (he:PE X e te) (hl:PO X lo tl) (hu:PO X hi th):PE X (.Subscript e (.Slice lo hi none p2) pos) (tSl r te tl th):=by
 intro j8 s σ H Q I h;refine Subscript_ (thn (he j8 s σ H _ I h) λv s1 ⟨x,H1,I1,r1,q1⟩=>?_);refine wpAny_Slice (thn (hl j8 s1 σ H1 _ I1 q1) λvl s2 ⟨l,H2,I2,pl,q2⟩=>thn (hu j8 s2 σ H2 _ I2 q2) λvu s3 ⟨u,H3,I3,pu,q3⟩=>?_);rw[evalPart_none];refine Zb ?_;have I4:Inv X j8 σ H3 { s3 with heap:=s3.heap.push { cls:=.type "slice",data:=.fields #[vl,vu,.none] } }:=I3.kept (t':=s3.toks) λb ob q=>Zc _ q;obtain⟨T,id,hT,ht,hg⟩:=hr j8 { s3 with heap:=s3.heap.push { cls:=.type "slice",data:=.fields #[vl,vu,.none] } } σ H3 x v vl vu l u s3.heap.objs.size Q I4 r1 (Heap.IsSliceOf.new ..) pl pu q3;show wpAny (model X.prog X.w) X.A (subscriptTail e (.Slice lo hi none p2) v (.ref s3.heap.objs.size)) (EP X j8 σ Q) X.xe { s3 with heap:=s3.heap.push { cls:=.type "slice",data:=.fields #[vl,vu,.none] } };exact tail_any (ops:=[.ref s3.heap.objs.size,v]) ht hT hg (by with_unfolding_all rfl)
def cutV (xs:List V) (lo hi:Option Int):List V:=(xs.drop (HT.sIx xs.length 0 lo)).take (HT.sIx xs.length xs.length hi-HT.sIx xs.length 0 lo)
theorem qI2 (xs:List V) (lo hi:Option Int):(cutV xs lo hi).length<=xs.length:=by
 unfold cutV;rw[XH,List.length_drop];lia
def rSlT (K:PySem.W.Frag):V->Option Int->Option Int->Hp->VK->Prop:=λx lo hi H Q=>∃a xs,x=.ref a/\SqT K H a xs /\
 ¬(HT.sIx xs.length 0 lo=0/\HT.sIx xs.length xs.length hi=xs.length)/\∀p,H p=none->Q (.ref p) (upd H p (.tup (cutV xs lo hi)))
theorem xe9:SlR X (rSlT X.K):=by
 intro j8 s σ H x v vl vu lo hi sl Q I rx hs pl pu h;obtain⟨a,xs,rfl,hx,hw,q⟩:=h;cases rx;obtain⟨its,r,ht,hz⟩:=I.tuple hx;have j9:its.toArray.size=xs.length:=by rw[ZG];exact r.length.symm
 refine⟨"tuple",_,XB.lookup,ht.typeIs,?_⟩;refine HT.getItem_tuple_cut ht hs pl pu (by rw[j9];exact hw) ?_ (by rw[j9];exact hz);rw[j9];refine⟨.ref s.heap.objs.size,_,I.laid (t':=s.toks) (o:=.tup (cutV xs lo hi)) (λb ob q=>Zc _ q) (Ze _) ?_,rfl,q _ (I.hok.fresh (Ze _))⟩;exact⟨ZF (qI2 xs lo hi) hz,_,(r.drop (HT.sIx xs.length 0 lo)).take (HT.sIx xs.length xs.length hi-HT.sIx xs.length 0 lo),IsTupX.new _ _⟩
end
def ixN (n:Nat) (i:Int):Option Nat:=if 0<=i then (if i<n then some i.toNat else none) else if -(n:Int)<=i then some (i+n).toNat else none
def atI {α:Type}(xs:List α) (i:Int):Option α:=(ixN xs.length i).bind λj=>xs[j]?
theorem qU7 {n:Nat}{i:Int}{j:Nat}(h:ixN n i=some j):seqIndex? i n=some j/\j<n/\-(n:Int)<=i/\i<n:=by
 unfold ixN at h;by_cases h0:0<=i
 ·rw[Zx h0] at h;by_cases h1:i<n
  ·rw[Zx h1] at h;have e:i.toNat=j:=ZO h;exact⟨by rw[seqIndex_of h0 h1,e],by lia,by lia,h1⟩
  ·rw[Zk h1] at h;cases h
 ·rw[Zk h0] at h;by_cases h1:-(n:Int)<=i
  ·rw[Zx h1] at h;have e:(i+n).toNat=j:=ZO h;exact⟨by rw[seqIndex_neg (by lia) h1,e],by lia,h1,by lia⟩
  ·rw[Zk h1] at h;cases h
theorem qI3 {α:Type}{xs:List α}{i:Int}{v:α}(h:atI xs i=some v):∃j,seqIndex? i xs.length=some j/\xs[j]?=some v/\j<xs.length/\-(xs.length:Int)<=i/\i<xs.length:=by
 unfold atI at h;cases e:ixN xs.length i with
 |none=>rw[e] at h;cases h
 |some j=>
  rw[e] at h;obtain⟨h1,h2,h3,h4⟩:=qU7 e;exact⟨j,h1,h,h2,h3,h4⟩
theorem ql9 {α:Type}{xs:List α}{j:Nat}{v:α}(h:xs[j]?=some v):atI xs (j:Int)=some v:=by
 have hj:j<xs.length:=(gS_ h).1;have e:ixN xs.length (j:Int)=some j:=by
  unfold ixN;rw[Zx (by lia),Zx (by lia)];simp
 unfold atI;rw[e];exact h
def qU8 (b:Expr):Prop:=∀o i,subscripted b false o i=operate [o,i] (getItem o i)
def IxR (X:Cx) (r:R2):Prop:=
 ∀(value slice:Expr) (j8:List (Addr×Obj)) (s:Shared) (σ:St) (H:Hp) (x y:V) (v u:Value) (Q:VK),Inv X j8 σ H s->RelV x v->RelV y u->r x y H Q ->
  subscripted slice false v u=operate [v,u] (getItem v u)->wpAny (model X.prog X.w) X.A (subscriptTail value slice v u) (EP X j8 σ Q) X.xe s
def MtR (X:Cx) (id:String) (r:V->List V->Hp->VK->Prop):Prop:=
 ∀(j8:List (Addr×Obj)) (s:Shared) (σ:St) (H:Hp) (x:V) (xs:List V) (v:Value) (us:List Value) (Q:VK),Inv X j8 σ H s->RelV x v->Vals xs us->r x xs H Q ->
  wpAny (model X.prog X.w) X.A (call (.builtin id) (v::us)) (EP X j8 σ Q) X.xe s
section
variable {X:Cx}{a b:Expr}{ta tb:TE}{pos:Pos}
theorem IxR.or {r r':R2}(h:IxR X r) (h':IxR X r'):IxR X (λx y H Q=>r x y H Q\/r' x y H Q):=by
 intro value slice j8 s σ H x y v u Q I rx ry q hs;rcases q with q|q
 ·exact h value slice j8 s σ H x y v u Q I rx ry q hs
 ·exact h' value slice j8 s σ H x y v u Q I rx ry q hs
theorem xw8 {r:R2}(hr:IxR X r) (ha:PE X a ta) (hb:PE X b tb) (hs:qU8 b):PE X (.Subscript a b pos) (tOp r ta tb):=by
 intro j8 s σ H Q I h;exact Subscript_ (binT ha hb I h λv u s2 x y H2 I2 rx ry q=>hr a b j8 s2 σ H2 x y v u Q I2 rx ry q (hs _ _))
inductive rIxL_ (K:PySem.W.Frag) (x y:V) (H:Hp) (Q:VK):Prop
 |mk (p:_) (xs:_) (i:_) (v:_) (e0:x=.ref p) (e1:y=.int i) (e2:SqL K H p xs) (e3:atI xs i=some v) (e4:Q v H)
def rIxL (K:PySem.W.Frag):R2:=λx y H Q=>rIxL_ K x y H Q
inductive rIxT_ (K:PySem.W.Frag) (x y:V) (H:Hp) (Q:VK):Prop
 |mk (p:_) (xs:_) (i:_) (v:_) (e0:x=.ref p) (e1:y=.int i) (e2:SqT K H p xs) (e3:atI xs i=some v) (e4:Q v H)
def rIxT (K:PySem.W.Frag):R2:=λx y H Q=>rIxT_ K x y H Q
inductive rIxS_ (x y:V) (H:Hp) (Q:VK):Prop
 |mk (z:_) (i:_) (c:_) (e0:x=.str z) (e1:y=.int i) (e2:z.length<=sizeLine) (e3:atI z.cps.toList i=some c) (e4:Q (.str ⟨#[c]⟩) H)
def rIxS:R2:=λx y H Q=>rIxS_ x y H Q
theorem qf1:IxR X (rIxL X.K):=by
 intro value slice j8 s σ H x y v u Q I rx ry h hs;obtain⟨p,xs,i,z,rfl,rfl,hq,he,q⟩:=h;cases rx;obtain⟨t,rfl⟩:=ry;obtain⟨its,r,pl,hz⟩:=I.list hq;obtain⟨j,h1,h2,h3,h4,h5⟩:=qI3 he;obtain⟨w,ew,rw'⟩:=r.get h2;have hl:=r.length;have hn:=qs5;have fin:EP X j8 σ Q w s:=⟨z,H,I,rw',q⟩;by_cases h0:0<=i
 ·have hj:i.toNat=j:=by
   rw[seqIndex_of h0 h5] at h1;exact ZO h1
  exact item_listR pl.isList h0 (by lia) (by rw[hj];simpa using ew) fin hs
 ·have hj:(i+(its.toArray.size:Int)).toNat=j:=by
   rw[seqIndex_neg (by lia) h4] at h1;rw[ZG,<- hl];exact ZO h1
  exact subscriptTail_builtinR (x:=w) pl.isList.typeIs slot_list_getitem.lookup
   (wpAny_getItem_list_neg (Q:=λr s'=>r=w/\EP X j8 σ Q r s') pl.isList (by lia) (by rw[ZG]<;>lia) (by lia) (by rw[hj];simpa using ew) ⟨rfl,fin⟩) hs
theorem qb0:IxR X (rIxT X.K):=by
 intro value slice j8 s σ H x y v u Q I rx ry h hs;obtain⟨p,xs,i,z,rfl,rfl,hq,he,q⟩:=h;cases rx;obtain⟨t,rfl⟩:=ry;obtain⟨its,r,pl,hz⟩:=I.tuple hq;obtain⟨j,h1,h2,h3,h4,h5⟩:=qI3 he;obtain⟨w,ew,rw'⟩:=r.get h2;have hl:=r.length;have hn:=qs5;have fin:EP X j8 σ Q w s:=⟨z,H,I,rw',q⟩;exact subscriptTail_builtinR (x:=w) pl.typeIs slot_tuple_getitem.lookup
  (getItem_tuple (j:=j) (Q:=λr s'=>r=w/\EP X j8 σ Q r s') pl (by lia) (by lia) (by rw[ZG,<- hl];exact h1) (by simpa using ew) ⟨rfl,fin⟩) hs
theorem xq7:IxR X rIxS:=by
 intro value slice j8 s σ H x y v u Q I rx ry h hs;obtain⟨z,i,c,rfl,rfl,hz,he,q⟩:=h;obtain⟨t,rfl⟩:=rx;obtain⟨t',rfl⟩:=ry;obtain⟨j,h1,h2,h3,h4,h5⟩:=qI3 he;have hl:z.cps.toList.length=z.length:=by simp[Str.length]
 rw[hl] at h1 h4 h5;have hn:=qs5;exact tail_any (typeIs_str s z t) slot_str_getitem.lookup (getItem_str (c:=c) (by
  have e1:decide (i < -(2^63:Int))=false:=Zn (by lia);have e2:decide (i>=2^63)=false:=Zn (by lia);rw[e1,e2,Bool.or_false]) (by rw[h1];simpa using h2) ⟨.str ⟨#[c]⟩,H,I.tok _,⟨_,rfl⟩,q⟩) hs
theorem qP4 (its:List Value) (n j:Nat) (u:Value):Obj.mapSeq (·.setIfInBounds j u) { cls:=.type "list",data:=.seq its.toArray n }={ cls:=.type "list",data:=.seq (its.set j u).toArray n }:=by
 simp[Obj.mapSeq]
theorem Inv.lst {j8:List (Addr×Obj)}{σ:St}{H:Hp}{s:Shared}{p:Addr}{xs:List V}(I:Inv X j8 σ H s) (h:H p=some (.lst xs)) :
  ∃(its:List Value) (n:Nat),Vals xs its/\s.heap.get? p=some { cls:=.type "list",data:=.seq its.toArray n }/\xs.length<=sizeLine:=by
 obtain⟨z,its,n,r,e⟩:=I.hok p _ h;exact⟨its,n,r,e,z⟩
theorem Inv.lstUpd {j8:List (Addr×Obj)}{σ:St}{H:Hp}{s:Shared}{p:Addr}{xs ys:List V}{its its':List Value}{n n':Nat}{f:Obj->Obj}(I:Inv X j8 σ H s) (h:H p=some (.lst xs))
  (ho:s.heap.get? p=some { cls:=.type "list",data:=.seq its.toArray n }) (hf:f { cls:=.type "list",data:=.seq its.toArray n }={ cls:=.type "list",data:=.seq its'.toArray n' }) (r:Vals ys its') (hz:ys.length<=sizeLine) (t:Nat) :
  Inv X j8 σ (upd H p (.lst ys)) { s with heap:=s.heap.update p f,toks:=t }:=by
 have e:(s.heap.update p f).get? p=some { cls:=.type "list",data:=.seq its'.toArray n' }:=by
  rw[ZT f ho (by rw[hf]<;>rfl),hf]
 refine I.write (x:=p) (e:=p) (by rw[h];trivial) (.inl rfl) (λb u hb q=>(Z0 _ _ (XC hb)).trans q) ⟨_,e⟩ ?_;exact⟨hz,its',n',r,e⟩
def xw9:V->V->V->Hp->(Hp->Prop)->Prop:=λo i v H Q=>∃p xs k j,o=.ref p/\i=.int k/\H p=some (.lst xs)/\ixN xs.length k=some j/\Q (upd H p (.lst (xs.set j v)))
theorem qK8:PSet X xw9:=by
 intro j8 s σ H o i v ov iv u Q I ro ri rv h;obtain⟨p,xs,k,j,rfl,rfl,hp,hj,q⟩:=h;cases ro;obtain⟨t,rfl⟩:=ri;obtain⟨its,n,r,ho,hz⟩:=I.lst hp;obtain⟨h1,h2,h3,h4⟩:=qU7 hj;have hl:=r.length;have hn:=qs5;have I':Inv X j8 σ (upd H p (.lst (xs.set j v))) { s with heap:=s.heap.update p (Obj.mapSeq (·.setIfInBounds j u)) }:=
  I.lstUpd hp ho (qP4 its n j u) (r.set rv j) (by rw[List.length_set];exact hz) s.toks
 by_cases h0:0<=k
 ·have hk:k.toNat=j:=by
   rw[seqIndex_of h0 h4] at h1;exact ZO h1
  exact PySem.W.ki_setAt ho h0 (by lia) (by rw[ZG,<- hl];exact h4) (by rw[hk];exact⟨_,I',q⟩)
 ·have hk:(k+(its.toArray.size:Int)).toNat=j:=by
   rw[seqIndex_neg (by lia) h3] at h1;rw[ZG,<- hl];exact ZO h1
  exact PySem.W.ki_setBack ho (by lia) (by rw[ZG,<- hl];exact h3) (by lia) (by rw[hk];exact⟨_,I',q⟩)
theorem qc9:qe3 X (.builtin "len") (λxs H Q=>∃p ys,xs=[.ref p]/\(SqL X.K H p ys\/SqT X.K H p ys)/\Q (.int ys.length) H):=by
 intro j8 s σ H xs us Q I r h;obtain⟨p,ys,rfl,hq,q⟩:=h;obtain⟨u,rfl,rx⟩:=qf0 r;cases rx;have hn:=qs5;rcases hq with hq|hq
 ·obtain⟨its,r',pl,hz⟩:=I.list hq;have j9:=r'.length;exact Calls.call_len_list pl.isList (by simp only[ZG]<;>lia) ⟨.int ys.length,H,I.tok _,⟨s.toks+1,by rw[ZG,j9]⟩,q⟩
 ·obtain⟨its,r',pl,hz⟩:=I.tuple hq;have j9:=r'.length;exact len_tuple pl (by simp only[ZG]<;>lia) ⟨.int ys.length,H,I.tok _,⟨s.toks+1,by rw[ZG,j9]⟩,q⟩
theorem qC5:qe3 X (.builtin "len") (λxs H Q=>∃z,xs=[.str z]/\z.length<=sizeLine/\Q (.int z.length) H):=by
 intro j8 s σ H xs us Q I r h;obtain⟨z,rfl,hz,q⟩:=h;obtain⟨u,rfl,t,rfl⟩:=qf0 r;have hn:=qs5;exact len_str (by lia) ⟨.int z.length,H,I.tok _,⟨_,rfl⟩,q⟩
theorem qy3:qe3 X (.type "tuple") (λxs H Q=>∃p ys,xs=[.ref p]/\((SqL X.K H p ys/\∀l,H l=none->Q (.ref l) (upd H l (.tup ys)))\/(SqT X.K H p ys/\Q (.ref p) H))):=by
 intro j8 s σ H xs us Q I r h;obtain⟨p,ys,rfl,h⟩:=h;obtain⟨u,rfl,rx⟩:=qf0 r;cases rx;rcases h with ⟨hq,q⟩|⟨hq,q⟩
 ·obtain⟨its,r',pl,hz⟩:=I.list hq;have j9:=r'.length;refine call_tuple_list pl.isList (λh' kp=>?_) (by simp only[ZG]<;>lia);have I1:Inv X j8 σ H { s with heap:=h' }:=I.kept (t':=s.toks) kp;have I2:Inv X j8 σ (upd H h'.objs.size (.tup ys)) { s with heap:=h'.push { cls:=.type "tuple",data:=.seq its.toArray } }:=
   I1.laid (t':=s.toks) (λb o e=>Zc _ e) (Ze _) (show ObjOk X.prog X.w _ _ _ (.tup ys) from ⟨hz,its,r',IsTupX.new _ _⟩)
  exact⟨.ref h'.objs.size,_,I2,rfl,q _ (I1.hok.fresh (Ze _))⟩
 ·obtain⟨its,r',pl,hz⟩:=I.tuple hq;exact call_tuple_same pl ⟨.ref p,H,I,rfl,q⟩
def tyV (K:PySem.W.Frag) (T:String) (x:V) (H:Hp):Prop:=match x with
 |.str _=>T = "str"
 |.int _=>T = "int"
 |.ref p=>(T = "list" /\ ∃xs,SqL K H p xs)\/(T = "tuple" /\ ∃o,K.lookup p=some o/\o.cls=.type "tuple" /\ o.dict=none) \/
   (T = "dict" /\ ((∃kvs,H p=some (.dK kvs))\/∃kvs,H p=some (.dT kvs)))\/(T = "set" /\ ∃S n,H p=some (.set S n))
 |_=>False
theorem xq8 {j8:List (Addr×Obj)}{σ:St}{H:Hp}{s:Shared}{T:String}{x:V}{v:Value}(I:Inv X j8 σ H s) (r:RelV x v) (ty:tyV X.K T x H) :
  s.TypeIs v T/\∀a,v=.ref a->∃ob,s.heap.get? a=some ob/\ob.dict=none:=by
 cases x with
 |str z=>
  obtain⟨t,rfl⟩:=r;cases (show T = "str" from ty);exact⟨typeIs_str s z t,λ_ e=>nomatch e⟩
 |int i=>
  obtain⟨t,rfl⟩:=r;cases (show T = "int" from ty);exact⟨typeIs_int s i t,λ_ e=>nomatch e⟩
 |ref p=>
  cases r;rcases ty with ⟨rfl,xs,hq⟩|⟨rfl,o,hk,hc,hd⟩|⟨rfl,hk⟩|⟨rfl,S,n,hk⟩
  ·obtain⟨its,_,pl,_⟩:=I.list hq;refine⟨pl.isList.typeIs,λa e=>?_⟩;cases e;obtain⟨o,n,e,c,hd,_⟩:=pl;exact⟨o,e,hd⟩
  ·refine⟨⟨o,I.kIn p o hk,hc⟩,λa e=>?_⟩;cases e;exact⟨o,I.kIn _ o hk,hd⟩
  ·have z:∃o,s.heap.get? p=some o/\o.ExactDict:=by
    rcases hk with ⟨kvs,hk⟩|⟨kvs,hk⟩
    ·obtain⟨_,_,_,_,o,_,_,e,ex,_⟩:=I.hok p _ hk;exact⟨o,e,ex⟩
    ·obtain⟨_,_,_,_,o,_,_,e,ex,_⟩:=I.hok p _ hk;exact⟨o,e,ex⟩
   obtain⟨o,e,ex⟩:=z;refine⟨⟨o,e,ex.1⟩,λa e2=>?_⟩;cases e2;exact⟨o,e,ex.2.1⟩
  ·obtain⟨o,_,_,_,e,ex,_⟩:=I.hok p _ hk;refine⟨⟨o,e,ex.1⟩,λa e2=>?_⟩;cases e2;exact⟨o,e,ex.2.1⟩
 |_=>exact False.elim ty
def tBM (K:PySem.W.Frag) (T:String) (r:V->List V->Hp->VK->Prop) (to:TE) (t:TA):TE:=λσ H Q=>to σ H λx H1=>tyV K T x H1/\t σ H1 λxs H2=>r x xs H2 Q
variable {o e:Expr}{es:List Expr}{to:TE}{t:TA}{name:Str}{apos cpos:Pos}{T id:String}{r:V->List V->Hp->VK->Prop}
theorem q81 (pa:PlainAttrs T) (slot:Slot T name id) (hty:typeOf (.builtin id)=pure (.type "method_descriptor")) (hm:MtR X id r) (ho:PE X o to) (ha:PA X (e::es) t)
  (hbase:attributeBase o name X.env (eval o X.env)=eval o X.env:=by rfl)
  (hfew:((backTo cpos (starEach (e::es) X.env)).all (λx=>!x.1)&&(backToKw cpos (keywordEach [] X.env)).all (λx=>x.1.isSome)
   && decide ((e::es).length+([]:List Keyword).length+(if ([]:List Keyword).isEmpty then 0 else 1)<30))=true:=by rfl)
  (hline:(apos.endLine==cpos.line)=true:=by rfl) (hs:starEach (e::es) X.env=(false,eval e X.env)::starEach es X.env:=by rfl) (hplain:(backTo cpos (starEach es X.env)).any (·.1)=false:=by rfl) :
  PE X (.Call (.Attribute o name apos) (e::es) [] cpos) (tBM X.K T r to t):=by
 intro j8 s σ H Q I h;refine wpAny_Call_method_late hbase hfew hline rfl (thn (ho j8 s σ H _ I h) λv s1 ⟨x,H1,I1,r1,ty,q1⟩=>?_);obtain⟨h1,h2⟩:=xq8 I1 r1 ty;refine⟨T,id,pa,slot,hty,h1,h2,?_⟩;have hA:=ha cpos j8 s1 σ H1 _ I1 q1;rw[hs] at hA ⊢;refine Calls.callWith_builtin (by show (false||(backTo cpos (starEach es X.env)).any (·.1))=false;rw[hplain]<;>rfl) (Calls.evalArgs_plain ?_);exact thn hA λus s2 ⟨vs,H2,I2,r2,q2⟩=>hm j8 s2 σ H2 x vs v us Q I2 r1 r2 q2
end
def MtM (X:Cx) (id:String) (r:V->List V->Hp->VK->Prop):Prop:=
 ∀(j8:List (Addr×Obj)) (s:Shared) (σ:St) (H:Hp) (x:V) (xs:List V) (v:Value) (us:List Value) (Q:VK),Inv X j8 σ H s->RelV x v->Vals xs us->r x xs H Q ->
  wpAny (model X.prog X.w) X.A (call (.builtin id) (v::us)) (EP X j8 σ Q) X.xe s
theorem Vals.one {x:V}{us:List Value}(h:Vals [x] us):∃u,us=[u]/\RelV x u:=by
 cases h with
 |cons r t=>cases t;exact⟨_,rfl,r⟩
section
variable {X:Cx}{j8:List (Addr×Obj)}{σ:St}{H:Hp}{s:Shared}{l b:Addr}{xs ys zs:List V}
theorem Inv.lset {its its':List Value}{n:Nat}{f:Array Value->Array Value}{t':Nat}(I:Inv X j8 σ H s) (hH:H l=some (.lst xs))
  (e:s.heap.get? l=some { cls:=.type "list",data:=.seq its.toArray n }) (hf:f its.toArray=its'.toArray) (hv:Vals ys its') (hz:ys.length<=sizeLine) :
  Inv X j8 σ (upd H l (.lst ys)) { s with heap:=s.heap.update l (Obj.mapSeq f),toks:=t' }:=by
 have q:=PySem.IsL.update e f;rw[hf] at q;refine I.write (x:=l) (e:=l) (by rw[hH];exact trivial) (.inl rfl) (λb' u hb hu=>(Z0 s.heap (Obj.mapSeq f) (XC hb)).trans hu) ⟨_,q⟩ ?_;exact⟨hz,its',_,hv,q⟩
theorem Inv.fresh (I:Inv X j8 σ H s):H s.heap.objs.size=none:=I.hok.fresh (Ze _)
theorem Inv.lstM (I:Inv X j8 σ H s) (hH:H l=some (.lst xs)):xs.length<=sizeLine/\∃(its:List Value) (n:Nat),Vals xs its/\xs.length=its.length/\s.heap.get? l=some { cls:=.type "list",data:=.seq its.toArray n }:=by
 obtain⟨z,its,n,r,e⟩:=I.hok l _ hH;exact⟨z,its,n,r,r.length,e⟩
end
section
variable {X:Cx}
def xi8:V->List V->Hp->VK->Prop:=λx vs H Q=>∃l xs y,x=.ref l/\vs=[y]/\H l=some (.lst xs)/\xs.length<sizeLine/\Q .non (upd H l (.lst (xs++[y])))
theorem qh1:MtM X "list.append" xi8:=by
 intro j8 s σ H x vs v us Q I rx rv h;obtain⟨l,xs,y,rfl,rfl,hH,hz,q⟩:=h;cases rx;obtain⟨u,rfl,ru⟩:=rv.one;obtain⟨z,its,n,r,hl,e⟩:=I.lstM hH;refine call_meets F.slot_list_append ⟨_,e,rfl⟩ F.entry_list_append (F.args_list_append_2 _ _) (PySem.list_append l its.toArray n u (by rw[ZG];lia)) ⟨e,?_⟩;refine⟨.non,_,I.lset (its':=its++[u]) hH e (by simp) (r.append (.cons ru .nil)) ?_,rfl,q⟩;rw[Zz,List.length_singleton];lia
end
section
variable {prog:Program}{w:World}{A:Around}{E:Value->Shared->Prop}{s:Shared}
end
section
variable {X:Cx}
end
end L2
namespace Att
open PySem PySem.W PySem.Calls PyProof.Rows
theorem qs7 {P:Params}{h:Heap}:∀(ns:List Int) (vs:List Value),WellAll P h vs (ns.map WData.int)->IntsAre vs ns:=by
 intro ns
 induction ns with
 |nil=>
  intro vs w;rw[VX] at w;cases w;exact .nil
 |cons n ns ih=>
  intro vs w;rw[Zy] at w;cases w with
  |cons a b=>
   cases a;exact .cons _ _ (ih _ b)
theorem qU9 {l:OpenLaw}{n:Nat}(hn:l.most=some n){P:Params}{h:Heap}{args:List WData}{vals:List Value}
  (hpre:l.row.toRowW.claim.pre args=true) (hwl:WellAll P h vals args) :
  ∃a vs ns,vals=[Value.ref a]/\args=[WData.list (ns.map WData.int)]/\h.get? a=some { cls:=.type "list",data:=.seq vs.toArray }/\IntsAre vs ns/\ns.length<=n:=by
 have hsh:WShape.hasAll [] args [.list .int]=true:=(pre_splitW hpre).1;have hc:l.pre.holds [] { args:=args }=true:=(pre_splitW hpre).2;obtain⟨d,r,rfl,h1,h2⟩:=hasAllW_cons hsh;obtain rfl:=hasAllW_nil h2;obtain⟨xs,rfl,h3⟩:=hasW_list h1;obtain⟨ns,rfl⟩:=items_int h3;have j9:ns.length<=n:=by
  unfold OpenLaw.pre at hc;have h4:(WTm.not (.lt (.lit (.int (n:Int))) (.len (.arg 0)))).holds [] { args:=[.list (ns.map .int)] }=true:=by
   have h4:=(holds_andW hc).1;rw[hn] at h4;exact h4
  have h5:=condW_of h4 (w_not (w_lt w_lit (w_len_list (w_arg rfl))));rw[Zh] at h5;refine VP λq=>?_;have q':(n:Int)<((ns.length:Nat):Int):=by lia
  first
   |(rw[Zu q'] at h5;exact absurd h5 (by decide))
   |(simp at h5;lia)
 cases hwl with
 |cons w1 w2=>
  cases w2;cases w1 with
  |list ho jL=>exact⟨_,_,ns,rfl,rfl,ho,qs7 ns _ jL,j9⟩
theorem qV0 (l:OpenLaw) (args:List WData):l.row.toRowW.claim.post args (.bool true) args=true:=
 postW_of (r:=l.row.toRowW) (X:=(true==true))
  (show WShape.has [] (.bool true) .bool=true by first|rfl|decide|simp[WShape.has,WShape.arms,WShape.armsAll])
  (show (WTm.eq .res (.lit (.bool true))).value [] { args:=args,res:=some (.bool true),after:=args }=some (.bool (true==true)) from w_eq_bool (w_res rfl) w_lit) rfl
theorem attach_call {l:OpenLaw}{n:Nat}{q:Program}{loose:List Str}{XP:(Str->Option Value)->Heap->Prop}{YP:World->Heap->Prop}{d:DefRec}
  (hn:l.most=some n) (hdf:d.params.defaults=[])
  (call:∀(w:World) (s₀ s₁:Shared) (mg mb:Str->Option Value) (fa:Addr) (o:Obj) (pm cd doc:Value) (a:Addr) (vs:List Value) (ns:List Int),
   Ground q loose [] XP w s₀ mg mb s₁.heap->YP w s₁.heap ->
   s₁.heap.get? fa=some o->o.data=.func (docDef d.name d.params d.body d.scope pm cd doc)->s₁.heap.CodeRec cd d.name->mg d.name=some (.ref fa) ->
   s₁.heap.get? a=some { cls:=.type "list",data:=.seq vs.toArray }->IntsAre vs ns->ns.length<=n->s₁.gens=#[] ->
   codeAny (model l.prog w) callerA (.call (.ref fa) ⟨[.ref a],[]⟩) (λr s'=>r=.ok (.ret (.bool true))/\OldK s₁.heap s'.heap/\s'.os=s₁.os/\AllBare s'.gens) s₁) :
  WalkO q loose XP YP l.row.toRowW d [] (λf vs=>PySem.call f vs):=by
 intro w s₀ s₁ mg mb G Y fa o pm cd doc dV kV ho hd kW hD hmg hg args vals as hpre hlay hrd hwl hlo;obtain rfl:dV=.none:=Dflts.none hD hdf;obtain rfl:kV=.none:=Dflts.noKw hD;obtain⟨a,vs,ns,rfl,rfl,hobj,hints,j9⟩:=qU9 hn hpre hwl;refine enter_call (Wm (call w s₀ s₁ mg mb fa o pm cd doc a vs ns G Y ho (fd_plain hd) kW hmg hobj hints j9 hg) λr s' hq=>?_);obtain⟨rfl,h2,h3,h4⟩:=hq;exact⟨.inl ⟨.bool true,.bool true,[],rfl,λ_=>rfl,.bool true,qV0 l _,λ_=>⟨List.Pairwise.nil,λ_ hm=>(nomatch hm)⟩⟩,h2,h3,h4⟩
section
variable {prog:Program}{w:World}{A:Around}{E:Value->Shared->Prop}{s:Shared}{K:Frag}
end
end Att
namespace L2
open PySem PySem.Spec PyProof.Rows
theorem qC6:∀{vs:List Value}{ns:List Int},IntsAre vs ns->Vals (ns.map V.int) vs
 |_,_,.nil=>.nil
 |_,_,.cons n t h=>.cons ⟨t,rfl⟩ (qC6 h)
def Only (H:Hp):Prop:=∀b,H b=none\/∃o xs,H b=some (.frz o (.lst xs))
theorem q82 {P:Program}{w:World}{K:PySem.W.Frag}{mg mb:Str->Option Value}{CX:CXT}{k:Nat}{fa a:Addr}{fd:FuncData}{x:Str}{sp:Sp}{s₁:Shared}{vs:List Value}{ns:List Int}
  (KX:K.In s₁.heap) (hns:s₁.heap.Ns mainGlobals mg) (hb:s₁.heap.Ns builtinsNs mb) (hbb:∀x:Str,x ≠ "__name__" -> mb x=bootBuiltins x) (hlim:s₁.heap.NoLimit) (hg:s₁.gens=#[])
  (ha:s₁.heap.get? a=some { cls:=.type "list",data:=.seq vs.toArray }) (hi:IntsAre vs ns) (hl:ns.length<=sizeLine) (hr:Room k callerA)
  (F:∀base:Heap,K.In base->base.Ns mainGlobals mg->FnOk P w K mg base CX k fa fd [x] sp) (hbind:∀(s:Shared) (u:Value),BindsTo s fd ⟨[u],[]⟩ [(x,u)])
  (vK:∀H:Hp,Only H->SqL K H a (ns.map V.int)->sp [.ref a] H (λv _=>v=.bl true) λ_ _ _=>False)
  (hCX:∀H e s',CX [] H s₁ (λ_ _ _=>False) e s'->False) :
  codeAny (model P w) callerA (.call (.ref fa) ⟨[.ref a],[]⟩) (λr s'=>r=.ok (.ret (.bool true))/\OldK s₁.heap s'.heap/\s'.os=s₁.os/\AllBare s'.gens) s₁:=by
 have rv:=qC6 hi;have lenV:=hi.length;have core:∀H:Hp,Only H->SqL K H a (ns.map V.int)->HOk P w H s₁.heap->(∀b,H b≠none->b=a)->(H a≠none->K.lookup a=none) ->
   codeAny (model P w) callerA (.call (.ref fa) ⟨[.ref a],[]⟩) (λr s'=>r=.ok (.ret (.bool true))/\OldK s₁.heap s'.heap/\s'.os=s₁.os/\AllBare s'.gens) s₁:=by
  intro H hO hS hok hA hK;have base_of:∀{b:Addr}{o:Obj},s₁.heap.get? b=some o->H b=none->(hidT s₁.heap H).get? b=some o:=λe n=>q75 e n;have noA:∀{b:Addr}{o:Obj}{es:Array DictEntry}{ep:Nat},s₁.heap.get? b=some o->o.data=.dict es ep->H b=none:=λ{b o es ep} e d=>by
   cases q:H b with
   |none=>rfl
   |some u=>
    have e':b=a:=hA b (by rw[q];simp);subst e';rw[ha] at e;cases e;have d':Data.seq vs.toArray _=Data.dict es ep:=d;cases d'
  have nsK:∀{b:Addr}{m:Str->Option Value},s₁.heap.Ns b m->(hidT s₁.heap H).Ns b m:=λ{b m} ⟨o,es,ep,e,d,r⟩=>⟨o,es,ep,base_of e (noA e d),d,r⟩;have hKb:K.In (hidT s₁.heap H):=λb o e=>base_of (KX b o e) (by
   cases q:H b with
   |none=>rfl
   |some u=>
    have e':b=a:=hA b (by rw[q];simp);subst e';rw[hK (by rw[q];simp)] at e;cases e)
  have hM:Mod K mg (hidT s₁.heap H):=⟨hKb,nsK hns,⟨mb,nsK hb,hbb⟩,let ⟨mc,h1,h2⟩:=hlim;⟨mc,nsK h1,h2⟩⟩;have e0:Env0 P w K mg (hidT s₁.heap H) callerA [] s₁ H:=⟨rfl,hM,λb o e=>xi3 e,Vg (qS6 _ _),trivial,λb hb=>absurd (show b∈([]:List Addr) from hb) (by simp),hok,.of_eq hg⟩;refine Wm ((F _ hKb (nsK hns)).run callerA [] s₁ H ⟨[.ref a],[]⟩ [.ref a] [.ref a] _ _ hr e0 (hbind s₁ (.ref a)) (.cons rfl .nil) (vK H hO hS)) λr s' h=>?_;cases r with
  |error e=>exact (hCX H e s' h).elim
  |ok fl=>
   cases fl with
   |next=>exact False.elim h
   |brk=>exact False.elim h
   |cont=>exact False.elim h
   |ret u=>
    obtain⟨v,H',os,bare,un,hok',r',q⟩:=h;have q':v=.bl true:=q;subst q';obtain rfl:u=Value.bool true:=r';refine⟨rfl,OldK.of_keep λb o e=>?_,os,bare⟩;cases q:H b with
    |none=>exact un.keep b o e q (by intro z;exact absurd (show b∈([]:List Addr) from z) (by simp)) (by simp)
    |some u=>
     rcases hO b with z|⟨ob,xs,z⟩
     ·rw[q] at z;cases z
     ·have z2:=un.frzs b ob _ z;obtain⟨e1,_⟩:=hok b _ z;obtain⟨e2,_⟩:=hok' b _ z2;rw[e] at e1;cases e1;exact e2
 cases hk:K.lookup a with
 |some o=>
  have e:=KX a o hk;rw[ha] at e;cases e;refine core (λ_=>none) (λ_=>.inl rfl) (.inr ⟨_,vs.toArray,_,hk,rfl,rfl,rfl,by rw[ZG,lenV];exact hl,by simpa using rv⟩) (λb u z=>by have z':(none:Option HO)=some u:=z;cases z') (λb z=>absurd rfl z) λz=>absurd rfl z
 |none=>
  refine core (λb=>if b=a then some (.frz { cls:=.type "list",data:=.seq vs.toArray } (.lst (ns.map V.int))) else none) (λb=>?_) (.inl (.inr ⟨{ cls:=.type "list",data:=.seq vs.toArray },Zx rfl⟩)) (λb u z=>?_) (λb z=>?_) λ_=>hk
  ·by_cases hb:b=a
   ·exact .inr ⟨_,_,Zx hb⟩
   ·exact .inl (Zk hb)
  ·by_cases hb:b=a
   ·have z':=(Zx hb).symm.trans z;cases z';subst hb;exact⟨ha,by rw[Zh];exact hl,vs,_,rv,ha⟩
   ·have z':=(Zk hb).symm.trans z;cases z'
  ·by_cases hb:b=a
   ·exact hb
   ·exact absurd (Zk hb) z
theorem xi9 {l:PySem.W.OpenLaw}{n k:Nat}{q:Program}{loose:List Str}{XP:(Str->Option Value)->Heap->Prop}{YP:World->Heap->Prop}{d:DefRec}{K:Params->PySem.W.Frag}{CX:World->CXT}{sp:World->Sp}{x:Str}
  (hn:l.most=some n) (hn2:n<=sizeLine) (hdf:d.params.defaults=[]) (hr:Room k callerA)
  (hY:∀(w:World) (h:Heap),YP w h->(K w.params).In h)
  (F:∀(w:World) (mg:Str->Option Value) (fa:Addr) (h:Heap),(K w.params).In h->h.Ns mainGlobals mg->mg d.name=some (.ref fa) ->
   ∃fd:FuncData,(∀(s:Shared) (u:Value),BindsTo s fd ⟨[u],[]⟩ [(x,u)]) /\
    ∀base:Heap,(K w.params).In base->base.Ns mainGlobals mg->FnOk l.prog w (K w.params) mg base (CX w) k fa fd [x] (sp w))
  (vK:∀(w:World) (H:Hp) (a:Addr) (ns:List Int),ns.length<=n->Only H->SqL (K w.params) H a (ns.map V.int)->sp w [.ref a] H (λv _=>v=.bl true) λ_ _ _=>False)
  (hCX:∀(w:World) (H:Hp) (s:Shared) (e:Value) (s':Shared),CX w [] H s (λ_ _ _=>False) e s'->False) :
  PySem.W.WalkO q loose XP YP l.row.toRowW d [] (λf vs=>PySem.call f vs):=by
 refine Att.attach_call hn hdf λw s₀ s₁ mg mb fa o pm cd doc a vs ns G Y ho hd kW hmg hobj hints j9 hg=>?_;have KX:=hY w _ Y;obtain⟨fd,hb,hF⟩:=F w mg fa _ KX G.T.g hmg;exact q82 KX G.T.g G.T.b G.T.builtins G.T.nolimit hg hobj hints (ZF j9 hn2) hr hF hb (λH hO hS=>vK w H a ns j9 hO hS) λH e s'=>hCX w H s₁ e s'
abbrev CX0:CXT:=λ_ _ _ _ _ _=>False
abbrev E0:XK:=λ_ _ _=>False
theorem xq9 {X:Cx}:qU1 CX0 X E0:=λ_ _ _ _ _ _ _ h=>h.elim
structure Fun (K:PySem.W.Frag) (x qual:Str) (st:Stmt) (f:Addr) (fd:FuncData):Prop where
 ex:∃(oc:Value) (od:Option Addr) (kV doc pm:Value) (an:Option Addr) (cdv ct:Value) (osl:Array (Option Value)),
  fd=PySem.W.fnOf x qual (qh7 st) (qg7 st) (qa4 st) .none kV doc pm an cdv ct/\K.lookup f=some ⟨oc,od,.func fd,osl⟩/\PySem.W.codeIn K cdv qual=true
 kp:PySem.W.keepIn K (.ref f)=true
section
variable {P:Program}{w:World}{K:PySem.W.Frag}{mg:Str->Option Value}{base:Heap}
theorem Fun.ok {x qual:Str}{st:Stmt}{f:Addr}{fd:FuncData}{N ps:List Str}{k:Nat}{sp:Sp}(F:Fun K x qual st f fd) (S:FnScope N ps (qa4 st)) (len:∀vs H Q E,sp vs H Q E->vs.length=ps.length)
  (hbody:∀(cdv:Value) (A:Around) (outer:List Env) (s:Shared) (H:Hp) (vs:List V) (Q:VK) (E:XK),Room k (A.deeper (envOfC qual (qa4 st) s.heap.objs.size f cdv))->sp vs H Q E ->
   ∃t,PSs (cxOf CX0 P w K mg base N qual (qa4 st) f cdv A outer s H E).nox (qg7 st) t/\t { nx:=λ_ H'=>Q .non H',rt:=Q } (start N vs) H):FnOk P w K mg base CX0 (k+1) f fd ps sp:=by
 obtain⟨oc,od,kV,doc,pm,an,cdv,ct,osl,rfl,lk,kW⟩:=F.ex;refine xw6 lk kW S len λA outer s H vs Q E hr vK=>?_;obtain⟨t,h,q⟩:=hbody cdv A outer s H vs Q E hr vK;exact⟨t,h.nox,q⟩
theorem Fun.binds {x qual:Str}{st:Stmt}{f:Addr}{fd:FuncData}{ps:List Str}(F:Fun K x qual st f fd)
  (h:∀(kV doc pm:Value) (an:Option Addr) (cdv ct:Value) (us:List Value),us.length=ps.length->bindArgs (PySem.W.fnOf x qual (qh7 st) (qg7 st) (qa4 st) .none kV doc pm an cdv ct) ⟨us,[]⟩=pure (ps.zip us)):Binds K fd ps []:=by
 obtain⟨oc,od,kV,doc,pm,an,cdv,ct,osl,rfl,lk,kW⟩:=F.ex;exact .all (h kV doc pm an cdv ct)
theorem xf0 {x qual:Str}{st:Stmt}{f:Addr}{oc:Value}{od an:Option Addr}{osl:Array (Option Value)}{kV doc pm cdv ct:Value}(l:K.lookup f=some ⟨oc,od,.func (PySem.W.fnOf x qual (qh7 st) (qg7 st) (qa4 st) .none kV doc pm an cdv ct),osl⟩)
  (c:PySem.W.codeIn K cdv qual=true) (k:PySem.W.keepIn K (.ref f)=true):Fun K x qual st f (PySem.W.fnOf x qual (qh7 st) (qg7 st) (qa4 st) .none kV doc pm an cdv ct):=⟨⟨oc,od,kV,doc,pm,an,cdv,ct,osl,rfl,l,c⟩,k⟩
end
theorem qd3 {n:Nat}(h:n<=1000):n<sizeLine:=Y1 h (by decide)
section
variable {X:Cx}
theorem pv (i:Nat){x:Str}{pos:Pos}(hN:X.N[i]?=some x:=by rfl) (hv:Vis X.env.scope x:=by first|exact Or.inl rfl|exact Or.inr (Or.inl rfl)|exact Or.inr (Or.inr rfl)) (hd:(x==("__debug__" : Str))=false:=by decide)
  (kW:(x==("__classdict__" : Str))=false:=by decide):PE X (.Name x pos) (tVar i):=xp5 hN hv hd kW
end
theorem iteF {A B:Prop}(h:B):if false=true then A else B:=by
 rw[Zk Zs];exact h
theorem iteT {A B:Prop}(h:A):if true=true then A else B:=by
 rw[Zx rfl];exact h
theorem ite2 {c A B:Prop}[Decidable c] (h1:c->A) (h2:¬c->B):if c then A else B:=by
 by_cases h:c
 ·rw[Zx h];exact h1 h
 ·rw[Zk h];exact h2 h
theorem xx0 {c A B:Prop}[Decidable c] (hc:c) (h:B):if (!decide c)=true then A else B:=by
 rw[Zu hc];exact iteF h
def Same (H H':Hp):Prop:=∀b o,H b=some o->H' b=some o
theorem Same.refl (H:Hp):Same H H:=λ_ _ h=>h
theorem Same.trans {H H1 H2:Hp}(a:Same H H1) (b:Same H1 H2):Same H H2:=λc o h=>b c o (a c o h)
theorem Same.seq {K:PySem.W.Frag}{H H':Hp}{a:Addr}{xs:List V}(e:Same H H') (h:SqL K H a xs):SqL K H' a xs:=by
 rcases h with (h|⟨o,h⟩)|h
 ·exact .inl (.inl (e _ _ h))
 ·exact .inl (.inr ⟨o,e _ _ h⟩)
 ·exact .inr h
section
variable {X:Cx}
theorem qo9 {env:Env}:∀{names:List (Str×NameKind)}{acc:List (Str×Addr)},
  (∀p∈names,p.2=.free->∃c,cellOf env p.1=pure c/\env.cells.lookup p.1=some c) ->
  (∀y c,acc.lookup y=some c->env.cells.lookup y=some c) ->
  ∃cl:List (Str×Addr),(forIn names acc λp cs=>(if p.2==.free then (do let c <- cellOf env p.1;pure (ForInStep.yield ((p.1,c)::cs))) else pure (ForInStep.yield cs):Sem (ForInStep (List (Str×Addr)))))=pure cl /\
   (∀y c,cl.lookup y=some c->env.cells.lookup y=some c)/\(∀y,(acc.lookup y).isSome=true->(cl.lookup y).isSome=true)/\∀p∈names,p.2=.free->(cl.lookup p.1).isSome=true
 |[],acc,_,ha=>⟨acc,by simp,ha,λ_ h=>h,λ_ h=>absurd h (by simp)⟩
 |(n,k)::r,acc,hn,ha=>by
  by_cases hk:k=.free
  ·subst hk;obtain⟨c,e1,e2⟩:=hn (n,.free) ZC rfl;obtain⟨cl,h1,h2,h3,h4⟩:=qo9 (env:=env) (names:=r) (acc:=(n,c)::acc) (λp hp=>hn p (Zl _ hp)) (λy d h=>by
    rw[YC] at h;cases hy:y==n with
    |true=>rw[hy] at h;cases h;rw[eq_of_beq hy];exact e2
    |false=>rw[hy] at h;exact ha y d h)
   refine⟨cl,?_,h2,λy hy=>h3 y (by
    rw[YC];cases y==n with
    |true=>rfl
    |false=>exact hy),λp hp hf=>?_⟩
   ·rw[V3];have e1':cellOf env n=pure c:=e1;simp only[VQ,Xq,e1',Vk];exact h1
   ·rcases Zt.mp hp with rfl|hp
    ·exact h3 _ (by simp[YC])
    ·exact h4 p hp hf
  ·obtain⟨cl,h1,h2,h3,h4⟩:=qo9 (env:=env) (names:=r) (acc:=acc) (λp hp=>hn p (Zl _ hp)) ha;refine⟨cl,?_,h2,h3,λp hp hf=>?_⟩
   ·rw[V3];have:(k==NameKind.free)=false:=by simpa using hk
    simp only[this,Zq,ZZ,Vk];exact h1
   ·rcases Zt.mp hp with rfl|hp
    ·exact absurd hf hk
    ·exact h4 p hp hf
def q83 (wi:TI) (te:TE):TE:=λσ H Q=>wi σ H λJ H1=>∀D,H1 D=none->∃W:Nat->Nat->List V->Hp->Prop,(∃m,W 0 m [] (upd H1 D (.lst []))) /\
 ∀i m xs H2,W i m xs H2->H2 D=some (.lst xs)/\xs.length<sizeLine/\((J.stop i H2/\Q (.ref D) H2)\/(J.go i H2/\∀y H3,J.yld i H2 y H3 ->
  te (some y::σ) H3 λv H4=>H4 D=some (.lst xs)/\∃m',m'<m/\W (i+1) m' (xs++[v]) (upd H4 D (.lst (xs++[v])))))
theorem qj1 {scope:Scope}{env:Env}(hf:∀p∈scope.names,p.2=.free->∃c,env.cells.lookup p.1=some c) :
  ∃cl:List (Str×Addr),closureFor scope env=pure cl/\(∀y c,cl.lookup y=some c->env.cells.lookup y=some c)/\∀p∈scope.names,p.2=.free->(cl.lookup p.1).isSome=true:=by
 obtain⟨cl,h1,h2,_,h4⟩:=qo9 (env:=env) (names:=scope.names) (acc:=[]) (λp hp hk=>by
  obtain⟨c,e⟩:=hf p hp hk;refine⟨c,?_,e⟩;unfold cellOf;rw[e]) (λy c h=>by simp at h)
 refine⟨cl,?_,h2,h4⟩;unfold closureFor;refine Eq.trans ?_ h1;simp only[bind_pure]
theorem qf8 {env:Env}:∀{names:List (Str×NameKind)}{y:Str}{k:NameKind},(names.map λ(n,k)=>if (k==NameKind.free&&env.scope.kind==.function&&env.kindOf n==some .cell) then (n,NameKind.cell) else (n,k)).lookup y=some k ->
  (∀p∈names,p.2≠.cell)->(k=.cell\/k=.free)->∃p∈names,p.1=y/\p.2=.free
 |[],_,_,h,_,_=>by simp at h
 |(n,k0)::r,y,k,h,hc,hk=>by
  rw[Zy] at h;by_cases hy:y=n
  ·subst hy;by_cases h0:k0=.free
   ·exact⟨(y,k0),ZC,rfl,h0⟩
   ·exfalso;have e:(k0==NameKind.free)=false:=by simpa using h0
    simp only[e,Wa,Zq,ZZ,YC,VQ,Option.some.injEq] at h;rcases hk with z|z
    ·exact hc _ ZC (h.trans z)
    ·exact h0 (h.trans z)
  ·have hb:(y==n)=false:=by simpa using hy
   have h':(r.map λ(n,k)=>if (k==NameKind.free&&env.scope.kind==.function&&env.kindOf n==some .cell) then (n,NameKind.cell) else (n,k)).lookup y=some k:=by
    revert h;dsimp only;split<;>(intro h;simpa only [YC,hb] using h)
   obtain⟨p,hp,e⟩:=qf8 h' (λp hp=>hc p (Zl _ hp)) hk;exact⟨p,Zl _ hp,e⟩
theorem qm7 {env:Env}:∀{names:List (Str×NameKind)}{y:Str},(names.map λ(n,k)=>if (k==NameKind.free&&env.scope.kind==.function&&env.kindOf n==some .cell) then (n,NameKind.cell) else (n,k)).lookup y=some .local ->
  names.lookup y=some .local
 |[],_,h=>by simp at h
 |(n,k0)::r,y,h=>by
  rw[Zy] at h;by_cases hy:y=n
  ·subst hy;rw[YC,VQ];revert h;dsimp only;split
   ·intro h;simp[YC] at h
   ·intro h;simpa [YC] using h
  ·have hb:(y==n)=false:=by simpa using hy
   rw[YC,hb];refine qm7 (env:=env) ?_;revert h;dsimp only;split<;>(intro h;simpa only [YC,hb] using h)
end
section
variable {κ:Type}[DecidableEq κ]
def valV (kvs:List (κ×V)) (k:κ):Option V:=(kvs.find? λkv=>decide (kv.1=k)).map (·.2)
def putK (kvs:List (κ×V)) (k:κ) (v:V):List (κ×V):=
 if (kvs.any λkv=>decide (kv.1=k))=true then kvs.map (λkv=>if kv.1=k then (kv.1,v) else kv) else kvs++[(k,v)]
theorem qq9 {p:κ×V}{r:List (κ×V)}{k:κ}(e:p.1=k):valV (p::r) k=some p.2:=by simp[valV,XY,e]
theorem qr0 {p:κ×V}{r:List (κ×V)}{k:κ}(e:¬p.1=k):valV (p::r) k=valV r k:=by simp[valV,XY,e]
theorem qm8 (k:κ):∀kvs:List (κ×V),(kvs.any λkv=>decide (kv.1=k))=(valV kvs k).isSome
 |[]=>rfl
 |p::r=>by
  rw[X1];by_cases e:p.1=k
  ·simp only[qq9 e,Zu e,Bool.true_or,Option.isSome_some]
  ·rw[qr0 e,Zn e,Bool.false_or];exact qm8 k r
theorem qs8 (kvs:List (κ×V)) (k:κ) (v:V):(putK kvs k v).length<=kvs.length+1:=by
 unfold putK;split
 ·rw[Zh];lia
 ·rw[Zz,ZW,Wx];lia
theorem RelO.isSome_eq {o:Option V}{u:Option Value}(r:RelO o u):o.isSome=u.isSome:=by
 cases o with
 |none=>cases u with
  |none=>rfl
  |some _=>exact (show False from r).elim
 |some _=>cases u with
  |none=>exact (show False from r).elim
  |some _=>rfl
theorem KV.val {kvs:List (κ×V)}{vs:List (κ×Value)}(r:KV kvs vs) (k:κ):RelO (valV kvs k) (valueAt vs k):=by
 unfold KV at r
 induction r with
 |nil=>exact True.intro
 |@cons p q ps qs h t ih=>
  obtain⟨h1,h2⟩:=h;by_cases e:p.1=k
  ·have e':q.1=k:=h1.symm.trans e;have b:valueAt (q::qs) k=some q.2:=by simp[valueAt,XY,e']
   rw[qq9 e,b];exact h2
  ·have e':¬q.1=k:=λz=>e (h1.trans z);have b:valueAt (q::qs) k=valueAt qs k:=by simp[valueAt,XY,e']
   rw[qr0 e,b];exact ih
theorem KV.any {kvs:List (κ×V)}{vs:List (κ×Value)}(r:KV kvs vs) (k:κ):(kvs.any λkv=>decide (kv.1=k))=vs.any λkv=>decide (kv.1=k):=by
 unfold KV at r
 induction r with
 |nil=>rfl
 |cons h t ih=>rw[X1,X1,ih,h.1]
theorem KV.repl {kvs:List (κ×V)}{vs:List (κ×Value)}(r:KV kvs vs) (k:κ){y:V}{u:Value}(ry:RelV y u) :
  KV (kvs.map λkv=>if kv.1=k then (kv.1,y) else kv) (vs.map λkv=>if kv.1=k then (kv.1,u) else kv):=by
 unfold KV at r ⊢
 induction r with
 |nil=>exact .nil
 |@cons p q ps qs h t ih=>
  rw[Zy,Zy];refine .cons ?_ ih;obtain⟨h1,h2⟩:=h;by_cases e:p.1=k
  ·rw[Zx e,Zx (h1.symm.trans e)];exact⟨h1,ry⟩
  ·rw[Zk e,Zk (λz=>e (h1.trans z))];exact⟨h1,h2⟩
theorem KV.put {kvs:List (κ×V)}{vs:List (κ×Value)}(r:KV kvs vs) (k:κ){y:V}{u:Value}(ry:RelV y u):KV (putK kvs k y) (stored vs k u):=by
 unfold putK stored;rw[r.any k];by_cases e:(vs.any λkv=>decide (kv.1=k))=true
 ·rw[Zx e,Zx e];exact r.repl k ry
 ·rw[Zk e,Zk e];exact Paired.snoc r ⟨rfl,ry⟩
theorem KV.keys {kvs:List (κ×V)}{vs:List (κ×Value)}(r:KV kvs vs):kvs.map (·.1)=vs.map (·.1):=by
 unfold KV at r
 induction r with
 |nil=>rfl
 |cons h t ih=>rw[Zy,Zy,ih,h.1]
theorem KV.length {kvs:List (κ×V)}{vs:List (κ×Value)}(r:KV kvs vs):kvs.length=vs.length:=Y2 r
end
theorem qV1 {P:Program}{w:World}{k:Key}{u:Value}(r:RelV (kV k) u):(qd6 P w).is k u=true:=by
 cases k with
 |inl i=>obtain⟨t,e⟩:=(show ∃t,u=Value.int i t from r);subst e;exact qH9 P w i t
 |inr x=>obtain⟨t,e⟩:=(show ∃t,u=Value.str x t from r);subst e;exact qI0 P w x t
theorem qs9 {P:Program}{w:World}:∀{ks:List Key}{us:List Value},Vals (ks.map kV) us->ItemsAre (qd6 P w) ks us
 |[],_,r=>by rw[VX] at r;cases r;exact .nil
 |k::ks,_,r=>by
  rw[Zy] at r;cases r with
  |cons h t=>exact .cons (qV1 h) (qs9 t)
abbrev KT (H:Hp):List (List Key×V)->List (List Key×Addr×Value)->Prop:=Paired λp q=>p.1=q.1/\H q.2.1=some (.tup (p.1.map kV))/\RelV p.2 q.2.2
theorem KT.val {H:Hp}{kvs:List (List Key×V)}{xs:List (List Key×Addr×Value)}(r:KT H kvs xs) (k:List Key):RelO (valV kvs k) ((atKey xs k).map (·.2)):=by
 induction r with
 |nil=>exact True.intro
 |@cons p q ps qs h t ih=>
  obtain⟨h1,_,h2⟩:=h;by_cases e:p.1=k
  ·have e':q.1=k:=h1.symm.trans e;have b:atKey (q::qs) k=some q.2:=by simp[atKey,XY,e']
   rw[qq9 e,b];exact h2
  ·have e':¬q.1=k:=λz=>e (h1.trans z);have b:atKey (q::qs) k=atKey qs k:=by simp[atKey,XY,e']
   rw[qr0 e,b];exact ih
theorem KT.repl {H:Hp}{kvs:List (List Key×V)}{xs:List (List Key×Addr×Value)}(r:KT H kvs xs) (k:List Key){y:V}{u:Value}(ry:RelV y u) :
  KT H (kvs.map λkv=>if kv.1=k then (kv.1,y) else kv) (xs.map (putAt k u)):=by
 induction r with
 |nil=>exact .nil
 |@cons p q ps qs h t ih=>
  rw[Zy,Zy];refine .cons ?_ ih;obtain⟨h1,h2,h3⟩:=h;unfold putAt;by_cases e:p.1=k
  ·rw[Zx e,Zx (h1.symm.trans e)];exact⟨h1,h2,ry⟩
  ·rw[Zk e,Zk (λz=>e (h1.trans z))];exact⟨h1,h2,h3⟩
theorem KT.put {H:Hp}{kvs:List (List Key×V)}{xs:List (List Key×Addr×Value)}(r:KT H kvs xs) (k:List Key){b:Addr}{y:V}{u:Value}(hb:H b=some (.tup (k.map kV))) (ry:RelV y u) :
  KT H (putK kvs k y) (storedH xs k b u):=by
 have e:(kvs.any λkv=>decide (kv.1=k))=(atKey xs k).isSome:=by
  rw[qm8,(r.val k).isSome_eq,VB]
 unfold putK storedH;rw[e];by_cases q:(atKey xs k).isSome=true
 ·rw[Zx q,Zx q];exact r.repl k ry
 ·rw[Zk q,Zk q];exact Paired.snoc r ⟨rfl,hb,ry⟩
theorem KT.keeps {H H':Hp}{kvs:List (List Key×V)}{xs:List (List Key×Addr×Value)}(r:KT H kvs xs) (ht:∀b ys,H b=some (.tup ys)->H' b=some (.tup ys)):KT H' kvs xs:=
 Paired.mapP r λ_ _ z=>⟨z.1,ht _ _ z.2.1,z.2.2⟩
section
variable {P:Program}{w:World}{H:Hp}{h:Heap}{a:Addr}
theorem xr0 {u:HO}(ok:HOk P w H h) (e:Rd H a u):ObjOk P w H h a u:=e.ok ok
theorem qV2 {kvs:List (Key×V)}(ok:HOk P w H h) (e:Rd H a (.dK kvs)):kvs.length<=sizeLine/\(a==sysModules)=false/\∃vs,KV kvs vs/\h.DictOf (qd6 P w) a vs:=
 show ObjOk P w H h a (.dK kvs) from xr0 ok e
theorem xr1 {kvs:List (Key×V)}(ok:HOk P w H h) (e:H a=some (.dK kvs)):kvs.length<=sizeLine/\(a==sysModules)=false/\∃vs,KV kvs vs/\h.DictOf (qd6 P w) a vs:=qV2 ok (.inl e)
theorem qC7 {ks:List Key}(ok:HOk P w H h) (e:H a=some (.tup (ks.map kV))):(tupleKind (qd6 P w)).is h ks a:=by
 obtain⟨_,its,r,o,h1,h2,n,h3⟩:=(show ObjOk P w H h a (.tup (ks.map kV)) from ok a _ e);exact⟨o,its.toArray,n,h1,h2,h3,by simpa using qs9 r⟩
theorem qV3 {kvs:List (List Key×V)}(ok:HOk P w H h) (e:Rd H a (.dT kvs)):kvs.length<=sizeLine/\(a==sysModules)=false /\
  ∃xs,KT H kvs xs/\h.DictOfH (tupleKind (qd6 P w)) a xs:=by
 obtain⟨z,y,xs,r,o,es,ep,h1,h2,h3,h4,h5⟩:=(show ObjOk P w H h a (.dT kvs) from xr0 ok e);refine⟨z,y,xs,r,o,es,ep,h1,h2,h3,h4,λx hx=>?_,h5⟩;have all:∀{l:List (List Key×V)}{m:List (List Key×Addr×Value)},KT H l m->∀x∈m,(tupleKind (qd6 P w)).is h x.1 x.2.1:=by
  intro l m q
  induction q with
  |nil=>intro x hx;exact nomatch hx
  |@cons p q ps qs hq t ih=>
   intro x hx;rcases Zt.mp hx with e|hx
   ·subst e;exact qC7 ok (by rw[<- hq.1];exact hq.2.1)
   ·exact ih x hx
 exact all r x hx
theorem xx1 {kvs:List (List Key×V)}(ok:HOk P w H h) (e:H a=some (.dT kvs)):kvs.length<=sizeLine/\(a==sysModules)=false /\
  ∃xs,KT H kvs xs/\h.DictOfH (tupleKind (qd6 P w)) a xs:=qV3 ok (.inl e)
end
def DGet (H:Hp) (a:Addr) (y:V) (r:Option V):Prop:=
 (∃kvs k,Rd H a (.dK kvs)/\y=kV k/\r=valV kvs k)\/∃kvs k b,Rd H a (.dT kvs)/\y=.ref b/\H b=some (.tup (k.map kV))/\r=valV kvs k
def DPut (H:Hp) (a:Addr) (y v:V) (H':Hp):Prop:=
 (∃kvs k,H a=some (.dK kvs)/\y=kV k/\kvs.length<sizeLine/\H'=upd H a (.dK (putK kvs k v))) \/
 ∃kvs k b,H a=some (.dT kvs)/\y=.ref b/\H b=some (.tup (k.map kV))/\kvs.length<sizeLine/\H'=upd H a (.dT (putK kvs k v))
theorem DGet.k {H:Hp}{a:Addr}{kvs:List (Key×V)}{k:Key}(e:H a=some (.dK kvs)):DGet H a (kV k) (valV kvs k):=.inl ⟨kvs,k,.inl e,rfl,rfl⟩
theorem DGet.t {H:Hp}{a b:Addr}{kvs:List (List Key×V)}{k:List Key}(e:H a=some (.dT kvs)) (eb:H b=some (.tup (k.map kV))):DGet H a (.ref b) (valV kvs k):=.inr ⟨kvs,k,b,.inl e,rfl,eb,rfl⟩
theorem DPut.k {H:Hp}{a:Addr}{kvs:List (Key×V)}{k:Key}{v:V}(e:H a=some (.dK kvs)) (hl:kvs.length<sizeLine):DPut H a (kV k) v (upd H a (.dK (putK kvs k v))):=.inl ⟨kvs,k,e,rfl,hl,rfl⟩
theorem DPut.t {H:Hp}{a b:Addr}{kvs:List (List Key×V)}{k:List Key}{v:V}(e:H a=some (.dT kvs)) (eb:H b=some (.tup (k.map kV))) (hl:kvs.length<sizeLine) :
  DPut H a (.ref b) v (upd H a (.dT (putK kvs k v))):=.inr ⟨kvs,k,b,e,rfl,eb,hl,rfl⟩
section
variable {X:Cx}{j8:List (Addr×Obj)}{σ:St}{H:Hp}{s:Shared}{a:Addr}{y v:V}{u r:Value}{o:Option V}{A:Around}{E:Value->Shared->Prop}
theorem Inv.big (I:Inv X j8 σ H s):sysModules<s.heap.objs.size:=by
 have h:mainGlobals<s.heap.objs.size:=(I.mod.glob.keeps I.bk).lt;exact Vh (by decide) h
theorem qV4 {Q:Value->Shared->Prop}(hu:A.units+1<cLine) (I:Inv X j8 σ H s) (g:DGet H a y (some v)) (ry:RelV y u) (h:∀w' s',Inv X j8 σ H s'->RelV v w'->Q w' s') :
  wpAny (model X.prog X.w) A (getItem (.ref a) u) Q E s:=by
 rcases g with ⟨kvs,k,e,ey,l⟩|⟨kvs,k,b,e,ey,eb,l⟩
 ·subst ey;obtain⟨z,hd,vs,rel,dd⟩:=qV2 I.hok e;obtain⟨w',hw,rw'⟩:=RelO.some_of (v:=v) (o:=valueAt vs k) (by rw[l];exact rel.val k);exact wpAny_getItem_of (qV1 ry) dd.mapOf hw (h w' _ (I.tok _) rw')
 ·subst ey;cases (show u=Value.ref b from ry);obtain⟨z,hd,xs,rel,dd⟩:=qV3 I.hok e;obtain⟨w',hw,rw'⟩:=RelO.some_of (v:=v) (o:=(atKey xs k).map (·.2)) (by rw[l];exact rel.val k);obtain⟨p,hp,jN⟩:=Zj.mp hw;refine wpAny_getItem_heap (WC hu) (qC7 I.hok eb) dd hp ?_;rw[jN];exact h w' _ (I.tok _) rw'
theorem d_in {Q:Value->Shared->Prop}(hu:A.units+1<cLine) (I:Inv X j8 σ H s) (g:DGet H a y o) (ry:RelV y u) (h:∀s',Inv X j8 σ H s'->Q (.bool o.isSome) s') :
  wpAny (model X.prog X.w) A (compareOp .In u (.ref a)) Q E s:=by
 rcases g with ⟨kvs,k,e,ey,l⟩|⟨kvs,k,b,e,ey,eb,l⟩
 ·subst ey;obtain⟨z,hd,vs,rel,dd⟩:=qV2 I.hok e;refine wpAny_in_of (qV1 ry) hd dd.mapOf ?_;rw[<- (rel.val k).isSome_eq,<- l];exact h _ (I.tok _)
 ·subst ey;cases (show u=Value.ref b from ry);obtain⟨z,hd,xs,rel,dd⟩:=qV3 I.hok e;refine wpAny_in_heap (WC hu) (qC7 I.hok eb) hd dd ?_;have q:=(rel.val k).isSome_eq;rw[VB] at q;rw[<- q,<- l];exact h _ (I.tok _)
theorem xj0 {Q:Value->Shared->Prop}(hu:A.units+1<cLine) (I:Inv X j8 σ H s) (g:DGet H a y o) (ry:RelV y u) (h:∀s',Inv X j8 σ H s'->Q (.bool (!o.isSome)) s') :
  wpAny (model X.prog X.w) A (compareOp .NotIn u (.ref a)) Q E s:=by
 rcases g with ⟨kvs,k,e,ey,l⟩|⟨kvs,k,b,e,ey,eb,l⟩
 ·subst ey;obtain⟨z,hd,vs,rel,dd⟩:=qV2 I.hok e;refine wpAny_notIn_of (qV1 ry) hd dd.mapOf ?_;rw[<- (rel.val k).isSome_eq,<- l];exact h _ (I.tok _)
 ·subst ey;cases (show u=Value.ref b from ry);obtain⟨z,hd,xs,rel,dd⟩:=qV3 I.hok e;refine wpAny_notIn_heap (WC hu) (qC7 I.hok eb) hd dd ?_;have q:=(rel.val k).isSome_eq;rw[VB] at q;rw[<- q,<- l];exact h _ (I.tok _)
theorem qV5 {h':Heap}{t':Nat}{ob:HO}(I:Inv X j8 σ H s) (mu:Mut (H a)) (hs:Heap.SameBut a s.heap h') (he:∃q,h'.get? a=some q) (new:ObjOk X.prog X.w (upd H a ob) h' a ob) :
  Inv X j8 σ (upd H a ob) { s with heap:=h',toks:=t' }:=
 I.write (x:=a) (e:=a) mu (.inl rfl) (λb q hb z=>(hs.2 b hb).trans z) he new
theorem xr2 {P:Program}{w:World}{H':Hp}{h':Heap}{kvs:List (Key×V)}{vs:List (Key×Value)}(z:kvs.length<=sizeLine) (hd:(a==sysModules)=false) (rel:KV kvs vs) (dd:h'.DictOf (qd6 P w) a vs) :
  ObjOk P w H' h' a (.dK kvs):=⟨z,hd,vs,rel,dd⟩
theorem qV6 {H':Hp}{Q:Unit->Shared->Prop}(hu:A.units+1<cLine) (I:Inv X j8 σ H s) (g:DPut H a y v H') (ry:RelV y u) (rv:RelV v r) (h:∀s',Inv X j8 σ H' s'->Q () s') :
  wpAny (model X.prog X.w) A (setItem (.ref a) u r) Q E s:=by
 rcases g with ⟨kvs,k,e,ey,l,eH⟩|⟨kvs,k,b,e,ey,eb,l,eH⟩
 ·subst ey eH;obtain⟨z,hd,vs,rel,dd⟩:=xr1 I.hok e;have hz:vs.length<=sizeLine:=by rw[<- rel.length];exact z
  have hl:(putK kvs k v).length<=sizeLine:=by have:=qs8 kvs k v;lia
  refine wpAny_setItem_pairs (hsz:=hz) (qV1 ry) dd λh' dd' hs=>h _ ?_;have he:∃q,h'.get? a=some q:=let ⟨q,_,_,hq,_⟩:=dd';⟨q,hq⟩;exact qV5 I (by rw[e];exact True.intro) hs he (xr2 hl hd (rel.put k rv) dd')
 ·subst ey eH;cases (show u=Value.ref b from ry);obtain⟨z,hd,xs,rel,dd⟩:=xx1 I.hok e;have hz:xs.length<=sizeLine:=by rw[<- Y2 rel];exact z
  have hl:(putK kvs k v).length<=sizeLine:=by have:=qs8 kvs k v;lia
  refine wpAny_setItem_heap (hsz:=hz) (WC hu) (qC7 I.hok eb) dd λh' dd' hs=>h _ ?_;obtain⟨q,es,ep,hq,h2,h3,h4,_,h5⟩:=dd';refine qV5 I (by rw[e];exact True.intro) hs ⟨q,hq⟩ ⟨hl,hd,_,(rel.put k eb rv).keeps λc ys ec=>?_,q,es,ep,hq,h2,h3,h4,h5⟩;rw[qb9 (xv7 ec e (λz=>nomatch z))];exact ec
end
section
variable {X:Cx}{j8:List (Addr×Obj)}{σ:St}{H:Hp}{s:Shared}{a:Addr}{kvs:List (Key×V)}{k:Key}{u:Value}{A:Around}{E:Value->Shared->Prop}
end
def NoSl (i:Expr):Prop:=∀ov iv,subscripted i false ov iv=operate [ov,iv] (getItem ov iv)
theorem xj1 {prog:Program}{w:World}{A:Around}{E:Value->Shared->Prop}{s:Shared}{env:Env}{value slice:Expr}{pos:Pos}{T id:String}{Q:Value->Shared->Prop}
  (hl:typeLookup (.type T) "__getitem__" = pure (some (.builtin id))) (hs:NoSl slice)
  (h:wpAny (model prog w) A (eval value env) (λo s₁=>wpAny (model prog w) A (eval slice env) (λi s₂=>s₂.TypeIs o T/\wpAny (model prog w) A (getItem o i) Q E s₂) E s₁) E s) :
  wpAny (model prog w) A (eval (.Subscript value slice pos) env) Q E s:=by
 refine Subscript_ (YF h (λo s₁ h₁=>YF h₁ (λi s₂ h₂=>?_) λ_ _ x=>x) λ_ _ x=>x);obtain⟨hT,h₂⟩:=h₂;unfold subscriptTail;refine Za ?_;rw[getitemInPython_of_ne hT.not_modules];refine Za (wpAny_specialOf hT hl ?_);have fin:wpAny (model prog w) A (subscripted slice false o i) (λr s₃=>wpAny (model prog w) A (letTemporaryGo value o r >>= λ_=>pure r) Q E s₃) E s₂:=by
  rw[hs o i];exact wpAny_operating (YF h₂ (λr s₃ h₃=>Za (wpAny_letTemporaryGo (Zb h₃))) λ_ _ x=>x)
 first
  |exact Zb (Za fin)
  |exact Za (Zb (Za fin))
  |exact Za fin
theorem qI4 {X:Cx}{j8:List (Addr×Obj)}{σ:St}{H:Hp}{s:Shared}{a:Addr}{y:V}{o:Option V}(I:Inv X j8 σ H s) (g:DGet H a y o):s.TypeIs (.ref a) "dict":=by
 rcases g with ⟨kvs,k,e,_,_⟩|⟨kvs,k,b,e,_,_,_⟩
 ·obtain⟨_,_,vs,_,dd⟩:=qV2 I.hok e;exact dd.typeIs
 ·obtain⟨_,_,xs,_,dd⟩:=qV3 I.hok e;exact dd.typeIs
def xx2 (td ty:TE):TE:=λσ H Q=>td σ H λx H1=>ty σ H1 λy H2=>∃a v,x=.ref a/\DGet H2 a y (some v)/\Q v H2
def tDIn (ty td:TE):TE:=λσ H Q=>ty σ H λy H1=>td σ H1 λx H2=>∃a o,x=.ref a/\DGet H2 a y o/\Q (.bl o.isSome) H2
def xj2 (ty td:TE):TE:=λσ H Q=>ty σ H λy H1=>td σ H1 λx H2=>∃a o,x=.ref a/\DGet H2 a y o/\Q (.bl (!o.isSome)) H2
def xx3 (td ty tv:TE):TS:=λD σ H=>tv σ H λv H1=>td σ H1 λx H2=>ty σ H2 λy H3=>∃a H4,x=.ref a/\DPut H3 a y v H4/\D.nx σ H4
section
variable {X:Cx}{o i e value:Expr}{pos pos' tpos:Pos}{td ty tv:TE}
theorem xj3 (hu:X.A.units+1<cLine) (ho:PE X o td) (hi:PE X i ty) (hs:NoSl i):PE X (.Subscript o i pos) (xx2 td ty):=by
 intro j8 s σ H Q I h;refine xj1 PySem.F.slot_dict_getitem.lookup hs (thn (ho j8 s σ H _ I h) λu s1 ⟨x,H1,I1,rx,q1⟩=>thn (hi j8 s1 σ H1 _ I1 q1) λiv s2 ⟨y,H2,I2,ry,a,v,ex,g,q2⟩=>?_);subst ex;obtain rfl:u=Value.ref a:=rx;exact⟨qI4 I2 g,qV4 hu I2 g ry λw' s3 I3 rw'=>⟨v,H2,I3,rw',q2⟩⟩
theorem xf1 (hu:X.A.units+1<cLine) (hi:PE X i ty) (ho:PE X o td):PC X .In i o (tDIn ty td):=by
 intro j8 s σ H Q I h;refine thn (hi j8 s σ H _ I h) λiv s1 ⟨y,H1,I1,ry,q1⟩=>thn (ho j8 s1 σ H1 _ I1 q1) λu s2 ⟨x,H2,I2,rx,a,ov,ex,g,q2⟩=>?_;subst ex;obtain rfl:u=Value.ref a:=rx;exact d_in hu I2 g ry λs3 I3=>⟨.bl ov.isSome,H2,I3,rfl,q2⟩
theorem qV7 (hu:X.A.units+1<cLine) (hi:PE X i ty) (ho:PE X o td):PC X .NotIn i o (xj2 ty td):=by
 intro j8 s σ H Q I h;refine thn (hi j8 s σ H _ I h) λiv s1 ⟨y,H1,I1,ry,q1⟩=>thn (ho j8 s1 σ H1 _ I1 q1) λu s2 ⟨x,H2,I2,rx,a,ov,ex,g,q2⟩=>?_;subst ex;obtain rfl:u=Value.ref a:=rx;exact xj0 hu I2 g ry λs3 I3=>⟨.bl (!ov.isSome),H2,I3,rfl,q2⟩
theorem qV8 (hu:X.A.units+1<cLine) (ho:PE X o td) (hi:PE X i ty) (hv:PE X value tv) (hs:swapsWith value (some (.Subscript o i pos')) pos.line X.env=pure false) :
  PS X (.Assign [.Subscript o i pos'] value pos) (xx3 td ty tv):=by
 intro j8 s σ H D I h;refine wpAny_Assign_Subscript (thn (hv j8 s σ H _ I h) λr s1 ⟨v,H1,I1,rv,q1⟩=>thn (ho j8 s1 σ H1 _ I1 q1) λu s2 ⟨x,H2,I2,rx,q2⟩=>thn (hi j8 s2 σ H2 _ I2 q2) λiv s3 ⟨y,H3,I3,ry,a,H4,ex,g,q3⟩=>?_) hs;subst ex;obtain rfl:u=Value.ref a:=rx;exact qV6 hu I3 g ry rv λs4 I4=>⟨σ,H4,I4,q3⟩
end
theorem q84 {P:Program}{w:World}{H:Hp}(h:Heap) (hb:sysModules<h.objs.size):ObjOk P w H (h.push { cls:=.type "dict",data:=.dict #[] }) h.objs.size (.dT []):=
 ⟨Zv _,Vc.mpr (XC (Zp hb)),[],.nil,_,#[],0,Zf _ rfl,⟨rfl,rfl,rfl⟩,rfl,rfl,Vo⟩
def xr3:TE:=λ_ H Q=>∀p,H p=none->Q (.ref p) (upd H p (.dT []))
section
variable {X:Cx}{pos:Pos}
theorem q85:PE X (.Dict [] [] pos) xr3:=λj8 s σ H Q I h=>
 wpAny_Dict_empty ⟨.ref s.heap.objs.size,_,I.laid (a:=s.heap.objs.size) (o:=.dT []) (t':=s.toks) (λ_ _ q=>Zc _ q) (Ze _) (q84 s.heap I.big),rfl,h _ (I.hok.fresh (Ze _))⟩
end
section
variable {X:Cx}{j8:List (Addr×Obj)}{σ:St}{H:Hp}{s:Shared}{a:Addr}{y d:V}{u r:Value}{o:Option V}{A:Around}{E:Value->Shared->Prop}
end
section
variable {X:Cx}{o e f:Expr}{apos cpos:Pos}{td ty tx:TE}
end
section
variable {X:Cx}{j8:List (Addr×Obj)}{σ:St}{H:Hp}{s:Shared}{a:Addr}{kvs:List (Key×V)}{A:Around}{E:Value->Shared->Prop}
end
section
variable {X:Cx}{j8:List (Addr×Obj)}{σ:St}{H:Hp}{s:Shared}{a:Addr}{y:V}{u:Value}{A:Around}{E:Value->Shared->Prop}
end
section
variable {X:Cx}
end
section
variable {κ:Type}[DecidableEq κ]
end
end L2
namespace SetT
open PySem
def g:Nat->Nat
 |0=>0
 |n+1=>5*g n+1
def F:Nat->Nat->Nat
 |0,x=>x
 |n+1,x=>5*F n x+1
theorem F_eq (n x:Nat):F n x=x+g n*(4*x+1):=by
 induction n with
 |zero=>simp[F,g]
 |succ n ih=>
  show 5*F n x+1=x+(5*g n+1)*(4*x+1);rw[ih,VC,Nat.one_mul,Y3];lia
theorem xj4 (m n x:Nat):F (m+n) x=F m (F n x):=by
 induction m with
 |zero=>simp[F]
 |succ m ih=>
  rw[Nat.succ_add];show 5*F (m+n) x+1=5*F m (F n x)+1;rw[ih]
theorem g_F (n:Nat):g n=F n 0:=by
 rw[F_eq];simp
theorem xx4 (m n:Nat):g (m+n)=g n+g m*(4*g n+1):=by
 rw[g_F,xj4,F_eq m,<- g_F n]
theorem xr4:∀k:Nat,∃c,g (2^k)=2^k*(2*c+1)
 |0=>⟨0,rfl⟩
 |k+1=>by
  obtain⟨c,hc⟩:=xr4 k;have e:g (2^(k+1))=g (2^k)*(4*g (2^k)+2):=by
   rw[Yu,Nat.mul_two,xx4];generalize g (2^k)=y;rw[Wb,Wb];lia
  rw[e,hc];refine⟨2^k*(2*c+1)*(2*c+1)+c,?_⟩;rw[Yu];generalize 2^k=p;have h1:p*(2*c+1)*(4*(p*(2*c+1))+2)=p*2*((2*c+1)*(2*(p*(2*c+1))+1)):=by
   have:4*(p*(2*c+1))+2=2*(2*(p*(2*c+1))+1):=by lia
   rw[this,Y3,Y3,Nat.mul_left_comm (2*c+1) 2]
  rw[h1];congr 1;rw[Wb,Nat.mul_one,Nat.mul_left_comm,XT (2*c+1) (p*(2*c+1))];lia
theorem qy4 (k a q:Nat):(2^k*a+q)%2^(k+1)=(2^k*(a%2)+q)%2^(k+1):=by
 have ha:a=2*(a/2)+a%2:=by lia
 have:2^k*a+q=(2^k*(a%2)+q)+2^(k+1)*(a/2):=by
  have h:2^k*a+q=2^k*(2*(a/2)+a%2)+q:=by rw[<- ha]
  rw[h,Yu,Wb,Y3];lia
 rw[this,Nat.add_mul_mod_self_left]
theorem xr5:∀(k x y:Nat),∃r,r<2^k/\F r x%2^k=y%2^k
 |0,x,y=>⟨0,by decide,by simp[Nat.mod_one]⟩
 |k+1,x,y=>by
  obtain⟨r,hr,e⟩:=xr5 k x y;have hp:0<2^k:=Xc k;have h2:(2:Nat)^(k+1)=2^k+2^k:=by rw[Yu,Nat.mul_two]
  obtain⟨c,hc⟩:=xr4 k;have e2:F (2^k+r) x=F r x+2^k*(2*c+1)*(4*F r x+1):=by
   rw[xj4,F_eq (2^k),hc]
  have y1:2^k*(y/2^k)+y%2^k=y:=Nat.div_add_mod y _;have z1:2^k*(F r x/2^k)+F r x%2^k=F r x:=Nat.div_add_mod _ _;by_cases h:F r x/2^k%2=y/2^k%2
  ·refine⟨r,by lia,?_⟩;rw[<- z1,<- y1,qy4,h,<- qy4,e]
  ·refine⟨2^k+r,by lia,?_⟩;rw[e2];generalize F r x=z at *;have o:(2*c+1)*(4*z+1)=2*(c*(4*z+1)+2*z)+1:=by
    rw[VC,Nat.one_mul,Y3];lia
   have e3:z+2^k*(2*c+1)*(4*z+1)=2^k*(z/2^k+(2*(c*(4*z+1)+2*z)+1))+z%2^k:=by
    rw[Y3,o,Wb (2^k) (z/2^k)];lia
   rw[e3,<- y1,qy4,e];have e4:(z/2^k+(2*(c*(4*z+1)+2*z)+1))%2=y/2^k%2:=by lia
   rw[e4,<- qy4]
def qe5 (mask:Nat):Nat->Nat->Nat->Nat
 |0,i,_=>i
 |r+1,i,p=>qe5 mask r (SetTable.leap mask i p).1 (SetTable.leap mask i p).2
theorem qt0 (k:Nat):∀(r i:Nat),qe5 (2^k-1) r (i%2^k) 0=F r i%2^k
 |0,i=>rfl
 |r+1,i=>by
  have hp:0<2^k:=Xc k;show qe5 (2^k-1) r ((i%2^k*5+1+0/32)%(2^k-1+1)) (0/32)=_;have e1:2^k-1+1=2^k:=by lia
  have e2:(i%2^k*5+1+0/32)%2^k=(5*i+1)%2^k:=by
   simp only[Nat.zero_div,VY];rw[Nat.add_mod,Nat.mul_mod,Nat.mod_mod,<- Nat.mul_mod,<- Nat.add_mod,XT]
  rw[e1,e2,Nat.zero_div,qt0 k r (5*i+1)];have:F r (5*i+1)=F (r+1) i:=by rw[xj4 r 1 i];rfl
  rw[this]
theorem qx4 (mask:Nat):∀(a b i p:Nat),qe5 mask (a+b) i p=qe5 mask b (qe5 mask a i p) (p/32^a)
 |0,b,i,p=>by simp[qe5]
 |a+1,b,i,p=>by
  rw[Nat.succ_add];show qe5 mask (a+b) _ _=qe5 mask b (qe5 mask a _ _) _;rw[qx4 mask a b];show qe5 mask b _ (p/32/32^a)=_;rw[Nat.div_div_eq_div_mul,Yu,XT (32^a) 32]
theorem qC8 (mask:Nat):∀(a i p:Nat),i<mask+1->qe5 mask a i p<mask+1
 |0,i,p,h=>h
 |a+1,i,p,_=>qC8 mask a _ _ (XU _ (VZ _))
theorem qt1 (k i p j:Nat) (hi:i<2^k) (hp:p<2^64) (hj:j<2^k):∃r,r<13+2^k/\qe5 (2^k-1) r i p=j:=by
 have hk:0<2^k:=Xc k;have hl:=qC8 (2^k-1) 13 i p (by lia);obtain⟨r,hr,e⟩:=xr5 k (qe5 (2^k-1) 13 i p) j;refine⟨13+r,by lia,?_⟩;rw[qx4];have hz:p/32^13=0:=Nat.div_eq_of_lt (Vh hp (by decide));have hm:qe5 (2^k-1) 13 i p=qe5 (2^k-1) 13 i p%2^k:=(W1 (by lia)).symm;rw[hz,hm,qt0,e,W1 hj]
theorem qV9 (mask i:Nat):SetTable.runEnd mask i-i<=9:=by unfold SetTable.runEnd;split<;>lia
def adv (t:SetTable):Nat->SetTable.Probe->SetTable.Probe
 |0,p=>p
 |n+1,p=>adv t n (t.advance p)
theorem qW0 (t:SetTable):∀(m:Nat) (p:SetTable.Probe),m<=p.more->adv t m p={ p with j:=p.j+m,more:=p.more-m }
 |0,p,_=>by simp[adv]
 |m+1,p,h=>by
  have e:t.advance p={ p with j:=p.j+1,more:=p.more-1 }:=by
   unfold SetTable.advance;rw[Zx (by lia)]
  show adv t m (t.advance p)=_;rw[e,qW0 t m _ (by show m<=p.more-1;lia)];show SetTable.Probe.mk _ _ _ _ _=SetTable.Probe.mk _ _ _ _ _;congr 1
  ·show p.j+1+m=p.j+(m+1);lia
  ·show p.more-1-m=p.more-(m+1);lia
theorem qt2 (t:SetTable):∀(a b:Nat) (p:SetTable.Probe),adv t (a+b) p=adv t b (adv t a p)
 |0,b,p=>by simp[adv]
 |a+1,b,p=>by rw[Nat.succ_add];exact qt2 t a b _
structure Head (t:SetTable) (i perturb:Nat) (d:Option Nat) (p:SetTable.Probe):Prop where
 e:p={ j:=i,more:=SetTable.runEnd t.mask i-i,i:=i,perturb:=perturb,dummy:=d }
theorem qW1 {t:SetTable}{i q:Nat}{d:Option Nat}{p:SetTable.Probe}(h:Head t i q d p):∃n,n<=10/\Head t (SetTable.leap t.mask i q).1 (SetTable.leap t.mask i q).2 d (adv t n p):=by
 have hr:=qV9 t.mask i;refine⟨(SetTable.runEnd t.mask i-i)+1,by lia,⟨?_⟩⟩;rw[qt2,qW0 t _ p (by rw[h.e];exact Ze _)];show t.advance _=_;rw[h.e];unfold SetTable.advance;rw[Zk (by show ¬(SetTable.runEnd t.mask i-i)-(SetTable.runEnd t.mask i-i)>0;lia)]
theorem qW2 {t:SetTable}{d:Option Nat}:∀(r:Nat){i q:Nat}{p:SetTable.Probe},Head t i q d p->∃n,n<=10*r/\(adv t n p).j=qe5 t.mask r i q/\(adv t n p).dummy=d
 |0,i,q,p,h=>⟨0,Ze _,by show p.j=i;rw[h.e],by show p.dummy=d;rw[h.e]⟩
 |r+1,i,q,p,h=>by
  obtain⟨n,hn,h1⟩:=qW1 h;obtain⟨m,hm,e1,e2⟩:=qW2 r h1;exact⟨n+m,by lia,by rw[qt2];exact e1,by rw[qt2];exact e2⟩
theorem qt3 (t:SetTable):∀(n:Nat) (p:SetTable.Probe),(adv t n p).dummy=p.dummy
 |0,p=>rfl
 |n+1,p=>by
  show (adv t n (t.advance p)).dummy=_;rw[qt3 t n];unfold SetTable.advance;split<;>rfl
theorem qW3 (h:Int):SetTable.bits h<2^64:=by
 unfold SetTable.bits;have:=XV h (show (0:Int)<2^64 by decide);have h0:=Wy h (show (2^64:Int)≠0 by decide);lia
theorem meet {t:SetTable}{k:Nat}(hm:t.mask=2^k-1) (h:Int){j:Nat}(hj:j<2^k):∃n,n<10*SetTable.turns t.mask/\(adv t n (t.probeStart h)).j=j:=by
 have hk:0<2^k:=Xc k;have hd:Head t (SetTable.bits h%(t.mask+1)) (SetTable.bits h) none (t.probeStart h):=⟨rfl⟩;obtain⟨r,hr,e⟩:=qt1 k (SetTable.bits h%(t.mask+1)) (SetTable.bits h) j (by rw[hm];have:=XU (SetTable.bits h) hk;rw[show 2^k-1+1=2^k by lia];exact this) (qW3 h) hj;obtain⟨n,hn,e1,_⟩:=qW2 r hd;refine⟨n,?_,by rw[e1];rw[<- hm] at e;exact e⟩;unfold SetTable.turns;lia
theorem qK9 (j:Nat):SetTable.has #[] j=false:=by
 unfold SetTable.has;simp
theorem qW4 {t:SetTable}(hd:t.dummies=#[]) (j:Nat):(t.slot j=.empty)\/∃i,t.slot j=.live i/\t.place[i]?=some j:=by
 unfold SetTable.slot;simp only;split
 ·rename_i h;exact .inr ⟨_,rfl,by simpa using h⟩
 ·rw[hd,qK9];exact .inl rfl
theorem qW5 {t:SetTable}(hd:t.dummies=#[]){j:Nat}(h:j∉t.place.toList):t.slot j=.empty:=by
 rcases qW4 hd j with e|⟨i,_,e⟩
 ·exact e
 ·refine absurd ?_ h;have:=Array.mem_of_getElem? e;simpa using this
theorem xf2:∀(n:Nat) (l:List Nat),l.length<n->∃j,j<n/\j∉l
 |0,l,h=>absurd h (Xp _)
 |n+1,l,h=>by
  by_cases hn:n∈l
  ·obtain⟨j,hj,hl⟩:=xf2 n (l.erase n) (by rw[List.length_erase_of_mem hn];have:=List.length_pos_of_mem hn;lia);refine⟨j,by lia,λm=>hl ?_⟩;exact (List.mem_erase_of_ne (by lia)).mpr m
  ·exact⟨n,Yi n,hn⟩
structure Grown (t:SetTable) (n:Nat):Prop where
 pl:t.place.size=n
 du:t.dummies=#[]
 ma:∃k,t.mask=2^k-1/\1<=k
 le:n<=t.mask
theorem Grown.fill {t:SetTable}{n:Nat}(h:Grown t n):t.fill=n:=by unfold SetTable.fill;rw[h.pl,h.du];rfl
theorem Grown.way {t:SetTable}{n:Nat}(h:Grown t n):t.gaveWay=false:=by
 obtain⟨k,e,hk⟩:=h.ma;unfold SetTable.gaveWay;rw[e];obtain⟨k,rfl⟩:∃m,k=m+1:=⟨k-1,by lia⟩;have:=Xc k;have e2:(2^(k+1)-1)%2=1:=by rw[Yu];lia
 rw[e2]
 rfl
theorem Grown.meets {t:SetTable}{n:Nat}(g:Grown t n) (h:Int):∃m,m<10*SetTable.turns t.mask/\t.slot (adv t m (t.probeStart h)).j=.empty:=by
 obtain⟨k,e,_⟩:=g.ma;have hk:=Xc k;obtain⟨j,hj,hl⟩:=xf2 (2^k) t.place.toList (by simp only[ZJ,g.pl];have:=g.le;lia);obtain⟨m,hm,ej⟩:=meet e h hj;exact⟨m,hm,by rw[ej];exact qW5 g.du hl⟩
theorem qW6 {t:SetTable}(hd:t.dummies=#[]) (hashAt:Nat->Int) (h:Int):∀(f m:Nat) (p:SetTable.Probe),m<f->p.dummy=none->t.slot (adv t m p).j=.empty ->
  (∃j,SetTable.probe.go t hashAt h f p=some (.empty j none)) \/
  (∃m' j i,m'<m/\SetTable.probe.go t hashAt h f p=some (.candidate j i (adv t (m'+1) p))/\t.slot j=.live i/\t.place[i]?=some j/\hashAt i=h)
 |0,m,p,h1,_,_=>absurd h1 (Xp _)
 |f+1,m,p,h1,hp,he=>by
  unfold SetTable.probe.go;rcases qW4 hd p.j with e|⟨i,e,e2⟩
  ·rw[e];exact .inl ⟨p.j,by rw[hp]⟩
  ·rw[e];cases m with
   |zero=>
    have he':t.slot p.j=.empty:=he;rw[e] at he';cases he'
   |succ m=>
    by_cases hc:hashAt i==h
    ·refine .inr ⟨0,p.j,i,VZ _,?_,e,e2,by simpa using hc⟩;simp only;rw[Zx hc]
     rfl
    ·simp only;rw[Zk hc];rcases qW6 hd hashAt h f m (t.advance p) (by lia) (by rw[<- hp];exact qt3 t 1 p) he with ⟨j,ej⟩|⟨m',j,i',hm',ej,r⟩
     ·exact .inl ⟨j,ej⟩
     ·exact .inr ⟨m'+1,j,i',by lia,ej,r⟩
theorem qm9 {α:Type}(xs:Array α) (p:Nat) (x:α):(SetTable.insertAt xs p x).size=xs.size+1:=by
 unfold SetTable.insertAt;simp;lia
theorem qC9 {α:Type}{xs:Array α}{p:Nat}{x y:α}(h:y∈SetTable.insertAt xs p x):y=x\/y∈xs:=by
 unfold SetTable.insertAt at h;rcases Array.mem_append.mp h with h|h
 ·rcases Array.mem_push.mp h with h|h
  ·obtain⟨i,hi,e⟩:=W4.mp h;exact .inr (by rw[<- e];exact VD _)
  ·exact .inl h
 ·obtain⟨i,hi,e⟩:=W4.mp h;exact .inr (by rw[<- e];exact VD _)
theorem Grown.put {t:SetTable}{n:Nat}(g:Grown t n) (hf:t.tooFull=false) (j:Nat):Grown (t.put j).1 (n+1):=by
 have e:(t.put j).1={ t with place:=SetTable.insertAt t.place (SetTable.below t.place j) j }:=by
  unfold SetTable.put;simp only;rw[g.du,qK9];simp[g.du]
 rw[e];refine⟨by rw[qm9,g.pl],g.du,g.ma,?_⟩;show n+1<=t.mask;unfold SetTable.tooFull at hf;rw[g.fill] at hf;have:=Yj hf;lia
theorem qD0 {mask:Nat}{owner:Array (Option Nat)}:∀(f r i p:Nat),r<f->(owner.getD (qe5 mask r i p) (some 0)).isNone=true ->
  ∃j,SetTable.layClean.free mask owner f i p=some j/\(owner.getD j (some 0)).isNone=true
 |0,r,i,p,h,_=>absurd h (Xp _)
 |f+1,r,i,p,h,hn=>by
  unfold SetTable.layClean.free;cases e:(List.range (SetTable.runEnd mask i+1-i)).find? λk=>(owner.getD (i+k) (some 0)).isNone with
  |some k=>
   have:=List.find?_some e;exact⟨i+k,rfl,this⟩
  |none=>
   cases r with
   |zero=>
    have h0:∀x∈List.range (SetTable.runEnd mask i+1-i),¬(owner.getD (i+x) (some 0)).isNone=true:=by simpa using e
    have hm:0∈List.range (SetTable.runEnd mask i+1-i):=Yw.mpr (by unfold SetTable.runEnd;split<;>lia);exact absurd hn (h0 0 hm)
   |succ r=>exact qD0 f r _ _ (by lia) hn
def cnt (owner:Array (Option Nat)):Nat:=(owner.toList.filter Option.isSome).length
theorem qq0:∀(l:List (Option Nat)) (j k:Nat),l[j]?=some none->((l.set j (some k)).filter Option.isSome).length=(l.filter Option.isSome).length+1
 |[],j,k,h=>by simp at h
 |a::l,0,k,h=>by
  have:a=none:=by simpa using h
  subst this;simp
 |a::l,j+1,k,h=>by
  have ih:=qq0 l j k (by simpa using h);rw[List.set_cons_succ,YD,YD];split
  ·rw[ZW,ZW,ih]
  ·exact ih
theorem qW7:∀(l:List (Option Nat)),(l.filter Option.isSome).length<l.length->∃j:Nat,l[j]?=some none
 |[],h=>by simp at h
 |none::l,_=>⟨0,rfl⟩
 |some a::l,h=>by
  obtain⟨j,hj⟩:=qW7 l (by simpa using h);exact⟨j+1,by simpa using hj⟩
structure Laid (mask:Nat) (owner:Array (Option Nat)) (K:Nat):Prop where
 sz:owner.size=mask+1
 ct:cnt owner=K
 lt:∀v,some v∈owner.toList->v<K
theorem Laid.step {mask k K:Nat}{owner:Array (Option Nat)}(hm:mask=2^k-1) (g:Laid mask owner K) (hK:K<=mask) (h:Int) :
  ∃j,SetTable.layClean.free mask owner (SetTable.turns mask) (SetTable.bits h%(mask+1)) (SetTable.bits h)=some j/\Laid mask (owner.setIfInBounds j (some K)) (K+1):=by
 have hk:=Xc k;obtain⟨j0,hj0⟩:=qW7 owner.toList (by
  have:=g.ct;unfold cnt at this;rw[this,ZJ,g.sz];lia)
 have hl:j0<mask+1:=by
  have:=(gS_ hj0).1;rw[ZJ,g.sz] at this;exact this
 have e1:mask+1=2^k:=by lia
 obtain⟨r,hr,er⟩:=qt1 k (SetTable.bits h%(mask+1)) (SetTable.bits h) j0 (by rw[<- e1];exact XU _ (VZ _)) (qW3 h) (by lia);rw[<- hm] at er;have hgd:∀j,(owner.getD j (some 0)).isNone=true<->owner.toList[j]?=some none:=λj=>by
  rw[Yl];by_cases hj:j<owner.size
  ·simp[Array.getD,hj]
  ·simp[Array.getD,hj]
 obtain⟨j,ej,hj⟩:=qD0 (mask:=mask) (owner:=owner) (SetTable.turns mask) r _ _ (by unfold SetTable.turns;lia) (by rw[er];exact (hgd j0).mpr hj0);have hj':=(hgd j).mp hj;refine⟨j,ej,by rw[Array.size_setIfInBounds];exact g.sz,?_,λv hv=>?_⟩
 ·unfold cnt;rw[Wc,qq0 _ _ _ hj'];have:=g.ct;unfold cnt at this;rw[this]
 ·rw[Wc] at hv;rcases List.mem_or_eq_of_mem_set hv with hv|hv
  ·have:=g.lt v hv;lia
  ·have:v=K:=by simpa using hv
   lia
theorem qL0 {mask k:Nat}(hm:mask=2^k-1):∀(hs:List Int) (owner:Array (Option Nat)) (K:Nat),Laid mask owner K->K+hs.length<=mask ->
  ∃owner',(hs.foldl (λ(acc:Option (Array (Option Nat)×Nat)) (h:Int)=>do
   let (owner,k) <- acc
   let j <- SetTable.layClean.free mask owner (SetTable.turns mask) (SetTable.bits h%(mask+1)) (SetTable.bits h)
   pure (owner.setIfInBounds j (some k),k+1)) (some (owner,K)))=some (owner',K+hs.length)/\Laid mask owner' (K+hs.length)
 |[],owner,K,g,_=>⟨owner,rfl,g⟩
 |h::hs,owner,K,g,hl=>by
  rw[ZW] at hl;obtain⟨j,ej,g'⟩:=g.step hm (by lia) h;obtain⟨o',e',g''⟩:=qL0 hm hs _ (K+1) g' (by lia);refine⟨o',?_,by rw[ZW,show K+(hs.length+1)=K+1+hs.length by lia];exact g''⟩;rw[Wz,ZW,show K+(hs.length+1)=K+1+hs.length by lia,<- e'];congr 1;show (SetTable.layClean.free mask owner (SetTable.turns mask) (SetTable.bits h%(mask+1)) (SetTable.bits h)).bind _=_;rw[ej]
  rfl
theorem xj5 {mask k:Nat}(hm:mask=2^k-1) (hs:Array Int) (hl:hs.size<=mask):∃owner,SetTable.layClean mask hs=some owner/\Laid mask owner hs.size:=by
 have g0:Laid mask (Array.replicate (mask+1) none) 0:=⟨by simp,by unfold cnt;simp,λv hv=>by simp at hv⟩;obtain⟨o,e,g⟩:=qL0 hm hs.toList _ 0 g0 (by simpa using hl);refine⟨o,?_,by simpa using g⟩;unfold SetTable.layClean;rw[<- Array.foldl_toList,e]
 rfl
theorem qy5 {α β:Type}{f g:α->Option β}:∀(l:List α),(∀x∈l,f x=g x)->l.filterMap f=l.filterMap g
 |[],_=>rfl
 |a::l,h=>by
  rw[YS,YS,h a ZC,qy5 l λx hx=>h x (Zl _ hx)]
theorem qL1:∀(l:List (Option Nat)) (a:Nat),((List.range' a l.length).filterMap λj=>((l[j-a]?).getD none).map (λv=>(j,v))).length=(l.filter Option.isSome).length
 |[],a=>rfl
 |x::l,a=>by
  rw[ZW,List.range'_succ,YS];have ih:=qL1 l (a+1);have e:(List.range' (a+1) l.length).filterMap (λj=>(((x::l)[j-a]?).getD none).map (λv=>(j,v)))=(List.range' (a+1) l.length).filterMap λj=>((l[j-(a+1)]?).getD none).map (λv=>(j,v)):=by
   refine qy5 _ λj hj=>?_;have:=(List.mem_range'_1.mp hj).1;obtain⟨d,rfl⟩:∃d,j=a+1+d:=⟨j-(a+1),by lia⟩;rw[show a+1+d-a=d+1 by lia,show a+1+d-(a+1)=d by lia,List.getElem?_cons_succ]
  rw[e,V0];cases x with
  |none=>simpa using ih
  |some v=>simpa using ih
theorem qW8 {mask k finger moves:Nat}{led plain:Bool}(hm:mask=2^k-1) (h1:1<=k) (hs:Array Int) (hl:hs.size<=mask) :
  ∃t order,SetTable.laid mask finger moves led plain hs=some (t,order)/\Grown t hs.size/\t.mask=mask/\t.led=led/\t.moves=moves/\order.size=hs.size/\∀v∈order,v<hs.size:=by
 obtain⟨owner,e,g⟩:=xj5 hm hs hl;have el:∀a:Nat,(List.range (mask+1)).filterMap (λj=>(owner.getD j none).map (λv=>(j,v)))=(List.range' 0 owner.toList.length).filterMap λj=>((owner.toList[j-0]?).getD none).map (λv=>(j,v)):=λ_=>by
  rw[ZJ,g.sz,<- List.range_eq_range'];refine qy5 _ λj hj=>?_;have hj':=Yw.mp hj;rw[Nat.sub_zero,Yl];simp[Array.getD,g.sz,hj']
 have len:((List.range (mask+1)).filterMap (λj=>(owner.getD j none).map (λv=>(j,v)))).length=hs.size:=by
  rw[el 0,qL1,<- g.ct]
  rfl
 refine⟨_,_,by unfold SetTable.laid;rw[e];rfl,⟨?_,rfl,⟨k,hm,h1⟩,hl⟩,rfl,rfl,rfl,?_,λv hv=>?_⟩
 ·show ((((List.range (mask+1)).filterMap (λj=>(owner.getD j none).map (λv=>(j,v)))).map (·.1)).toArray).size=_;rw[ZG,Zh,len]
 ·show ((((List.range (mask+1)).filterMap (λj=>(owner.getD j none).map (λv=>(j,v)))).map (·.2)).toArray).size=_;rw[ZG,Zh,len]
 ·have hv':v∈((List.range (mask+1)).filterMap (λj=>(owner.getD j none).map (λv=>(j,v)))).map (·.2):=by simpa using hv
  obtain⟨q,hq,rfl⟩:=Ym.mp hv';obtain⟨j,hj,ej⟩:=Vl.mp hq;obtain⟨v',ev,rfl⟩:=Zj.mp ej;refine g.lt v' ?_;have hj':=Yw.mp hj;have:owner[j]'(by rw[g.sz];exact hj')=some v':=by simpa [Array.getD,g.sz,hj'] using ev
  rw[<- this];simp
theorem qD1:∀(f k n:Nat),3<=k->n<2^(k+f)->∃k',SetTable.sizeAbove.go n f (2^k)=2^k'/\3<=k'/\n<2^k'/\(2^k<=2*n+8->2^k'<=2*n+8)
 |0,k,n,hk,h=>⟨k,rfl,hk,h,λz=>z⟩
 |f+1,k,n,hk,h=>by
  unfold SetTable.sizeAbove.go;by_cases hc:2^k<=n
  ·rw[Zx hc,<- Yu];obtain⟨k',e,h1,h2,h3⟩:=qD1 f (k+1) n (by lia) (by rw[show k+1+f=k+(f+1) by lia];exact h);exact⟨k',e,h1,h2,λ_=>h3 (by rw[Yu];lia)⟩
  ·rw[Zk hc];exact⟨k,rfl,hk,by lia,λz=>z⟩
theorem qq1 {n:Nat}(h:n<2^60):∃k,SetTable.sizeAbove n=2^k/\3<=k/\n<2^k/\2^k<=2*n+8:=by
 obtain⟨k,e,h1,h2,h3⟩:=qD1 64 3 n (by decide) (Vh h (by decide));exact⟨k,e,h1,h2,h3 (by show 8<=2*n+8;lia)⟩
theorem qI5 {t:SetTable}{hs:Array Int}{wanted:Nat}(hw:wanted<2^60) (hl:hs.size<wanted) :
  ∃t' order,t.relaid hs wanted=some (t',order)/\Grown t' hs.size/\wanted<=t'.mask/\t'.mask<=2*wanted+8/\t'.led=t.led/\order.size=hs.size/\∀v∈order,v<hs.size:=by
 obtain⟨k,e,h1,h2,h3⟩:=qq1 hw;have hk:=Xc k;obtain⟨t',order,el,g,em,eled,_,eo,ev⟩:=qW8 (mask:=2^k-1) (k:=k) (finger:=t.finger) (moves:=t.movedTo (2^k-1)) (led:=t.led) (plain:=t.plain) rfl (by lia) hs (by lia);refine⟨t',order,?_,g,by rw[em];lia,by rw[em];lia,eled,eo,ev⟩;unfold SetTable.relaid;rw[e];exact el
theorem qW9 {α:Type}{es:Array α}{order:Array Nat}(h:∀v∈order,v<es.size):(order.filterMap (es[·]?)).size=order.size:=by
 rw[<- ZJ,Array.toList_filterMap,<- ZJ (xs:=order)];have:∀l:List Nat,(∀v∈l,v<es.size)->(l.filterMap (es[·]?)).length=l.length:=λl=>by
  induction l with
  |nil=>intro _;rfl
  |cons a l ih=>
   intro hh;rw[YS];have ha:=hh a ZC;rw[show es[a]?=some es[a] by simp[ha]];simp[ih λv hv=>hh v (Zl _ hv)]
 exact this _ λv hv=>h v (by simpa using hv)
theorem q86 {α:Type}{es:Array α}{order:Array Nat}{y:α}(h:y∈order.filterMap (es[·]?)):y∈es:=by
 obtain⟨v,_,e⟩:=Array.mem_filterMap.mp h;exact Array.mem_of_getElem? e
end SetT
namespace SetT
open PySem PySem.Spec PyProof.Rows
section
variable {prog:Program}{w:World}{K:Type}[DecidableEq K]{knd:KeyKind prog w K}{A:Around}{E:Value->Shared->Prop}{s:Shared}
theorem qt4 (n:Nat){v:Value}(h:carriedByValue v=true):ofAClassStatement n v=pure false:=by
 cases v with
 |ref a=>simp[carriedByValue] at h
 |_=>first|rfl|(unfold ofAClassStatement;rfl)|(cases n<;>rfl)
theorem seqItems?_of {M:Model}{a:Addr}{o:Obj}{items:Array Value}{n:Nat}{Q:Option (Array Value)->Shared->Prop}(ho:s.heap.get? a=some o) (hd:o.data=.seq items n) (h:Q (some items) s) :
  wpAny M A (seqItems? (.ref a)) Q E s:=XI ho hd h
theorem qn0 {ks:List K}{a:Addr}{Q:Bool->Shared->Prop}(hk:IsTupleKey knd s.heap ks a) (h:Q false s):wpAny (model prog w) A (ofAClassStatement 8 (.ref a)) Q E s:=by
 have hT:=hk.typeIs;obtain⟨o,items,n,ho,_,hd,hi⟩:=hk;unfold ofAClassStatement;refine Za (Vf hT ?_);show wpAny _ _ ((if ("tuple" == "tuple")=true then pure true else isSubtype (.type "tuple") (.type "tuple")) >>= _) _ _ s;rw[Zx (by decide)];refine Za (Zb ?_);simp only[YH,Zq,ZZ];refine Za (seqItems?_of ho hd ?_);dsimp only;refine Za ?_;show wpAny _ _ (forIn items _ _) _ _ s;rw[<- Array.forIn_toList];refine Wn _ (λrest r s'=>r.1=none/\s'=s/\∀v∈rest,carriedByValue v=true) _ ?_ ?_ _ _ ⟨rfl,rfl,hi.byValue⟩
 ·rintro v rest r s' ⟨hr,rfl,jL⟩;rw[qt4 _ (jL v ZC)];refine Za (Zb ?_);simp only[Zq,ZZ];exact Zb ⟨rfl,rfl,λu hu'=>jL u (Zl _ hu')⟩
 ·rintro⟨r1,r2⟩ s' ⟨hr,rfl,_⟩;simp only at hr;subst hr;exact Zb h
theorem xr6 {ks:List K}{a:Addr}{Q:Bool->Shared->Prop}(hk:IsTupleKey knd s.heap ks a) (h:Q false s){stored:List Value}(k5:∀y∈stored,∃b ks',y=.ref b/\IsTupleKey knd s.heap ks' b) :
  wpAny (model prog w) A (searchCouldBeSeen (.ref a) stored) Q E s:=by
 unfold searchCouldBeSeen;refine Za ?_;refine Wn _ (λrest r s'=>r.1=none/\s'=s/\∀y∈rest,∃b ks',y=.ref b/\IsTupleKey knd s.heap ks' b) _ ?_ ?_ _ _ ⟨rfl,rfl,k5⟩
 ·rintro y rest r s' ⟨hr,rfl,jL⟩;obtain⟨b,ks',rfl,hb⟩:=jL y ZC;have rest':∀y∈rest,∃b ks',y=.ref b/\IsTupleKey knd s'.heap ks' b:=λu hu'=>jL u (Zl _ hu');dsimp only;split
  ·exact Zb ⟨rfl,rfl,rest'⟩
  ·refine Za (wpAny_eqIsQuiet_tuple hk ?_);simp only[YH,Zq,ZZ];refine Za (wpAny_eqIsQuiet_tuple hb ?_);simp only[YH,Zq,ZZ];refine Za (qn0 hk ?_);simp only[Zq,ZZ];refine Za (qn0 hb ?_);simp only[Zq,ZZ];exact Zb ⟨rfl,rfl,rest'⟩
 ·rintro⟨r1,r2⟩ s' ⟨hr,rfl,_⟩;simp only at hr;subst hr;exact Zb h
def Hb (v:Value):Prop:=∃b,∀n,hashByValue n v=pure b
theorem Hb.int (k:Int) (t:Tok):Hb (.int k t):=⟨true,λn=>by cases n<;>rfl⟩
theorem Hb.str (x:Str) (t:Tok):Hb (.str x t):=⟨false,λn=>by cases n<;>rfl⟩
theorem qD2 {a:Addr}{o:Obj}{items:Array Value}{n:Nat}{Q:Bool->Shared->Prop}(ho:s.heap.get? a=some o) (hc:o.cls=.type "tuple") (hd:o.data=.seq items n) (hi:∀v∈items.toList,Hb v) (h:∀b,Q b s) :
  wpAny (model prog w) A (hashByValue 8 (.ref a)) Q E s:=by
 have hT:s.TypeIs (.ref a) "tuple":=⟨o,ho,hc⟩;unfold hashByValue;refine Za (wpAny_specialOf hT F.slot_tuple_hash.lookup ?_);dsimp only;refine Za (seqItems?_of ho hd ?_);dsimp only [Option.getD];refine Za ?_;show wpAny _ _ (forIn items _ _) _ _ s;rw[<- Array.forIn_toList];refine Wn _ (λrest r s'=>r.1=none/\s'=s/\∀v∈rest,Hb v) _ ?_ ?_ _ _ ⟨rfl,rfl,hi⟩
 ·rintro v rest r s' ⟨hr,rfl,jL⟩;obtain⟨b,hb⟩:=jL v ZC;rw[hb];refine Za (Zb ?_);cases b with
  |true=>
   simp only[YH,Zq,ZZ];exact Zb ⟨rfl,rfl,λu hu'=>jL u (Zl _ hu')⟩
  |false=>
   simp only[WJ,Xq];exact Zb (Zb (h false))
 ·rintro⟨r1,r2⟩ s' ⟨hr,rfl,_⟩;simp only at hr;subst hr;exact Zb (h true)
theorem Grown.fits {t:SetTable}{n:Nat}(g:Grown t n):t.fits n=true:=by
 unfold SetTable.fits;rw[g.pl,g.fill];simp[g.le]
theorem qD3 {t:SetTable}{f:Nat->Int}{h:Int}{p:SetTable.Probe}{pr:Option SetTable.Met}{m:Nat}(hp:t.probe f h p=pr) (hd:t.dummies=#[]) (hm:m<10*SetTable.turns t.mask) (hdm:p.dummy=none) (he:t.slot (adv t m p).j=.empty) :
  (∃j,pr=some (.empty j none))\/(∃m' j i,m'<m/\pr=some (.candidate j i (adv t (m'+1) p))/\t.slot j=.live i/\t.place[i]?=some j):=by
 subst hp;rcases qW6 hd f h (10*SetTable.turns t.mask) m p hm hdm he with ⟨j,e⟩|⟨m',j,i,h1,e,h2,h3,_⟩
 ·exact .inl ⟨j,e⟩
 ·exact .inr ⟨m',j,i,h1,e,h2,h3⟩
theorem xr7 {a b:Addr}{o:Obj}{es:Array (Int×Value)}{ep:Nat}{t:SetTable}{ks:List K}{h:Int}{Q:SetFound->Shared->Prop}(hu:A.units<cLine)
  (ho:s.heap.get? a=some o) (hd:o.data=.set es ep t) (g:Grown t es.size) (hk:IsTupleKey knd s.heap ks b) (kQ:∀e∈es,∃b' ks',e.2=.ref b'/\IsTupleKey knd s.heap ks' b'/\ks'≠ks) (q:∀j,Q (.free j false) s) :
  ∀(m fuel:Nat) (stand:Option SetTable.Probe),m<fuel->m<10*SetTable.turns t.mask->(stand.getD (t.probeStart h)).dummy=none->t.slot (adv t m (stand.getD (t.probeStart h))).j=.empty ->
   wpAny (model prog w) A (setSearchFrom a (.ref b) h true fuel stand) Q E s:=by
 intro m
 induction m using Nat.strongRecOn with
 |ind m ih=>
  intro fuel stand hf hm hdm he;cases fuel with
  |zero=>exact absurd hf (Xp _)
  |succ fuel=>
   unfold setSearchFrom;refine Za (ZY ho hd g.fits ?_);dsimp only;rw[g.way];simp only[Zq,ZZ];split
   ·rename_i met hp;rcases qD3 hp g.du hm hdm he with ⟨j,ej⟩|⟨m',j,i,hm',ej,sl,pl⟩
    ·cases ej;dsimp only;exact Zb (q j)
    ·cases ej;dsimp only;have hi:i<es.size:=by
      have:=(Wd.mp pl).1;rw[g.pl] at this;exact this
     obtain⟨b',ks',e2,hk',jF⟩:=kQ es[i] (VD hi);have hei:es[i]?=some (es[i].1,.ref b'):=by
      rw[<- e2];simp[hi]
     have sm:t.sameMemory t.moves t.mask=some true:=by
      unfold SetTable.sameMemory;rw[Zx (by simp)]
     have nx:∀fuel',m<fuel'+1->wpAny (model prog w) A (setSearchFrom a (.ref b) h true fuel' (some (adv t (m'+1) (stand.getD (t.probeStart h))))) Q E s:=λfuel' hf'=>
      ih (m-(m'+1)) (by lia) fuel' _ (by lia) (by lia) (by show (adv t (m'+1) _).dummy=none;rw[qt3];exact hdm) (by
       show t.slot (adv t (m-(m'+1)) (adv t (m'+1) _)).j=.empty;rw[<- qt2,show m'+1+(m-(m'+1))=m by lia];exact he)
     have seen:∀y∈(es.filter (·.1==h)).toList.map (·.2),∃b ks',y=.ref b/\IsTupleKey knd s.heap ks' b:=λy hy=>by
      obtain⟨e,he',rfl⟩:=Ym.mp hy;have:e∈es:=by
       have:=(Array.mem_filter.mp (show e∈es.filter (·.1==h) by simpa using he')).1;exact this
      obtain⟨b'',ks'',x1,x2,_⟩:=kQ e this;exact⟨b'',ks'',x1,x2⟩
     cases hl:t.led with
     |false=>
      simp only[WJ,Xq];refine Za (xr6 hk ?_ seen);simp only[Zq,ZZ];rw[hei];dsimp only;refine Za (ZX (wpAny_eqBool_tuple hu hk' hk ?_));rw[Zn jF];refine Za (ZY ho hd g.fits ?_);dsimp only;simp only[V5,Zq,ZZ];rw[sm];dsimp only;simp only[Xq];rw[sl];dsimp only;rw[hei];dsimp only;refine Za (wpAny_isSame_ref_self ?_);refine Za (Zb ?_);simp only[Xq];exact nx fuel hf
     |true=>
      simp only[YH,Zq,ZZ];rw[hei];dsimp only;refine Za (ZX (wpAny_eqBool_tuple hu hk' hk ?_));rw[Zn jF];refine Za (ZY ho hd g.fits ?_);dsimp only;simp only[V5,Zq,ZZ];rw[sm];dsimp only;simp only[Xq];rw[sl];dsimp only;rw[hei];dsimp only;refine Za (wpAny_isSame_ref_self ?_);refine Za (Zb ?_);simp only[Xq];exact nx fuel hf
   ·rename_i hp;exact Or.elim (qD3 rfl g.du hm hdm he) (λ⟨j,e⟩=>(hp _ e).elim) (λ⟨_,_,_,_,e,_⟩=>(hp _ e).elim)
structure SetR (knd:KeyKind prog w K) (h:Heap) (a:Addr) (Ks:List (List K)) (n:Nat):Prop where
 ex:∃o es ep t,h.get? a=some o/\o.ExactSet/\o.data=.set es ep t/\Grown t es.size/\t.tooFull=false/\t.mask<=8*n+8/\es.size=n/\∀e∈es,∃b ks,e.2=.ref b/\ks∈Ks/\IsTupleKey knd h ks b
theorem qD4 {h:Heap}{a b:Addr}{o:Obj}{ks:List K}{es:Array (Int×Value)}{ep:Nat}{t:SetTable}(x:IsTupleKey knd h ks b) (ho:h.get? a=some o) (hd:o.data=.set es ep t):b≠a:=by
 rintro rfl;obtain⟨o',items,n,ho',_,hd',_⟩:=x;obtain rfl:o'=o:=ZO (ho'.symm.trans ho);rw[hd] at hd';exact nomatch hd'
theorem qD5 {h h':Heap}{a b:Addr}{ks:List K}(x:IsTupleKey knd h ks b) (jF:b≠a) (hs:Heap.SameBut a h h'):IsTupleKey knd h' ks b:=by
 obtain⟨o',items,n,ho',hc,hd',hi⟩:=x;exact⟨o',items,n,(hs.2 b jF).trans ho',hc,hd',hi⟩
theorem qX0 {h:Heap}{a:Addr}{o:Obj}{es es':Array (Int×Value)}{ep:Nat}{t t':SetTable}(ho:h.get? a=some o) (hd:o.data=.set es ep t) :
  (h.update a (Obj.putSet es' t')).get? a=some { o with data:=.set es' (ep+1) t' }:=by
 have:=ZT (Obj.putSet es' t') ho (by rw[VR es' t' hd];rfl);rw[VR es' t' hd] at this;exact this
theorem xj6 {a b:Addr}{ks:List K}{Ks:List (List K)}{n:Nat}{h:Int}{Q:Bool->Shared->Prop}(hu:A.units<cLine) (S:SetR knd s.heap a Ks n) (hk:IsTupleKey knd s.heap ks b) (hHb:∀o items m,s.heap.get? b=some o->o.data=.seq items m->∀v∈items.toList,Hb v)
  (hn:ks∉Ks) (hsz:n<1200) (q:∀h',Heap.SameBut a s.heap h'->SetR knd h' a (ks::Ks) (n+1)->Q true { s with heap:=h' }) :
  wpAny (model prog w) A (setAddHashed a (.ref b) h) Q E s:=by
 obtain⟨o,es,ep,t,ho,v0,hd,g,hf,hmk,rfl,kQ⟩:=S.ex;unfold setAddHashed setAddHashedIn;refine ZX (Za (ZY ho hd g.fits ?_));dsimp only;have hby:byScan (.ref b) es=false:=rfl;rw[hby];simp only[Zq,ZZ];obtain⟨m,hm,hslot⟩:=g.meets h;have hfu:m<100000:=by
  unfold SetTable.turns at hm;lia
 refine Za (xr7 hu ho hd g hk (λe he=>?_) (λj=>?_) m 100000 none hfu hm rfl hslot)
 ·obtain⟨b',ks',e1,e2,e3⟩:=kQ e he;exact⟨b',ks',e1,e3,λz=>hn (by rw[<- z];exact e2)⟩
 dsimp only;refine Za (ZY ho hd g.fits ?_);dsimp only;have g1:=g.put hf j;generalize hp:t.put j=tp at g1;obtain⟨t1,p⟩:=tp;dsimp only at g1 ⊢;have hmk1:t1.mask=t.mask:=by
  have:(t.put j).1.mask=t.mask:=rfl;rw[hp] at this;exact this
 have hba:b≠a:=qD4 hk ho hd;have mem1:∀{h1:Heap},Heap.SameBut a s.heap h1->∀e∈SetTable.insertAt es p (h,Value.ref b),∃b' ks',e.2=.ref b'/\ks'∈ks::Ks/\IsTupleKey knd h1 ks' b':=λ{h1} hs e he=>by
  rcases qC9 he with rfl|he
  ·exact⟨b,ks,rfl,ZC,qD5 hk hba hs⟩
  ·obtain⟨b',ks',e1,e2,e3⟩:=kQ e he;exact⟨b',ks',e1,Zl _ e2,qD5 e3 (qD4 e3 ho hd) hs⟩
 have sz1:(SetTable.insertAt es p (h,Value.ref b)).size=es.size+1:=qm9 _ _ _;have room:es.size+1<=sizeLine:=by rw[XQ];lia
 have tail:∀t2:SetTable,Grown t2 (es.size+1)->t2.mask=t.mask->wpAny (model prog w) A (do
   storeSet a (SetTable.insertAt es p (h,Value.ref b)) t2
   if (!false&&t2.tooFull)=true then do
     setRelay a (SetTable.grown (es.size+1))
     pure true
    else pure true) Q E s:=λt2 g2 hm2=>by
  refine Za (WK ho hd ?_ (by rw[sz1];exact room));have vF:=qX0 (es':=SetTable.insertAt es p (h,Value.ref b)) (t':=t2) ho hd;have hs1:=Z8 s.heap a (Obj.putSet (SetTable.insertAt es p (h,Value.ref b)) t2);cases ht:t2.tooFull with
  |false=>
   simp only[V5,Zq,ZZ];refine Zb (q _ hs1 ⟨_,_,_,t2,vF,v0,rfl,by rw[sz1];exact g2,ht,by lia,sz1,mem1 hs1⟩)
  |true=>
   simp only[WJ,Bool.and_self,Xq];refine Za ?_;unfold setRelay;refine Za (ZY vF rfl (by rw[sz1];exact g2.fits) ?_);dsimp only;have gw:SetTable.grown (es.size+1)=(es.size+1)*4:=by
    unfold SetTable.grown;rw[Zk (by lia)]
   obtain⟨k,ek,_,_,hk3⟩:=qq1 (n:=SetTable.grown (es.size+1)) (by rw[gw];lia);rw[Zk (by rw[ek,XQ];rw[gw] at hk3;lia)];obtain⟨t3,order,er,g3,hw1,vU,_,eo,ev⟩:=qI5 (t:=t2) (hs:=(SetTable.insertAt es p (h,Value.ref b)).map (·.1)) (wanted:=SetTable.grown (es.size+1)) (by rw[gw];lia) (by rw[Array.size_map,sz1,gw];lia);rw[Array.size_map] at g3 eo ev;rw[er];have es2:(order.filterMap ((SetTable.insertAt es p (h,Value.ref b))[·]?)).size=es.size+1:=by rw[qW9 ev,eo,sz1]
   refine Za ?_;show wpAny _ _ (if ((order.filterMap ((SetTable.insertAt es p (h,Value.ref b))[·]?)).size != (SetTable.insertAt es p (h,Value.ref b)).size)=true then _ else _) _ _ _;rw[Zk (by rw[es2,sz1];simp)];refine Zb ?_;dsimp only;refine WK vF rfl ?_ (by rw[es2];exact room);have ho2:=qX0 (es':=order.filterMap ((SetTable.insertAt es p (h,Value.ref b))[·]?)) (t':=t3) vF rfl;have hs2:=hs1.trans (Z8 _ a (Obj.putSet (order.filterMap ((SetTable.insertAt es p (h,Value.ref b))[·]?)) t3));refine Zb (q _ hs2 ⟨_,_,_,t3,ho2,v0,rfl,by rw[es2,<- sz1];exact g3,?_,?_,es2,λe he=>mem1 hs2 e (q86 he)⟩)
   ·unfold SetTable.tooFull;rw[g3.fill,sz1];rw[gw] at hw1;exact Zn (by lia)
   ·rw[gw] at vU;lia
 cases jI:t1.plain with
 |false=>
  simp only[Zq,ZZ];refine Za (Zb ?_);simp only[Xq];exact tail t1 g1 hmk1
 |true=>
  simp only[Xq];obtain⟨ob,items,nn,hb1,vI,hb3,_⟩:=id hk;refine Za (qD2 hb1 vI hb3 (hHb _ _ _ hb1 hb3) λc=>?_);cases c with
  |true=>
   simp only[Xq];exact tail t1 g1 hmk1
  |false=>
   simp only[Zq,ZZ];exact tail { t1 with plain:=false } ⟨g1.pl,g1.du,g1.ma,g1.le⟩ hmk1
end
section
variable {prog:Program}{w:World}{K:Type}[DecidableEq K]{knd:KeyKind prog w K}
def TupK (knd:KeyKind prog w K) (h:Heap) (ks:List K) (b:Addr):Prop:=∃o items n,h.get? b=some o/\o.cls=.type "tuple" /\ o.data=.seq items n/\ItemsAre knd ks items.toList/\∀v∈items.toList,Hb v
theorem TupK.key {h:Heap}{ks:List K}{b:Addr}(x:TupK knd h ks b):IsTupleKey knd h ks b:=let ⟨o,items,n,h1,h2,h3,h4,_⟩:=x;⟨o,items,n,h1,h2,h3,h4⟩
theorem TupK.hb {h:Heap}{ks:List K}{b:Addr}(x:TupK knd h ks b):∀o items m,h.get? b=some o->o.data=.seq items m->∀v∈items.toList,Hb v:=λo items m e1 e2=>by
 obtain⟨o',items',n',h1,_,h3,_,h5⟩:=x;rw[e1] at h1;cases h1;rw[e2] at h3;cases h3;exact h5
theorem TupK.at {h h':Heap}{ks:List K}{b:Addr}(x:TupK knd h ks b) (k:∀o,h.get? b=some o->h'.get? b=some o):TupK knd h' ks b:=let ⟨o,items,n,h1,r⟩:=x;⟨o,items,n,k o h1,r⟩
theorem SetR.at {h h':Heap}{a:Addr}{Ks:List (List K)}{n:Nat}(S:SetR knd h a Ks n) (k:∀b o,h.get? b=some o->h'.get? b=some o\/b≠a/\¬∃ks,IsTupleKey knd h ks b):SetR knd h' a Ks n:=by
 obtain⟨o,es,ep,t,ho,v0,hd,g,hf,hmk,hn,kQ⟩:=S.ex;refine⟨o,es,ep,t,?_,v0,hd,g,hf,hmk,hn,λe he=>?_⟩
 ·rcases k a o ho with z|z
  ·exact z
  ·exact absurd rfl z.1
 ·obtain⟨b,ks,e1,e2,e3⟩:=kQ e he;refine⟨b,ks,e1,e2,?_⟩;obtain⟨o',items,n',ho',r⟩:=id e3;rcases k b o' ho' with z|z
  ·exact⟨o',items,n',z,r⟩
  ·exact absurd ⟨ks,e3⟩ z.2
variable {A:Around}{R:Result->Shared->Prop}{I:Addr}{fp wr:List Addr}{G:Array GenState->Array GenState->Prop}{n:Nat}{P:Nat->Value->Prop}{St:Nat->Shared->Prop}
def xr8 (knd:KeyKind prog w K) (S:Addr) (wr:List Addr) (P:Nat->Value->Prop) (val:Nat->List K) (h:Heap):Prop:=∀i v,P i v->∃b,v=.ref b/\b≠S/\b∉wr/\TupK knd h (val i) b
def xx5 (knd:KeyKind prog w K) (wr:List Addr) (h:Heap):Prop:=∀b∈wr,¬∃ks,IsTupleKey knd h ks b
theorem qX1 (W:WalksS prog w A.in1 I fp wr G n P St) (S:Addr) (jW:S∉fp) (val:Nat->List K) (dist:∀i j,i<j->j<n->val i≠val j) (hn:n<=1200) (hu:A.in1.units<cLine)
  (nt:∀i s,St i s->xx5 knd wr s.heap) :
  ∀(k i:Nat) (s:Shared),n-i=k->i<=n->St i s->xr8 knd S wr P val s.heap->(∃Ks,SetR knd s.heap S Ks i/\∀ks∈Ks,∃j,j<i/\ks=val j) ->
   (∀s',Moved (S::wr) G s s'->(∃Ks,SetR knd s'.heap S Ks n)->R (.ok (.ret .none)) s') ->
   codeAny (model prog w) A (.builtin "set.update.loop" ⟨[.ref S,.ref I],[]⟩) R s:=by
 have wB:S∉wr:=λz=>jW (W.sub _ z);have up:∀b∈wr,b∈S::wr:=λb hb=>Zl _ hb;have stays:∀{i:Nat}{s s':Shared}{Ks:List (List K)}{m:Nat},St i s->Moved wr G s s'->SetR knd s.heap S Ks m->SetR knd s'.heap S Ks m:=λ{i s s' Ks m} st mv S0=>S0.at λb o e=>by
  by_cases hb:b∈wr
  ·exact .inr ⟨λz=>wB (by rw[<- z];exact hb),nt i s st b hb⟩
  ·exact .inl (mv.heap b o hb e)
 intro k
 induction k with
 |zero=>
  intro i s hk hi st its hS hR;have jU:i=n:=by lia
  subst jU;obtain⟨Ks,S0,_⟩:=hS;refine Ye YG ?_;rw[Z1 Z9 _];show wpAny _ A.in1 (pyNext (.ref I) >>= _) _ _ s;refine Za (W.done s _ _ st λs' mv=>?_);show wpAny _ A.in1 (ret Value.none) _ _ s';exact Zb (hR s' (mv.mono up) ⟨Ks,stays st mv S0⟩)
 |succ k ih=>
  intro i s hk hi st its hS hR;obtain⟨Ks,S0,hKs⟩:=hS;have jA:i<n:=by lia
  refine Ye YG ?_;rw[Z1 Z9 _];show wpAny _ A.in1 (pyNext (.ref I) >>= _) _ _ s;refine Za (W.item i s _ _ jA st λv s' hP st' mv=>?_);obtain⟨b,rfl,hbS,hbw,hb⟩:=its i v hP;have hb':TupK knd s'.heap (val i) b:=hb.at λo e=>mv.heap b o hbw e;have S1:SetR knd s'.heap S Ks i:=stays st mv S0;show wpAny _ A.in1 (holding [Value.ref b] (setAdd S (.ref b)) >>= _) _ _ s';refine Za (ZX ?_);unfold setAdd;refine ZX ?_;refine Za (wpAny_pyHash_tuple hu hb'.key ?_);refine xj6 (s:={ s' with toks:=s'.toks+((val i).length+1) }) hu S1 hb'.key hb'.hb (λz=>?_) (by lia) λh' wD S2=>?_
  ·obtain⟨j,hj,e⟩:=hKs _ z;exact dist j i hj jA e.symm
  ·have its':xr8 knd S wr P val h':=λj u hPj=>by
    obtain⟨c,rfl,h1,h2,h3⟩:=its j u hPj;exact⟨c,rfl,h1,h2,(h3.at λo e=>mv.heap c o h2 e).at λo e=>(wD.2 c h1).trans e⟩
   refine Zb ⟨YA Z9 _,ih (i+1) _ (by lia) jA (W.frame _ s' _ _ st' (Yr _ _) λc hc o e=>?_) its' ⟨val i::Ks,S2,λks hks=>?_⟩ λs'' mv'' fin=>?_⟩
   ·rw[wD.2 c (λz:c=S=>jW (by rw[<- z];exact hc))];exact e
   ·rcases Zt.mp hks with rfl|hks
    ·exact⟨i,Yi i,rfl⟩
    ·obtain⟨j,hj,e⟩:=hKs ks hks;exact⟨j,by lia,e⟩
   ·refine hR s'' (VE W.gtrans ((mv.mono up).then_heap (Yr _ _) λc o hc e=>?_) mv'') fin;rw[wD.2 c (λz:c=S=>hc (by rw[z];exact ZC))];exact e
end
end SetT
namespace SetT
open PySem PySem.Spec
section
variable {prog:Program}{w:World}{K:Type}[DecidableEq K]{knd:KeyKind prog w K}{A:Around}{E:Value->Shared->Prop}{s:Shared}
abbrev newS (led:Bool):Obj:={ cls:=.type "set",dict:=none,data:=.set #[] 0 (.fresh 0 0 led) }
theorem qP5 {h:Heap}{a:Addr}{led:Bool}(e:h.get? a=some (newS led)):SetR knd h a [] 0:=
 ⟨_,#[],0,.fresh 0 0 led,e,⟨rfl,rfl,rfl⟩,rfl,⟨rfl,rfl,⟨3,rfl,by decide⟩,Zv _⟩,by rfl,(by show 7<=8*0+8;decide),rfl,λe he=>by simp at he⟩
theorem call_set_tuple {l:Addr}{items:Array Value}{val:Nat->List K}{Q:Value->Shared->Prop}(hh:A.handled=none) (hu:A.units+8<cLine) (hl:s.heap.IsTuple l items)
  (hi:∀(i:Nat) (v:Value),items[i]?=some v->∃b,v=.ref b/\TupK knd s.heap (val i) b) (dist:∀i j,i<j->j<items.size->val i≠val j) (hb:items.size<=1200)
  (h:∀(h':Heap) (tk:Nat),(∃Ks,SetR knd h' s.heap.objs.size Ks items.size)->(∀b o,b<s.heap.objs.size->s.heap.get? b=some o->h'.get? b=some o)->Q (.ref s.heap.objs.size) { s with heap:=h',toks:=tk }) :
  wpAny (model prog w) A (call (.type "set") [.ref l]) Q E s:=by
 obtain⟨c,tl,hmro⟩:=F.called_set.mro;have made0:=F.called_set.made;have sub0:=F.called_set.sub;refine wpAny_call (W8 ?_);show wpAny _ _ (callAny (.type "set") _) _ _ _;refine Zb ⟨Vp _ (by decide +kernel),Ye F.entry_type_call ?_⟩;rw[Around.under_plain (weight_type_call_type "set" [.ref l] []) rfl];have f1:=F.called_set.notType;have f2:=F.called_set.canCreate;have f3:=F.typeCall_set_1 (.ref l)
 repeat (any_goals first|assumption|wp_step)
 refine Wm (code_set_new_1 (.ref l) (E:=E) (Q₁:=λobj s₁=>∃led:Bool,obj=.ref s.heap.objs.size/\s₁={ s with heap:=s.heap.push (newS led) }) λled=>⟨led,rfl,rfl⟩) λr s₁ hr=>?_;cases r with
 |error e=>exact hr
 |ok fl=>
  cases fl with
  |ret obj=>
   obtain⟨led,rfl,rfl⟩:=hr;have hS:(s.heap.push (newS led)).get? s.heap.objs.size=some (newS led):=Zf _ rfl;have hT:Shared.TypeIs { s with heap:=s.heap.push (newS led) } (.ref s.heap.objs.size) "set":=⟨_,hS,rfl⟩;have i1:=F.called_set.init.lookup;have i2:=F.called_set.init.bind (.ref s.heap.objs.size)
   repeat (any_goals first|assumption|wp_step)
   refine Wm (We (R:=wants (λr s₂=>r=.none/\∃h' tk,s₂={ s with heap:=h',toks:=tk }/\(∃Ks,SetR knd h' s.heap.objs.size Ks items.size) /\
     (∀b o,b<s.heap.objs.size->s.heap.get? b=some o->h'.get? b=some o)) E) F.called_set.init.plain F.entry_set_init (check_set_init_1 hT ?_)) λr₂ s₂ hr₂=>?_
   ·obtain⟨ol,wG,hcl,nl,hdl⟩:=id hl;obtain⟨ocls,odict,odata,oslots⟩:=ol;simp only at hcl hdl;subst hcl;subst hdl;have hol':(s.heap.push (newS led)).get? l=some { cls:=.type "tuple",dict:=odict,data:=.seq items nl,slots:=oslots }:=Zc _ wG;have st1:=F.sub_tuple_set;have st2:=F.sub_tuple_frozenset;have ned:(Value.type "tuple" == Value.type "dict")=false:=by decide
    have kU:(s.heap.push (newS led)).IsTuple l items:=⟨_,hol',rfl,nl,rfl⟩;unfold Builtin.«set.__init__» noKeywords Builtin.Frozenset.updateFrom;generalize hPI:pyIter=PI
    wp_walk
    subst hPI;refine Y0 kU ?_;refine Za (Vq ?_);have hlS:l<s.heap.objs.size:=Zi wG;have hsz:(s.heap.push (newS led)).objs.size=s.heap.objs.size+1:=ZV _ _;have hneI:l≠(s.heap.push (newS led)).objs.size:=by rw[hsz];exact Zp (ZR hlS)
    have jW:s.heap.objs.size∉[(s.heap.push (newS led)).objs.size,l]:=by
     rw[hsz];simp only[Zt,XJ,V6,not_or];exact⟨Zp (Yi _),XS hlS⟩
    refine qX1 (knd:=knd) ((Walks.tuple (by simp[hh]) _ l hneI items).toS) s.heap.objs.size jW val dist hb (by show A.units+1+1+1<cLine;lia) (λi s' st b hbw=>?_) (items.size-0) 0 _ (by lia) (Zv _)
     ⟨⟨_,Zf _ rfl,rfl,rfl⟩,kU.push _⟩ (λi v hv=>?_) ⟨[],qP5 (Zc _ hS),λks hks=>nomatch hks⟩ λs' mv fin=>?_
    ·rintro⟨ks,o',its',n',e1,e2,e3,_⟩;have:b=(s.heap.push (newS led)).objs.size:=by simpa using hbw
     subst this;obtain⟨oi,x1,x2,x3⟩:=st.1;rw[x1] at e1;cases e1;rw[x2] at e2;injection e2 with e2
     exact absurd e2 (by decide)
    ·obtain⟨b,rfl,hb'⟩:=hi i v hv;have jA:b<s.heap.objs.size:=by obtain⟨o',_,_,e1,_⟩:=hb';exact Zi e1
     refine⟨b,rfl,Zp jA,(by rw[hsz];simp only[Zt,XJ,V6];exact Zp (ZR jA)),hb'.at λo e=>Zc _ (Zc _ e)⟩
    ·obtain⟨h',g',d',tk',os'⟩:=s';have eg:g'=s.gens:=mv.gens;have ed:d'=s.drawn:=mv.drawn;have eo:os'=s.os:=mv.os;subst eg;subst ed;subst eo;show wpAny _ _ _ _ _ _;refine Zb ?_;show wpAny _ _ (ret Value.none) _ _ _;refine Zb ⟨rfl,h',tk',rfl,fin,λb o jA e=>?_⟩;exact mv.heap b o (by rw[hsz];simp only[Zt,XJ,V6,not_or];exact⟨Zp jA,Zp (ZR jA)⟩) (Zc _ (Zc _ e))
   ·cases r₂ with
    |error e=>exact hr₂
    |ok fl₂=>
     cases fl₂ with
     |ret r=>
      obtain⟨rfl,h',tk,rfl,fin,kp⟩:=hr₂
      repeat (any_goals first|assumption|wp_step)
      exact h _ _ fin kp
     |_=>exact hr₂.elim
  |_=>exact hr.elim
end
end SetT
namespace L2
open PySem PySem.Spec PyProof.Rows PySem.W
section
variable {M:Model}{A:Around}{E:Value->Shared->Prop}{s:Shared}{base:Heap}{env:Env}{outer:List Env}{L e:Addr}{oe:Obj}{vs:Array Value}{head:Value}{hadNext:Bool}
end
end L2
namespace L2
open PySem PySem.Spec PyProof.Rows
section
variable {P:Program}{w:World}{H H1 H':Hp}{h h1 h':Heap}{outer:List Env}{env:Env}{x L:Addr}{cls:Value}
end
section
variable {P:Program}{w:World}{K:PySem.W.Frag}{mg:Str->Option Value}{base:Heap}{N:List Str}{qual:Str}{scope:Scope}{f:Addr}{cd:Value}{A:Around}{outer:List Env}{s₀:Shared}{H₀:Hp}{E:XK}
end
def SetN (r:Addr) (n:Nat) (h:Heap):Prop:=∃o es ep t,h.get? r=some o/\o.ExactSet/\o.data=.set es ep t/\t.fits es.size=true/\es.size=n
section
variable {X:Cx}
theorem xx6 {k:Key}{u:Value}(r:RelV (kV k) u):SetT.Hb u:=by
 cases k with
 |inl i=>obtain⟨t,rfl⟩:=r;exact SetT.Hb.int i t
 |inr x=>obtain⟨t,rfl⟩:=r;exact SetT.Hb.str x t
theorem xf3:∀{ks:List Key}{us:List Value},Vals (ks.map kV) us->∀v∈us,SetT.Hb v
 |[],_,.nil,v,hv=>by cases hv
 |k::ks,_,.cons r t,v,hv=>by
  rcases Zt.mp hv with rfl|hv
  ·exact xx6 r
  ·exact xf3 t v hv
theorem xj7 {P:Program}{w:World}{H:Hp}{h:Heap}{b:Addr}{ks:List Key}(ok:HOk P w H h) (e:H b=some (.tup (ks.map kV))):SetT.TupK (qd6 P w) h ks b:=by
 obtain⟨_,its,r,o,ho,hc,n,hd⟩:=ok b _ e;exact⟨o,its.toArray,n,ho,hc,hd,by simpa using qs9 r,λv hv=>xf3 r v (by simpa using hv)⟩
theorem qX2 (hc:X.calm=true){k:Nat}(hr:Room k X.A):qe3 X (.type "set") (λxs H Q=>∃(p:Addr) (bs:List Addr) (rows:List (List Key)),xs=[.ref p]/\H p=some (.tup (bs.map V.ref))/\bs.length=rows.length /\
  (∀(i:Nat) b ks,bs[i]?=some b->rows[i]?=some ks->H b=some (.tup (ks.map kV)))/\rows.Nodup/\rows.length<=1200/\∀r,H r=none->Q (.ref r) (upd H r (.ext (SetN r rows.length)))):=by
 intro j8 s σ H xs us Q I rv h;obtain⟨p,bs,rows,rfl,hp,j9,jE,vX,hsz,q⟩:=h;obtain⟨u,rfl,ru⟩:=qf0 rv;cases ru;obtain⟨_,its,r2,isT⟩:=I.hok p _ hp;have jM:its.length=bs.length:=by have:=r2.length;simpa using this.symm
 have un:=hr.units;have item:∀(i:Nat) (v:Value),its[i]?=some v->∃b,bs[i]?=some b/\v=.ref b:=λi v hv=>by
  have hi:i<bs.length:=by rw[<- jM];exact (gS_ hv).1
  obtain⟨w',e1,e2⟩:=r2.get (i:=i) (x:=V.ref bs[i]) (by simp[hi]);rw[hv] at e1;cases e1;exact⟨bs[i],by simp[hi],e2⟩
 refine SetT.call_set_tuple (knd:=qd6 X.prog X.w) (items:=its.toArray) (val:=λi=>rows.getD i []) (I.ok.hd hc) (by lia) (show s.heap.IsTuple p its.toArray from isT) (λi v hv=>?_) (λi j jX hj z=>?_) (by rw[ZG,jM,j9];exact hsz) λh' tk fin kp=>?_
 ·obtain⟨b,hb,rfl⟩:=item i v (by simpa using hv);have hi:i<rows.length:=by rw[<- j9];exact (gS_ hb).1
  have e:rows.getD i []=rows[i]:=by simp[List.getD,hi]
  show ∃b',Value.ref b=.ref b'/\SetT.TupK _ s.heap (rows.getD i []) b';rw[e];exact⟨b,rfl,xj7 I.hok (jE i b rows[i] hb (by simp[hi]))⟩
 ·rw[ZG,jM,j9] at hj;have z':rows.getD i []=rows.getD j []:=z;have hi:i<rows.length:=by lia
  have e1:rows.getD i []=rows[i]:=by simp[List.getD,hi]
  have e2:rows.getD j []=rows[j]:=by simp[List.getD,hj]
  rw[e1,e2] at z';have:=(List.getElem_inj vX).mp z';lia
 ·obtain⟨Ks,S⟩:=fin;obtain⟨o,es,ep,t,ho,v0,hd,g,hf,_,hn,_⟩:=S.ex;have hn':es.size=rows.length:=by rw[hn,ZG,jM,j9]
  refine⟨.ref s.heap.objs.size,_,I.laid (a:=s.heap.objs.size) (o:=.ext (SetN s.heap.objs.size rows.length)) (t':=tk) (λb o e=>kp b o (Zi e) e) (Ze _) ⟨⟨o,es,ep,t,ho,v0,hd,g.fits,hn'⟩,⟨o,ho⟩,λh1 h2 φ k=>?_⟩,rfl,q _ (I.hok.fresh (Ze _))⟩;obtain⟨o',es',ep',t',ho',r⟩:=φ;exact⟨o',es',ep',t',k o' ho',r⟩
theorem qI6:qe3 X (.builtin "len") (λxs H Q=>∃(r:Addr) (n:Nat),xs=[.ref r]/\H r=some (.ext (SetN r n))/\n<=1200/\Q (.int n) H):=by
 intro j8 s σ H xs us Q I rv h;obtain⟨r,n,rfl,hr,hn,q⟩:=h;obtain⟨u,rfl,ru⟩:=qf0 rv;cases ru;obtain⟨⟨o,es,ep,t,ho,v0,hd,hf,rfl⟩,_⟩:=I.hok r _ hr;have hb:(es.size:Int)<=1200:=by lia
 exact call_len_set ho v0 hd hf (Int.lt_of_le_of_lt hb (by decide)) ⟨.int es.size,H,I.tok _,⟨_,rfl⟩,q⟩
end
mutual
inductive DataAt (H:Hp):V->PyData->Prop
 |non:DataAt H .non .none
 |bl (b:Bool):DataAt H (.bl b) (.bool b)
 |int (i:Int):DataAt H (.int i) (.int i)
 |str (x:Str):DataAt H (.str x) (.str x)
 |lst {a:Addr}{xs:List V}{ds:List PyData}(h:H a=some (.lst xs)) (r:DatasAt H xs ds):DataAt H (.ref a) (.list ds)
 |tup {a:Addr}{xs:List V}{ds:List PyData}(h:H a=some (.tup xs)) (r:DatasAt H xs ds):DataAt H (.ref a) (.tuple ds)
inductive DatasAt (H:Hp):List V->List PyData->Prop
 |nil:DatasAt H [] []
 |cons {x:V}{xs:List V}{d:PyData}{ds:List PyData}(h:DataAt H x d) (r:DatasAt H xs ds):DatasAt H (x::xs) (d::ds)
end
section
variable {P:Program}{w:World}{H:Hp}{h:Heap}
mutual
theorem DataAt.reads (ok:HOk P w H h):∀{x:V}{d:PyData}{u:Value},DataAt H x d->RelV x u->∃as,Reads h u d as
 |_,_,u,.non,r=>⟨[],by cases (show u=Value.none from r);exact .none⟩
 |_,_,u,.bl b,r=>⟨[],by cases (show u=Value.bool b from r);exact .bool b⟩
 |_,_,u,.int i,r=>⟨[],by obtain⟨t,rfl⟩:=r;exact .int i t⟩
 |_,_,u,.str x,r=>⟨[],by obtain⟨t,rfl⟩:=r;exact .str x t⟩
 |_,_,u,.lst (a:=a) e rs,r=>by
  cases (show u=Value.ref a from r);obtain⟨_,its,n,rv,ho⟩:=ok a _ e;obtain⟨as,ra⟩:=DatasAt.reads ok rs rv;exact⟨a::as,.list ho rfl rfl (by simpa using ra)⟩
 |_,_,u,.tup (a:=a) e rs,r=>by
  cases (show u=Value.ref a from r);obtain⟨_,its,rv,o,ho,hc,n,hd⟩:=ok a _ e;obtain⟨as,ra⟩:=DatasAt.reads ok rs rv;exact⟨as,.tuple ho hc hd (by simpa using ra)⟩
theorem DatasAt.reads (ok:HOk P w H h):∀{xs:List V}{ds:List PyData}{us:List Value},DatasAt H xs ds->Vals xs us->∃as,ReadsAll h us ds as
 |_,_,_,.nil,.nil=>⟨[],.nil⟩
 |_,_,_,.cons h1 r1,.cons r rr=>by
  obtain⟨as,ra⟩:=DataAt.reads ok h1 r;obtain⟨bs,rb⟩:=DatasAt.reads ok r1 rr;exact⟨as++bs,.cons ra rb⟩
end
mutual
theorem DataAt.same {H':Hp}(s:∀b o,H b=some o->H' b=some o):∀{x:V}{d:PyData},DataAt H x d->DataAt H' x d
 |_,_,.non=>.non
 |_,_,.bl b=>.bl b
 |_,_,.int i=>.int i
 |_,_,.str x=>.str x
 |_,_,.lst e r=>.lst (s _ _ e) (DatasAt.same s r)
 |_,_,.tup e r=>.tup (s _ _ e) (DatasAt.same s r)
theorem DatasAt.same {H':Hp}(s:∀b o,H b=some o->H' b=some o):∀{xs:List V}{ds:List PyData},DatasAt H xs ds->DatasAt H' xs ds
 |_,_,.nil=>.nil
 |_,_,.cons h r=>.cons (DataAt.same s h) (DatasAt.same s r)
end
theorem DatasAt.ints:∀(ns:List Int),DatasAt H (ns.map V.int) (ns.map PyData.int)
 |[]=>.nil
 |n::ns=>.cons (.int n) (DatasAt.ints ns)
end
section
variable {X:Cx}
theorem qX3 {k:Nat}(hr:Room k X.A):OpR X (compareOp .Eq) (λx y H Q=>∃d e,DataAt H x d/\DataAt H y e/\d.canLay0=true/\e.canLay0=true/\d.depth<=60/\Q (.bl (PyData.eqv d e)) H):=by
 intro j8 s σ H x y v u Q I rx ry h;obtain⟨d,e,hd,he,c1,c2,dp,q⟩:=h;obtain⟨as,ra⟩:=hd.reads I.hok rx;obtain⟨bs,rb⟩:=he.reads I.hok ry;have un:=hr.units;exact SeqAt.rcAt_reads ra rb c1 c2 (by lia) X.prog X.w X.xe _ ⟨.bl _,H,I,rfl,q⟩
theorem qL2 {k:Nat}(hr:Room k X.A):OpR X (compareOp .NotEq) (λx y H Q=>∃d e,DataAt H x d/\DataAt H y e/\d.canLay0=true/\e.canLay0=true/\d.depth<=60/\Q (.bl (!PyData.eqv d e)) H):=by
 intro j8 s σ H x y v u Q I rx ry h;obtain⟨d,e,hd,he,c1,c2,dp,q⟩:=h;obtain⟨as,ra⟩:=hd.reads I.hok rx;obtain⟨bs,rb⟩:=he.reads I.hok ry;have un:=hr.units;exact SeqAt.rcNeAt_reads ra rb c1 c2 (by lia) X.prog X.w X.xe _ ⟨.bl _,H,I,rfl,q⟩
end
theorem qm0:∀(a b:List Int),PyData.eqvAll (a.map PyData.int) (b.map PyData.int)=decide (a=b)
 |[],[]=>by simp[PyData.eqvAll]
 |x::a,[]=>by simp[PyData.eqvAll]
 |[],y::b=>by simp[PyData.eqvAll]
 |x::a,y::b=>by
  show (PyData.eqv (.int x) (.int y)&&PyData.eqvAll (a.map PyData.int) (b.map PyData.int))=_;rw[qm0 a b,show PyData.eqv (.int x) (.int y)=(x==y) by simp[PyData.eqv]];rw[Xb];simp
theorem qm1:∀(a:List Int),PyData.canLayAll0 (a.map PyData.int)=true
 |[]=>by simp[PyData.canLayAll0]
 |x::a=>by
  show (PyData.canLay0 (.int x)&&PyData.canLayAll0 (a.map PyData.int))=true;rw[qm1 a];simp[PyData.canLay0]
def dT (ns:List Int):PyData:=.tuple (ns.map PyData.int)
def dL (ns:List Int):PyData:=.list (ns.map PyData.int)
theorem qX4 (ns:List Int):(dT ns).canLay0=true:=by
 show PyData.canLayAll0 (ns.map PyData.int)=true;exact qm1 ns
theorem qL3 (ns:List Int):(dL ns).canLay0=true:=by
 show PyData.canLayAll0 (ns.map PyData.int)=true;exact qm1 ns
theorem xr9 (a b:List Int):PyData.eqv (dT a) (dT b)=decide (a=b):=by
 show PyData.eqvAll _ _=_;exact qm0 a b
theorem qX5 (a b:List Int):PyData.eqv (dL a) (dL b)=decide (a=b):=by
 show PyData.eqvAll _ _=_;exact qm0 a b
end L2
namespace EnumT
open PySem PySem.Spec
section
variable {prog:Program}{w:World}{A:Around}{E:Value->Shared->Prop}{s:Shared}
theorem qP6 {it t:Addr}{i:Nat}{items:Array Value}{x:Value}{Q:Value->Shared->Prop}(st:s.heap.IsTupleIter it t i) (ht:s.heap.IsTuple t items) (hx:items[i]?=some x)
  (q:∀h',h'.IsTupleIter it t (i+1)->Heap.SameBut it s.heap h'->Q x { s with heap:=h' }):wpAny (model prog w) A (Builtin.SmallTypes.nextOf (.ref it)) Q E s:=by
 obtain⟨o,e1,e2,e3⟩:=id st;obtain⟨ot,f1,_,nt,f2⟩:=ht;unfold Builtin.SmallTypes.nextOf;refine Za (Z2 (name:=Str.ofString "__next__") st.typeIs Xj (Z3 Xj st.typeIs F.entry_tuple_iterator_next ?_ (F.args_tuple_iterator_next_1 _)));show wpAny _ _ (field (.ref it) 0 >>= _) _ _ s;refine Za (YU e1 e3 (x:=.ref t) rfl ?_);show wpAny _ _ (if (Value.ref t==Value.none)=true then _ else _) _ _ s;rw[Zk (show ¬((Value.ref t==Value.none)=true) from Zs)];show wpAny _ _ (field (.ref it) 1 >>= _) _ _ s;refine Za (YU e1 e3 (x:=.int i 0) rfl ?_);show wpAny _ _ (seqItems? (.ref t) >>= _) _ _ s;refine Za (XI f1 f2 ?_);simp only[ZB,hx];refine Za (Xk e1 e3 (by simp) (Zb ⟨x,rfl,Zb (q _ ⟨_,ZT _ e1 (Xm (Yp e3 _)),(WL ..).trans e2,?_⟩ (Z8 ..))⟩));rw[Yp e3];simp[rawInt]
theorem qX6 {it t:Addr}{i:Nat}{items:Array Value}{Q:Value->Shared->Prop}(hh:A.handled=none) (st:s.heap.IsTupleIter it t i) (ht:s.heap.IsTuple t items) (hx:items[i]?=none)
  (q:∀h' e,Heap.ExtBut it s.heap h'->(∃o,h'.get? e=some o/\o.cls=.type "StopIteration")->E (.ref e) { s with heap:=h' }):wpAny (model prog w) A (Builtin.SmallTypes.nextOf (.ref it)) Q E s:=by
 obtain⟨o,e1,e2,e3⟩:=id st;obtain⟨ot,f1,_,nt,f2⟩:=ht;unfold Builtin.SmallTypes.nextOf;refine Za (Z2 (name:=Str.ofString "__next__") st.typeIs Xj (Z3 Xj st.typeIs F.entry_tuple_iterator_next ?_ (F.args_tuple_iterator_next_1 _)));show wpAny _ _ (field (.ref it) 0 >>= _) _ _ s;refine Za (YU e1 e3 (x:=.ref t) rfl ?_);show wpAny _ _ (if (Value.ref t==Value.none)=true then _ else _) _ _ s;rw[Zk (show ¬((Value.ref t==Value.none)=true) from Zs)];show wpAny _ _ (field (.ref it) 1 >>= _) _ _ s;refine Za (YU e1 e3 (x:=.int i 0) rfl ?_);show wpAny _ _ (seqItems? (.ref t) >>= _) _ _ s;refine Za (XI f1 f2 ?_);simp only[ZB,hx];refine Za (Xd (Za (Xk e1 e3 (by simp) ?_)));show wpAny _ _ (newExc (.type "StopIteration") [] >>= _) _ _ _;refine Za ?_;simp only[newExc,newTuple];refine Za (ZK ?_ (by size_fits));refine Za (m:=firstArgMember _ _) (WG (a:=Value.none) (by first|rfl|(simp only[firstArgMember];rfl)) ?_);refine ZK ?_ (by size_fits);simp only[raiseNew];refine Za (wpAny_handled ?_)
 first|rw[show A.in1.handled=none from hh]|rw[hh]
 refine Za (Zb (wpAny_throw ?_));exact q _ _ (((Z8 ..).extBut.push _).push _) ⟨_,Zf _ rfl,rfl⟩
theorem qX7 {e it:Addr}{i:Nat}{x old:Value}{St:Heap->Prop}{Q:Value->Shared->Prop}(he:IsEnum s.heap e it i old) (jF:e≠it)
  (nx:∀Q':Value->Shared->Prop,(∀h',Heap.SameBut it s.heap h'->St h'->Q' x { s with heap:=h' })->wpAny (model prog w) A (Builtin.SmallTypes.nextOf (.ref it)) Q' E s)
  (q:∀h1 h',Heap.SameBut it s.heap h1->St h1->IsEnumOut h' e it ((i:Int)+1) x s.heap.objs.size->h'.get? s.heap.objs.size=some { cls:=.type "tuple",data:=.seq #[.int i s.toks,x] } ->
   (∀b o,b≠e->h1.get? b=some o->h'.get? b=some o)->Q (.ref s.heap.objs.size) { s with heap:=h',toks:=s.toks+1 }) :
  wpAny (model prog w) A (Builtin.«enumerate.__next__» ⟨[.ref e],[]⟩) (λfin s'=>∃v,fin=.done (.ret v)/\Q v s') E s:=by
 obtain⟨hp,g,d,tk,os⟩:=s;show wpAny _ _ (field (.ref e) 2 >>= _) _ _ _;refine Za (YU he rfl (x:=.ref it) rfl ?_);refine Za (nx _ λh₁ s1 st1=>?_)
 replace s1:Heap.SameBut it hp h₁:=s1
 have he₁:IsEnum h₁ e it i old:=(s1.2 e jF).trans he;show wpAny _ _ (field (.ref e) 3 >>= _) _ _ ⟨h₁,g,d,tk,os⟩;refine Za (YU he₁ rfl (x:=rawInt i) rfl ?_);show wpAny _ _ (field (.ref e) 4 >>= _) _ _ ⟨h₁,g,d,tk,os⟩;refine Za (YU he₁ rfl (x:=.none) rfl ?_);show wpAny _ _ (mkInt i >>= _) _ _ ⟨h₁,g,d,tk,os⟩;refine Za (wpAny_mkInt ?_);show wpAny _ _ (setField (.ref e) 3 (rawInt ((i:Int)+1)) >>= _) _ _ ⟨h₁,g,d,tk+1,os⟩;refine Za (XW he₁ (by simp) λh₂ he₂ s2=>?_)
 replace s2:Heap.SameBut e h₁ h₂:=s2
 replace he₂:IsEnum h₂ e it ((i:Int)+1) old:=he₂
 show wpAny _ _ (setField (.ref e) 4 .none >>= _) _ _ ⟨h₂,g,d,tk+1,os⟩;refine Za (XW he₂ (by simp) λh₃ he₃ s3=>?_)
 replace s3:Heap.SameBut e h₂ h₃:=s3
 replace he₃:IsEnum h₃ e it ((i:Int)+1) old:=he₃
 show wpAny _ _ (newTuple [.int i tk,x] >>= _) _ _ ⟨h₃,g,d,tk+1,os⟩;refine Za (wpAny_newTuple ?_);have z3:h₃.objs.size=hp.objs.size:=by rw[s3.1,s2.1,s1.1]
 have elt:e<hp.objs.size:=Zi he;obtain⟨h₄,e4⟩:∃h₄,h₃.push { cls:=.type "tuple",data:=.seq #[.int i tk,x] }=h₄:=⟨_,rfl⟩;have he₄:IsEnum h₄ e it ((i:Int)+1) old:=by rw[<- e4];exact Zc _ he₃
 have ht₄:h₄.get? hp.objs.size=some { cls:=.type "tuple",data:=.seq #[.int i tk,x] }:=by rw[<- e4,<- z3];exact Zf _ rfl
 have k4:∀b o,b≠e->h₁.get? b=some o->h₄.get? b=some o:=λb o hb eb=>by
  rw[<- e4];exact Zc _ (s3.extBut b o hb (s2.extBut b o hb eb))
 rw[e4];show wpAny _ _ (Builtin.SmallTypes.ownedTupleIsFree (.ref e) >>= _) _ _ ⟨h₄,g,d,tk+1,os⟩;rw[z3];refine Za ?_;unfold Builtin.SmallTypes.ownedTupleIsFree;refine Za (YU he₄ rfl (x:=.none) rfl (Zb ?_));simp only[Xq];refine Za (Xd ?_);refine Za (YU he₄ rfl (x:=old) rfl ?_);refine Za (XW he₄ (by simp) λh₅ he₅ s5=>?_)
 replace s5:Heap.SameBut e h₄ h₅:=s5
 replace he₅:IsEnum h₅ e it ((i:Int)+1) x:=he₅
 show wpAny _ _ (Builtin.SmallTypes.ownedTupleHandOut (.ref e) (.ref hp.objs.size) >>= _) _ _ ⟨h₅,g,d,tk+1,os⟩;refine Za ?_;unfold Builtin.SmallTypes.ownedTupleHandOut;refine Za (XW he₅ (by simp) λh₆ he₆ s6=>?_)
 replace s6:Heap.SameBut e h₅ h₆:=s6
 replace he₆:IsEnumOut h₆ e it ((i:Int)+1) x hp.objs.size:=he₆
 refine XW he₆ (by simp) λh₇ he₇ s7=>?_
 replace s7:Heap.SameBut e h₆ h₇:=s7
 replace he₇:IsEnumOut h₇ e it ((i:Int)+1) x hp.objs.size:=he₇
 have k7:∀b o,b≠e->h₄.get? b=some o->h₇.get? b=some o:=λb o hb eb=>s7.extBut b o hb (s6.extBut b o hb (s5.extBut b o hb eb));exact Za (W5 (Zb ⟨_,rfl,q h₁ h₇ s1 st1 he₇ (k7 _ _ (XS elt) ht₄) λb o hb eb=>k7 b o hb (k4 b o hb eb)⟩))
theorem next_pair {e it t:Addr}{i:Nat}{items:Array Value}{x old:Value}{Q:Option Value->Shared->Prop}(he:IsEnum s.heap e it i old) (jF:e≠it) (st:s.heap.IsTupleIter it t i) (ht:s.heap.IsTuple t items) (hx:items[i]?=some x)
  (q:∀h1 h',Heap.SameBut it s.heap h1->IsEnumOut h' e it ((i:Int)+1) x s.heap.objs.size->h'.IsTupleIter it t (i+1)->h'.get? s.heap.objs.size=some { cls:=.type "tuple",data:=.seq #[.int i s.toks,x] } ->
   (∀b o,b≠e->h1.get? b=some o->h'.get? b=some o)->Q (some (.ref s.heap.objs.size)) { s with heap:=h',toks:=s.toks+1 }):wpAny (model prog w) A (pyNext (.ref e)) Q E s:=by
 have hT:s.TypeIs (.ref e) "enumerate":=⟨_,he,rfl⟩;unfold pyNext;refine Za (Xv (Z2 (name:=Str.ofString "__next__") hT X5 (Z3 X5 hT F.entry_enumerate_next
  (qX7 (St:=λh=>h.IsTupleIter it t (i+1)) he jF (λQ' q'=>qP6 st ht hx λh' st' sb=>q' h' sb st') λh1 h' sb st1 ho hT' kp=>Zb (q h1 h' sb ho ?_ hT' kp)) (F.args_enumerate_next_1 _))))
 obtain⟨o,x1,x2⟩:=st1;exact⟨o,kp it o (XC jF) x1,x2⟩
theorem next_end {e it t:Addr}{i:Nat}{items:Array Value}{old:Value}{Q:Option Value->Shared->Prop}(hh:A.handled=none) (he:IsEnum s.heap e it i old) (st:s.heap.IsTupleIter it t i) (ht:s.heap.IsTuple t items) (hx:items[i]?=none)
  (q:∀h',Heap.ExtBut it s.heap h'->Q none { s with heap:=h' }):wpAny (model prog w) A (pyNext (.ref e)) Q E s:=by
 have hT:s.TypeIs (.ref e) "enumerate":=⟨_,he,rfl⟩;unfold pyNext;refine Za (Xv (Z2 (name:=Str.ofString "__next__") hT X5 (Z3 X5 hT F.entry_enumerate_next ?_ (F.args_enumerate_next_1 _))));show wpAny _ _ (field (.ref e) 2 >>= _) _ _ _;refine Za (YU he rfl (x:=.ref it) rfl ?_);refine Za (qX6 hh st ht hx λh' x eb ⟨o,ho,hc⟩=>?_);exact Za (XM (T:= "StopIteration") (b:=true) ⟨o,ho,hc⟩ isSubtype_stop (Zb (q _ eb)))
theorem qX8 (l:Addr) (items:Array Value) (n:Nat) (dct:Option Addr) (sl:Array (Option Value)) :
  Meets (Builtin.«enumerate.__new__» ⟨[.type "enumerate",.ref l],[]⟩) (λ_ R s=>s.heap.get? l=some { cls:=.type "tuple",dict:=dct,data:=.seq items n,slots:=sl } /\
   R (.ok (.ret (.ref (s.heap.push { cls:=.type "tuple_iterator",data:=.fields #[.ref l,.int 0 0] }).objs.size)))
    { s with heap:=(s.heap.push { cls:=.type "tuple_iterator",data:=.fields #[.ref l,.int 0 0] }).push { cls:=.type "enumerate",data:=.fields #[.none,.bool false,.ref s.heap.objs.size,rawInt 0,.none,.none] } }):=
 .of_wp λprog w A R s h=>by
  obtain⟨hp,g,d,tk,os⟩:=s;obtain⟨hl,h⟩:=h;have f0:=sub_enumerate;have hL:Heap.IsTuple (Shared.heap ⟨hp,g,d,tk,os⟩) l items:=⟨_,hl,rfl,n,rfl⟩
  wp_walk using Wt hl
  refine wpAny_stack_any λst=>Zb ?_;split
  ·rename_i c _ _ _ _ _;cases (c==Value.type "enumerate")
   all_goals
    wp_walk using Wt hl,Y0 hL
    exact⟨_,rfl,h⟩
  ·wp_walk using Wt hl,Y0 hL
   exact⟨_,rfl,h⟩
theorem call_new {l:Addr}{items:Array Value}{Q:Value->Shared->Prop}(hL:s.heap.IsTuple l items)
  (q:∀h',IsEnum h' (s.heap.objs.size+1) s.heap.objs.size 0 .none->h'.IsTupleIter s.heap.objs.size l 0->(∀b o,s.heap.get? b=some o->h'.get? b=some o)->Q (.ref (s.heap.objs.size+1)) { s with heap:=h' }) :
  wpAny (model prog w) A (call (.type "enumerate") [.ref l]) Q E s:=by
 obtain⟨⟨c,dct,dt,sl⟩,hl,hc,n,hd⟩:=hL
 replace hc:c=.type "tuple":=hc
 replace hd:dt=.seq items n:=hd
 subst hc hd;refine callType_new F.called_enumerate (by decide) (F.typeCall_enumerate_1 _) (F.newCall_enumerate_1 _) (λobj=>F.args_object_init_2 obj _) F.entry_enumerate_new (qX8 l items n dct sl) ⟨hl,?_⟩;have z1:(s.heap.push { cls:=.type "tuple_iterator",data:=.fields #[.ref l,.int 0 0] }).objs.size=s.heap.objs.size+1:=ZV ..;show _/\_;rw[z1];have he:=Zf (s.heap.push { cls:=.type "tuple_iterator",data:=.fields #[.ref l,.int 0 0] }) (o:={ cls:=.type "enumerate",data:=.fields #[.none,.bool false,.ref s.heap.objs.size,rawInt 0,.none,.none] }) rfl;rw[z1] at he;exact⟨⟨_,he,rfl⟩,q _ he ⟨_,Zc _ (Zf _ rfl),rfl,rfl⟩ λb o x=>Zc _ (Zc _ x)⟩
end
end EnumT
namespace L2
open PySem PySem.Spec PyProof.Rows
def Ite (K:PySem.W.Frag) (a:Addr):It:=
 ⟨λi H=>∃xs x,SqT K H a xs/\xs[i]?=some x,λi H y H'=>∃p x,H p=none/\(∀xs,SqT K H a xs->xs[i]?=some x)/\H'=upd H p (.tup [.int i,x])/\y=.ref p,λi H=>∃xs,SqT K H a xs/\xs.length<=i⟩
theorem qX9 {h:Heap}{o o':Obj}{b:Addr}(e:(h.push o).get? b=some o') (jA:b<h.objs.size):h.get? b=some o':=by
 unfold Heap.get? Heap.push at *;simp only[Array.getElem?_push] at e;rw[Zk (Zp jA)] at e;exact e
theorem qP7 {P:Program}{w:World}{K:PySem.W.Frag}{elts:List Expr}{x1:Nat}{tpos:Pos}(a e it:Addr) (jF:e≠it) :
  Turn P w K (.Tuple elts x1 tpos) (Ite K a) [e,it] e (λi h=>(∃old,IsEnum h e it i old)/\h.IsTupleIter it a i) where
 mem:=by simp
 obj:=λi h st b hb=>by
  rcases Zt.mp hb with rfl|hb
  ·obtain⟨⟨old,z⟩,_⟩:=st;exact⟨_,z,λv q=>by
    have q':Data.fields _=Data.cell v:=q;cases q'⟩
  ·have:b=it:=by simpa using hb
   subst this;obtain⟨_,o,z,_,d⟩:=st;exact⟨o,z,λv q=>by rw[d] at q;cases q⟩
 keep:=λi h h' st k=>by
  obtain⟨⟨old,z⟩,st2⟩:=st;exact⟨⟨old,k e (by simp) _ z⟩,st2.at λo q=>k it (by simp) o q⟩
 item:=by
  intro X hP hw hK hc i j8 s σ H E I hf st hg;subst hP hw hK;obtain⟨⟨old,he⟩,st2⟩:=st;obtain⟨xs,x,hq,hx⟩:=hg;obtain⟨its,rv,p,hz⟩:=I.tuple hq;obtain⟨u,hu,ru⟩:=rv.get hx;obtain⟨e0,e1,e2,e3,e4,e5⟩:=hf e (by simp);obtain⟨f0,f1,f2,f3,f4,f5⟩:=hf it (by simp);refine EnumT.next_pair he jF st2 (show s.heap.IsTuple a its.toArray from p) (x:=u) (by simpa using hu) λh1 h' sb ho st3 ht kp=>?_;refine⟨_,rfl,wpAny_letOwnedTupleGo_enum ho λh2 vM sb2=>?_⟩;have elt:e<s.heap.objs.size:=Zi he;have ilt:it<s.heap.objs.size:=by obtain⟨o,z,_⟩:=st2;exact Zi z
  have fresh:H s.heap.objs.size=none:=I.hok.fresh (Ze _);have z1:h1.objs.size=s.heap.objs.size:=sb.1;have J0:Inv X j8 σ (upd H s.heap.objs.size (.tup [.int i,x])) { s with heap:=s.heap.push { cls:=.type "tuple",data:=.seq #[.int i s.toks,u] },toks:=s.toks+1 }:=
   I.laid (λb o q=>Zc _ q) (Ze _) ⟨by show 2<=sizeLine;decide,[.int i s.toks,u],.cons ⟨_,rfl⟩ (.cons ru .nil),_,Zf _ rfl,rfl,⟨_,rfl⟩,rfl⟩
  have ne1:(upd H s.heap.objs.size (.tup [.int i,x])) it=none:=by rw[qb9 (Zp ilt)];exact f0
  have ne2:(upd H s.heap.objs.size (.tup [.int i,x])) e=none:=by rw[qb9 (Zp elt)];exact e0
  have J1:=J0.turned (it:=it) (h':=h1.push { cls:=.type "tuple",data:=.seq #[.int i s.toks,u] }) (t':=s.toks+1) (λb o hb q=>by
    have q:(s.heap.push { cls:=.type "tuple",data:=.seq #[.int i s.toks,u] }).get? b=some o:=q;by_cases jA:b<s.heap.objs.size
    ·have q':s.heap.get? b=some o:=qX9 q jA;exact Zc _ ((sb.2 b hb).trans q')
    ·have vI:b<s.heap.objs.size+1:=by have:=Zi q;rw[ZV] at this;exact this
     have eb:b=s.heap.objs.size:=V4 (Nat.le_of_lt_succ vI) (VP jA);subst eb;rw[Zf _ rfl] at q;cases q;have:=Zf h1 (o:={ cls:=.type "tuple",data:=.seq #[.int i s.toks,u] }) rfl;rw[z1] at this;exact this) ne1 f1 f3 f4 f5
  have J2:=J1.turned (it:=e) (h':=h') (t':=s.toks+1) (λb o hb q=>by
    have q:(h1.push { cls:=.type "tuple",data:=.seq #[.int i s.toks,u] }).get? b=some o:=q;by_cases jA:b<s.heap.objs.size
    ·have q':h1.get? b=some o:=qX9 q (by rw[z1];exact jA);exact kp b o hb q'
    ·have vI:b<s.heap.objs.size+1:=by have:=Zi q;rw[ZV,z1] at this;exact this
     have eb:b=s.heap.objs.size:=V4 (Nat.le_of_lt_succ vI) (VP jA);subst eb;have:=Zf h1 (o:={ cls:=.type "tuple",data:=.seq #[.int i s.toks,u] }) rfl;rw[z1] at this;rw[this] at q;cases q;exact ht) ne2 e1 e3 e4 e5
  have J3:=J2.turned (it:=e) (h':=h2) (t':=s.toks+1) (λb o hb q=>(sb2.2 b hb).trans q) ne2 e1 e3 e4 e5;refine⟨.ref s.heap.objs.size,_,J3,rfl,⟨_,x,fresh,λys hy=>by rw[I.tuple_inj hy hq];exact hx,rfl,rfl⟩,⟨⟨u,by
   have:(((i+1:Nat)):Int)=(i:Int)+1:=by lia
   rw[this];exact vM⟩,st3.at λo q=>(sb2.2 it (XC jF)).trans q⟩,λb hb=>?_⟩
  rcases Zt.mp hb with rfl|hb
  ·exact ne2
  ·have:b=it:=by simpa using hb
   subst this;exact ne1
 done:=by
  intro X hP hw hK hc i j8 s σ H E I hf st hg;subst hP hw hK;obtain⟨⟨old,he⟩,st2⟩:=st;obtain⟨xs,hq,hx⟩:=hg;obtain⟨its,rv,p,hz⟩:=I.tuple hq;obtain⟨f0,f1,f2,f3,f4,f5⟩:=hf it (by simp);have hl:=rv.length;exact EnumT.next_end (I.ok.hd hc) he st2 (show s.heap.IsTuple a its.toArray from p) (by simp;lia) λh' eb=>⟨rfl,I.turned (t':=s.toks) (λb o hb e=>eb b o hb e) f0 f1 f3 f4 f5⟩
 self:=λ_ _ _ _ _ st h=>by
  obtain⟨⟨old,he⟩,_⟩:=st;exact wpAny_pyIter_enum he h
section
variable {X:Cx}{elts:List Expr}{x1:Nat}{tpos:Pos}
def xs0 (K:PySem.W.Frag) (ta:TA):TI:=λσ H R=>ta σ H λvs H1=>∃a,vs=[.ref a]/\(∃xs,SqT K H1 a xs)/\R (Ite K a) H1
theorem qL4 {e:Expr}{ta:TA}{p pos:Pos}(hg:Gl X "enumerate") (hm:X.mg "enumerate" = none) (ha:PA X [e] ta) (hs:starEach [e] X.env=[(false,eval e X.env)]:=by rfl):PI X (.Tuple elts x1 tpos) (.Call (.Name "enumerate" p) [e] [] pos) (xs0 X.K ta):=by
 intro j8 s σ H R I h;refine Call_ (qw7 I hg hm PyProof.Rows.boot_enumerate (Xi (thn (ha pos j8 s σ H _ I h) λus s1 ⟨vs,H1,I1,r1,q1⟩=>?_) hs rfl));obtain⟨a,rfl,⟨xs,hq⟩,q⟩:=q1;obtain⟨u,rfl,ru⟩:=qf0 r1;cases ru;obtain⟨its,rv,pt,hz⟩:=I1.tuple hq;refine EnumT.call_new (show s1.heap.IsTuple a its.toArray from pt) λh' he st kp=>?_;refine wpAny_pyIter_enum he ?_;have J:Inv X j8 σ H1 { s1 with heap:=h' }:=I1.kept (t':=s1.toks) kp;refine⟨s1.heap.objs.size+1,[s1.heap.objs.size+1,s1.heap.objs.size],_,_,H1,rfl,J,qP7 a _ _ (Nat.succ_ne_self _),⟨⟨.none,he⟩,st⟩,λb hb=>?_,q⟩;rcases Zt.mp hb with rfl|hb
 ·exact I1.fpOk (Wf _) (I1.hok.fresh (Wf _))
 ·have:b=s1.heap.objs.size:=by simpa using hb
  subst this;exact I1.fpOk (Ze _) (I1.hok.fresh (Ze _))
end
section
variable {X:Cx}
def qb3 (X:Cx) (scope:Scope) (cl:List (Str×Addr)) (C:Addr) (ns:List Str) (fp:List Addr) (s₀:Shared) (H₀:Hp):Cx:=
 { X with N:=ns++X.N,s₀:=s₀,H₀:=H₀,env:=compEnvC scope cl C X.env,outer:=X.stack,stack:=X.stack,ex:=fp,fn:=λ_=>false,pn:=[],xe:=λ_ _=>False }
def qn1 (n:Nat) (wi:TI) (g:TG) (tt:TT) (te:TE):TE:=λσ H Q=>wi σ H λJ H1=>∀D,H1 D=none->∃W:Nat->Nat->List V->Hp->Prop,(∃m,W 0 m [] (upd H1 D (.lst []))) /\
 ∀i m xs H2,W i m xs H2->H2 D=some (.lst xs)/\xs.length<sizeLine/\((J.stop i H2/\Q (.ref D) H2)\/(J.go i H2/\∀y H3,J.yld i H2 y H3->∀os:St,os.length=n ->
  g y (os++σ) H3 λσ4 H4=>tt σ4 H4 λb H5=>if b=true then te σ4 H5 λv H6=>H6 D=some (.lst xs)/\∃m',m'<m/\W (i+1) m' (xs++[v]) (upd H6 D (.lst (xs++[v]))) else ∃m',m'<m/\W (i+1) m' xs H5))
theorem qD6 {prog:Program}{w:World}{A:Around}{R:Result->Shared->Prop}{s:Shared}{elt target iter:Expr}{ifs:List Expr}{scope:Scope}{pos:Pos}{it acc:Value}{env:Env}(T:Sem Bool)
  (hT:compTurn (.ListComp elt [⟨target,iter,ifs,0⟩] scope pos) 0 it acc env=(standAt iter.pos >>= λ_=>pyNext it >>= λr=>match r with
   |none=>pure (.done .next)
   |some v=>letOwnedTupleGo target it v >>= λ_=>assign target env v >>= λ_=>T >>= λok=>(if ok=true then (eval elt env >>= λx=>call (.builtin "list.append") [acc,x] >>= λ_=>pure ()) else pure ()) >>= λ_=>
     again (.compLoop (.ListComp elt [⟨target,iter,ifs,0⟩] scope pos) 0 it acc env)))
  (I:Nat->Shared->Prop)
  (turn:∀n s,I n s->wpAny (model prog w) A (pyNext it) (λr s₁=>match r with
   |none=>R (.ok .next) s₁
   |some v=>wpAny (model prog w) A (letOwnedTupleGo target it v) (λ_ s₁'=>wpAny (model prog w) A (assign target env v) (λ_ s₂=>wpAny (model prog w) A T (λok s₃=>
     if ok=true then wpAny (model prog w) A (eval elt env) (λx s₄=>wpAny (model prog w) A (call (.builtin "list.append") [acc,x]) (λ_ s₅=>∃m,m<n/\I m s₅) (λ_ _=>False) s₄) (λ_ _=>False) s₃
     else ∃m,m<n/\I m s₃) (λ_ _=>False) s₂) (λ_ _=>False) s₁') (λ_ _=>False) s₁) (λ_ _=>False) s)
  (n:Nat) (h:I n s):codeAny (model prog w) A (.compLoop (.ListComp elt [⟨target,iter,ifs,0⟩] scope pos) 0 it acc env) R s:=by
 refine codeAny_loop rfl I (λn s hI=>?_) n h;show wpAny _ A ((compTurn (.ListComp elt [⟨target,iter,ifs,0⟩] scope pos) 0 it acc env).onRaise (λx=>do noteFrame x env;theTreesLotGoes x)) _ _ s;refine wpAny_noted ?_;rw[hT];refine Za (wpAny_standAt (Za (YF (turn n s hI) (λr s₁ h₁=>?_) λ_ _ h'=>h'.elim)));cases r with
 |none=>exact Zb h₁
 |some v=>
  refine Za (YF h₁ (λ_ s₁' h₁'=>?_) λ_ _ h'=>h'.elim);refine Za (YF h₁' (λ_ s₂ h₂=>Za (YF h₂ (λok s₃ h₃=>?_) λ_ _ h'=>h'.elim)) λ_ _ h'=>h'.elim);cases ok with
  |true=>
   rw[Zx rfl] at h₃;simp only[Xq];exact Za (Za (YF h₃ (λx s₄ h₄=>Za (YF h₄ (λ_ s₅ h₅=>Zb (Zb ⟨rfl,h₅⟩)) λ_ _ h'=>h'.elim)) λ_ _ h'=>h'.elim))
  |false=>
   rw[Zk Zs] at h₃;simp only[Zq,ZZ];exact Za (Zb (Zb ⟨rfl,h₃⟩))
theorem qI7 (elt target iter:Expr) (scope:Scope) (pos:Pos) (it acc:Value) (env:Env):compTurn (.ListComp elt [⟨target,iter,[],0⟩] scope pos) 0 it acc env=(standAt iter.pos >>= λ_=>pyNext it >>= λr=>match r with
   |none=>pure (.done .next)
   |some v=>letOwnedTupleGo target it v >>= λ_=>assign target env v >>= λ_=>(pure true:Sem Bool) >>= λok=>(if ok=true then (eval elt env >>= λx=>call (.builtin "list.append") [acc,x] >>= λ_=>pure ()) else pure ()) >>= λ_=>
     again (.compLoop (.ListComp elt [⟨target,iter,[],0⟩] scope pos) 0 it acc env)):=by
 rw[compTurn_list1];congr 1
theorem qy6 (elt target iter c:Expr) (scope:Scope) (pos:Pos) (it acc:Value) (env:Env):compTurn (.ListComp elt [⟨target,iter,[c],0⟩] scope pos) 0 it acc env=(standAt iter.pos >>= λ_=>pyNext it >>= λr=>match r with
   |none=>pure (.done .next)
   |some v=>letOwnedTupleGo target it v >>= λ_=>assign target env v >>= λ_=>isTrue c env (eval c env) >>= λok=>(if ok=true then (eval elt env >>= λx=>call (.builtin "list.append") [acc,x] >>= λ_=>pure ()) else pure ()) >>= λ_=>
     again (.compLoop (.ListComp elt [⟨target,iter,[c],0⟩] scope pos) 0 it acc env)):=by
 rw[compTurn_list];refine V1 λ_=>V1 λr=>?_;cases r with
 |none=>rfl
 |some v=>
  refine V1 λ_=>V1 λ_=>?_;simp only[V3,List.forIn_nil,Xq,bind_assoc,Vk];refine V1 λok=>?_;cases ok<;>simp
theorem qt5 {j8:List (Addr×Obj)}{σ:St}{H:Hp}{s:Shared}{h':Heap}{tk:Nat}{scope:Scope}{cl:List (Str×Addr)}{C:Addr}{nn:List Str}{fp:List Addr}{m:Str->Option Value}
  (I:Inv X j8 σ H s) (hC:C=s.heap.objs.size) (keep:∀b o,s.heap.get? b=some o->h'.get? b=some o) (ns:h'.Ns C m) (wH:∀b∈fp,FpOk X j8 H b) (hfs:∀b∈fp,b<s.heap.objs.size)
  (jD:scope.kind=.function) (jB:∀y∈scope.names,y.2≠.cell) (jG:∀y∈X.N,scope.names.lookup y≠some .local)
  (jR:∀y c,cl.lookup y=some c->X.env.cells.lookup y=some c) (hcl2:∀p∈scope.names,p.2=.free->(cl.lookup p.1).isSome=true)
  (jQ:∀p∈scope.names,p.2=.free->Vis X.env.scope p.1/\X.env.scope.names.lookup p.1≠some .local) :
  Inv (qb3 X scope cl C nn fp s H) [] ((nn.map λ_=>none)++σ) H { s with heap:=h',toks:=tk }:=by
 have cells:∀y c,cl.lookup y=some c->∃v,s.heap.IsCell c v:=λy c e=>I.cell y c (jR y c e);have celllt:∀y c,cl.lookup y=some c->c<s.heap.objs.size:=λy c e=>by
  obtain⟨v,q⟩:=cells y c e;exact q.lt
 have cellk:∀c v,s.heap.IsCell c v->h'.IsCell c v:=λc v ⟨o,e,d⟩=>⟨o,keep c o e,d⟩;have stkl:∀b∈frs X.stack,∃o,s.heap.get? b=some o:=λb hb=>by
  rcases Zt.mp (I.stkSub b hb) with e|hb
  ·obtain⟨_,⟨o,_,_,ho,_⟩,_⟩:=I.loc;exact⟨o,by rw[e];exact ho⟩
  ·obtain⟨_,o,ho,_⟩:=I.funs.mem hb;exact⟨o,ho⟩
 refine⟨⟨I.ok.mod,jD,I.ok.glob,I.ok.blt,Vg hC.symm,λy z c h1 h2=>I.ok.inj y z c (jR y c h1) (jR z c h2),λy hy=>?_,λy c h _=>Bool.noConfusion h,I.ok.hd,I.ok.frames,.inl rfl,λb hb=>⟨?_,λy c e z=>?_⟩,I.bs,
  ZF I.ok.bsz I.sz,λb o e hb=>?_,λb hb hf=>?_,I.stack,I.stkFree⟩,rfl,I.bare,Un.kept keep,⟨m,ns,λi y v h1 h2 h3=>?_⟩,λy c e=>?_,?_,λy c e=>?_,λp hp=>absurd hp (by simp[qb3]),I.hok.kept keep,?_⟩
 ·
  have hy:(relabel scope X.env).names.lookup y=some .cell\/(relabel scope X.env).names.lookup y=some .free:=hy;obtain⟨p,hp,e1,e2⟩:∃p∈scope.names,p.1=y/\p.2=.free:=by
   rcases hy with hy|hy
   ·exact qf8 hy jB (.inl rfl)
   ·exact qf8 hy jB (.inr rfl)
  obtain⟨c,e⟩:=Ws.mp (hcl2 p hp e2);exact⟨c,by rw[<- e1];exact e⟩
 ·show b≠C;rw[hC];exact Zp (hfs b hb)
 ·exact (wH b hb).2.2.2.2.1 y c (jR y c e) z
 ·rcases (wH b hb).2.2.2.1 with z|z
  ·exact I.ok.noex b o e z
  ·exact absurd (ZP (Zi (I.ok.bs b o e).1) z) (Yc _)
 ·rcases Zt.mp (I.stkSub b hf) with z|z
  ·exact (wH b hb).2.1 z
  ·exact (wH b hb).2.2.1 z
 ·
  by_cases jU:i<nn.length
  ·rw[ZD (by simpa using jU)] at h2;simp at h2
  ·obtain⟨j,rfl⟩:∃j,i=nn.length+j:=⟨i-nn.length,by lia⟩;have h1:X.N[j]?=some y:=by
    have h1:(nn++X.N)[nn.length+j]?=some y:=h1;rw[ZH (Yr _ _),Nat.add_sub_cancel_left] at h1;exact h1
   have h2:σ[j]?=some (some v):=by
    rw[ZH (by simp)] at h2;simpa using h2
   have h3:(relabel scope X.env).names.lookup y=some .local\/(relabel scope X.env).names.lookup y=some .cell\/(relabel scope X.env).names.lookup y=some .free:=h3;rcases h3 with h3|h3
   ·exact absurd (qm7 h3) (jG y (Zr h1))
   ·obtain⟨p,hp,e1,e2⟩:∃p∈scope.names,p.1=y/\p.2=.free:=by
     rcases h3 with h3|h3
     ·exact qf8 h3 jB (.inl rfl)
     ·exact qf8 h3 jB (.inr rfl)
    obtain⟨hv,vW⟩:=jQ p hp e2;rw[e1] at hv vW;obtain⟨m0,_,hl0⟩:=I.loc;obtain⟨u,ru,lk⟩:=hl0 j y v h1 h2 hv;rcases lk with ⟨lk,_⟩|⟨_,c,hc,hcv⟩
    ·exact absurd lk vW
    ·obtain⟨c',e'⟩:=Ws.mp (hcl2 p hp e2);rw[e1] at e';have:=jR y c' e';rw[hc] at this;cases this;refine⟨u,ru,.inr ⟨h3,c,e',cellk c _ hcv⟩⟩
 ·obtain⟨v,q⟩:=cells y c e;exact⟨v,cellk c v q⟩
 ·show H C=none;exact I.hok.fresh (Vg hC.symm)
 ·exact I.freeC y c (jR y c e)
 ·show ((nn.map λ_=>none)++σ).length=(nn++X.N).length;simp[I.len]
theorem qD7 {j8:List (Addr×Obj)}{σ σ':St}{H H':Hp}{s s':Shared}{h':Heap}{scope:Scope}{cl:List (Str×Addr)}{C:Addr}{nn:List Str}{fp:List Addr}
  (I:Inv X j8 σ H s) (hC:C=s.heap.objs.size) (wH:∀b∈fp,FpOk X j8 H b) (J:Inv (qb3 X scope cl C nn fp s H) [] σ' H' s') (sb:Heap.SameBut C s'.heap h'):Inv X j8 σ H' { s' with heap:=h' }:=by
 have ne:∀b o,s.heap.get? b=some o->b≠C:=λb o e=>by rw[hC];exact Zp (Zi e)
 have B:Un (frs X.stack) fp H H' s.heap s'.heap:=J.base;have U:Un (frs X.stack) fp H H' s.heap h':=
  ⟨λb o e n hb hx=>(sb.2 b (ne b o e)).trans (B.keep b o e n hb hx),λb o e n hb hx=>by
   obtain⟨sl,q⟩:=B.slot b o e n hb hx;exact⟨sl,(sb.2 b (ne b o e)).trans q⟩,B.free,λb o e hx=>by
   obtain⟨o',q⟩:=B.there b o e hx;exact⟨o',(sb.2 b (ne b o e)).trans q⟩,B.tups,B.frzs,B.tbls⟩
 have hf:H' C=none:=J.free;have K:HOk X.prog X.w H' h':=λb o e=>(J.hok b o e).stay (λc u hc q=>(sb.2 c (by
  rintro rfl;rcases hc with z|z
  ·rw[z,e] at hf;cases hf
  ·rw[hf] at z;cases z)).trans q) (λ_ q=>q) λ_ _ q=>q
 refine I.call' (s':={ s' with heap:=h' }) (ch:=fp) J.os U K J.bare λb hb=>?_;obtain⟨_,h2,_,h4,h5,h6⟩:=wH b hb;exact⟨h4,h2,h5,h6⟩
theorem qr1 {nn:List Str}{tg:Expr}{ifs:List Expr}{pos:Pos}{elt iter:Expr}{scope:Scope}{wi:TI}{g:TG}{tt:TT}{te:TE}(T:Env->Sem Bool) (hc:X.calm=true) (hi:PI X tg iter wi)
  (hturn:∀it acc env,compTurn (.ListComp elt [⟨tg,iter,ifs,0⟩] scope pos) 0 it acc env=(standAt iter.pos >>= λ_=>pyNext it >>= λr=>match r with
   |none=>pure (.done .next)
   |some v=>letOwnedTupleGo tg it v >>= λ_=>assign tg env v >>= λ_=>T env >>= λok=>(if ok=true then (eval elt env >>= λx=>call (.builtin "list.append") [acc,x] >>= λ_=>pure ()) else pure ()) >>= λ_=>
     again (.compLoop (.ListComp elt [⟨tg,iter,ifs,0⟩] scope pos) 0 it acc env)))
  (hgt:∀cl C fp s₀ H₀,PG (qb3 X scope cl C nn fp s₀ H₀) tg g)
  (hloc2:∀y (os σ:St) H R,os.length=nn.length->g y (os++σ) H R->g y (os++σ) H λσ' H'=>(∃os':St,os'.length=nn.length/\σ'=os'++σ)/\R σ' H')
  (htt:∀cl C fp s₀ H₀ (j8:List (Addr×Obj)) (s:Shared) (σ:St) (H:Hp) (Q:Bool->Hp->Prop),Inv (qb3 X scope cl C nn fp s₀ H₀) j8 σ H s->tt σ H Q->wpAny (model X.prog X.w) X.A (T (compEnvC scope cl C X.env)) (TP (qb3 X scope cl C nn fp s₀ H₀) j8 σ Q) (λ_ _=>False) s)
  (he:∀cl C fp s₀ H₀,PE (qb3 X scope cl C nn fp s₀ H₀) elt te)
  (jD:scope.kind=.function) (jB:∀y∈scope.names,y.2≠.cell) (jC:∀y∈scope.names,y.2=.local->scope.names.lookup y.1=some .local)
  (jG:∀y∈X.N,scope.names.lookup y≠some .local) (jQ:∀p∈scope.names,p.2=.free->Vis X.env.scope p.1/\X.env.scope.names.lookup p.1≠some .local)
  (hs:∀x,foldedSetIterable iter X.env x=pure x):PE X (.ListComp elt [⟨tg,iter,ifs,0⟩] scope pos) (qn1 nn.length wi g tt te):=by
 intro j8 s σ H Q I h;rw[eval_ListComp];obtain⟨cl,hclos,jR,hcl2⟩:=qj1 (scope:=scope) (env:=X.env) (λp hp hk=>by
  obtain⟨hv,hn⟩:=jQ p hp hk;refine I.ok.has p.1 ?_;rcases hv with z|z
  ·exact absurd z hn
  ·exact z)
 refine wpAny_comprehension_free (use:=none) rfl hs hclos jD jC (thn (hi j8 s σ H _ I h) λv s1 h1=>thn h1 λitv s2 h2=>?_);obtain⟨it,fp,tn,J,H2,rfl,I2,T',st2,f2,q⟩:=h2;have hD:H2 s2.heap.objs.size=none:=I2.hok.fresh (Ze _);obtain⟨W,⟨m0,w0⟩,turn⟩:=q _ hD;refine ZK (wpAny_newFunctionEnv jB (by intro y hy;simp at hy) (λh₁ hns₁ hsb₁=>?_) jD);dsimp only at hns₁ hsb₁ ⊢;have I3:Inv X j8 σ (upd H2 s2.heap.objs.size (.lst [])) { s2 with heap:=s2.heap.push { cls:=.type "list",dict:=none,data:=.seq ([]:List Value).toArray } }:=
  I2.laid (t':=s2.toks) (λb u e=>Zc _ e) (Ze _) ⟨Zv _,[],0,.nil,Zf _ rfl⟩
 have fpn:∀b∈fp,b≠s2.heap.objs.size:=λb hb=>by
  obtain⟨o,e,_⟩:=T'.obj 0 s2.heap st2 b hb;exact Zp (Zi e)
 have fplt:∀b∈fp,b<(s2.heap.push { cls:=.type "list",dict:=none,data:=.seq ([]:List Value).toArray }).objs.size:=λb hb=>by
  obtain⟨o,e,_⟩:=T'.obj 0 s2.heap st2 b hb;rw[ZV];exact ZR (Zi e)
 have f3:∀b∈fp,FpOk X j8 (upd H2 s2.heap.objs.size (.lst [])) b:=λb hb=>⟨by rw[qb9 (fpn b hb)];exact (f2 b hb).1,(f2 b hb).2⟩;generalize hg2:s2.heap.push { cls:=.type "list",dict:=none,data:=.seq ([]:List Value).toArray }=g2 at hns₁ hsb₁ I3 fplt ⊢;have keep:∀b o,g2.get? b=some o->h₁.get? b=some o:=λb o e=>(hsb₁.2 b (Zp (Zi e))).trans (Zc _ e);have J0:=qt5 (nn:=nn) (tk:=s2.toks+([]:List (Str×Value)).length) I3 (C:=g2.objs.size) rfl keep hns₁ f3 fplt jD jB jG jR hcl2 jQ;generalize hY:qb3 X scope cl g2.objs.size nn fp { s2 with heap:=g2 } (upd H2 s2.heap.objs.size (.lst []))=Y at J0;have eY:PE Y elt te:=by rw[<- hY];exact he _ _ _ _ _
 have eG:PG Y tg g:=by rw[<- hY];exact hgt _ _ _ _ _
 have eT:∀(j8:List (Addr×Obj)) (s:Shared) (σ:St) (H:Hp) (Q:Bool->Hp->Prop),Inv Y j8 σ H s->tt σ H Q->wpAny (model Y.prog Y.w) Y.A (T Y.env) (TP Y j8 σ Q) Y.xe s:=by rw[<- hY];exact htt _ _ _ _ _
 have eP:Y.prog=X.prog:=by rw[<- hY];rfl
 have eW:Y.w=X.w:=by rw[<- hY];rfl
 have eK:Y.K=X.K:=by rw[<- hY];rfl
 have eA:Y.A=X.A:=by rw[<- hY];rfl
 have eC:Y.calm=true:=by rw[<- hY];exact hc
 have eE:Y.env=compEnvC scope cl g2.objs.size X.env:=by rw[<- hY];rfl
 have eX:Y.xe=λ_ _=>False:=by rw[<- hY];rfl
 have eN:Y.N=nn++X.N:=by rw[<- hY];rfl
 have eEx:Y.ex=fp:=by rw[<- hY];rfl
 have eFs:Y.fs=frs X.stack:=by rw[<- hY];rfl
 have ePn:Y.pn=[]:=by rw[<- hY];rfl
 have fpY:∀{H':Hp},(∀b∈fp,H' b=none)->∀b∈fp,FpOk Y [] H' b:=λhn b hb=>by
  have g:=f3 b hb;refine⟨hn b hb,?_,?_,.inl (by rw[eEx];exact hb),?_,λp hp=>absurd hp (by rw[ePn];simp)⟩
  ·rw[eE];exact Zp (fplt b hb)
  ·rw[eFs];intro z;rcases Zt.mp (I3.stkSub b z) with z|z
   ·exact g.2.1 z
   ·exact g.2.2.1 z
  ·rw[eE];exact λy c e=>g.2.2.2.2.1 y c (jR y c e)
 have loop:∀s₃:Shared,s₃={ s2 with heap:=h₁,toks:=s2.toks+([]:List (Str×Value)).length } ->
   codeAny (model X.prog X.w) X.A (.compLoop (.ListComp elt [⟨tg,iter,ifs,0⟩] scope pos) 0 (.ref it) (.ref s2.heap.objs.size) (compEnvC scope cl g2.objs.size X.env))
    (compPost (model X.prog X.w) X.A X.xe none (EP X j8 σ Q) (.ref s2.heap.objs.size) g2.objs.size) s₃:=by
  rintro s₃ rfl;refine qD6 (T (compEnvC scope cl g2.objs.size X.env)) (hturn _ _ _) (λn s'=>∃i xs H' os,os.length=nn.length/\Inv Y [] (os++σ) H' s'/\tn i s'.heap/\(∀b∈fp,H' b=none)/\W i n xs H') ?_ m0
   ⟨0,[],_,nn.map λ_=>none,by simp,J0,T'.keep 0 _ _ st2 (λb hb o e=>keep b o (by rw[<- hg2];exact Zc _ e)),λb hb=>(f3 b hb).1,w0⟩
  rintro n s3 ⟨i,xs,H3,os,vE,I4,st3,fr3,w3⟩;obtain⟨hDx,hlx,alt⟩:=turn i n xs H3 w3;rcases alt with ⟨stop,qn⟩|⟨go,step⟩
  ·have D1:=T'.done Y eP eW eK eC i [] s3 _ H3 (λ_ _=>False) I4 (fpY fr3) st3 stop;rw[eA] at D1;refine thn D1 λr s4 ⟨hr,I5⟩=>?_;subst hr;obtain⟨m4,kA,_⟩:=id I5.loc;rw[eE] at kA;refine⟨m4,kA,λh' sb=>⟨.ref _,H3,?_,rfl,qn⟩⟩;rw[<- hY] at I5;exact qD7 I3 rfl f3 I5 sb
  ·have G1:=T'.item Y eP eW eK eC i [] s3 _ H3 (λ_ _=>False) I4 (fpY fr3) st3 go;rw[eA] at G1;refine thn G1 λr s4 ⟨u,hr,h4⟩=>?_;subst hr;refine thn h4 λ_ s5 ⟨y,H5,I5,r5,y5,st5,fr5⟩=>?_;have I5':=I5.pinned (fpY fr5) (T'.obj _ _ st5);have S1:=eG _ s5 _ H5 y u _ I5' r5 (hloc2 y os σ H5 _ vE (step y _ y5 os vE));rw[eP,eW,eA,eE,eX] at S1;refine thn S1 λ_ s6 ⟨σ6,H6,I6,⟨os6,hos6,e6⟩,q6⟩=>?_;subst e6;have S2:=eT _ s6 _ _ _ I6 q6;rw[eP,eW,eA,eE,eX] at S2;refine thn S2 λok s7 ⟨H7,I7,q7⟩=>?_;have back:∀{s9:Shared}{H9:Hp}{m':Nat}{zs:List V},Inv Y ([]++qw9 fp s5.heap) (os6++σ) H9 s9->m'<n->W (i+1) m' zs H9->∃m,m<n/\∃i xs H' os,os.length=nn.length/\Inv Y [] (os++σ) H' s9/\tn i s9.heap/\(∀b∈fp,H' b=none)/\W i m xs H':=λ{s9 H9 m' zs} I9 hm' w9=>by
    have pin:∀b∈fp,∀ob,s5.heap.get? b=some ob->s9.heap.get? b=some ob/\H9 b=none:=λb hb ob e=>by
     have z:=I9.pin (b,ob) (ZS _ (ZS _ (qh0 hb e)));exact⟨z.1,z.2.1⟩
    refine⟨m',hm',i+1,zs,H9,os6,hos6,I9.unpinned,T'.keep _ _ _ st5 (λb hb ob e=>(pin b hb ob e).1),λb hb=>?_,w9⟩;obtain⟨ob,e,_⟩:=T'.obj _ _ st5 b hb;exact (pin b hb ob e).2
   cases ok with
   |true=>
    rw[Zx rfl] at q7;rw[Zx rfl];have S3:=eY _ s7 _ _ _ I7 q7;rw[eP,eW,eA,eE,eX] at S3;refine thn S3 λxv s8 ⟨v8,H8,I8,r8,hD8,m',hm',w8⟩=>?_;have S4:=qh1 (X:=Y) _ s8 _ H8 (.ref s2.heap.objs.size) [v8] (.ref s2.heap.objs.size) [xv] (λ_ H9=>H9=upd H8 s2.heap.objs.size (.lst (xs++[v8]))) I8 rfl (.cons r8 .nil) ⟨_,xs,v8,rfl,rfl,hD8,hlx,rfl⟩;rw[eP,eW,eA,eX] at S4;refine thn S4 λ_ s9 ⟨v9,H9,I9,_,e9⟩=>?_;subst e9;exact back I9 hm' w8
   |false=>
    rw[Zk Zs] at q7;rw[Zk Zs];obtain⟨m',hm',w8⟩:=q7;exact back I7 hm' w8
 exact codeAny_compStart_list (loop _ rfl) (T'.self _ 0 _ _ _ (T'.keep 0 _ _ st2 (λb hb o e=>keep b o (by rw[<- hg2];exact Zc _ e))) (loop _ rfl))
theorem qh2 {scope sc:Scope}{N:List Str}(kX:X.N=N) (k6:X.env.scope=sc)
  (jB:scope.names.all (λy=>y.2 != .cell)=true) (jC:scope.names.all (λy=>y.2 != .local||scope.names.lookup y.1==some .local)=true) (jG:N.all (λy=>scope.names.lookup y != some .local)=true)
  (jQ:scope.names.all (λp=>p.2 != .free||(sc.names.lookup p.1==some .cell||sc.names.lookup p.1==some .free))=true) :
  (∀y∈scope.names,y.2≠.cell)/\(∀y∈scope.names,y.2=.local->scope.names.lookup y.1=some .local)/\(∀y∈X.N,scope.names.lookup y≠some .local)/\(∀p∈scope.names,p.2=.free->Vis X.env.scope p.1/\X.env.scope.names.lookup p.1≠some .local):=by
 refine⟨λy hy=>?_,λy hy hl=>?_,λy hy=>?_,λp hp hk=>?_⟩
 ·have:=YN.mp jB y hy;simpa using this
 ·have:=YN.mp jC y hy;simpa [hl] using this
 ·have:=YN.mp jG y (by rw[<- kX];exact hy);simpa using this
 ·have:=YN.mp jQ p hp;rw[hk] at this;have z:sc.names.lookup p.1=some .cell\/sc.names.lookup p.1=some .free:=by simpa using this
  rw[k6];refine⟨.inr z,λq=>?_⟩;rcases z with z|z<;>(rw[z] at q;cases q)
theorem loc1 {y:V}{os σ:St}{H:Hp}{R:St->Hp->Prop}(ho:os.length=1) (h:qd1 0 y (os++σ) H R):qd1 0 y (os++σ) H λσ' H'=>(∃os':St,os'.length=1/\σ'=os'++σ)/\R σ' H':=by
 match os,ho with
 |[o],_=>exact⟨⟨[some y],rfl,rfl⟩,h⟩
theorem loc2 {K:PySem.W.Frag}{y:V}{os σ:St}{H:Hp}{R:St->Hp->Prop}(ho:os.length=2) (h:gTup K 2 (qf3 (qd1 0) (qf3 (qd1 1) gNil)) y (os++σ) H R) :
  gTup K 2 (qf3 (qd1 0) (qf3 (qd1 1) gNil)) y (os++σ) H λσ' H'=>(∃os':St,os'.length=2/\σ'=os'++σ)/\R σ' H':=by
 obtain⟨o1,o2,rfl⟩:=L2.os2 ho
 ·
  obtain⟨a,xs,e1,e2,e3,v,r,e4,v2,r2,e5,e6,q⟩:=h;exact⟨a,xs,e1,e2,e3,v,r,e4,v2,r2,e5,e6,⟨[some v,some v2],rfl,rfl⟩,q⟩
theorem qD8 {x:Str}{px pos:Pos}{elt iter c:Expr}{scope:Scope}{wi:TI}{tt:TT}{te:TE}(N:List Str) (sc:Scope) (kX:X.N=N) (k6:X.env.scope=sc) (hc:X.calm=true) (hN:X.N.Nodup) (hi:PI X (.Name x px) iter wi)
  (ht:∀cl C fp s₀ H₀,PT (qb3 X scope cl C [x] fp s₀ H₀) c tt) (he:∀cl C fp s₀ H₀,PE (qb3 X scope cl C [x] fp s₀ H₀) elt te)
  (jD:scope.kind=.function:=by rfl) (jB:scope.names.all (λy=>y.2 != .cell)=true:=by decide +kernel) (jC:scope.names.all (λy=>y.2 != .local||scope.names.lookup y.1==some .local)=true:=by decide +kernel)
  (hx:scope.names.lookup x=some .local:=by rfl) (jG:N.all (λy=>scope.names.lookup y != some .local)=true:=by decide +kernel)
  (jQ:scope.names.all (λp=>p.2 != .free||(sc.names.lookup p.1==some .cell||sc.names.lookup p.1==some .free))=true:=by decide +kernel)
  (hs:∀x,foldedSetIterable iter X.env x=pure x:=by intro _;rfl):PE X (.ListComp elt [⟨.Name x px,iter,[c],0⟩] scope pos) (qn1 1 wi (qd1 0) tt te):=by
 obtain⟨s1,s2,s3,s4⟩:=qh2 kX k6 jB jC jG jQ;refine qr1 (nn:=[x]) (λenv=>isTrue c env (eval c env)) hc hi (λit acc env=>qy6 elt _ iter c scope pos it acc env) (λcl C fp s₀ H₀=>?_) (λy os σ H R ho h=>loc1 ho h) (λcl C fp s₀ H₀ j8 s σ H Q I h=>ht cl C fp s₀ H₀ j8 s σ H Q I h) he jD s1 s2 s3 s4 hs;have l:(qb3 X scope cl C [x] fp s₀ H₀).env.scope.names.lookup x=some .local:=Yx hx;exact qh8 (i:=0) (YJ.mpr ⟨λz=>s3 x z hx,hN⟩) rfl (.inl l) (.inr l)
theorem xx7 {x y:Str}{p1 p2 tpos:Pos}{k:Nat}{scope:Scope}{cl:List (Str×Addr)}{C:Addr}{fp:List Addr}{s₀:Shared}{H₀:Hp}(hc:X.calm=true) (hN:X.N.Nodup) (hxy:x≠y) (s3:∀z∈X.N,scope.names.lookup z≠some .local) (hx:scope.names.lookup x=some .local) (hy:scope.names.lookup y=some .local) :
  PG (qb3 X scope cl C [x,y] fp s₀ H₀) (.Tuple [.Name x p1,.Name y p2] k tpos) (gTup X.K 2 (qf3 (qd1 0) (qf3 (qd1 1) gNil))):=by
 have lx:(qb3 X scope cl C [x,y] fp s₀ H₀).env.scope.names.lookup x=some .local:=Yx hx;have ly:(qb3 X scope cl C [x,y] fp s₀ H₀).env.scope.names.lookup y=some .local:=Yx hy;have nd:(qb3 X scope cl C [x,y] fp s₀ H₀).N.Nodup:=YJ.mpr ⟨λz=>by
  rcases Zt.mp z with z|z
  ·exact hxy z
  ·exact s3 x z hx,YJ.mpr ⟨λz=>s3 y z hy,hN⟩⟩
 exact qi3 (X:=qb3 X scope cl C [x,y] fp s₀ H₀) hc (qb1 (qh8 (i:=0) nd rfl (.inl lx) (.inr lx)) (qb1 (qh8 (i:=1) nd rfl (.inl ly) (.inr ly)) qe9))
def qP8:TT:=λ_ H Q=>Q true H
theorem qL5 {x y:Str}{p1 p2 tpos pos:Pos}{k:Nat}{elt iter:Expr}{scope:Scope}{wi:TI}{te:TE}(N:List Str) (sc:Scope) (kX:X.N=N) (k6:X.env.scope=sc) (hc:X.calm=true) (hN:X.N.Nodup) (hi:PI X (.Tuple [.Name x p1,.Name y p2] k tpos) iter wi)
  (he:∀cl C fp s₀ H₀,PE (qb3 X scope cl C [x,y] fp s₀ H₀) elt te) (hxy:x≠y:=by decide)
  (jD:scope.kind=.function:=by rfl) (jB:scope.names.all (λy=>y.2 != .cell)=true:=by decide +kernel) (jC:scope.names.all (λy=>y.2 != .local||scope.names.lookup y.1==some .local)=true:=by decide +kernel)
  (hx:scope.names.lookup x=some .local:=by rfl) (hy:scope.names.lookup y=some .local:=by rfl) (jG:N.all (λy=>scope.names.lookup y != some .local)=true:=by decide +kernel)
  (jQ:scope.names.all (λp=>p.2 != .free||(sc.names.lookup p.1==some .cell||sc.names.lookup p.1==some .free))=true:=by decide +kernel)
  (hs:∀x,foldedSetIterable iter X.env x=pure x:=by intro _;rfl):PE X (.ListComp elt [⟨.Tuple [.Name x p1,.Name y p2] k tpos,iter,[],0⟩] scope pos) (qn1 2 wi (gTup X.K 2 (qf3 (qd1 0) (qf3 (qd1 1) gNil))) qP8 te):=by
 obtain⟨s1,s2,s3,s4⟩:=qh2 kX k6 jB jC jG jQ;exact qr1 (nn:=[x,y]) (λ_=>pure true) hc hi (λit acc env=>qI7 elt _ iter scope pos it acc env) (λcl C fp s₀ H₀=>xx7 hc hN hxy s3 hx hy) (λy os σ H R ho h=>loc2 ho h) (λcl C fp s₀ H₀ j8 s σ H Q I h=>Zb ⟨H,I,h⟩) he jD s1 s2 s3 s4 hs
end
end L2
namespace L2
open PySem PySem.Spec PyProof.Rows PySem.W PySem.Builtin PySem.Builtin.ObjectAttr PySem.Builtin.Getset_descriptor
section
variable {prog:Program}{w:World}{A:Around}{E:Value->Shared->Prop}{s:Shared}{K:Frag}{x C:Addr}
def ExcAt (x C:Addr) (h:Heap):Prop:=∃ox vs,h.get? x=some ox/\ox.cls=.ref C/\ox.data=.fields vs/\vs[2]?=some .none
theorem ExcAt.type {M:Model}{h:Heap}(I:ExcAt x C h):Looks M h (typeOf (.ref x)) (.ref C):=by
 obtain⟨ox,_,h1,h2,_⟩:=I;have z:=(Looks.ld (M:=M) (part:=none) h1).andThen (f:=λo=>pure o.cls) (Looks.now (a:=ox.cls));rw[h2] at z;exact z
theorem xj8 {tp:Value}{R:Result->Shared->Prop}(X:K.In s.heap) (I:ExcAt x C s.heap) (hm:mroIn K C (.type "object")=some true) (h:R (.ok (.ret (.ref C))) s) :
  codeAny (model prog w) A (.call (.builtin "getset_descriptor.__get__") ⟨[.builtin "object.__class__",.ref x,tp],[]⟩) R s:=by
 obtain⟨h1,g1,d1,t1,o1⟩:=s;have Lt:=I.type (M:=model prog w);have Lm:=looks_mroIn (M:=model prog w) X hm;refine We KF.slot_gs.plain KF.entry_gs ?_;refine KF.slot_gs.check _ _ _ _ _ _ _ _ KF.type_class (KF.args_gs _ _ _) ?_;unfold Builtin.«getset_descriptor.__get__» descrGet;rw[dga_obj];refine Za (Zb ?_);unfold descrGetter descrCheckInstance descrNameAndClass isInstance;simp only[KF.owner_class]
 repeat lk
 refine⟨Vp _ (by decide +kernel),Ye KF.entry_class ?_⟩;unfold Builtin.«object.__class__» shownTypeOf
 repeat lk
 exact h
theorem qY0 {tk:Tok}{Q:Fin->Shared->Prop}(X:K.In s.heap) (I:ExcAt x C s.heap)
  (ha:findIn K (.ref C) "__class__" = some (some (.builtin "object.__class__"))) (hn:specialIn K (.builtin "object.__class__") "__get__" = some (some (.builtin "getset_descriptor.__get__"))) (htk:takesIn K (.builtin "object.__class__")=some true)
  (hm:mroIn K C (.type "object")=some true) (hc:(clsIn K C).isSome=true) (h:Q (.done (.ret (.ref C))) s):wpAny (model prog w) A (Builtin.«object.__getattribute__» ⟨[.ref x,.str "__class__" tk],[]⟩) Q E s:=by
 obtain⟨hh,g,d,t,os⟩:=s;have L0:=I.type (M:=model prog w);have L4:Looks (model prog w) hh (Builtin.ObjectAttr.find (.ref x) (.ref C) "__class__") (Builtin.ObjectAttr.Found.bind (.builtin "getset_descriptor.__get__") (.builtin "object.__class__")):=by
  have y1:=looks_findIn (M:=model prog w) X ha;have y2:Looks (model prog w) hh (Builtin.ObjectAttr.getOf (some (.builtin "object.__class__"))) (some (.builtin "getset_descriptor.__get__")):=looks_specialIn X hn;have y3:=looks_takesIn (M:=model prog w) X htk;have y4:Looks (model prog w) hh (Builtin.ObjectAttr.dataDescriptor? (some (.builtin "object.__class__")) (some (.builtin "getset_descriptor.__get__"))) (some (.builtin "getset_descriptor.__get__",.builtin "object.__class__")):=y3.andThen .now;exact y1.andThen (y2.andThen (y4.andThen (Looks.tag .now)))
 unfold Builtin.«object.__getattribute__»
 repeat (first|with_reducible refine L0.at ?_|with_reducible refine L4.at ?_|wp_step)
 refine xj8 X I hm ?_
 repeat (any_goals (first|assumption|wp_step))
theorem qY1 {M:Model}{nameV:Value}{P:Unit->Shared->Prop}(X:K.In s.heap) (I:ExcAt x C s.heap) (hb:mroIn K C (.type "BaseException")=some true) (h:P () s) :
  wpAny M A (checkBuiltinCall "BaseException.__getattribute__" ⟨[.ref x,nameV],[]⟩) P E s:=by
 have hk:builtinKind "BaseException.__getattribute__" = some .slot:=by decide +kernel
 have hsplit:splitId "BaseException.__getattribute__" = some ("BaseException", "__getattribute__"):=by decide +kernel
 have hargs:=F.args_bexc_ga (.ref x) nameV;obtain⟨hh,g,d,t,os⟩:=s;have L0:=I.type (M:=M);have L3:=looks_mroIn (M:=M) X hb;simp only[checkBuiltinCall,hk,hsplit];refine Za ?_;unfold isInstance;refine Za (L0.at (L3.at ?_))
 repeat (first|assumption|wp_step)
theorem q87 {tk:Tok}{R:Result->Shared->Prop}(X:K.In s.heap) (I:ExcAt x C s.heap)
  (ha:findIn K (.ref C) "__class__" = some (some (.builtin "object.__class__"))) (hn:specialIn K (.builtin "object.__class__") "__get__" = some (some (.builtin "getset_descriptor.__get__"))) (htk:takesIn K (.builtin "object.__class__")=some true)
  (hm:mroIn K C (.type "object")=some true) (hb:mroIn K C (.type "BaseException")=some true) (hc:(clsIn K C).isSome=true) (h:R (.ok (.ret (.ref C))) s) :
  codeAny (model prog w) A (.call (.builtin "BaseException.__getattribute__") ⟨[.ref x,.str "__class__" tk],[]⟩) R s:=
 We F.excAttr_ValueError.ga.plain F.entry_bexc_ga (qY1 X I hb (qY0 X I ha hn htk hm hc h))
theorem qY2 {Q:Option Value->Shared->Prop}(X:K.In s.heap) (I:ExcAt x C s.heap) (hga:findIn K (.ref C) "__getattribute__" = some (some (.builtin "BaseException.__getattribute__"))) (hgt:findIn K (.ref C) "__getattr__" = some none)
  (ha:findIn K (.ref C) "__class__" = some (some (.builtin "object.__class__"))) (hn:specialIn K (.builtin "object.__class__") "__get__" = some (some (.builtin "getset_descriptor.__get__"))) (htk:takesIn K (.builtin "object.__class__")=some true)
  (hm:mroIn K C (.type "object")=some true) (hb:mroIn K C (.type "BaseException")=some true) (hc:(clsIn K C).isSome=true) (h:Q (some (.ref C)) { s with toks:=s.toks+1 }) :
  wpAny (model prog w) A (getAttr? (.ref x) "__class__") Q E s:=by
 have go:=λ(A':Around) (R:Result->Shared->Prop) (tk:Tok)=>q87 (prog:=prog) (w:=w) (A:=A') (R:=R) (s:={ s with toks:=s.toks+1 }) (tk:=tk) X I ha hn htk hm hb hc;obtain⟨hh,g,d,t,os⟩:=s;have L0:=I.type (M:=model prog w);have L1:=looks_findIn (M:=model prog w) X hga;have L2:=looks_findIn (M:=model prog w) X hgt;have f3:=F.excAttr_ValueError.ga.bind (.ref x);have hx2:(Value.builtin "BaseException.__getattribute__" == Value.builtin "object.__getattribute__")=false:=by decide +kernel
 have hx1:(onTheHeap (Value.ref C)&&Value.builtin "BaseException.__getattribute__" == Value.builtin "object.__getattribute__")=false:=by rw[hx2];rfl
 unfold getAttr? getAttrBy? getAttrBy;refine Za (wpAny_mkText (Za (Xv (ZX (Za (L0.at (Za (L1.at ?_))))))));dsimp only;rw[Zk (by rw[hx1];exact Zs)];unfold getAttrByItsOwn
 repeat (any_goals (first|assumption|with_reducible refine L0.at ?_|with_reducible refine L2.at ?_|wp_step))
 refine go _ _ _ ?_
 repeat (any_goals (first|assumption|wp_step))
structure ExcCls (K:Frag) (C:Addr):Prop where
 hga:findIn K (.ref C) "__getattribute__" = some (some (.builtin "BaseException.__getattribute__"))
 hgt:findIn K (.ref C) "__getattr__" = some none
 ha:findIn K (.ref C) "__class__" = some (some (.builtin "object.__class__"))
 hn:specialIn K (.builtin "object.__class__") "__get__" = some (some (.builtin "getset_descriptor.__get__"))
 htk:takesIn K (.builtin "object.__class__")=some true
 hm:mroIn K C (.type "object")=some true
 hb:mroIn K C (.type "BaseException")=some true
 hc:(clsIn K C).isSome=true
theorem q88 (T:ExcCls K C):KitX K (.ref x) (.ref C) (ExcAt x C) where
 ty:=λ_ _ _ I=>I.type
 it:=λ_ _ X _=>by
  have hc:=T.hc;unfold clsIn at hc;split at hc
  ·rename_i c' d' cd' sl' ho;intro A1 Q1 E1 s1 kp q1;unfold isType loadHead;refine Za (wpAny_loadPart (kp _ _ (X _ _ ho)) ?_);exact Zb q1
  ·cases hc
 ne:=λh tp dd its n sl X htp=>by
  have hc:=T.hc;refine Yg.mpr λq=>?_;have e:C=tp:=Value.ref.inj (Wg.mp q);subst e;unfold clsIn at hc;split at hc
  ·rename_i c' d' cd' sl' ho;have z:=(X _ _ ho).symm.trans htp;cases z
  ·cases hc
 ca:=λX I k=>qY2 X I T.hga T.hgt T.ha T.hn T.htk T.hm T.hb T.hc k
end
end L2
namespace L2
open PySem PySem.Spec PyProof.Rows PySem.W
section
variable {K:Frag}{h:Heap}{C:Addr}{bmB:List Value}{newId:String}
end
section
variable {X:Cx}{x:Str}{C:Addr}{E:XK}{e₀:Expr}{rest:List Expr}{t:TA}{np cpos pos:Pos}
end
section
variable {X:Cx}{j8:List (Addr×Obj)}{σ:St}{H:Hp}{s:Shared}
end
section
variable {prog:Program}{w:World}{A:Around}{E:Value->Shared->Prop}{s:Shared}{x C e:Addr}
end
end L2
namespace L2
open PySem PySem.Spec PyProof.Rows
section
variable {X:Cx}{k:Nat}{f xe:Addr}{fd:FuncData}{ps:List Str}{sp:SpH}{x:Str}{p pos:Pos}{e:Expr}{es:List Expr}{t:TA}
end
end L2
namespace L2
open PySem PySem.Spec PyProof.Rows PySem.W
section
variable {X:Cx}
def clsV:V->Option Value
 |.ty n=>some (.type n)
 |.ref a=>some (.ref a)
 |_=>none
theorem xj9 {c:V}{u cv:Value}(r:RelV c u) (e:clsV c=some cv):u=cv:=by
 cases c with
 |ty n=>cases e;exact r
 |ref a=>cases e;exact r
 |_=>cases e
def ExcT (K:Frag) (H:Hp) (x:V) (t:Value):Prop:=∃a C,x=.ref a/\H a=some (.ext (ExcAt a C))/\ExcCls K C/\t=.ref C
theorem qg2:qe3 X (.builtin "isinstance") (λxs H Q=>∃x c t cv b,xs=[x,c]/\clsV c=some cv/\(TyOf X.K H x t\/ExcT X.K H x t)/\kitOne X.K t cv=some b/\Q (.bl b) H):=by
 intro j8 s σ H xs us Q I r h;obtain⟨x,c,t,cv,b,rfl,hc,ht,hk,q⟩:=h;obtain⟨u,u',rfl,rx,rc⟩:=xi5 r;cases xj9 rc hc;rcases ht with ty|⟨a,C,rfl,e,T,rfl⟩
 ·exact qU0 I rx ty hk λtk=>⟨.bl b,H,I.tok _,rfl,q⟩
 ·cases (show u=Value.ref a from rx);have p:ExcAt a C s.heap:=(I.hok a _ e).1;exact kia_one (q88 T) I.kIn p hk (λz=>nomatch z) λtk=>⟨.bl b,H,I.tok _,rfl,q⟩
theorem qj2 {j8:List (Addr×Obj)}{σ:St}{H:Hp}{s s':Shared}{o₁:Obj}{wr:List Addr}(I:Inv X j8 σ H s) (mv:Moved wr (λa b=>b=a) { s with heap:=s.heap.push o₁ } s') (hn:∀b o,s.heap.get? b=some o->b∈wr->False):Inv X j8 σ H s':=by
 obtain⟨h',g',d',t',os'⟩:=s';obtain⟨m1,m2,m3,m4,m5⟩:=mv;cases (show g'=s.gens from m2);cases (show d'=s.drawn from m3);cases (show os'=s.os from m4);exact I.kept (h':=h') (t':=t') λb o e=>m1 b o (λz=>hn b o e z) (Zc _ e)
theorem qt6 (hc:X.calm=true):qe3 X (.builtin "all") (λxs H Q=>∃(p:Addr) (bs:List Bool),xs=[.ref p]/\H p=some (.lst (bs.map V.bl))/\Q (.bl (bs.all id)) H):=by
 intro j8 s σ H xs us Q I r h;obtain⟨p,bs,rfl,hp,q⟩:=h;obtain⟨u,rfl,rx⟩:=qf0 r;cases rx;obtain⟨z,its,n,rv,hl⟩:=I.hok p _ hp;have isl:s.heap.IsList p its.toArray:=⟨_,hl,rfl,_,rfl⟩;have j9:its.length=bs.length:=by have:=rv.length;simpa using this.symm
 have np:p≠s.heap.objs.size:=Zp (Zi hl);refine call_all_walk (Y8 isl ?_);refine⟨s.heap.objs.size,_,_,_,_,_,λi=>bs.getD i true,rfl,Vr (A:=X.A.in1) (I.ok.hd hc) s.heap.objs.size p np its.toArray,⟨⟨_,Zf _ rfl,rfl,rfl⟩,isl.at λo e=>Zc _ e⟩,?_,?_⟩
 ·intro i v s' Q' E' hv hq;have hv':its[i]?=some v:=by simpa using hv
  have hi:i<bs.length:=by rw[<- j9];exact (gS_ hv').1
  obtain⟨w',e1,e2⟩:=rv.get (x:=V.bl (bs[i])) (i:=i) (by simp[hi]);rw[hv'] at e1;cases e1;cases (show v=Value.bool bs[i] from e2);have eg:bs.getD i true=bs[i]:=by simp[List.getD,hi]
  dsimp only at hq;rw[eg] at hq;exact Yd hq
 ·intro h' tk k;refine⟨.bl (bs.all id),H,I.kept (h':=h') (t':=tk) (λb o e=>k b o (λz=>?_) (Zc _ e)),?_,q⟩
  ·have:b=s.heap.objs.size:=by simpa using z
   exact Yc _ (by rw[this] at e;exact Zi e)
  ·have es:its.toArray.size=bs.length:=by simpa using j9
   rw[es];show Value.bool _=Value.bool _;congr 1;rw[Xb,YN,YN];constructor
   ·intro z b hb;obtain⟨i,hi,e⟩:=ZE.mp hb;have:=z i (Yw.mpr hi);simpa [List.getD,hi,e] using this
   ·intro z i hi;have hi':=Yw.mp hi;have:=z bs[i] (Ys hi');simpa [List.getD,hi'] using this
theorem qD9:qe3 X (.type "int") (λxs H Q=>∃z n,xs=[.str z]/\PySem.intText? z=some n/\z.length<=640/\Q (.int n) H):=by
 intro j8 s σ H xs us Q I r h;obtain⟨z,n,rfl,hn,hz,q⟩:=h;obtain⟨u,rfl,t,rfl⟩:=qf0 r;exact KIN.call_text hn hz ⟨.int n,H,I.tok _,⟨_,rfl⟩,q⟩
theorem qE0 (hc:X.calm=true):qe3 X (.builtin "any") (λxs H Q=>∃(p:Addr) (bs:List Bool),xs=[.ref p]/\H p=some (.lst (bs.map V.bl))/\Q (.bl (bs.any id)) H):=by
 intro j8 s σ H xs us Q I r h;obtain⟨p,bs,rfl,hp,q⟩:=h;obtain⟨u,rfl,rx⟩:=qf0 r;cases rx;obtain⟨z,its,n,rv,hl⟩:=I.hok p _ hp;have isl:s.heap.IsList p its.toArray:=⟨_,hl,rfl,_,rfl⟩;have j9:its.length=bs.length:=by have:=rv.length;simpa using this.symm
 have np:p≠s.heap.objs.size:=Zp (Zi hl);refine call_any_walk (Y8 isl ?_);refine⟨s.heap.objs.size,_,_,_,_,_,λi=>bs.getD i true,rfl,Vr (A:=X.A.in1) (I.ok.hd hc) s.heap.objs.size p np its.toArray,⟨⟨_,Zf _ rfl,rfl,rfl⟩,isl.at λo e=>Zc _ e⟩,?_,?_⟩
 ·intro i v s' Q' E' hv hq;have hv':its[i]?=some v:=by simpa using hv
  have hi:i<bs.length:=by rw[<- j9];exact (gS_ hv').1
  obtain⟨w',e1,e2⟩:=rv.get (x:=V.bl (bs[i])) (i:=i) (by simp[hi]);rw[hv'] at e1;cases e1;cases (show v=Value.bool bs[i] from e2);have eg:bs.getD i true=bs[i]:=by simp[List.getD,hi]
  dsimp only at hq;rw[eg] at hq;exact Yd hq
 ·intro h' tk k;refine⟨.bl (bs.any id),H,I.kept (h':=h') (t':=tk) (λb o e=>k b o (λz=>?_) (Zc _ e)),?_,q⟩
  ·have:b=s.heap.objs.size:=by simpa using z
   exact Yc _ (by rw[this] at e;exact Zi e)
  ·have es:its.toArray.size=bs.length:=by simpa using j9
   rw[es];show Value.bool _=Value.bool _;congr 1;rw[Xb,Wo,Wo];constructor
   ·rintro⟨i,hi,e⟩;have hi':=Yw.mp hi;refine⟨bs[i],Ys hi',?_⟩;simpa [List.getD,hi'] using e
   ·rintro⟨b,hb,e⟩;obtain⟨i,hi,e2⟩:=ZE.mp hb;refine⟨i,Yw.mpr hi,?_⟩;have:bs.getD i true=bs[i]:=by simp[List.getD,hi]
    rw[this,e2];exact e
def best (ns:List Int):Nat->Int
 |0=>ns.getD 0 0
 |k+1=>if ns.getD (k+1) 0>best ns k then ns.getD (k+1) 0 else best ns k
theorem qr2 (ns:List Int):∀k,ns.getD (argBest (λi j=>decide (ns.getD i 0>ns.getD j 0)) k) 0=best ns k/\argBest (λi j=>decide (ns.getD i 0>ns.getD j 0)) k<=k
 |0=>⟨rfl,Ze _⟩
 |k+1=>by
  obtain⟨h1,h2⟩:=qr2 ns k;unfold argBest best;rw[<- h1];by_cases hc:ns.getD (k+1) 0>ns.getD (argBest (λi j=>decide (ns.getD i 0>ns.getD j 0)) k) 0
  ·rw[Zx (Zu hc),Zx hc];exact⟨rfl,Ze _⟩
  ·rw[Zk (by simpa using hc),Zk hc];exact⟨rfl,VF h2⟩
theorem qY3 (hc:X.calm=true):qe3 X (.builtin "max") (λxs H Q=>∃(p:Addr) (ns:List Int),xs=[.ref p]/\H p=some (.lst (ns.map V.int))/\ns≠[]/\Q (.int (best ns (ns.length-1))) H):=by
 intro j8 s σ H xs us Q I r h;obtain⟨p,ns,rfl,hp,jF,q⟩:=h;obtain⟨u,rfl,rx⟩:=qf0 r;cases rx;obtain⟨z,its,n,rv,hl⟩:=I.hok p _ hp;have isl:s.heap.IsList p its.toArray:=⟨_,hl,rfl,_,rfl⟩;have j9:its.length=ns.length:=by have:=rv.length;simpa using this.symm
 have np:p≠s.heap.objs.size:=Zp (Zi hl);have es:its.toArray.size=ns.length:=by simpa using j9
 have pos:0<ns.length:=Xg.mpr jF;have item:∀(i:Nat) (v:Value),its.toArray[i]?=some v->∃t,v=.int (ns.getD i 0) t:=λi v hv=>by
  have hv':its[i]?=some v:=by simpa using hv
  have hi:i<ns.length:=by rw[<- j9];exact (gS_ hv').1
  obtain⟨w',e1,t,e2⟩:=rv.get (x:=V.int (ns[i])) (i:=i) (by simp[hi]);rw[hv'] at e1;cases e1;exact⟨t,by rw[e2];simp[List.getD,hi]⟩
 refine call_max_walkS (Y8 isl ?_);refine⟨s.heap.objs.size,_,_,_,_,_,_,λi j=>decide (ns.getD i 0>ns.getD j 0),rfl,(Vr (A:=X.A.in1) (I.ok.hd hc) s.heap.objs.size p np its.toArray).toS,⟨⟨_,Zf _ rfl,rfl,rfl⟩,isl.at λo e=>Zc _ e⟩,?_,by rw[es];exact pos,?_,?_⟩
 ·intro b hb;rw[ZV];rcases Zt.mp hb with rfl|hb
  ·exact Yi _
  ·have:b=p:=by simpa using hb
   subst this;exact ZR (Zi hl)
 ·intro i j vi vj s' Q' E' hi hj hq;obtain⟨t,rfl⟩:=item i vi hi;obtain⟨t',rfl⟩:=item j vj hj;exact gt_int hq
 ·intro v s' hv mv;rw[es] at hv;obtain⟨t,rfl⟩:=item _ v hv;rw[(qr2 ns (ns.length-1)).1];refine⟨.int _,H,qj2 I mv (λb o e hb=>?_),⟨t,rfl⟩,q⟩;have:b=s.heap.objs.size:=by simpa using hb
  exact Yc _ (by rw[this] at e;exact Zi e)
theorem xx8 {P:Program}{w:World}{k:Key}{v:Value}(h:(qd6 P w).is k v=true):RelV (kV k) v:=by
 rcases qd0 (show qH8 k v=true from h) with ⟨i,t,rfl,rfl⟩|⟨x,t,rfl,rfl⟩
 ·exact⟨t,rfl⟩
 ·exact⟨t,rfl⟩
theorem qy7:∀{xs:List V}{us:List Value},xs.length=us.length->(∀(i:Nat) x v,xs[i]?=some x->us[i]?=some v->RelV x v)->Vals xs us
 |[],[],_,_=>.nil
 |[],_::_,h,_=>by simp at h
 |_::_,[],h,_=>by simp at h
 |x::xs,u::us,h,f=>.cons (f 0 x u rfl rfl) (qy7 (by simpa using h) λi y v hy hv=>f (i+1) y v (by simpa using hy) (by simpa using hv))
theorem qP9 (hc:X.calm=true):qe3 X (.type "list") (λxs H Q=>∃(d:Addr) (kvs:List (Key×V)),xs=[.ref d]/\H d=some (.dK kvs)/\∀l,H l=none->Q (.ref l) (upd H l (.lst (kvs.map λkv=>kV kv.1)))):=by
 intro j8 s σ H xs us Q I r h;obtain⟨d,kvs,rfl,hd,q⟩:=h;obtain⟨u,rfl,ru⟩:=qf0 r;cases ru;obtain⟨z,lo,vs,rel,dd⟩:=xr1 I.hok hd;obtain⟨ep,hat⟩:=dd.dictAt;have hl:=rel.length;refine kdl_call (kdl_dict (knd:=qd6 X.prog X.w) (kvs:=vs) (ep:=ep) lo) (I.ok.hd hc) hat (by rw[<- hl];exact z) λh' tk acc c kp ho jH=>?_;refine⟨.ref s.heap.objs.size,_,I.laid (a:=s.heap.objs.size) (o:=.lst (kvs.map λkv=>kV kv.1)) (t':=tk) kp (Ze _) ⟨by simpa using z,acc.toList,c,?_,by simpa using ho⟩,rfl,q _ I.fresh⟩;refine qy7 (by simp[hl,jH.1]) λi x v hx hv=>?_;rw[Zg] at hx;obtain⟨kv,hkv,rfl⟩:=Zj.mp hx;obtain⟨k,y,hk,his⟩:=jH.2 i v (by simpa using hv);have e1:vs[i]?=some (k,y):=hk;have e2:kv.1=k:=by
  have z1:(kvs.map (·.1))[i]?=some kv.1:=by rw[Zg,hkv];rfl
  have z2:(vs.map (·.1))[i]?=some k:=by rw[Zg,e1];rfl
  rw[rel.keys] at z1;rw[z1] at z2;exact ZO z2
 rw[e2];exact xx8 his
theorem qE1:qe3 X (.type "range") (λxs H Q=>∃n:Int,xs=[.int n]/\∀r,H r=none->Q (.ref r) (upd H r (.rng 0 n))):=by
 intro j8 s σ H xs us Q I r h;obtain⟨n,rfl,q⟩:=h;obtain⟨u,rfl,t,rfl⟩:=qf0 r;exact call_range_1 ⟨.ref s.heap.objs.size,_,I.laid (a:=s.heap.objs.size) (o:=.rng 0 n) (λb o e=>Zc _ e) (Ze _) ⟨_,_,_,Zf _ rfl⟩,rfl,q _ I.fresh⟩
theorem qQ0 (hc:X.calm=true):qe3 X (.type "list") (λxs H Q=>∃(r:Addr) (n:Nat),xs=[.ref r]/\H r=some (.rng 0 (n:Int))/\n<=1000000/\∀l,H l=none->Q (.ref l) (upd H l (.lst ((List.range n).map λ(i:Nat)=>V.int (i:Int))))):=by
 intro j8 s σ H xs us Q I rv h;obtain⟨r,n,rfl,hr,hn,q⟩:=h;obtain⟨u,rfl,ru⟩:=qf0 rv;cases ru;obtain⟨t,u,v,ho⟩:=I.hok r _ hr;refine call_list_range (a:=0) (b:=n) (c:=1) (n:=n) (I.ok.hd hc) ho (small_one (by lia) (by lia) (by lia) (by lia)) (by rw[rangeSize_one];split<;>lia) (by lia) λh' tk acc c kp ho' jH=>?_;refine⟨.ref s.heap.objs.size,_,I.laid (a:=s.heap.objs.size) (o:=.lst ((List.range n).map λ(i:Nat)=>V.int (i:Int))) (t':=tk) kp (Ze _) ⟨?_,acc.toList,c,?_,by simpa using ho'⟩,rfl,q _ I.fresh⟩
 ·rw[Zh,Y9,XQ];lia
 ·refine qy7 (by simp[jH.1]) λi x v hx hv=>?_;rw[Zg] at hx;obtain⟨j,hj,rfl⟩:=Zj.mp hx;have e:j=i:=by
   obtain⟨_,e⟩:=gS_ hj;simpa using e.symm
  subst e;obtain⟨t',rfl⟩:=jH.2 j v (by simpa using hv);exact⟨t',by simp⟩
end
namespace TupMul
theorem noFill:fillsNumberSlot (.type "tuple") "mul" = pure false:=
 PySem.fillsNumberSlot_seq (id:= "tuple.__mul__") (r:=some (.builtin "tuple.__rmul__")) F.slot_tuple_mul.lookup (by decide +kernel) F.slot_tuple_rmul.lookup (by decide +kernel)
theorem rep:seqRepeat? (.type "tuple")=pure (some (.builtin "tuple.__mul__")):=by
 unfold seqRepeat?
 rw[PySem.seqSlot_of (T:= "tuple") (name:= "__mul__") (id:= "tuple.__mul__") F.slot_tuple_mul.lookup (by decide +kernel),PySem.seqSlot_of (T:= "tuple") (name:= "__rmul__") (id:= "tuple.__rmul__") F.slot_tuple_rmul.lookup (by decide +kernel)]
 rfl
theorem declines (a:Int) (t:Tok) (l:Addr) (items:Array Value) (n:Nat) (dct:Option Addr) (sl:Array (Option Value)) :
  Meets (Builtin.«int.__rmul__» ⟨[.int a t,.ref l],[]⟩) (λ_ R s=>s.heap.get? l=some { cls:=.type "tuple",dict:=dct,data:=.seq items n,slots:=sl }/\R (.ok (.ret Value.notImplemented)) s):=
 .of_wp λprog w A R s h=>by
  obtain⟨hp,g,d,tk,os⟩:=s;obtain⟨hl,h⟩:=h
  wp_walk
  exact⟨_,rfl,h⟩
theorem mul (k:Int) (t:Tok) (l:Addr) (items:Array Value) (n:Nat) (dct:Option Addr) (sl:Array (Option Value)) (h1:1<k) (h2:k<=1000) (hs:items.size=1) :
  Meets (Builtin.«tuple.__mul__» ⟨[.ref l,.int k t],[]⟩) (λ_ R s=>s.heap.get? l=some { cls:=.type "tuple",dict:=dct,data:=.seq items n,slots:=sl } /\
   R (.ok (.ret (.ref s.heap.objs.size))) { s with heap:=s.heap.push { cls:=.type "tuple",data:=.seq ((List.replicate k.toNat items).foldl (·++·) #[]) } }):=
 .of_wp λprog w A R s h=>by
  obtain⟨hp,g,d,tk,os⟩:=s;obtain⟨hl,h⟩:=h;have c1:(decide (k < -2^63)||decide (k>=2^63))=false:=by simp;lia
  have c0:items.isEmpty=false:=by
   cases he:items.isEmpty with
   |false=>rfl
   |true=>rw[Array.isEmpty_iff.mp he] at hs;cases hs
  have c2:(items.isEmpty||k==1)=false:=by rw[c0];simp;lia
  have c3:(decide (k<=0)||items.isEmpty)=false:=by rw[c0];simp;lia
  have c4:¬((items.size:Int)*k>(2^63-1)/8):=by rw[hs];lia
  have c5:Builtin.Tuple.tupleTooMany ((items.size:Int)*k)=false:=by
   rw[hs];show decide (((1:Nat):Int)*k>(sizeLine:Int))=false;rw[XQ];exact Zn (by lia)
  wp_walk
  refine ZM (λz=>by rw[c1] at z;cases z) λ_=>?_
  wp_walk
  refine ZM (λz=>by rw[c2] at z;cases z) λ_=>?_;refine ZM (λz=>by rw[c3] at z;cases z) λ_=>?_;refine ZM (λz=>absurd z c4) λ_=>?_;refine ZM (λz=>by rw[c5] at z;cases z) λ_=>?_
  wp_walk
  refine ZM (λz=>absurd z ?_) λ_=>?_
  ·have f:∀(m:Nat) (acc:Array Value),(List.foldl (λx1 x2=>x1++x2) acc (List.replicate m items)).size=acc.size+m:=λm=>by
    induction m with
    |zero=>intro acc;rfl
    |succ m ih=>
     intro acc;rw[Vd,Wz,ih,Array.size_append,hs];lia
   rw[f,XQ];simp;lia
  wp_walk
  exact⟨_,rfl,h⟩
end TupMul
section
variable {X:Cx}
theorem xk0:OpR X (binaryOp .Mult) (λx y H Q=>∃(l:Addr) (k:Int) (v:V),x=.ref l/\y=.int k/\H l=some (.tup [v])/\1<k/\k<=1000/\∀p,H p=none->Q (.ref p) (upd H p (.tup (List.replicate k.toNat v)))):=by
 intro j8 s σ H x y v u Q I rx ry h;obtain⟨l,k,v1,rfl,rfl,hH,h1,h2,q⟩:=h;cases rx;obtain⟨t,rfl⟩:=ry;obtain⟨_,its,r,o,ho,hc,⟨n,hdn⟩,hd⟩:=I.hok l _ hH;obtain⟨oc,od,odt,osl⟩:=o
 replace hc:oc=.type "tuple":=hc
 replace hd:odt=.seq its.toArray n:=hd
 subst hc hd;cases r with
 |cons r1 rr=>
  cases rr;rename_i u1;have hnew:List.foldl (λx1 x2=>x1++x2) #[] (List.replicate k.toNat #[u1])=(List.replicate k.toNat u1).toArray:=by
   have f:∀(m:Nat) (acc:List Value),List.foldl (λx1 x2=>x1++x2) acc.toArray (List.replicate m #[u1])=(acc++List.replicate m u1).toArray:=λm=>by
    induction m with
    |zero=>intro acc;simp
    |succ m ih=>
     intro acc;rw[Vd,Wz,show acc.toArray++#[u1]=(acc++[u1]).toArray by simp,ih];simp[Vd]
   have:=f k.toNat [];simpa using this
  refine wpAny_binaryOp_repeat_ref (T:= "tuple") (U:= "int") (by decide) ⟨_,ho,rfl⟩ (λs'=>typeIs_int s' k t) TupMul.noFill F.fills_int_mul F.slot_int_rmul TupMul.rep F.slot_int_index.lookup
   (call_meets F.slot_int_rmul (typeIs_int s k t) F.entry_int_rmul (F.args_int_rmul_2 _ _) (TupMul.declines k t l _ n od osl)
    ⟨ho,rfl,⟨_,ho,rfl⟩,call_meets F.slot_tuple_mul ⟨_,ho,rfl⟩ F.entry_tuple_mul (F.args_tuple_mul_2 _ _) (TupMul.mul k t l _ n od osl h1 h2 rfl) ⟨ho,?_⟩⟩)
  rw[hnew];refine⟨.ref _,_,I.laid (a:=s.heap.objs.size) (o:=.tup (List.replicate k.toNat v1)) (t':=s.toks) (λb o e=>Zc _ e) (Ze _) ⟨?_,List.replicate k.toNat u1,?_,_,Zf _ rfl,rfl,⟨_,rfl⟩,rfl⟩,rfl,q _ I.fresh⟩
  ·rw[List.length_replicate,XQ];lia
  ·generalize k.toNat=m
   induction m with
   |zero=>exact .nil
   |succ m ih=>exact .cons r1 ih
end
end L2
namespace Qf
abbrev Row:=List Nat
def mx:List Nat->Nat
 |[]=>0
 |a::l=>max a (mx l)
theorem qY4 {x:Nat}:∀{l:List Nat},x∈l->x<=mx l
 |a::l,h=>by
  rcases Zt.mp h with rfl|h
  ·exact Nat.le_max_left _ _
  ·exact ZF (qY4 h) (Nat.le_max_right _ _)
theorem xs1 {b:Nat}:∀{l:List Nat},(∀x∈l,x<=b)->mx l<=b
 |[],_=>Zv _
 |a::l,h=>Nat.max_le.mpr ⟨h a ZC,xs1 λx hx=>h x (Zl _ hx)⟩
theorem q89 {f g:Nat->Nat}{l:List Nat}(h:∀x∈l,f x=g x):mx (l.map f)=mx (l.map g):=by
 rw[Xh h]
def xs2 (p:Nat) (r:Row):Prop:=r.length=4/\∀x∈r,x<p+2
def qd4 (rows:List Row):Prop:=∀p r,rows[p]?=some r->xs2 p r
def xk1 (ds:List Nat) (r:Row):List Nat:=ds++[1+mx (r.map (ds.getD · 0))]
def deps (rows:List Row):List Nat:=rows.foldl xk1 [0,0]
def dp (rows:List Row) (x:Nat):Nat:=(deps rows).getD x 0
theorem qn2 (rows:List Row) (r:Row):deps (rows++[r])=deps rows++[1+mx (r.map (dp rows))]:=by
 unfold deps dp deps;rw[List.foldl_append]
 rfl
theorem qL6 {P:List Row->Prop}(h0:P []) (h1:∀l a,P l->P (l++[a])) (l:List Row):P l:=by
 have:∀m:List Row,P m.reverse:=λm=>by
  induction m with
  |nil=>exact h0
  |cons a m ih=>rw[List.reverse_cons];exact h1 _ _ ih
 have h:=this l.reverse
 rwa [List.reverse_reverse] at h
theorem qn3 (rows:List Row):(deps rows).length=rows.length+2:=by
 induction rows using qL6 with
 |h0=>rfl
 |h1 l a ih=>rw[qn2,Zz,ih,Zz];simp
theorem qQ1 {rows:List Row}{r:Row}{x:Nat}(h:x<rows.length+2):dp (rows++[r]) x=dp rows x:=by
 unfold dp;rw[qn2,ZA,ZA,ZD (by rw[qn3];exact h)]
theorem qQ2 {rows:List Row}{r:Row}:dp (rows++[r]) (rows.length+2)=1+mx (r.map (dp rows)):=by
 unfold dp;rw[qn2,ZA,ZH (by rw[qn3];exact Ze _),qn3];simp only[V0,List.getElem?_cons_zero,Option.getD_some]
 rfl
theorem qj3 {rows more:List Row}{x:Nat}(h:x<rows.length+2):dp (rows++more) x=dp rows x:=by
 induction more using qL6 with
 |h0=>simp
 |h1 l a ih=>
  rw[<- Yo,qQ1 (by simp;lia),ih]
theorem xf4 {rows:List Row}{x:Nat}(h:x<2):dp rows x=0:=by
 have:=qj3 (rows:=[]) (more:=rows) (x:=x) (by simpa using h);rw[List.nil_append] at this;rw[this]
 match x,h with
 |0,_=>rfl
 |1,_=>rfl
theorem qY5 {rows:List Row}{p:Nat}{r:Row}(hp:rows[p]?=some r):rows=rows.take p++[r]++rows.drop (p+1):=by
 have jA:=(gS_ hp).1;have he:=(gS_ hp).2;rw[<- he,Xw jA,YY]
theorem qI8 {rows:List Row}(ok:qd4 rows){p:Nat}{r:Row}(hp:rows[p]?=some r):dp rows (p+2)=1+mx (r.map (dp rows)):=by
 have jA:=(gS_ hp).1;have hl:(rows.take p).length=p:=by simp;lia
 have e:=qY5 hp;have h1:dp rows (p+2)=dp (rows.take p++[r]) (p+2):=by
  have:=qj3 (rows:=rows.take p++[r]) (more:=rows.drop (p+1)) (x:=p+2) (by simp;lia);rw[<- e] at this;exact this
 have h2:=qQ2 (rows:=rows.take p) (r:=r);rw[hl] at h2;rw[h1,h2];congr 1;refine q89 λx hx=>?_;have hx2:=(ok p r hp).2 x hx;have:=qj3 (rows:=rows.take p) (more:=[r]++rows.drop (p+1)) (x:=x) (by rw[hl];exact hx2);rw[<- Yo,<- e] at this;exact this.symm
def dfs (rows:List Row):Nat->List Nat->Nat->List Nat
 |0,e,_=>e
 |d+1,e,x=>if x<2\/x-2∈e then e else (rows.getD (x-2) []).foldl (dfs rows d) e++[x-2]
theorem qt7 {f:List Nat->Nat->List Nat}(h:∀e x,∃s,f e x=e++s):∀(l:List Nat) (e:List Nat),∃s,l.foldl f e=e++s
 |[],e=>⟨[],by simp⟩
 |a::l,e=>by
  obtain⟨s,hs⟩:=h e a;obtain⟨s',hs'⟩:=qt7 h l (f e a);exact⟨s++s',by rw[Wz,hs',hs,Yo]⟩
theorem qY6 (rows:List Row):∀(d:Nat) (e:List Nat) (x:Nat),∃s,dfs rows d e x=e++s
 |0,e,x=>⟨[],by simp[dfs]⟩
 |d+1,e,x=>by
  unfold dfs;split
  ·exact⟨[],by simp⟩
  ·obtain⟨s,hs⟩:=qt7 (qY6 rows d) (rows.getD (x-2) []) e;exact⟨s++[x-2],by rw[hs,Yo]⟩
structure Post (rows:List Row) (e:List Nat):Prop where
 nd:e.Nodup
 lt:∀p∈e,p<rows.length
 ch:∀(i p:Nat),e[i]?=some p->∀q∈rows.getD p [],q<2\/∃j:Nat,j<i/\e[j]?=some (q-2)
theorem qr3 (rows:List Row):Post rows []:=⟨Vo,λp hp=>(nomatch hp),λi p h=>by simp at h⟩
theorem qY7 {e s:List Nat}{j a:Nat}(h:e[j]?=some a):(e++s)[j]?=some a:=by
 have:=(gS_ h).1;rw[ZD this];exact h
theorem qh9 {rows:List Row}(ok:qd4 rows):∀(d:Nat) (e:List Nat) (x:Nat),Post rows e->x<rows.length+2->dp rows x<=d->Post rows (dfs rows d e x)/\(x<2\/x-2∈dfs rows d e x)
 |0,e,x,pe,hx,hd=>by
  refine⟨pe,?_⟩;by_cases h:x<2
  ·exact .inl h
  ·exfalso;obtain⟨p,rfl⟩:∃p,x=p+2:=⟨x-2,by lia⟩;have hp:rows[p]?=some (rows[p]'(by lia)):=by simp[show p<rows.length by lia]
   rw[qI8 ok hp] at hd;lia
 |d+1,e,x,pe,hx,hd=>by
  unfold dfs;split
  ·rename_i h;exact⟨pe,h⟩
  ·rename_i h;obtain⟨h1,h2⟩:=not_or.mp h;obtain⟨p,rfl⟩:∃p,x=p+2:=⟨x-2,by lia⟩;rw[Nat.add_sub_cancel] at h2 ⊢;have jA:p<rows.length:=by lia
   have hp:rows[p]?=some rows[p]:=by simp[jA]
   have eg:rows.getD p []=rows[p]:=by simp[List.getD,jA]
   rw[eg];have hdp:=qI8 ok hp;have rk:=ok p _ hp;have key:∀(l:List Nat) (e0:List Nat),(∀q∈l,q<p+2/\dp rows q<=d)->Post rows e0->Post rows (l.foldl (dfs rows d) e0)/\(∀q∈l,q<2\/q-2∈l.foldl (dfs rows d) e0)/\(∀a∈l.foldl (dfs rows d) e0,a∈e0\/a<p):=λl=>by
    induction l with
    |nil=>exact λe0 _ pe0=>⟨pe0,λq hq=>(nomatch hq),λa ha=>.inl ha⟩
    |cons q l ih=>
     intro e0 hl pe0;obtain⟨hq1,hq2⟩:=hl q ZC;obtain⟨p1,m1⟩:=qh9 ok d e0 q pe0 (by lia) hq2;obtain⟨p2,m2,n2⟩:=ih (dfs rows d e0 q) (λq' hq'=>hl q' (Zl _ hq')) p1;obtain⟨s,hs⟩:=qt7 (qY6 rows d) l (dfs rows d e0 q);refine⟨p2,λq' hq'=>?_,λa ha=>?_⟩
     ·rcases Zt.mp hq' with rfl|hq'
      ·rcases m1 with z|z
       ·exact .inl z
       ·rw[Wz,hs];exact .inr (X9 _ z)
      ·exact m2 q' hq'
     ·rcases n2 a ha with z|z
      ·
       have below:∀(d0:Nat) (e1:List Nat) (y:Nat),y<rows.length+2->∀a∈dfs rows d0 e1 y,a∈e1\/a+2<=y:=λd0=>by
        induction d0 with
        |zero=>exact λe1 y _ a ha=>.inl ha
        |succ d0 ihd=>
         intro e1 y hy a ha;unfold dfs at ha;split at ha
         ·exact .inl ha
         ·rename_i hh;obtain⟨hh1,hh2⟩:=not_or.mp hh;rcases Z5.mp ha with ha|ha
          ·have hy2:y-2<rows.length:=by lia
           have eg2:rows.getD (y-2) []=rows[y-2]:=by simp[List.getD,hy2]
           rw[eg2] at ha;have rk2:=ok (y-2) rows[y-2] (by simp[hy2]);have kk:∀(l2:List Nat) (e2:List Nat),(∀q∈l2,q<y-2+2)->∀a∈l2.foldl (dfs rows d0) e2,a∈e2\/a+2<=y:=λl2=>by
            induction l2 with
            |nil=>exact λe2 _ a ha=>.inl ha
            |cons q2 l2 ih2=>
             intro e2 jM a ha;rcases ih2 _ (λq' hq'=>jM q' (Zl _ hq')) a ha with z|z
             ·have hq2:=jM q2 ZC;rcases ihd e2 q2 (by lia) a z with z|z
              ·exact .inl z
              ·exact .inr (by lia)
             ·exact .inr z
           exact kk _ _ rk2.2 a ha
          ·have:a=y-2:=by simpa using ha
           exact .inr (by lia)
       rcases below d e0 q (by lia) a z with z|z
       ·exact .inl z
       ·exact .inr (by lia)
      ·exact .inr z
   obtain⟨k1,k2,k3⟩:=key rows[p] e (λq hq=>⟨rk.2 q hq,by
    have:dp rows q<=mx (rows[p].map (dp rows)):=qY4 (Ym.mpr ⟨q,hq,rfl⟩);lia⟩) pe
   refine⟨⟨?_,?_,?_⟩,.inr (ZS _ (by simp))⟩
   ·rw[X7];refine⟨k1.nd,by simp,λa ha b hb=>?_⟩;have:b=p:=by simpa using hb
    subst this;intro z;subst z;rcases k3 a ha with z|z
    ·exact h2 z
    ·exact Yc _ z
   ·intro a ha;rcases Z5.mp ha with ha|ha
    ·exact k1.lt a ha
    ·have:a=p:=by simpa using ha
     lia
   ·intro i a hi q hq;by_cases j9:i<(rows[p].foldl (dfs rows d) e).length
    ·rw[ZD j9] at hi;rcases k1.ch i a hi q hq with z|⟨j,hj,ej⟩
     ·exact .inl z
     ·exact .inr ⟨j,hj,qY7 ej⟩
    ·rw[ZH (by lia)] at hi;have wW:i-(rows[p].foldl (dfs rows d) e).length=0:=by
      have:=(gS_ hi).1;simp at this;lia
     rw[wW] at hi;have:a=p:=by simpa using hi.symm
     subst this;rw[eg] at hq;rcases k2 q hq with z|z
     ·exact .inl z
     ·obtain⟨j,hj,ej⟩:=ZE.mp z;exact .inr ⟨j,by lia,qY7 (by simp[hj,ej])⟩
theorem nd_iff {α:Type}{l:List α}:l.Nodup<->∀i j:Nat,i<j->j<l.length->l[i]?≠l[j]?:=by
 unfold List.Nodup;rw[Xo];constructor
 ·intro h i j jX hj z;rw[Zd (by lia),Zd hj] at z;exact h i j (by lia) hj jX (ZO z)
 ·intro h i j hi hj jX z;refine h i j jX hj ?_;rw[Zd hi,Zd hj,z]
theorem qY8 {rows:List Row}{p:Nat}(h:p<rows.length):rows[p]?=some (rows.getD p []):=by
 simp[List.getD,h]
def qy8 (r:Row):Prop:=r=[0,0,0,0]\/r=[1,1,1,1]
instance (r:Row):Decidable (qy8 r):=by unfold qy8;infer_instance
structure Canon (n top:Nat) (rows:List Row):Prop where
 size:n<=12
 rok:qd4 rows
 inn:top<rows.length+2
 deep:dp rows top<=n
 unplain:∀r∈rows,¬qy8 r
 unlike:rows.Nodup
 ends:dfs rows n [] top=List.range rows.length
end Qf
namespace L2
open PySem PySem.Spec PyProof.Rows
section
variable {X:Cx}
theorem qL7 {i0:Nat}{x0:Str}{px0 spos:Pos}{nn:List Str}{tg:Expr}{ifs:List Expr}{pos:Pos}{elt iter:Expr}{scope:Scope}{wi:TI}{g:TG}{tt:TT}{te:TE}(T:Env->Sem Bool) (hc:X.calm=true) (hi:PI X tg iter wi)
  (hturn:∀it acc env,compTurn (.ListComp elt [⟨tg,iter,ifs,0⟩] scope pos) 0 it acc env=(standAt iter.pos >>= λ_=>pyNext it >>= λr=>match r with
   |none=>pure (.done .next)
   |some v=>letOwnedTupleGo tg it v >>= λ_=>assign tg env v >>= λ_=>T env >>= λok=>(if ok=true then (eval elt env >>= λx=>call (.builtin "list.append") [acc,x] >>= λ_=>pure ()) else pure ()) >>= λ_=>
     again (.compLoop (.ListComp elt [⟨tg,iter,ifs,0⟩] scope pos) 0 it acc env)))
  (hgt:∀cl C fp s₀ H₀,PG (qb3 X scope cl C nn fp s₀ H₀) tg g)
  (hloc2:∀y (os σ:St) H R,os.length=nn.length->g y (os++σ) H R->g y (os++σ) H λσ' H'=>(∃os':St,os'.length=nn.length/\σ'=os'++σ)/\R σ' H')
  (htt:∀cl C fp s₀ H₀ (j8:List (Addr×Obj)) (s:Shared) (σ:St) (H:Hp) (Q:Bool->Hp->Prop),Inv (qb3 X scope cl C nn fp s₀ H₀) j8 σ H s->tt σ H Q->wpAny (model X.prog X.w) X.A (T (compEnvC scope cl C X.env)) (TP (qb3 X scope cl C nn fp s₀ H₀) j8 σ Q) (λ_ _=>False) s)
  (he:∀cl C fp s₀ H₀,PE (qb3 X scope cl C nn fp s₀ H₀) elt te)
  (jD:scope.kind=.function) (jB:∀y∈scope.names,y.2≠.cell) (jC:∀y∈scope.names,y.2=.local->scope.names.lookup y.1=some .local)
  (jG:∀y∈X.N,scope.names.lookup y≠some .local) (jQ:∀p∈scope.names,p.2=.free->Vis X.env.scope p.1/\X.env.scope.names.lookup p.1≠some .local)
  (hs:∀x,foldedSetIterable iter X.env x=pure x) (hN0:X.N.Nodup) (wW:X.N[i0]?=some x0) (hx0:X.env.scope.names.lookup x0=some .local) (hsw:swapsWith (.ListComp elt [⟨tg,iter,ifs,0⟩] scope pos) (some (.Name x0 px0)) spos.line X.env=pure true) :
  PS X (.Assign [.Name x0 px0] (.ListComp elt [⟨tg,iter,ifs,0⟩] scope pos) spos) (tAsg (qn1 nn.length wi g tt te) (qd1 i0)):=by
 intro j8 s σ H EE I h;rw[exec_Assign_Name_used _ _ _ _ hsw];refine Za (wpAny_standAt (Za ?_));show wpAny _ X.A (do let _ <- comprehension (.ListComp elt [⟨tg,iter,ifs,0⟩] scope pos) scope X.env _ (newList []) false (eval iter X.env) (some (assign (.Name x0 px0) X.env))) _ _ s;obtain⟨cl,hclos,jR,hcl2⟩:=qj1 (scope:=scope) (env:=X.env) (λp hp hk=>by
  obtain⟨hv,hn⟩:=jQ p hp hk;refine I.ok.has p.1 ?_;rcases hv with z|z
  ·exact absurd z hn
  ·exact z)
 refine Za (YF (wpAny_comprehension_free (use:=some (assign (.Name x0 px0) X.env)) (Q:=λ_ s'=>SP X j8 EE .next s') rfl hs hclos jD jC (thn (hi j8 s σ H _ I h) λv s1 h1=>thn h1 λitv s2 h2=>?_)) (λ_ s' hq=>Zb (Zb hq)) λ_ _ e=>e);obtain⟨it,fp,tn,J,H2,rfl,I2,T',st2,f2,q⟩:=h2;have hD:H2 s2.heap.objs.size=none:=I2.hok.fresh (Ze _);obtain⟨W,⟨m0,w0⟩,turn⟩:=q _ hD;refine ZK (wpAny_newFunctionEnv jB (by intro y hy;simp at hy) (λh₁ hns₁ hsb₁=>?_) jD);dsimp only at hns₁ hsb₁ ⊢;have I3:Inv X j8 σ (upd H2 s2.heap.objs.size (.lst [])) { s2 with heap:=s2.heap.push { cls:=.type "list",dict:=none,data:=.seq ([]:List Value).toArray } }:=
  I2.laid (t':=s2.toks) (λb u e=>Zc _ e) (Ze _) ⟨Zv _,[],0,.nil,Zf _ rfl⟩
 have fpn:∀b∈fp,b≠s2.heap.objs.size:=λb hb=>by
  obtain⟨o,e,_⟩:=T'.obj 0 s2.heap st2 b hb;exact Zp (Zi e)
 have fplt:∀b∈fp,b<(s2.heap.push { cls:=.type "list",dict:=none,data:=.seq ([]:List Value).toArray }).objs.size:=λb hb=>by
  obtain⟨o,e,_⟩:=T'.obj 0 s2.heap st2 b hb;rw[ZV];exact ZR (Zi e)
 have f3:∀b∈fp,FpOk X j8 (upd H2 s2.heap.objs.size (.lst [])) b:=λb hb=>⟨by rw[qb9 (fpn b hb)];exact (f2 b hb).1,(f2 b hb).2⟩;generalize hg2:s2.heap.push { cls:=.type "list",dict:=none,data:=.seq ([]:List Value).toArray }=g2 at hns₁ hsb₁ I3 fplt ⊢;have keep:∀b o,g2.get? b=some o->h₁.get? b=some o:=λb o e=>(hsb₁.2 b (Zp (Zi e))).trans (Zc _ e);have J0:=qt5 (nn:=nn) (tk:=s2.toks+([]:List (Str×Value)).length) I3 (C:=g2.objs.size) rfl keep hns₁ f3 fplt jD jB jG jR hcl2 jQ;generalize hY:qb3 X scope cl g2.objs.size nn fp { s2 with heap:=g2 } (upd H2 s2.heap.objs.size (.lst []))=Y at J0;have eY:PE Y elt te:=by rw[<- hY];exact he _ _ _ _ _
 have eG:PG Y tg g:=by rw[<- hY];exact hgt _ _ _ _ _
 have eT:∀(j8:List (Addr×Obj)) (s:Shared) (σ:St) (H:Hp) (Q:Bool->Hp->Prop),Inv Y j8 σ H s->tt σ H Q->wpAny (model Y.prog Y.w) Y.A (T Y.env) (TP Y j8 σ Q) Y.xe s:=by rw[<- hY];exact htt _ _ _ _ _
 have eP:Y.prog=X.prog:=by rw[<- hY];rfl
 have eW:Y.w=X.w:=by rw[<- hY];rfl
 have eK:Y.K=X.K:=by rw[<- hY];rfl
 have eA:Y.A=X.A:=by rw[<- hY];rfl
 have eC:Y.calm=true:=by rw[<- hY];exact hc
 have eE:Y.env=compEnvC scope cl g2.objs.size X.env:=by rw[<- hY];rfl
 have eX:Y.xe=λ_ _=>False:=by rw[<- hY];rfl
 have eN:Y.N=nn++X.N:=by rw[<- hY];rfl
 have eEx:Y.ex=fp:=by rw[<- hY];rfl
 have eFs:Y.fs=frs X.stack:=by rw[<- hY];rfl
 have ePn:Y.pn=[]:=by rw[<- hY];rfl
 have fpY:∀{H':Hp},(∀b∈fp,H' b=none)->∀b∈fp,FpOk Y [] H' b:=λhn b hb=>by
  have g:=f3 b hb;refine⟨hn b hb,?_,?_,.inl (by rw[eEx];exact hb),?_,λp hp=>absurd hp (by rw[ePn];simp)⟩
  ·rw[eE];exact Zp (fplt b hb)
  ·rw[eFs];intro z;rcases Zt.mp (I3.stkSub b z) with z|z
   ·exact g.2.1 z
   ·exact g.2.2.1 z
  ·rw[eE];exact λy c e=>g.2.2.2.2.1 y c (jR y c e)
 have loop:∀s₃:Shared,s₃={ s2 with heap:=h₁,toks:=s2.toks+([]:List (Str×Value)).length } ->
   codeAny (model X.prog X.w) X.A (.compLoop (.ListComp elt [⟨tg,iter,ifs,0⟩] scope pos) 0 (.ref it) (.ref s2.heap.objs.size) (compEnvC scope cl g2.objs.size X.env))
    (compPost (model X.prog X.w) X.A X.xe (some (assign (.Name x0 px0) X.env)) (λ_ s'=>SP X j8 EE .next s') (.ref s2.heap.objs.size) g2.objs.size) s₃:=by
  rintro s₃ rfl;refine qD6 (T (compEnvC scope cl g2.objs.size X.env)) (hturn _ _ _) (λn s'=>∃i xs H' os,os.length=nn.length/\Inv Y [] (os++σ) H' s'/\tn i s'.heap/\(∀b∈fp,H' b=none)/\W i n xs H') ?_ m0
   ⟨0,[],_,nn.map λ_=>none,by simp,J0,T'.keep 0 _ _ st2 (λb hb o e=>keep b o (by rw[<- hg2];exact Zc _ e)),λb hb=>(f3 b hb).1,w0⟩
  rintro n s3 ⟨i,xs,H3,os,vE,I4,st3,fr3,w3⟩;obtain⟨hDx,hlx,alt⟩:=turn i n xs H3 w3;rcases alt with ⟨stop,qn⟩|⟨go,step⟩
  ·have D1:=T'.done Y eP eW eK eC i [] s3 _ H3 (λ_ _=>False) I4 (fpY fr3) st3 stop;rw[eA] at D1;refine thn D1 λr s4 ⟨hr,I5⟩=>?_;subst hr;obtain⟨m4,kA,_⟩:=id I5.loc;rw[eE] at kA;have hC0:H3 g2.objs.size=none:=by
    have:=I5.free;rw[eE] at this;exact this
   have fC:FpOk X j8 H3 g2.objs.size:=I3.fpOk (Ze _) hC0;rw[<- hY] at I5;have IX:Inv X j8 σ H3 s4:=qD7 I3 rfl f3 I5 (X8 _ _);have kA:s4.heap.Ns g2.objs.size m4:=kA;obtain⟨oC,esC,epC,hoC,rC⟩:=id kA;have IP:=IX.pinned (fp:=[g2.objs.size]) (λb hb=>by
    have:b=g2.objs.size:=by simpa using hb
    subst this;exact fC) (λb hb=>by
    have:b=g2.objs.size:=by simpa using hb
    subst this;exact⟨oC,hoC,λv z=>by rw[rC.1] at z;cases z⟩)
   show wpAny _ X.A (assign (.Name x0 px0) X.env (.ref s2.heap.objs.size)) _ _ s4;refine wpAny_assign_Name (qq7 (v:=.ref s2.heap.objs.size) IP hN0 wW (.inl hx0) rfl (λs5 I6=>?_) (.inr hx0));have pC:=I6.pin (g2.objs.size,oC) (ZS _ (ZS _ (qh0 (by simp) hoC)));refine⟨m4,kA.at' (λo e=>by rw[hoC] at e;cases e;exact pC.1),λh' sb=>⟨_,H3,?_,qn⟩⟩;exact I6.unpinned.turned (t':=s5.toks) (λb o hb e=>(sb.2 b hb).trans e) fC.1 fC.2.1 fC.2.2.2.1 fC.2.2.2.2.1 fC.2.2.2.2.2
  ·have G1:=T'.item Y eP eW eK eC i [] s3 _ H3 (λ_ _=>False) I4 (fpY fr3) st3 go;rw[eA] at G1;refine thn G1 λr s4 ⟨u,hr,h4⟩=>?_;subst hr;refine thn h4 λ_ s5 ⟨y,H5,I5,r5,y5,st5,fr5⟩=>?_;have I5':=I5.pinned (fpY fr5) (T'.obj _ _ st5);have S1:=eG _ s5 _ H5 y u _ I5' r5 (hloc2 y os σ H5 _ vE (step y _ y5 os vE));rw[eP,eW,eA,eE,eX] at S1;refine thn S1 λ_ s6 ⟨σ6,H6,I6,⟨os6,hos6,e6⟩,q6⟩=>?_;subst e6;have S2:=eT _ s6 _ _ _ I6 q6;rw[eP,eW,eA,eE,eX] at S2;refine thn S2 λok s7 ⟨H7,I7,q7⟩=>?_;have back:∀{s9:Shared}{H9:Hp}{m':Nat}{zs:List V},Inv Y ([]++qw9 fp s5.heap) (os6++σ) H9 s9->m'<n->W (i+1) m' zs H9->∃m,m<n/\∃i xs H' os,os.length=nn.length/\Inv Y [] (os++σ) H' s9/\tn i s9.heap/\(∀b∈fp,H' b=none)/\W i m xs H':=λ{s9 H9 m' zs} I9 hm' w9=>by
    have pin:∀b∈fp,∀ob,s5.heap.get? b=some ob->s9.heap.get? b=some ob/\H9 b=none:=λb hb ob e=>by
     have z:=I9.pin (b,ob) (ZS _ (ZS _ (qh0 hb e)));exact⟨z.1,z.2.1⟩
    refine⟨m',hm',i+1,zs,H9,os6,hos6,I9.unpinned,T'.keep _ _ _ st5 (λb hb ob e=>(pin b hb ob e).1),λb hb=>?_,w9⟩;obtain⟨ob,e,_⟩:=T'.obj _ _ st5 b hb;exact (pin b hb ob e).2
   cases ok with
   |true=>
    rw[Zx rfl] at q7;rw[Zx rfl];have S3:=eY _ s7 _ _ _ I7 q7;rw[eP,eW,eA,eE,eX] at S3;refine thn S3 λxv s8 ⟨v8,H8,I8,r8,hD8,m',hm',w8⟩=>?_;have S4:=qh1 (X:=Y) _ s8 _ H8 (.ref s2.heap.objs.size) [v8] (.ref s2.heap.objs.size) [xv] (λ_ H9=>H9=upd H8 s2.heap.objs.size (.lst (xs++[v8]))) I8 rfl (.cons r8 .nil) ⟨_,xs,v8,rfl,rfl,hD8,hlx,rfl⟩;rw[eP,eW,eA,eX] at S4;refine thn S4 λ_ s9 ⟨v9,H9,I9,_,e9⟩=>?_;subst e9;exact back I9 hm' w8
   |false=>
    rw[Zk Zs] at q7;rw[Zk Zs];obtain⟨m',hm',w8⟩:=q7;exact back I7 hm' w8
 exact codeAny_compStart_list (loop _ rfl) (T'.self _ 0 _ _ _ (T'.keep 0 _ _ st2 (λb hb o e=>keep b o (by rw[<- hg2];exact Zc _ e))) (loop _ rfl))
theorem xk2 {i0:Nat}{x0:Str}{px0 spos:Pos}{x:Str}{px pos:Pos}{elt iter:Expr}{scope:Scope}{wi:TI}{te:TE}(N:List Str) (sc:Scope) (kX:X.N=N) (k6:X.env.scope=sc) (hc:X.calm=true) (hN:X.N.Nodup) (wW:X.N[i0]?=some x0) (hx0:X.env.scope.names.lookup x0=some .local) (hi:PI X (.Name x px) iter wi)
  (he:∀cl C fp s₀ H₀,PE (qb3 X scope cl C [x] fp s₀ H₀) elt te)
  (jD:scope.kind=.function:=by rfl) (jB:scope.names.all (λy=>y.2 != .cell)=true:=by decide +kernel) (jC:scope.names.all (λy=>y.2 != .local||scope.names.lookup y.1==some .local)=true:=by decide +kernel)
  (hx:scope.names.lookup x=some .local:=by rfl) (jG:N.all (λy=>scope.names.lookup y != some .local)=true:=by decide +kernel)
  (jQ:scope.names.all (λp=>p.2 != .free||(sc.names.lookup p.1==some .cell||sc.names.lookup p.1==some .free))=true:=by decide +kernel)
  (hs:∀x,foldedSetIterable iter X.env x=pure x:=by intro _;rfl) (hsw:swapsWith (.ListComp elt [⟨.Name x px,iter,[],0⟩] scope pos) (some (.Name x0 px0)) spos.line X.env=pure true:=by rfl) :
  PS X (.Assign [.Name x0 px0] (.ListComp elt [⟨.Name x px,iter,[],0⟩] scope pos) spos) (tAsg (qn1 1 wi (qd1 0) qP8 te) (qd1 i0)):=by
 obtain⟨s1,s2,s3,s4⟩:=qh2 kX k6 jB jC jG jQ;refine qL7 (nn:=[x]) (λ_=>pure true) hc hi (λit acc env=>qI7 elt _ iter scope pos it acc env) (λcl C fp s₀ H₀=>?_) (λy os σ H R ho h=>loc1 ho h) (λcl C fp s₀ H₀ j8 s σ H Q I h=>Zb ⟨H,I,h⟩) he jD s1 s2 s3 s4 hs hN wW hx0 hsw;have l:(qb3 X scope cl C [x] fp s₀ H₀).env.scope.names.lookup x=some .local:=Yx hx;exact qh8 (i:=0) (YJ.mpr ⟨λz=>s3 x z hx,hN⟩) rfl (.inl l) (.inr l)
end
end L2
namespace L2
open PySem PySem.Spec PyProof.Rows PySem.W
section
variable {X:Cx}
def Its (z:Str):It:=⟨λi _=>i<z.cps.size,λi H x H'=>H'=H/\∃c,z.cps[i]?=some c/\x=.str ⟨#[c]⟩,λi _=>z.cps.size<=i⟩
theorem qL8 {P:Program}{w:World}{K:PySem.W.Frag}{x:Str}{px:Pos}(it:Addr) (z:Str) (t:Tok) (kind:String) (hkd:kind = "str_ascii_iterator" \/ kind = "str_iterator")
  (W:∀A:Around,A.handled=none->Walks P w A it [it] [it] z.cps.size (SignAt z) (λi h=>h.IsStrIter it kind z t i)):Turn P w K (.Name x px) (Its z) [it] it (λi h=>i<=z.cps.size/\h.IsStrIter it kind z t i) where
 mem:=by simp
 obj:=λi h st b hb=>by
  have e:b=it:=by simpa using hb
  subst e;obtain⟨_,o,e,c,d⟩:=st;exact⟨o,e,λv q=>by rw[d] at q;cases q⟩
 keep:=λi h h' st k=>⟨st.1,by
  obtain⟨_,o,e,r⟩:=st;exact⟨o,k it (by simp) o e,r⟩⟩
 item:=by
  intro X hP hw hK hc i j8 s σ H E I hf st hg;subst hP hw hK;obtain⟨f0,f1,f2,f3,f4,f5⟩:=hf it (by simp);have hg':i<z.cps.size:=hg;refine (W X.A (I.ok.hd hc)).item i s _ _ hg' st.2 λv h' tk hv st' kk=>?_;obtain⟨c,u,e1,rfl⟩:=hv;have I1:Inv X j8 σ H { s with heap:=h',toks:=tk }:=I.turned (λb o hb e=>kk b o (by simpa using hb) e) f0 f1 f3 f4 f5;exact⟨_,rfl,Zb ⟨.str ⟨#[c]⟩,H,I1,⟨_,rfl⟩,⟨rfl,c,e1,rfl⟩,⟨hg',st'⟩,λb hb=>(hf b hb).1⟩⟩
 done:=by
  intro X hP hw hK hc i j8 s σ H E I hf st hg;subst hP hw hK;obtain⟨f0,f1,f2,f3,f4,f5⟩:=hf it (by simp);have hi:i=z.cps.size:=V4 st.1 hg;subst hi;exact (W X.A (I.ok.hd hc)).done s _ _ st.2 λh' tk kk=>⟨rfl,I.turned (λb o hb e=>kk b o (by simpa using hb) e) f0 f1 f3 f4 f5⟩
 self:=λA i s Q E st h=>by
  rcases hkd with ha|ha
  ·subst ha;exact wpAny_pyIter_striter_ascii st.2 h
  ·subst ha;exact wpAny_pyIter_striter_wide st.2 h
def iStr (te:TE):TI:=λσ H R=>te σ H λx H1=>∃z,x=.str z/\R (Its z) H1
theorem qY9 {e:Expr}{te:TE}{x:Str}{px:Pos}(he:PE X e te):PI X (.Name x px) e (iStr te):=by
 intro j8 s σ H R I h;refine thn (he j8 s σ H _ I h) λv s1 ⟨y,H1,I1,r1,z,ez,q⟩=>?_;subst ez;obtain⟨t,rfl⟩:=r1;have fp:∀b∈[s1.heap.objs.size],FpOk X j8 H1 b:=λb hb=>by
  have e:b=s1.heap.objs.size:=by simpa using hb
  subst e;exact I1.fpOk (Ze _) (I1.hok.fresh (Ze _))
 cases ha:z.cps.all (·<128) with
 |true=>
  refine wpAny_pyIter_ascii ha ?_;exact⟨s1.heap.objs.size,[s1.heap.objs.size],_,_,H1,rfl,I1.kept (t':=s1.toks) (λb o e=>Zc _ e),qL8 _ z t "str_ascii_iterator" (.inl rfl) (λA hA=>Walks.strAscii hA _ z t),⟨Zv _,_,Zf _ rfl,rfl,rfl⟩,fp,q⟩
 |false=>
  refine wpAny_pyIter_wide ha ?_;exact⟨s1.heap.objs.size,[s1.heap.objs.size],_,_,H1,rfl,I1.kept (t':=s1.toks) (λb o e=>Zc _ e),qL8 _ z t "str_iterator" (.inr rfl) (λA hA=>Walks.strWide hA _ z t),⟨Zv _,_,Zf _ rfl,rfl,rfl⟩,fp,q⟩
def Itd (lo:Int) (n:Nat):It:=⟨λi _=>i<n,λi H x H'=>H'=H/\x=.int (lo-i),λi _=>n<=i⟩
theorem qZ0 {P:Program}{w:World}{K:PySem.W.Frag}{x:Str}{px:Pos}(it:Addr) (lo:Int) (n:Nat):Turn P w K (.Name x px) (Itd lo n) [it] it (λi h=>IsRangeIter h it (lo+(i:Nat)*(-1)) ((n:Int)-(i:Nat)) (-1)) where
 mem:=by simp
 obj:=λi h st b hb=>by
  have e:b=it:=by simpa using hb
  subst e;exact⟨_,st,λv z=>by
   have z':Data.fields _=Data.cell v:=z;cases z'⟩
 keep:=λi h h' st k=>k it (by simp) _ st
 item:=by
  intro X hP hw hK hc i j8 s σ H E I hf st hg;subst hP hw hK;obtain⟨f0,f1,f2,f3,f4,f5⟩:=hf it (by simp);refine (Walks.range (prog:=X.prog) (w:=X.w) (I.ok.hd hc) it lo (-1) n).item i s _ _ hg st λv h' tk hv st' kk=>?_;obtain⟨t,rfl⟩:=hv;have I1:Inv X j8 σ H { s with heap:=h',toks:=tk }:=I.turned (λb o hb e=>kk b o (by simpa using hb) e) f0 f1 f3 f4 f5;refine⟨_,rfl,Zb ⟨.int (lo-i),H,I1,⟨t,?_⟩,⟨rfl,rfl⟩,st',λb hb=>(hf b hb).1⟩⟩;rw[show lo+(i:Int)*(-1)=lo-i by lia]
 done:=by
  intro X hP hw hK hc i j8 s σ H E I hf st hg;subst hP hw hK;obtain⟨f0,f1,f2,f3,f4,f5⟩:=hf it (by simp);exact wpAny_pyNext_range_end (I.ok.hd hc) st (by have:n<=i:=hg;lia) λh' eb=>⟨rfl,I.turned (t':=s.toks) (λb o hb e=>eb b o hb e) f0 f1 f3 f4 f5⟩
 self:=λ_ _ _ _ _ st h=>wpAny_pyIter_rangeiter st h
def xx9 (ta:TA):TI:=λσ H R=>ta σ H λvs H1=>∃i j:Int,vs=[.int i,.int j,.int (-1)]/\(-1000000<=i/\i<=1000000/\-1000000<=j/\j<=1000000)/\R (Itd i (i-j).toNat) H1
theorem ql2 (a b:Int):Builtin.Range.rangeSize a b (-1)=(((a-b).toNat:Nat):Int):=by
 unfold Builtin.Range.rangeSize;rw[Zk (by decide)];by_cases h:a>b
 ·rw[Zx h,show (-(-1:Int))=1 by decide,Int.ediv_one];lia
 ·rw[Zk h];lia
theorem qQ3 {a b:Int}(h1:-1000000<=a) (h2:a<=1000000) (h3:-1000000<=b) (h4:b<=1000000):Builtin.Range.small a b (-1)=true:=by
 unfold Builtin.Range.small;rw[ql2];simp only[Builtin.Range.rangeFitsLong,VO,W9,WM,Wg,show ¬((-1:Int)>0) by decide,ZZ];lia
theorem xk3 {a b c:Expr}{ta:TA}{p pos px:Pos}{x:Str}(hg:Gl X "range") (hm:X.mg "range" = none) (ha:PA X [a,b,c] ta)
  (hs:starEach [a,b,c] X.env=[(false,eval a X.env),(false,eval b X.env),(false,eval c X.env)]:=by rfl) (hs2:starEach [b,c] X.env=[(false,eval b X.env),(false,eval c X.env)]:=by rfl) :
  PI X (.Name x px) (.Call (.Name "range" p) [a,b,c] [] pos) (xx9 ta):=by
 intro j8 s σ H R I h;refine Call_ (qw7 I hg hm boot_range (Xi (thn (ha pos j8 s σ H _ I h) λus s1 ⟨vs,H1,I1,r1,q1⟩=>?_) (by rw[hs,hs2]) (by rw[hs2];rfl)));obtain⟨i,j,e,⟨b1,b2,b3,b4⟩,q⟩:=q1;subst e;cases r1 with
 |cons r rr=>
  cases rr with
  |cons r' rr=>
   cases rr with
   |cons r'' rr=>
    cases rr;obtain⟨t,rfl⟩:=r;obtain⟨t',rfl⟩:=r';obtain⟨t'',rfl⟩:=r'';refine call_range_3 (by decide) ?_ (Or.inl (PyProof.noPylong_small (by lia)));refine wpAny_pyIter_range (IsRange.new ..) ?_ ?_
    ·exact qQ3 b1 b2 b3 b4
    ·have I2:Inv X j8 σ H1 { s1 with heap:=s1.heap.push { cls:=.type "range",data:=.fields #[.int i t,.int j t',.int (-1) t''] } }:=I1.kept (t':=s1.toks) λb o e=>Zc _ e;refine⟨(s1.heap.push { cls:=.type "range",data:=.fields #[.int i t,.int j t',.int (-1) t''] }).objs.size,[(s1.heap.push { cls:=.type "range",data:=.fields #[.int i t,.int j t',.int (-1) t''] }).objs.size],_,_,H1,rfl,
      I2.kept (t':=s1.toks) λb o e=>Zc _ e,qZ0 _ i (i-j).toNat,?_,λb hb=>?_,q⟩
     ·have e1:i+((0:Nat):Int)*(-1)=i:=by simp
      have e2:(((i-j).toNat:Nat):Int)-((0:Nat):Int)=Builtin.Range.rangeSize i j (-1):=by rw[ql2];simp
      show IsRangeIter _ _ (i+((0:Nat):Int)*(-1)) ((((i-j).toNat:Nat):Int)-((0:Nat):Int)) (-1);rw[e1,e2];exact Zf _ rfl
     ·have e:b=(s1.heap.push { cls:=.type "range",data:=.fields #[.int i t,.int j t',.int (-1) t''] }).objs.size:=by simpa using hb
      subst e;exact I2.fpOk (Ze _) (I2.hok.fresh (Ze _))
def xy0 (te:TE) (g1 g2:TG):TS:=λD σ H=>te σ H λx H1=>g1 x σ H1 λσ2 H2=>g2 x σ2 H2 D.nx
theorem xk4 {t1 t2 e:Expr}{te:TE}{g1 g2:TG}{pos:Pos}(he:PE X e te) (h1:PG X t1 g1) (h2:PG X t2 g2) (hw:swappedStores [t1,t2] e X.env=pure none:=by rfl)
  (h3:(assignEach [t1,t2] X.env).map (·.2)=[assign t1 X.env,assign t2 X.env]:=by rfl):PS X (.Assign [t1,t2] e pos) (xy0 te g1 g2):=by
 intro j8 s σ H D I h;refine wpAny_Assign_two (thn (he j8 s σ H _ I h) λv s1 ⟨x,H1,I1,r1,q1⟩=>?_) h3 hw;refine thn (h1 j8 s1 σ H1 x v _ I1 r1 q1) λ_ s2 ⟨σ2,H2,I2,q2⟩=>?_;exact thn (h2 j8 s2 σ2 H2 x v _ I2 r1 q2) λ_ s3 q=>q
def xs3:TE:=λ_ H Q=>∀p,H p=none->Q (.ref p) (upd H p (.dK []))
theorem q90 {pos:Pos}:PE X (.Dict [] [] pos) xs3:=λj8 s σ H Q I h=>by
 have hb:sysModules<s.heap.objs.size:=Vh (by decide) (I.mod.glob.keeps I.bk).lt;exact wpAny_Dict_empty ⟨.ref s.heap.objs.size,_,I.laid (a:=s.heap.objs.size) (o:=.dK []) (t':=s.toks) (λ_ _ q=>Zc _ q) (Ze _) ⟨Zv _,Vc.mpr (XC (Zp hb)),[],.nil,Heap.DictOf.new _⟩,rfl,h _ (I.hok.fresh (Ze _))⟩
end
end L2
namespace L2
open PySem PySem.Spec PyProof.Rows
theorem q91 {wi:TI}{te:TE}:q83 wi te=qn1 1 wi (qd1 0) qP8 te:=by
 funext σ H Q;unfold q83 qn1;congr 1;funext J H1;refine propext (Y4 λD=>Y4 λ_=>exists_congr λW=>Va λ_=>Y4 λi=>Y4 λm=>Y4 λxs=>Y4 λH2=>Y4 λ_=>Va λ_=>Va λ_=>or_congr_right (Va λ_=>Y4 λy=>Y4 λH3=>Y4 λ_=>⟨λh os ho=>?_,λh=>?_⟩))
 ·match os,ho with
  |[o],_=>
   unfold qd1 qP8;dsimp only;rw[Zx rfl];exact h
 ·have z:=h [none] rfl;unfold qd1 qP8 at z;dsimp only at z;rw[Zx rfl] at z;exact z
section
variable {X:Cx}
theorem qg3 {x:Str}{px pos:Pos}{elt iter:Expr}{scope:Scope}{wi:TI}{te:TE}(N:List Str) (sc:Scope) (kX:X.N=N) (k6:X.env.scope=sc) (hc:X.calm=true) (hN:X.N.Nodup) (hi:PI X (.Name x px) iter wi) (he:∀cl C fp s₀ H₀,PE (qb3 X scope cl C [x] fp s₀ H₀) elt te)
  (jD:scope.kind=.function:=by rfl) (jB:scope.names.all (λy=>y.2 != .cell)=true:=by decide +kernel) (jC:scope.names.all (λy=>y.2 != .local||scope.names.lookup y.1==some .local)=true:=by decide +kernel)
  (hx:scope.names.lookup x=some .local:=by rfl) (jG:N.all (λy=>scope.names.lookup y != some .local)=true:=by decide +kernel)
  (jQ:scope.names.all (λp=>p.2 != .free||(sc.names.lookup p.1==some .cell||sc.names.lookup p.1==some .free))=true:=by decide +kernel)
  (hs:∀x,foldedSetIterable iter X.env x=pure x:=by intro _;rfl):PE X (.ListComp elt [⟨.Name x px,iter,[],0⟩] scope pos) (q83 wi te):=by
 obtain⟨s1,s2,s3,s4⟩:=qh2 kX k6 jB jC jG jQ;rw[q91];refine qr1 (nn:=[x]) (λ_=>pure true) hc hi (λit acc env=>qI7 elt _ iter scope pos it acc env) (λcl C fp s₀ H₀=>?_) (λy os σ H R ho h=>loc1 ho h) (λcl C fp s₀ H₀ j8 s σ H Q I h=>Zb ⟨H,I,h⟩) he jD s1 s2 s3 s4 hs;have l:(qb3 X scope cl C [x] fp s₀ H₀).env.scope.names.lookup x=some .local:=Yx hx;exact qh8 (i:=0) (YJ.mpr ⟨λz=>s3 x z hx,hN⟩) rfl (.inl l) (.inr l)
end
end L2
namespace L2
open PySem
theorem qd5 {H:Hp}{a b:Addr}{o u:HO}(e:H a=some o) (hn:H b=none):upd H b u a=some o:=by rw[qb9 (qa7 e hn)];exact e
theorem qb4 {H:Hp}{a:Addr}{o:HO}(h:H a=none):Same H (upd H a o):=λb u e=>qd5 e h
def Tups (H H':Hp):Prop:=∀b u,H b=some (.tup u)->H' b=some (.tup u)
theorem Same.tups {H H':Hp}(s:Same H H'):Tups H H':=λb u e=>s b _ e
structure Goes (J:It) (H:Hp) (n:Nat) (item:Nat->V->Hp->Prop):Prop where
 go:∀i H2,i<n->Same H H2->J.go i H2
 yl:∀i H2 y H3,i<n->Same H H2->J.yld i H2 y H3->Same H2 H3/\item i y H3
 st:∀H2,Same H H2->J.stop n H2
theorem qr4 {K:PySem.W.Frag}{H:Hp}{a:Addr}{xs:List V}(ha:H a=some (.tup xs)):Goes (Itt K a) H xs.length (λi y _=>xs[i]?=some y) where
 go:=λi H2 hi s=>⟨xs,xs[i],SqT.of (s _ _ ha),by simp[hi]⟩
 yl:=λi H2 y H3 hi s h=>by
  obtain⟨e,h⟩:=h;subst e;exact⟨Same.refl _,h xs (SqT.of (s _ _ ha))⟩
 st:=λH2 s=>⟨xs,SqT.of (s _ _ ha),Ze _⟩
theorem qk1 {K:PySem.W.Frag}{H:Hp}{a:Addr}{xs:List V}(ha:H a=some (.lst xs)):Goes (Itl K a) H xs.length (λi y _=>xs[i]?=some y) where
 go:=λi H2 hi s=>⟨xs,xs[i],SqL.of (s _ _ ha),by simp[hi]⟩
 yl:=λi H2 y H3 hi s h=>by
  obtain⟨e,h⟩:=h;subst e;exact⟨Same.refl _,h xs (SqL.of (s _ _ ha))⟩
 st:=λH2 s=>⟨xs,SqL.of (s _ _ ha),Ze _⟩
theorem qZ1 {K:PySem.W.Frag}{H:Hp}{a:Addr}{xs:List V}(ha:H a=some (.tup xs)):Goes (Ite K a) H xs.length (λi y H3=>∃p x,y=.ref p/\xs[i]?=some x/\H3 p=some (.tup [.int i,x])) where
 go:=λi H2 hi s=>⟨xs,xs[i],SqT.of (s _ _ ha),by simp[hi]⟩
 yl:=λi H2 y H3 hi s h=>by
  obtain⟨p,x,hp,hx,rfl,rfl⟩:=h;exact⟨qb4 hp,p,x,rfl,hx xs (SqT.of (s _ _ ha)),qa3⟩
 st:=λH2 s=>⟨xs,SqT.of (s _ _ ha),Ze _⟩
theorem qh3 {J:It}{H:Hp}{n:Nat}{item:Nat->V->Hp->Prop}{te:TE}{σ:St}{Fin:Hp->Prop}{D:Addr}(hD:H D=none) (Rel:Nat->V->Hp->Prop) (G:Goes J H n item) (hsz:n<sizeLine)
  (mono:∀i y H1 H2,i<n->Tups H1 H2->Rel i y H1->Rel i y H2)
  (step:∀i x H2,i<n->item i x H2->Same H H2->∀Q':VK,(∀y H3,Same H2 H3->Rel i y H3->Q' y H3)->te (some x::σ) H2 Q')
  (fin:∀ys H2,Same H H2->H2 D=some (.lst ys)->ys.length=n->(∀i y,ys[i]?=some y->Rel i y H2)->Fin H2) :
  ∃W:Nat->Nat->List V->Hp->Prop,(∃m,W 0 m [] (upd H D (.lst []))) /\
   ∀i m xs H2,W i m xs H2->H2 D=some (.lst xs)/\xs.length<sizeLine/\((J.stop i H2/\Fin H2)\/(J.go i H2/\∀y H3,J.yld i H2 y H3 ->
    te (some y::σ) H3 λv H4=>H4 D=some (.lst xs)/\∃m',m'<m/\W (i+1) m' (xs++[v]) (upd H4 D (.lst (xs++[v]))))):=by
 refine⟨λi m ys H2=>i<=n/\m=n-i/\ys.length=i/\H2 D=some (.lst ys)/\Same H H2/\∀j y,ys[j]?=some y->Rel j y H2,⟨n,Zv _,rfl,rfl,qa3,qb4 hD,λj y h=>by simp at h⟩,?_⟩;rintro i m ys H2 ⟨hi,rfl,hl,hd,s2,rel⟩;refine⟨hd,by lia,?_⟩;by_cases he:i=n
 ·subst he;exact .inl ⟨G.st H2 s2,fin ys H2 s2 hd hl rel⟩
 ·refine .inr ⟨G.go i H2 (by lia) s2,λy H3 hy=>?_⟩;obtain⟨s3,it⟩:=G.yl i H2 y H3 (by lia) s2 hy;refine step i y H3 (by lia) it (s2.trans s3) _ λv H4 s4 r4=>?_;have jV:=s4 _ _ (s3 _ _ hd);refine⟨jV,n-(i+1),by lia,by lia,rfl,by rw[Zz,hl];rfl,qa3,?_,?_⟩
  ·intro b o e;rw[qb9 (qa7 e hD)];exact s4 _ _ (s3 _ _ (s2 _ _ e))
  ·have tk:Tups H4 (upd H4 D (.lst (ys++[v]))):=λb u e=>by
    have:b≠D:=λz=>by subst z;rw[jV] at e;cases e
    rw[qb9 this];exact e
   intro j z hz;by_cases hj:j<i
   ·rw[ZD (by lia)] at hz;exact mono j z H4 _ (by lia) tk (mono j z H2 H4 (by lia) (s3.trans s4).tups (rel j z hz))
   ·rw[ZH (by lia)] at hz;have:j-ys.length=0:=by
     have:=(gS_ hz).1;simp at this;lia
    rw[this] at hz;have:z=v:=by simpa using hz.symm
    subst this;have:j=i:=by lia
    subst this;exact mono _ _ H4 _ (by lia) tk r4
theorem qp0 {J:It}{H:Hp}{n k:Nat}{item:Nat->V->Hp->Prop}{g:TG}{tt:TT}{te:TE}{σ:St}{Fin:Hp->Prop}{D:Addr}(hD:H D=none) (yes:Nat->Bool) (val:Nat->V) (G:Goes J H n item) (hsz:n<sizeLine)
  (step:∀i x H2,i<n->item i x H2->Same H H2->∀os:St,os.length=k->∀(Q1:Hp->Prop) (Q2:VK),(yes i=false->∀H3,Same H2 H3->Q1 H3)->(yes i=true->∀H3,Same H2 H3->Q2 (val i) H3) ->
   g x (os++σ) H2 λσ4 H4=>tt σ4 H4 λb H5=>if b=true then te σ4 H5 Q2 else Q1 H5)
  (fin:∀H2,Same H H2->H2 D=some (.lst (((List.range n).filter yes).map val))->Fin H2) :
  ∃W:Nat->Nat->List V->Hp->Prop,(∃m,W 0 m [] (upd H D (.lst []))) /\
   ∀i m xs H2,W i m xs H2->H2 D=some (.lst xs)/\xs.length<sizeLine/\((J.stop i H2/\Fin H2)\/(J.go i H2/\∀y H3,J.yld i H2 y H3->∀os:St,os.length=k ->
    g y (os++σ) H3 λσ4 H4=>tt σ4 H4 λb H5=>if b=true then te σ4 H5 λv H6=>H6 D=some (.lst xs)/\∃m',m'<m/\W (i+1) m' (xs++[v]) (upd H6 D (.lst (xs++[v]))) else ∃m',m'<m/\W (i+1) m' xs H5)):=by
 refine⟨λi m ys H2=>i<=n/\m=n-i/\ys=((List.range i).filter yes).map val/\H2 D=some (.lst ys)/\Same H H2,⟨n,Zv _,rfl,rfl,qa3,qb4 hD⟩,?_⟩;rintro i m ys H2 ⟨hi,rfl,hl,hd,s2⟩;have j9:ys.length<=i:=by
  rw[hl,Zh];exact ZF (X6 _ _) (by simp)
 refine⟨hd,by lia,?_⟩;by_cases he:i=n
 ·subst he;exact .inl ⟨G.st H2 s2,fin H2 s2 (hl▸hd)⟩
 ·refine .inr ⟨G.go i H2 (by lia) s2,λy H3 hy os ho=>?_⟩;obtain⟨s3,it⟩:=G.yl i H2 y H3 (by lia) s2 hy;refine step i y H3 (by lia) it (s2.trans s3) os ho _ _ (λwR H4 s4=>?_) (λhyes H4 s4=>?_)
  ·refine⟨n-(i+1),by lia,by lia,rfl,?_,s4 _ _ (s3 _ _ hd),(s2.trans s3).trans s4⟩;rw[hl,Xe,WD];simp[wR]
  ·have jV:=s4 _ _ (s3 _ _ hd);refine⟨jV,n-(i+1),by lia,by lia,rfl,?_,qa3,λb o e=>?_⟩
   ·rw[hl,Xe,WD];simp[hyes]
   ·rw[qb9 (qa7 e hD)];exact s4 _ _ (s3 _ _ (s2 _ _ e))
theorem ixL {X:Cx}(K:PySem.W.Frag) (h:X.K=K):IxR X (rIxL K):=h▸qf1
theorem ixT {X:Cx}(K:PySem.W.Frag) (h:X.K=K):IxR X (rIxT K):=h▸qb0
theorem tupO {X:Cx}(K:PySem.W.Frag) (h:X.K=K):qe3 X (.type "tuple") (λxs H Q=>∃p ys,xs=[.ref p]/\((SqL K H p ys/\∀l,H l=none->Q (.ref l) (upd H l (.tup ys)))\/(SqT K H p ys/\Q (.ref p) H))):=h▸qy3
theorem piT {X:Cx}{tg l:Expr}{tl:TE}(K:PySem.W.Frag) (h:X.K=K) (hl:PE X l tl):PI X tg l (iTup K tl):=h▸qw8 hl
end L2
namespace Pr
open PySem L2
abbrev qx5:Stmt:=top 10
abbrev qL9:Stmt:=top 11
abbrev qZ2:Stmt:=top 12
abbrev sEnd:Stmt:=top 13
abbrev qy9:Stmt:=top 14
abbrev qZ3:Stmt:=top 17
abbrev qZ4:Stmt:=top 18
abbrev q92:Stmt:=top 19
abbrev qM0:Stmt:=top 20
abbrev qM1:Stmt:=top 21
abbrev qn4:Stmt:=top 22
abbrev qZ5:Stmt:=top 23
abbrev qM2:Stmt:=top 24
abbrev qM3:Stmt:=top 25
abbrev qt8:Stmt:=top 27
abbrev sRow:Stmt:=top 28
abbrev qZ6:Stmt:=top 29
abbrev qr5:Stmt:=top 30
abbrev qE2:Stmt:=top 31
abbrev qE3:Stmt:=top 32
abbrev qt9:Stmt:=top 35
abbrev qr6:Stmt:=top 36
abbrev qM4:Stmt:=top 37
abbrev qz0:Stmt:=top 38
abbrev qn5:Stmt:=top 39
abbrev qn6:Stmt:=top 41
abbrev qZ7:Stmt:=top 42
abbrev qk2:Stmt:=top 43
abbrev lPot:Stmt:=top 45
abbrev qq2:Stmt:=top 46
abbrev qE4:Stmt:=top 47
abbrev lBox:Stmt:=top 48
abbrev qE5:Stmt:=top 49
abbrev qx6:Stmt:=top 50
abbrev lHas:Stmt:=top 51
abbrev qj4:Stmt:=top 52
abbrev qM5:Stmt:=top 53
abbrev q93:Stmt:=top 54
abbrev qz1:Stmt:=top 55
abbrev q94:Stmt:=top 56
abbrev qz2:Stmt:=top 57
abbrev qM6:Stmt:=top 58
abbrev qE6:Stmt:=top 59
abbrev qM7:Stmt:=top 60
abbrev lLaw:Stmt:=top 61
end Pr
namespace L2
open PySem PySem.Spec PyProof.Rows
theorem qc7 {N P:List Str}{sc:Scope}(a:sc.kind=.function:=by rfl) (b:sc.isCoroutine=false:=by rfl) (c:sc.isGenerator=false:=by rfl) (d:N.Nodup:=by decide +kernel) (e:N.take P.length=P:=by rfl) (f:∀x∈P,sc.names.lookup x=some .local\/sc.names.lookup x=some .cell:=by decide +kernel) (g:∀y∈sc.names,y.2≠.free:=by decide +kernel):FnScope N P sc:=⟨a,b,c,d,e,f,g⟩
section
variable {X:Cx}
theorem psN (i:Nat){x:Str}{e:Expr}{te:TE}{pos pos':Pos}(hN:X.N.Nodup) (he:PE X e te) (hi:X.N[i]?=some x:=by rfl) (hx:Loc X.env.scope x:=by first|left;rfl|right;rfl) (hs:swapsWith e (some (.Name x pos')) pos.line X.env=pure false:=by rfl) (hf:X.fn x=true\/X.env.scope.names.lookup x=some .local:=by first|left;rfl|right;rfl|assumption):PS X (.Assign [.Name x pos'] e pos) (tAsg te (qd1 i)):=xp8 hN hi hx he hs hf
theorem pgN (i:Nat){x:Str}{pos:Pos}(hN:X.N.Nodup) (hi:X.N[i]?=some x:=by rfl) (hx:Loc X.env.scope x:=by first|left;rfl|right;rfl) (hf:X.fn x=true\/X.env.scope.names.lookup x=some .local:=by first|left;rfl|right;rfl|assumption):PG X (.Name x pos) (qd1 i):=qh8 hN hi hx hf
theorem pcN {k:Nat}{f:Addr}{fd:FuncData}{ps:List Str}{sp:Sp}{x:Str}{p pos:Pos}{e:Expr}{es:List Expr}{t:TA}(F:FnOk X.prog X.w X.K X.mg X.base CX0 k f fd ps sp) (hr:Room k X.A) (hm:X.mg x=some (.ref f)) (hk:PySem.W.keepIn X.K (.ref f)=true) (hb:Binds X.K fd ps []) (ha:PA X (e::es) t) (hg:Gl X x:=by rfl) (vA:(x==("__debug__" : Str))=false:=by decide) (he:starEach (e::es) X.env=(false,eval e X.env)::starEach es X.env:=by rfl) (jI:(backTo pos (starEach es X.env)).any (·.1)=false:=by rfl) :
  PE X (.Call (.Name x p) (e::es) [] pos) (q79 sp [] E0 t):=qU2 F hr hg hm hk hb .nil xq9 ha vA he jI
theorem pxN {r:R2}{a b:Expr}{pos:Pos}{ta tb:TE}(hr:IxR X r) (ha:PE X a ta) (hb:PE X b tb) (hs:qU8 b:=by intro _ _;rfl):PE X (.Subscript a b pos) (tOp r ta tb):=xw8 hr ha hb hs
end
end L2
namespace Pr
open PySem L2 Qf
structure Blt (mg:Str->Option Value):Prop where
 isi:mg "isinstance" = none
 int:mg "int" = none
 bool:mg "bool" = none
 tuple:mg "tuple" = none
 list:mg "list" = none
 set:mg "set" = none
 len:mg "len" = none
 all:mg "all" = none
 any:mg "any" = none
 enum:mg "enumerate" = none
 range:mg "range" = none
 max:mg "max" = none
 min:mg "min" = none
structure Cst (mg:Str->Option Value):Prop where
 first:∃t,mg "FIRST" = some (.int 2 t)
 full:∃t,mg "FULL" = some (.int 1 t)
 great:∃t,mg "GREATEST_SIZE" = some (.int 12 t)
def vN (r:List Nat):List V:=r.map λn:Nat=>V.int (n:Int)
theorem ql3 (r:List Nat):(vN r).length=r.length:=Zh ..
theorem qE7 {r:List Nat}{i:Nat}{x:V}(h:(vN r)[i]?=some x):∃n:Nat,r[i]?=some n/\x=.int (n:Int):=by
 unfold vN at h;rw[Zg] at h;obtain⟨n,h1,h2⟩:=Zj.mp h;exact⟨n,h1,h2.symm⟩
theorem xy1 {r:List Nat}{i n:Nat}(h:r[i]?=some n):(vN r)[i]?=some (.int (n:Int)):=by
 unfold vN;rw[Zg,h];rfl
theorem qE8 {r:List Nat}{i n:Nat}(h:r[i]?=some n):atI (vN r) (i:Int)=some (.int (n:Int)):=ql9 (xy1 h)
theorem qq3 (r:List Nat):vN r=(r.map λn:Nat=>(n:Int)).map V.int:=by unfold vN;rw[Yv];rfl
def RowsAt (H:Hp) (p:Addr) (rows:List Row):Prop:=∃bs:List Addr,H p=some (.tup (bs.map V.ref))/\bs.length=rows.length/\∀(i:Nat) b r,bs[i]?=some b->rows[i]?=some r->H b=some (.tup (vN r))
theorem RowsAt.mono {H H':Hp}{p:Addr}{rows:List Row}(h:RowsAt H p rows) (t:Tups H H'):RowsAt H' p rows:=by
 obtain⟨bs,h1,h2,h3⟩:=h;exact⟨bs,t _ _ h1,h2,λi b r e1 e2=>t _ _ (h3 i b r e1 e2)⟩
theorem RowsAt.same {H H':Hp}{p:Addr}{rows:List Row}(h:RowsAt H p rows) (t:Same H H'):RowsAt H' p rows:=h.mono t.tups
def RowsS (H:Hp) (p:Addr) (rows:List Row):Prop:=∃bs:List Addr,(H p=some (.tup (bs.map V.ref))\/H p=some (.lst (bs.map V.ref)))/\bs.length=rows.length/\∀(i:Nat) b r,bs[i]?=some b->rows[i]?=some r->H b=some (.tup (vN r))
theorem RowsAt.s {H:Hp}{p:Addr}{rows:List Row}(h:RowsAt H p rows):RowsS H p rows:=let ⟨bs,a,b,c⟩:=h;⟨bs,.inl a,b,c⟩
theorem RowsS.same {H H':Hp}{p:Addr}{rows:List Row}(h:RowsS H p rows) (s:Same H H'):RowsS H' p rows:=by
 obtain⟨bs,h1,h2,h3⟩:=h;exact⟨bs,h1.imp (s _ _) (s _ _),h2,λi b r e1 e2=>s _ _ (h3 i b r e1 e2)⟩
def rIxS (K:PySem.W.Frag):R2:=λx y H Q=>rIxL K x y H Q\/rIxT K x y H Q
theorem ixS {X:Cx}(K:PySem.W.Frag) (h:X.K=K):IxR X (rIxS K):=(ixL K h).or (ixT K h)
section
variable {P:Program}{w:World}{K:PySem.W.Frag}{mg:Str->Option Value}{base:Heap}
theorem xk5:FnScope ["thing"] ["thing"] (qa4 qx5):=qc7
def qz3:Sp:=λvs H Q _=>∃i:Int,vs=[.int i]/\Q (.bl true) H
theorem qz4 {f:Addr}{fd:FuncData}(F:Fun K "is_whole" "is_whole" qx5 f fd) (B:Blt mg):FnOk P w K mg base CX0 1 f fd ["thing"] qz3:=by
 refine F.ok xk5 (λvs H Q E h=>?_) (λcdv A outer s H vs Q E hr h=>?_)
 ·obtain⟨i,rfl,_⟩:=h
  rfl
 ·obtain⟨i,rfl,q⟩:=h;refine⟨_,qa8 (qa9 (qi2 (qa5 qg2 (by rfl) B.isi Z6 (qa0 (pv 0) (qa0 (qi6 (v:=.ty "int") (by rfl) B.int YZ rfl) qa2)))
   (qm5 (xp6 (qa5 qg2 (by rfl) B.isi Z6 (qa0 (pv 0) (qa0 (qi6 (v:=.ty "bool") (by rfl) B.bool PyProof.Rows.boot_bool rfl) qa2))))))),?_⟩
  exact⟨_,rfl,_,_,_,_,true,rfl,rfl,.inl (.int i),rfl,_,rfl,iteT ⟨_,rfl,_,_,_,_,false,rfl,rfl,.inl (.int i),rfl,_,rfl,q⟩⟩
theorem xs4:FnScope ["thing"] ["thing"] (qa4 qZ3):=qc7
def qZ8:Sp:=λvs H Q _=>∃n:Nat,vs=[.int n]/\n<=12/\Q (.bl true) H
theorem xk6 {f fW:Addr}{fd fdW:FuncData}(F:Fun K "is_size" "is_size" qZ3 f fd) (B:Blt mg) (T:Cst mg) (hW:mg "is_whole" = some (.ref fW)) (FW:Fun K "is_whole" "is_whole" qx5 fW fdW) (bW:Binds K fdW ["thing"] []):FnOk P w K mg base CX0 2 f fd ["thing"] qZ8:=by
 have GW:FnOk P w K mg base CX0 1 fW fdW ["thing"] qz3:=qz4 FW B;obtain⟨tg,hgr⟩:=T.great;refine F.ok xs4 (λvs H Q E h=>?_) (λcdv A outer s H vs Q E hr h=>?_)
 ·obtain⟨x,rfl,_⟩:=h
  rfl
 ·obtain⟨n,rfl,hn,q⟩:=h;refine⟨_,qa8 (qa9 (qi2 (pcN GW hr hW FW.kp bW (qa0 (pv 0) qa2)) (qm5 (qq8 qs3 qs3 qa1 (pv 0) (qe0 (v:=.int 12) (by rfl) hgr ⟨_,rfl⟩))))),?_⟩;refine⟨_,rfl,n,rfl,_,rfl,iteT ⟨_,rfl,_,_,rfl,rfl,_,rfl,?_⟩⟩;have e:decide ((n:Int)<=12)=true:=Zu (by lia);refine ite2 (λ_=>⟨_,_,rfl,rfl,?_⟩) (λh1=>absurd (Zu (WB n)) h1);show Q (V.bl (decide ((n:Int)<=12))) H;rw[e];exact q
theorem q95:FnScope ["thing", "many"] ["thing", "many"] (qa4 qt8):=qc7
def qz5:Sp:=λvs H Q _=>∃n m:Nat,vs=[.int n,.int m]/\n<m+2/\Q (.bl true) H
theorem qZ9 {f fW:Addr}{fd fdW:FuncData}(F:Fun K "is_number" "is_number" qt8 f fd) (B:Blt mg) (T:Cst mg) (hW:mg "is_whole" = some (.ref fW)) (FW:Fun K "is_whole" "is_whole" qx5 fW fdW) (bW:Binds K fdW ["thing"] []):FnOk P w K mg base CX0 2 f fd ["thing", "many"] qz5:=by
 have GW:FnOk P w K mg base CX0 1 fW fdW ["thing"] qz3:=qz4 FW B;obtain⟨tf,hf⟩:=T.first;refine F.ok q95 (λvs H Q E h=>?_) (λcdv A outer s H vs Q E hr h=>?_)
 ·obtain⟨n,m,rfl,_⟩:=h
  rfl
 ·obtain⟨n,m,rfl,hn,q⟩:=h;refine⟨_,qa8 (qa9 (qi2 (pcN GW hr hW FW.kp bW (qa0 (pv 0) qa2)) (qm5 (qq8 qs3 qj0 qa1 (pv 0) (qa6 qc3 (pv 1) (qe0 (v:=.int 2) (by rfl) hf ⟨_,rfl⟩)))))),?_⟩;refine⟨_,rfl,n,rfl,_,rfl,iteT ⟨_,rfl,_,_,rfl,rfl,_,rfl,?_⟩⟩;have e:decide ((n:Int)<(m:Int)+2)=true:=Zu (by lia);refine ite2 (λ_=>⟨_,rfl,_,_,rfl,rfl,_,_,rfl,rfl,?_⟩) (λh1=>absurd (Zu (WB n)) h1);show Q (V.bl (decide ((n:Int)<(m:Int)+2))) H;rw[e];exact q
theorem xk7:FnScope ["row"] ["row"] (qa4 qL9):=qc7
def q00:Sp:=λvs H Q _=>∃(b:Addr) (r:Row),vs=[.ref b]/\H b=some (.tup (vN r))/\r.length=4/\∀H',Same H H'->Q (.bl (decide (qy8 r))) H'
theorem q01 {l m:List Nat}(h:(l.map λn:Nat=>(n:Int))=m.map λn:Nat=>(n:Int)):l=m:=by
 induction l generalizing m with
 |nil=>cases m with
  |nil=>rfl
  |cons b m=>simp at h
 |cons a l ih=>cases m with
  |nil=>simp at h
  |cons b m=>
   rw[Zy,Zy] at h;injection h with h1 h2
   rw[ih h2,Int.ofNat.inj h1]
theorem q96 {f:Addr}{fd:FuncData}(F:Fun K "is_plain" "is_plain" qL9 f fd) (T:Cst mg):FnOk P w K mg base CX0 2 f fd ["row"] q00:=by
 obtain⟨tf,hf⟩:=T.first;refine F.ok xk7 (λvs H Q E h=>?_) (λcdv A outer s H vs Q E hr h=>?_)
 ·obtain⟨b,r,rfl,_⟩:=h
  rfl
 ·obtain⟨b,r,rfl,hb,hl,q⟩:=h;refine⟨_,qa8 (qa9 (qi2 (qd7 qj0 (pxN qb0 (pv 0) qa1) (qe0 (v:=.int 2) (by rfl) hf ⟨_,rfl⟩) (qb2 _))
   (qm5 (qd7 (qX3 hr) (pv 0) (qa6 xk0 (qd8 (qa0 (pxN qb0 (pv 0) qa1) qa2)) qa1) (qb2 _))))),?_⟩
  match r,hl with
  |[x0,x1,x2,x3],_=>
   refine⟨_,rfl,b,_,0,.int x0,rfl,rfl,SqT.of hb,rfl,_,_,rfl,rfl,_,rfl,?_⟩;refine ite2 (λhc=>?_) (λhc=>?_)
   ·have h2:x0<2:=by have:=ZI hc;lia
    refine⟨_,rfl,_,rfl,b,_,0,.int x0,rfl,rfl,SqT.of hb,rfl,(by show 1<=sizeLine;decide),λp hp=>⟨p,4,.int x0,rfl,rfl,qa3,by decide,by decide,λp2 jN=>?_⟩⟩;have vI:=qd5 (u:=.tup (List.replicate 4 (V.int x0))) (qd5 (u:=.tup [V.int x0]) hb hp) jN;refine⟨dT [(x0:Int),(x1:Int),(x2:Int),(x3:Int)],dT [(x0:Int),(x0:Int),(x0:Int),(x0:Int)],.tup vI (DatasAt.ints [(x0:Int),(x1:Int),(x2:Int),(x3:Int)]),.tup qa3 (DatasAt.ints [(x0:Int),(x0:Int),(x0:Int),(x0:Int)]),qX4 _,qX4 _,(by show 1<=60;decide),?_⟩;rw[xr9];have e:decide (([(x0:Int),(x1:Int),(x2:Int),(x3:Int)]:List Int)=([(x0:Int),(x0:Int),(x0:Int),(x0:Int)]:List Int))=decide (qy8 [x0,x1,x2,x3]):=by
     congr 1;apply propext;unfold qy8;constructor
     ·intro z;have:[x0,x1,x2,x3]=[x0,x0,x0,x0]:=q01 (l:=[x0,x1,x2,x3]) (m:=[x0,x0,x0,x0]) z;have:x0=0\/x0=1:=by lia
      rcases this with rfl|rfl
      ·exact .inl ‹_›
      ·exact .inr ‹_›
     ·rintro (z|z)<;>(cases z;rfl)
    rw[e];exact q _ ((qb4 hp).trans (qb4 jN))
   ·have h2:¬x0<2:=λz=>hc (Zu (by lia));have e:decide (qy8 [x0,x1,x2,x3])=false:=Zn (by
     rintro (z|z)<;>(cases z;lia))
    have:=q H (Same.refl H);rw[e] at this;exact this
end
end Pr
namespace Qf
theorem xk8 (l:List Nat) (a:Nat):mx (l++[a])=max (mx l) a:=by
 induction l with
 |nil=>show max a 0=max 0 a;lia
 |cons b l ih=>show max b (mx (l++[a]))=max (max b (mx l)) a;rw[ih];lia
theorem q02 (l:List Nat):∀k,k<l.length->L2.best (l.map λn:Nat=>(n:Int)) k=(mx (l.take (k+1)):Nat)
 |0,h=>by
  cases l with
  |nil=>simp at h
  |cons a l=>show ((a:Nat):Int)=((max a 0:Nat):Int);simp
 |k+1,h=>by
  have ih:=q02 l k (by lia);have e:(l.map λn:Nat=>(n:Int)).getD (k+1) 0=((l[k+1]:Nat):Int):=by simp[List.getD,h]
  have t:l.take (k+1+1)=l.take (k+1)++[l[k+1]]:=by rw[Xw h]
  unfold L2.best;rw[e,ih,t,xk8];split<;>lia
theorem q97 {l:List Nat}(h:l≠[]):L2.best (l.map λn:Nat=>(n:Int)) ((l.map λn:Nat=>(n:Int)).length-1)=(mx l:Nat):=by
 have hl:0<l.length:=Xg.mpr h;rw[Zh,q02 l (l.length-1) (by lia),show l.length-1+1=l.length by lia,Wp]
theorem q03 {rows:List Row}{i:Nat}{r:Row}(h:rows[i]?=some r):deps (rows.take (i+1))=deps (rows.take i)++[1+mx (r.map (dp (rows.take i)))]:=by
 have hl:=(gS_ h).1;have he:=(gS_ h).2;rw[<- qn2,<- he,Xw hl]
theorem xf5 {rows:List Row}{x:Nat}(h:x<rows.length+2):(deps rows)[x]?=some (dp rows x):=by
 unfold dp;rw[ZA];have:x<(deps rows).length:=by rw[qn3];exact h
 rw[Zd this];rfl
end Qf
namespace Pr
open PySem L2 Qf
theorem qk3 {xs ys:List V}(hl:xs.length=ys.length) (h:∀(i:Nat) x,xs[i]?=some x->ys[i]?=some x):xs=ys:=by
 refine Xr λi=>?_;cases e:xs[i]? with
 |some x=>exact (h i x e).symm
 |none=>
  have:xs.length<=i:=List.getElem?_eq_none_iff.mp e;exact (Yt (by lia)).symm
section
variable {P:Program}{w:World}{K:PySem.W.Frag}{mg:Str->Option Value}{base:Heap}
theorem scDeps:FnScope ["rows", "depths", "row"] ["rows"] (qa4 qZ2):=qc7
def xf6:Sp:=λvs H Q _=>∃(p:Addr) (rows:List Row),vs=[.ref p]/\RowsAt H p rows/\qd4 rows/\rows.length<=900/\∀H' D,Same H H'->H' D=some (.lst (vN (deps rows)))->Q (.ref D) H'
theorem xk9 {f:Addr}{fd:FuncData}(F:Fun K "depths_of" "depths_of" qZ2 f fd) (B:Blt mg):FnOk P w K mg base CX0 1 f fd ["rows"] xf6:=by
 refine F.ok scDeps (λvs H Q E h=>?_) (λcdv A outer s H vs Q E hr h=>?_)
 ·obtain⟨p,rows,rfl,_⟩:=h
  rfl
 ·obtain⟨p,rows,rfl,hR,ok,hn,q⟩:=h;refine⟨_,qb5 (psN 1 scDeps.nd (qi4 (qa0 qa1 (qa0 qa1 qa2))))
   (qb5 (ql1 YK rfl (qw8 (pv 0)) (pgN 2 scDeps.nd)
    (qa8 (qe1 (q81 XN Xx Xy qh1 (pv 1) (qa0 (qa6 qc3 qa1 (qa5 (qY3 rfl) (by rfl) B.max ZN
     (qa0 (qg3 ["rows", "depths", "row"] (qa4 qZ2) rfl rfl rfl scDeps.nd (qw8 (pv 2)) (λcl C fp s₀ H₀=>pxN (ixL K rfl) (pv 2) (pv 0))) qa2))) qa2)))))
   (qa8 (qa9 (pv 1)))),?_⟩
  refine⟨(by show 2<=sizeLine;decide),λD hD=>?_⟩;obtain⟨bs,hp,j9,jE⟩:=id hR;have jY:=qd5 (u:=.lst [.int 0,.int 0]) hp hD;have jT:(bs.map V.ref).length=rows.length:=by rw[Zh];exact j9
  refine⟨_,rfl,p,rfl,⟨_,SqT.of jY⟩,qI1 (K:=K) (a:=p) (xs:=bs.map V.ref) (λi σ H2=>Same H H2/\H2 D=some (.lst (vN (deps (rows.take i))))/\∃v2,σ=[some (.ref p),some (.ref D),v2])
   ⟨qb4 hD,qa3,none,rfl⟩ (λi σ H2 _ ⟨s2,_⟩=>SqT.of (s2 _ _ hp)) ?_ ?_⟩
  ·rintro i y σ H2 hy ⟨s2,kK,v2,rfl⟩;have hi:i<rows.length:=by rw[<- jT];exact (gS_ hy).1
   rw[Zg] at hy;obtain⟨b,hb,rfl⟩:=Zj.mp hy;have jJ:rows[i]?=some rows[i]:=by simp[hi]
   have kG:=s2 _ _ (jE i b rows[i] hb jJ);have rk:=ok i _ jJ;have tl:(rows.take i).length=i:=by rw[XH];lia
   have kD:∀x,x<i+2->(deps (rows.take i))[x]?=some (dp (rows.take i) x):=λx hx=>xf5 (by rw[tl];exact hx);generalize rows[i]=r at jJ kG rk;refine⟨_,rfl,.inl ⟨rfl,_,SqL.of kK⟩,_,rfl,b,rfl,⟨_,SqT.of kG⟩,λD2 kY=>qh3 kY (λj z _=>∃x,r[j]?=some x/\z=.int (dp (rows.take i) x:Nat)) (qr4 (K:=K) kG) (by rw[ql3,rk.1];decide) (λ_ _ _ _ _ _ h=>h) ?_ ?_⟩
   ·intro j x H3 hj hx s3 Q' hq;obtain⟨m,hm,rfl⟩:=qE7 hx;have jA:=rk.2 m (Zr hm);exact⟨_,rfl,_,rfl,D,_,(m:Int),.int (dp (rows.take i) m:Nat),rfl,rfl,SqL.of (s3 _ _ kK),qE8 (kD m jA),hq _ _ (Same.refl _) ⟨m,hm,rfl⟩⟩
   ·intro ys H3 s3 wA kS vJ;have ey:ys=(r.map (dp (rows.take i))).map (λn:Nat=>V.int (n:Int)):=by
     refine qk3 (by rw[kS,ql3,Zh,Zh]) λj x hx=>?_;obtain⟨m,hm,rfl⟩:=vJ j x hx;rw[Zg,Zg,hm];rfl
    have e2:ys=((r.map (dp (rows.take i))).map (λn:Nat=>(n:Int))).map V.int:=ey.trans (qq3 _);have jF:r.map (dp (rows.take i))≠[]:=λz=>by
     have:=Yk List.length z;rw[Zh,rk.1] at this;cases this
    refine⟨D2,(r.map (dp (rows.take i))).map (λn:Nat=>(n:Int)),rfl,e2▸wA,λz=>jF (List.map_eq_nil_iff.mp z),_,_,rfl,rfl,?_⟩;rw[q97 jF];have jV:=s3 _ _ kK;refine⟨D,_,_,rfl,rfl,jV,?_,?_⟩
    ·rw[ql3,qn3,tl];exact qd3 (by lia)
    ·have nD:∀b o,H b=some o->b≠D:=λb o e=>qa7 e hD;refine⟨λb o e=>by rw[qb9 (nD b o e)];exact s3 _ _ (s2 _ _ e),?_,_,rfl⟩;rw[qa3,q03 jJ];unfold vN;rw[Z7]
     rfl
  ·rintro σ H2 ⟨s2,kK,v2,rfl⟩;refine⟨_,rfl,q H2 D s2 ?_⟩;rw[jT,Wp] at kK;exact kK
end
end Pr
namespace Qf
theorem q98 {rows:List Row}{e:List Nat}(h:Post rows e):e.length<=rows.length:=by
 have:=h.nd.length_le_of_subset (l₂:=List.range rows.length) λp hp=>Yw.mpr (h.lt p hp);simpa using this
theorem qu0 {rows:List Row}(ok:qd4 rows){d p:Nat}{r:Row}(hp:rows[p]?=some r) (hd:dp rows (p+2)<=d+1):∀(l e:List Nat),(∀q∈l,q∈r)->Post rows e->Post rows (l.foldl (dfs rows d) e)
 |[],_,_,pe=>pe
 |q::l,e,hl,pe=>by
  have hq:=hl q ZC;have jA:=(ok p r hp).2 q hq;have jI:=(gS_ hp).1;have hdq:dp rows q<=d:=by
   have:=qY4 (Ym.mpr ⟨q,hq,rfl⟩:dp rows q∈r.map (dp rows));have e:=qI8 ok hp;lia
  exact qu0 ok hp hd l _ (λz hz=>hl z (Zl _ hz)) (qh9 ok d e q pe (by lia) hdq).1
theorem qf4 {rows:List Row}(ok:qd4 rows){d p:Nat}{r:Row}(hp:rows[p]?=some r) (hd:dp rows (p+2)<=d+1){q:Nat}(hq:q∈r):q<rows.length+2/\dp rows q<=d:=by
 have jA:=(ok p r hp).2 q hq;have jI:=(gS_ hp).1;have:=qY4 (Ym.mpr ⟨q,hq,rfl⟩:dp rows q∈r.map (dp rows));have e:=qI8 ok hp;exact⟨by lia,by lia⟩
theorem qE9 {rows:List Row}(ok:qd4 rows){x:Nat}(hx:x<rows.length+2) (h:dp rows x<=0):x<2:=by
 by_cases z:x<2
 ·exact z
 ·exfalso;have hp:x-2<rows.length:=by lia
  have:=qI8 ok (qY8 hp);rw[show x-2+2=x by lia] at this;lia
end Qf
namespace Pr
open PySem L2 Qf
theorem qu1 {n:Nat}(h:n<=1191000):n<sizeLine:=Y1 h (by decide)
def But (e:Addr) (H H':Hp):Prop:=∀b o,H b=some o->b≠e->H' b=some o
theorem But.refl (e:Addr) (H:Hp):But e H H:=λ_ _ h _=>h
theorem But.trans {e:Addr}{H H1 H2:Hp}(a:But e H H1) (b:But e H1 H2):But e H H2:=λc o h n=>b c o (a c o h n) n
theorem But.upd {e:Addr}{H:Hp}{o:HO}:But e H (upd H e o):=λb u h n=>by rw[qb9 n];exact h
theorem But.of {e:Addr}{H H':Hp}(h:Same H H'):But e H H':=λb o q _=>h b o q
theorem But.tups {e:Addr}{H H':Hp}(h:But e H H'){o:HO}(he:H e=some o) (no:∀u,o≠.tup u):Tups H H':=λb u q=>h b _ q λz=>by
 subst z;rw[q] at he;exact no u (ZO he).symm
def eK (es:List Nat):List (Key×V):=es.map λp:Nat=>(Sum.inl (p:Int),V.bl true)
theorem xf7 (es:List Nat) (p:Nat):(valV (eK es) (Sum.inl (p:Int))).isSome=decide (p∈es):=by
 rw[<- qm8];unfold eK;rw[List.any_map];by_cases h:p∈es
 ·rw[Zu h,Wo];exact⟨p,h,by simp⟩
 ·rw[Zn h,VA];intro q hq;simp only[Function.comp,WM];intro z;have:(q:Int)=p:=Sum.inl.inj z;exact h (by rw[<- Int.ofNat.inj this];exact hq)
theorem xs5 {es:List Nat}{p:Nat}(h:p∉es):putK (eK es) (Sum.inl (p:Int)) (.bl true)=eK (es++[p]):=by
 unfold putK;have:=xf7 es p;rw[<- qm8,Zn h] at this;rw[Zk (by rw[this];decide)];unfold eK;rw[Z7];rfl
section
variable {P:Program}{w:World}{K:PySem.W.Frag}{mg:Str->Option Value}{base:Heap}
theorem scEnd:FnScope ["rows", "number", "ended", "quarter"] ["rows", "number", "ended"] (qa4 sEnd):=qc7
def xs6 (d:Nat):Sp:=λvs H Q _=>∃(p e:Addr) (x:Nat) (rows:List Row) (es:List Nat),vs=[.ref p,.int (x:Nat),.ref e]/\RowsS H p rows/\qd4 rows/\rows.length<=1190900/\x<rows.length+2/\dp rows x<=d/\Post rows es /\
 H e=some (.dK (eK es))/\∀H',But e H H'->H' e=some (.dK (eK (dfs rows d es x)))->Q .non H'
theorem xs7 {f:Addr}{fd:FuncData}(F:Fun K "end_rows" "end_rows" sEnd f fd) (T:Cst mg) (hE:mg "end_rows" = some (.ref f)) (bE:Binds K fd ["rows", "number", "ended"] []):∀d,FnOk P w K mg base CX0 (d+1) f fd ["rows", "number", "ended"] (xs6 d):=by
 obtain⟨tf,hf⟩:=T.first;intro d
 induction d with
 |zero=>
  refine F.ok scEnd (λvs H Q E h=>?_) (λcdv A outer s H vs Q E hr h=>?_)
  ·obtain⟨p,e,x,rows,es,rfl,_⟩:=h
   rfl
  ·obtain⟨p,e,x,rows,es,rfl,hR,ok,hn,hx,hd,pe,he,q⟩:=h;have hu:A.units+3+1<cLine:=by have:=hr.un;exact Y1 (Yr _ _) (show A.units+3+1+199<cLine from by simpa using this)
   have x2:=qE9 ok hx hd;refine⟨_,qb5 (qd9 (qk9 (qb7 qj0 (pv 1) (qe0 (v:=.int 2) (by rfl) hf ⟨_,rfl⟩) (qb2 _)) (qg9 (qS9 (xf1 hu (qa6 qc0 (pv 1) (qe0 (v:=.int 2) (by rfl) hf ⟨_,rfl⟩)) (pv 2))))).pt (qa8 qy2) qb8) qf6,?_⟩;refine⟨_,rfl,_,_,rfl,rfl,_,rfl,?_⟩;rw[Zu (show (x:Int)<2 by lia)];exact iteT (iteT (q H (But.refl e H) he))
 |succ d ih=>
  refine F.ok scEnd (λvs H Q E h=>?_) (λcdv A outer s H vs Q E hr h=>?_)
  ·obtain⟨p,e,x,rows,es,rfl,_⟩:=h
   rfl
  ·obtain⟨p,e,x,rows,es,rfl,hR,ok,hn,hx,hd,pe,he,q⟩:=h;have hu:A.units+3+1<cLine:=by have:=hr.un;exact Y1 (Yr _ (16*(d+1)+199)) (show A.units+3+1+(16*(d+1)+199)<cLine from by
    have h2:A.units+3+16*(d+1)+200<cLine:=this;lia)
   refine⟨_,qb5 (qd9 (qk9 (qb7 qj0 (pv 1) (qe0 (v:=.int 2) (by rfl) hf ⟨_,rfl⟩) (qb2 _)) (qg9 (qS9 (xf1 hu (qa6 qc0 (pv 1) (qe0 (v:=.int 2) (by rfl) hf ⟨_,rfl⟩)) (pv 2))))).pt (qa8 qy2) qb8)
    (qb5 (ql1 YK rfl (qw8 (pxN (ixS K rfl) (pv 0) (qa6 qc0 (pv 1) (qe0 (v:=.int 2) (by rfl) hf ⟨_,rfl⟩)))) (pgN 3 scEnd.nd)
     (qa8 (qe1 (pcN ih hr hE F.kp bE (qa0 (pv 0) (qa0 (pv 3) (qa0 (pv 2) qa2)))))))
    (qa8 (qV8 hu (pv 2) (qa6 qc0 (pv 1) (qe0 (v:=.int 2) (by rfl) hf ⟨_,rfl⟩)) qm4 (by rfl)))),?_⟩
   refine⟨_,rfl,_,_,rfl,rfl,_,rfl,?_⟩;unfold dfs at q;refine ite2 (λhc=>?_) (λhc=>?_)
   ·have x2:x<2:=by have:=ZI hc;lia
    rw[Zx (.inl x2)] at q;exact iteT (q H (But.refl e H) he)
   ·have x2:¬x<2:=λz=>hc (Zu (by lia));have ex:(x:Int)-2=((x-2:Nat):Int):=by lia
    have dg:DGet H e (.int ((x:Int)-2)) (valV (eK es) (Sum.inl ((x-2:Nat):Int))):=by rw[ex];exact DGet.k (k:=Sum.inl ((x-2:Nat):Int)) he
    refine⟨_,rfl,_,_,rfl,rfl,_,rfl,e,_,rfl,dg,_,rfl,?_⟩;rw[xf7];refine ite2 (λhm=>?_) (λhm=>?_)
    ·rw[Zx (.inr (ZI hm))] at q;exact q H (But.refl e H) he
    ·have hnm:x-2∉es:=λz=>hm (Zu z);rw[Zk (by rintro (z|z);exact x2 z;exact hnm z)] at q;have jA:x-2<rows.length:=by lia
     have hg:=qY8 jA;generalize rows.getD (x-2) []=r at q hg;obtain⟨bs,hp,j9,jE⟩:=id hR;have hdx:dp rows (x-2+2)<=d+1:=by rw[show x-2+2=x by lia];exact hd
     have wL:bs[x-2]?=some (bs[x-2]'(by lia)):=by simp[show x-2<bs.length by lia]
     have kG:=jE (x-2) _ r wL hg;have nbe:∀b∈bs,b≠e:=λb hb z=>by
      obtain⟨j,hj,ej⟩:=ZE.mp hb;have:=jE j b (rows[j]'(by lia)) (by rw[Zd hj,ej]) (Zd (by lia));rw[z,he] at this;cases this
     have npe:p≠e:=λz=>by
      rw[z,he] at hp;rcases hp with hp|hp<;>cases hp
     have hRm:∀H2,But e H H2->RowsS H2 p rows:=λH2 s2=>⟨bs,hp.imp (λh=>s2 _ _ h npe) (λh=>s2 _ _ h npe),j9,λi b r e1 e2=>s2 _ _ (jE i b r e1 e2) (nbe b (Zr e1))⟩;have ixx:∀Q':VK,Q' (.ref (bs[x-2]'(by lia))) H->rIxS K (.ref p) (.int ((x:Int)-2)) H Q':=λQ' hQ=>by
      rcases hp with h|h
      ·exact .inr ⟨p,_,((x-2:Nat):Int),.ref (bs[x-2]'(by lia)),rfl,Yk V.int ex,SqT.of h,ql9 (by rw[Zg,wL];rfl),hQ⟩
      ·exact .inl ⟨p,_,((x-2:Nat):Int),.ref (bs[x-2]'(by lia)),rfl,Yk V.int ex,SqL.of h,ql9 (by rw[Zg,wL];rfl),hQ⟩
     refine⟨_,rfl,_,rfl,_,_,rfl,rfl,ixx _ ⟨_,rfl,⟨_,SqT.of kG⟩,
      qI1 (K:=K) (xs:=vN r) (λi σ H2=>But e H H2/\H2 e=some (.dK (eK ((r.take i).foldl (dfs rows d) es)))/\∃v3,σ=[some (.ref p),some (.int (x:Nat)),some (.ref e),v3])
      ⟨But.refl e H,he,none,rfl⟩ (λi σ H2 _ ⟨s2,_⟩=>SqT.of (s2.tups he (λu z=>by cases z) _ _ kG)) ?_ ?_⟩⟩
     ·rintro i y σ H2 hy ⟨s2,vM,v3,rfl⟩;obtain⟨m,hm,rfl⟩:=qE7 hy;have hq:=Zr hm;obtain⟨b1,b2⟩:=qf4 ok hg hdx hq;refine⟨_,rfl,_,rfl,_,rfl,p,e,m,rows,(r.take i).foldl (dfs rows d) es,rfl,hRm H2 s2,ok,hn,b1,b2,qu0 ok hg hdx _ es (λz hz=>List.mem_of_mem_take hz) pe,vM,λH3 s3 he3=>⟨s2.trans s3,?_,_,rfl⟩⟩;have vL:=(gS_ hm).1;have hme:=(gS_ hm).2;rw[<- Xw vL,List.foldl_append,hme];exact he3
     ·rintro σ H2 ⟨s2,vM,v3,rfl⟩;rw[ql3,Wp] at vM;have pf:=qu0 ok hg hdx r es (λz hz=>hz) pe;have fin:=(qh9 ok (d+1) es x pe hx hd).1;unfold dfs at fin;rw[Zk (by rintro (z|z);exact x2 z;exact hnm z)] at fin;have eg:rows.getD (x-2) []=r:=by
       rw[ZA,hg];rfl
      rw[eg] at fin;have hni:x-2∉r.foldl (dfs rows d) es:=λz=>by
       have:=(X7.mp fin.nd).2.2 (x-2) z (x-2) (by simp);exact this rfl
      have dq:DPut H2 e (.int ((x:Int)-2)) (.bl true) (upd H2 e (.dK (eK (r.foldl (dfs rows d) es++[x-2])))):=by
       rw[ex,<- xs5 hni];refine DPut.k (k:=Sum.inl ((x-2:Nat):Int)) vM ?_;unfold eK;rw[Zh];exact qu1 (by have:=q98 pf;lia)
      exact⟨_,rfl,_,rfl,_,_,rfl,rfl,e,_,rfl,dq,q _ (s2.trans But.upd) qa3⟩
theorem scPlaces:FnScope ["rows", "top", "ended"] ["rows", "top"] (qa4 qy9):=qc7
def qz6 (d:Nat):Sp:=λvs H Q _=>∃(p:Addr) (x:Nat) (rows:List Row),vs=[.ref p,.int (x:Nat)]/\RowsS H p rows/\qd4 rows/\rows.length<=1190900/\x<rows.length+2/\dp rows x<=d /\
 ∀H' D,Same H H'->H' D=some (.lst (vN (dfs rows d [] x)))->Q (.ref D) H'
theorem q04 {f fE:Addr}{fd fdE:FuncData}(F:Fun K "places_as_ended" "places_as_ended" qy9 f fd) (B:Blt mg) (T:Cst mg) (hE:mg "end_rows" = some (.ref fE)) (FE:Fun K "end_rows" "end_rows" sEnd fE fdE) (bE:Binds K fdE ["rows", "number", "ended"] []) (d:Nat):FnOk P w K mg base CX0 (d+2) f fd ["rows", "top"] (qz6 d):=by
 have GE:FnOk P w K mg base CX0 (d+1) fE fdE ["rows", "number", "ended"] (xs6 d):=xs7 FE T hE bE d;refine F.ok scPlaces (λvs H Q E h=>?_) (λcdv A outer s H vs Q E hr h=>?_)
 ·obtain⟨p,x,rows,rfl,_⟩:=h
  rfl
 ·obtain⟨p,x,rows,rfl,hR,ok,hn,hx,hd,q⟩:=h;refine⟨_,qb5 (psN 2 scPlaces.nd q90)
   (qb5 (qe1 (pcN GE hr hE FE.kp bE (qa0 (pv 0) (qa0 (pv 1) (qa0 (pv 2) qa2)))))
   (qa8 (qa9 (qc6 (qP9 rfl) (by rfl) B.list WN (qa0 (pv 2) qa2))))),?_⟩
  refine λe he=>⟨_,rfl,_,rfl,_,rfl,p,e,x,rows,[],rfl,hR.same (qb4 he),ok,hn,hx,hd,qr3 rows,qa3,λH2 s2 vM=>?_⟩;refine⟨_,rfl,e,_,rfl,vM,λl hl=>q _ l ?_ ?_⟩
  ·intro b o z;have nb:b≠e:=qa7 z he;exact qd5 (s2 b o (qd5 z he) nb) hl
  ·rw[qa3];unfold eK vN;rw[Yv]
   rfl
end
end Pr
namespace Qf
inductive Tr
 |z|o|nd (a b c d:Tr) deriving DecidableEq
namespace Tr
def kids:Tr->List Tr
 |nd a b c d=>[a,b,c,d]
 |_=>[]
def dep:Tr->Nat
 |nd a b c d=>1+mx [dep a,dep b,dep c,dep d]
 |_=>0
def Red:Tr->Prop
 |nd a b c d=>¬(a=z/\b=z/\c=z/\d=z)/\¬(a=o/\b=o/\c=o/\d=o)/\Red a/\Red b/\Red c/\Red d
 |_=>True
def post:Tr->List Tr->List Tr
 |nd a b c d,e=>if nd a b c d∈e then e else post d (post c (post b (post a e)))++[nd a b c d]
 |_,e=>e
def In (L:List Tr) (t:Tr):Prop:=t=z\/t=o\/t∈L
theorem In.app {L s:List Tr}{t:Tr}(h:In L t):In (L++s) t:=h.imp id λh=>h.imp id λh=>X9 _ h
structure Ord (L:List Tr):Prop where
 nd:L.Nodup
 ch:∀(i:Nat) t,L[i]?=some t->(∃a b c d,t=.nd a b c d)/\∀s∈kids t,s=z\/s=o\/∃j:Nat,j<i/\L[j]?=some s
theorem ord_nil:Ord []:=⟨Vo,λi t h=>by simp at h⟩
theorem post_ext:∀(t:Tr) (e:List Tr),∃s,post t e=e++s
 |z,e=>⟨[],by simp[post]⟩
 |o,e=>⟨[],by simp[post]⟩
 |nd a b c d,e=>by
  unfold post;split
  ·exact⟨[],by simp⟩
  ·obtain⟨s1,h1⟩:=post_ext a e;obtain⟨s2,h2⟩:=post_ext b (post a e);obtain⟨s3,h3⟩:=post_ext c (post b (post a e));obtain⟨s4,h4⟩:=post_ext d (post c (post b (post a e)));exact⟨s1++s2++s3++s4++[nd a b c d],by rw[h4,h3,h2,h1];simp⟩
theorem In.post {L:List Tr}{t:Tr}(s:Tr) (h:In L t):In (post s L) t:=by
 obtain⟨u,e⟩:=post_ext s L;rw[e];exact h.app
theorem qg4:∀(t:Tr) (e:List Tr) (s:Tr),s∈post t e->s∈e\/sizeOf s<=sizeOf t
 |z,e,s,h=>.inl h
 |o,e,s,h=>.inl h
 |nd a b c d,e,s,h=>by
  unfold post at h;split at h
  ·exact .inl h
  ·have sz:sizeOf (nd a b c d)=1+sizeOf a+sizeOf b+sizeOf c+sizeOf d:=by simp
   rcases Z5.mp h with h|h
   ·rcases qg4 d _ s h with h|h
    ·rcases qg4 c _ s h with h|h
     ·rcases qg4 b _ s h with h|h
      ·rcases qg4 a _ s h with h|h
       ·exact .inl h
       ·exact .inr (by lia)
      ·exact .inr (by lia)
     ·exact .inr (by lia)
    ·exact .inr (by lia)
   ·have:s=nd a b c d:=by simpa using h
    rw[this];exact .inr (Ze _)
theorem not_below {a b c d:Tr}{e:List Tr}(h:nd a b c d∉e):nd a b c d∉post d (post c (post b (post a e))):=λh2=>by
 have sz:sizeOf (nd a b c d)=1+sizeOf a+sizeOf b+sizeOf c+sizeOf d:=by simp
 rcases qg4 d _ _ h2 with h2|h2
 ·rcases qg4 c _ _ h2 with h2|h2
  ·rcases qg4 b _ _ h2 with h2|h2
   ·rcases qg4 a _ _ h2 with h2|h2
    ·exact h h2
    ·lia
   ·lia
  ·lia
 ·lia
theorem post_ord:∀(t:Tr) (e:List Tr),Ord e->Ord (post t e)/\In (post t e) t
 |z,e,h=>⟨h,.inl rfl⟩
 |o,e,h=>⟨h,.inr (.inl rfl)⟩
 |nd a b c d,e,h=>by
  unfold post;split
  ·rename_i hm;exact⟨h,.inr (.inr hm)⟩
  ·rename_i hm;obtain⟨o1,i1⟩:=post_ord a e h;obtain⟨o2,i2⟩:=post_ord b _ o1;obtain⟨o3,i3⟩:=post_ord c _ o2;obtain⟨o4,i4⟩:=post_ord d _ o3;have i1:=((i1.post b).post c).post d;have i2:=(i2.post c).post d;have i3:=i3.post d;have nb:=not_below hm;generalize post d (post c (post b (post a e)))=L at o4 i1 i2 i3 i4 nb;refine⟨⟨?_,?_⟩,.inr (.inr (by simp))⟩
   ·rw[X7];exact⟨o4.nd,by simp,λx hx y hy e=>nb (by
     have:y=nd a b c d:=by simpa using hy
     rw[<- this,<- e];exact hx)⟩
   ·intro i t ht;by_cases hi:i<L.length
    ·rw[ZD hi] at ht;obtain⟨h1,h2⟩:=o4.ch i t ht;refine⟨h1,λs hs=>(h2 s hs).imp id λh=>h.imp id λ⟨j,hj,e⟩=>⟨j,hj,?_⟩⟩;rw[ZD (by lia)];exact e
    ·have j9:=(gS_ ht).1;rw[Zz] at j9;have vZ:i=L.length:=by simp at j9;lia
     subst vZ;have et:t=nd a b c d:=by simpa using ht.symm
     subst et;refine⟨⟨a,b,c,d,rfl⟩,λs hs=>?_⟩;have jU:In L s:=by
      have:s=a\/s=b\/s=c\/s=d:=by simpa [kids] using hs
      rcases this with rfl|rfl|rfl|rfl<;>assumption
     refine jU.imp id λh=>h.imp id λhm=>?_;obtain⟨j,hj,e⟩:=ZE.mp hm;exact⟨j,hj,by rw[ZD hj,Zd hj,e]⟩
def name (L:List Tr):Tr->Nat
 |z=>0
 |o=>1
 |t=>L.idxOf t+2
def rowsOf (L:List Tr):List Row:=L.map λt=>(kids t).map (name L)
theorem qu2 (L:List Tr) (a b c d:Tr):name L (.nd a b c d)=L.idxOf (.nd a b c d)+2:=rfl
theorem name_at {L:List Tr}(h:Ord L){i:Nat}{t:Tr}(e:L[i]?=some t):name L t=i+2:=by
 obtain⟨⟨a,b,c,d,rfl⟩,_⟩:=h.ch i t e;rw[qu2];congr 1;have hl:=(gS_ e).1;have he:=(gS_ e).2;rw[<- he];exact h.nd.idxOf_getElem i hl
theorem qj5 {L:List Tr}(h:Ord L){t:Tr}(hi:In L t):(t=z/\name L t=0)\/(t=o/\name L t=1)\/∃i:Nat,L[i]?=some t/\name L t=i+2:=by
 rcases hi with rfl|rfl|hm
 ·exact .inl ⟨rfl,rfl⟩
 ·exact .inr (.inl ⟨rfl,rfl⟩)
 ·obtain⟨j,hj,e⟩:=ZE.mp hm;have e':L[j]?=some t:=by rw[Zd hj,e]
  exact .inr (.inr ⟨j,e',name_at h e'⟩)
theorem q99 {L:List Tr}(h:Ord L){s t:Tr}(hs:In L s) (ht:In L t) (e:name L s=name L t):s=t:=by
 rcases qj5 h hs with ⟨rfl,e1⟩|⟨rfl,e1⟩|⟨i,e0,e1⟩
 ·rcases qj5 h ht with ⟨rfl,e2⟩|⟨rfl,e2⟩|⟨j,e3,e2⟩
  ·rfl
  ·lia
  ·lia
 ·rcases qj5 h ht with ⟨rfl,e2⟩|⟨rfl,e2⟩|⟨j,e3,e2⟩
  ·lia
  ·rfl
  ·lia
 ·rcases qj5 h ht with ⟨rfl,e2⟩|⟨rfl,e2⟩|⟨j,e3,e2⟩
  ·lia
  ·lia
  ·have:i=j:=by lia
   subst this;rw[e0] at e3;exact ZO e3
theorem name_app {L s:List Tr}{t:Tr}(h:In L t) (hz:Ord L):name (L++s) t=name L t:=by
 rcases qj5 hz h with ⟨rfl,_⟩|⟨rfl,_⟩|⟨i,e,_⟩
 ·rfl
 ·rfl
 ·obtain⟨⟨a,b,c,d,rfl⟩,_⟩:=hz.ch i t e;rw[qu2,qu2,List.idxOf_append,Zx (Zr e)]
theorem kid_in {L:List Tr}(h:Ord L){i:Nat}{t s:Tr}(e:L[i]?=some t) (hs:s∈kids t):In L s/\name L s<i+2:=by
 rcases (h.ch i t e).2 s hs with rfl|rfl|⟨j,hj,e2⟩
 ·exact⟨.inl rfl,by show 0<_;lia⟩
 ·exact⟨.inr (.inl rfl),by show 1<_;lia⟩
 ·exact⟨.inr (.inr (Zr e2)),by rw[name_at h e2];lia⟩
theorem rowsOf_len (L:List Tr):(rowsOf L).length=L.length:=by simp[rowsOf]
theorem rowsOf_at {L:List Tr}{i:Nat}{t:Tr}(e:L[i]?=some t):(rowsOf L)[i]?=some ((kids t).map (name L)):=by
 unfold rowsOf;rw[Zg,e];rfl
theorem qp1 {L:List Tr}{i:Nat}{r:Row}(e:(rowsOf L)[i]?=some r):∃t,L[i]?=some t/\r=(kids t).map (name L):=by
 unfold rowsOf at e;rw[Zg] at e;obtain⟨t,h1,h2⟩:=Zj.mp e;exact⟨t,h1,h2.symm⟩
theorem qu3 {L:List Tr}(h:Ord L):qd4 (rowsOf L):=λp r hp=>by
 obtain⟨t,ht,rfl⟩:=qp1 hp;obtain⟨⟨a,b,c,d,rfl⟩,_⟩:=h.ch p t ht;refine⟨rfl,λx hx=>?_⟩;obtain⟨s,hs,rfl⟩:=Ym.mp hx;exact (kid_in h ht hs).2
theorem qj6 {L:List Tr}(h:Ord L):∀{k l:List Tr},(∀s∈k,In L s)->(∀s∈l,In L s)->k.map (name L)=l.map (name L)->k=l
 |[],[],_,_,_=>rfl
 |[],_::_,_,_,e=>by simp at e
 |_::_,[],_,_,e=>by simp at e
 |a::k,b::l,h1,h2,e=>by
  simp only[Zy,YV] at e;rw[q99 h (h1 a ZC) (h2 b ZC) e.1,qj6 h (λs hs=>h1 s (Zl _ hs)) (λs hs=>h2 s (Zl _ hs)) e.2]
theorem qM8 {s t:Tr}(hs:∃a b c d,s=.nd a b c d) (ht:∃a b c d,t=.nd a b c d) (e:kids s=kids t):s=t:=by
 obtain⟨a,b,c,d,rfl⟩:=hs;obtain⟨a',b',c',d',rfl⟩:=ht;simpa [kids] using e
theorem qq4 {L:List Tr}(h:Ord L):(rowsOf L).Nodup:=by
 rw[nd_iff];intro i j jX hj e;rw[rowsOf_len] at hj;have ei:L[i]?=some L[i]:=Zd (by lia);have ej:L[j]?=some L[j]:=Zd hj;rw[rowsOf_at ei,rowsOf_at ej] at e;have:=qM8 (h.ch i _ ei).1 (h.ch j _ ej).1 (qj6 h (λs hs=>(kid_in h ei hs).1) (λs hs=>(kid_in h ej hs).1) (ZO e));have h2:=nd_iff.mp h.nd i j jX hj;rw[ei,ej] at h2;exact h2 (by rw[this])
end Tr
open Tr
def tr (rows:List Row):Nat->Nat->Tr
 |0,x=>if x=1 then .o else .z
 |d+1,x=>if x=0 then .z else if x=1 then .o else .nd (tr rows d ((rows.getD (x-2) []).getD 0 0)) (tr rows d ((rows.getD (x-2) []).getD 1 0)) (tr rows d ((rows.getD (x-2) []).getD 2 0)) (tr rows d ((rows.getD (x-2) []).getD 3 0))
theorem qu4 (rows:List Row) (d:Nat):tr rows d 0=.z:=by cases d<;>rfl
theorem qF0 (rows:List Row) (d:Nat):tr rows d 1=.o:=by cases d<;>rfl
theorem qp2 {r:Row}(h:r.length=4):∃a b c d,r=[a,b,c,d]:=by
 match r,h with
 |[a,b,c,d],_=>exact⟨a,b,c,d,rfl⟩
theorem q05 {rows:List Row}{d p a b c e:Nat}(hp:rows[p]?=some [a,b,c,e]):tr rows (d+1) (p+2)=.nd (tr rows d a) (tr rows d b) (tr rows d c) (tr rows d e):=by
 have:rows.getD p []=[a,b,c,e]:=by rw[ZA,hp];rfl
 show (if p+2=0 then _ else if p+2=1 then _ else _)=_;rw[Zk (by lia),Zk (by lia),show p+2-2=p by lia,this]
 rfl
theorem ql4 {rows:List Row}(ok:qd4 rows){x:Nat}(hx:x<rows.length+2) (h:¬x<2):∃p a b c d,x=p+2/\rows[p]?=some [a,b,c,d]:=by
 have hp:x-2<rows.length:=by lia
 have hg:rows[x-2]?=some rows[x-2]:=Zd hp;obtain⟨a,b,c,d,e⟩:=qp2 (ok _ _ hg).1;exact⟨x-2,a,b,c,d,by lia,by rw[hg,e]⟩
theorem qn7 {rows:List Row}(ok:qd4 rows):∀(d d' x:Nat),dp rows x<=d->dp rows x<=d'->x<rows.length+2->tr rows d x=tr rows d' x:=by
 intro d
 induction d with
 |zero=>
  intro d' x h1 h2 hx;have x2:=qE9 ok hx h1
  match x,x2 with
  |0,_=>rw[qu4,qu4]
  |1,_=>rw[qF0,qF0]
 |succ d ih=>
  intro d' x h1 h2 hx;by_cases x2:x<2
  ·match x,x2 with
   |0,_=>rw[qu4,qu4]
   |1,_=>rw[qF0,qF0]
  ·obtain⟨p,a,b,c,e,rfl,hp⟩:=ql4 ok hx x2
   match d',h2 with
   |0,h2=>exact absurd (qE9 ok hx h2) x2
   |d'+1,h2=>
    have q:=λy (hy:y∈[a,b,c,e])=>qf4 ok hp h1 hy;have q':=λy (hy:y∈[a,b,c,e])=>qf4 ok hp h2 hy;rw[q05 hp,q05 hp,ih d' a (q a (by simp)).2 (q' a (by simp)).2 (q a (by simp)).1,ih d' b (q b (by simp)).2 (q' b (by simp)).2 (q b (by simp)).1,ih d' c (q c (by simp)).2 (q' c (by simp)).2 (q c (by simp)).1,ih d' e (q e (by simp)).2 (q' e (by simp)).2 (q e (by simp)).1]
def T (rows:List Row) (x:Nat):Tr:=tr rows (dp rows x) x
theorem qg5 (rows:List Row):T rows 0=.z:=qu4 _ _
theorem qp3 (rows:List Row):T rows 1=.o:=qF0 _ _
theorem qn8 {rows:List Row}(ok:qd4 rows){p a b c e:Nat}(hp:rows[p]?=some [a,b,c,e]):T rows (p+2)=.nd (T rows a) (T rows b) (T rows c) (T rows e):=by
 have jI:=(gS_ hp).1;obtain⟨d,hd⟩:∃d,dp rows (p+2)=d+1:=⟨_,by rw[qI8 ok hp];exact Nat.add_comm _ _⟩;have q:=λy (hy:y∈[a,b,c,e])=>qf4 ok hp (Vg hd) hy;unfold T;rw[hd,q05 hp,qn7 ok d _ a (q a (by simp)).2 (Ze _) (q a (by simp)).1,qn7 ok d _ b (q b (by simp)).2 (Ze _) (q b (by simp)).1,qn7 ok d _ c (q c (by simp)).2 (Ze _) (q c (by simp)).1,qn7 ok d _ e (q e (by simp)).2 (Ze _) (q e (by simp)).1]
theorem xy2 {rows:List Row}(ok:qd4 rows) (nd:rows.Nodup):∀(d x y:Nat),dp rows x<=d->x<rows.length+2->y<rows.length+2->T rows x=T rows y->x=y:=by
 intro d;have low:∀x y,x<2->y<rows.length+2->T rows x=T rows y->x=y:=λx y x2 hy e=>by
  by_cases y2:y<2
  ·match x,y,x2,y2 with
   |0,0,_,_=>rfl
   |1,1,_,_=>rfl
   |0,1,_,_=>rw[qg5,qp3] at e;cases e
   |1,0,_,_=>rw[qg5,qp3] at e;cases e
  ·obtain⟨p,a,b,c,f,rfl,hp⟩:=ql4 ok hy y2;rw[qn8 ok hp] at e
   match x,x2 with
   |0,_=>rw[qg5] at e;cases e
   |1,_=>rw[qp3] at e;cases e
 induction d with
 |zero=>exact λx y h hx hy e=>low x y (qE9 ok hx h) hy e
 |succ d ih=>
  intro x y h hx hy e;by_cases x2:x<2
  ·exact low x y x2 hy e
  ·by_cases y2:y<2
   ·exact (low y x y2 hx e.symm).symm
   ·obtain⟨p,a,b,c,f,rfl,hp⟩:=ql4 ok hx x2;obtain⟨p',a',b',c',f',rfl,hp'⟩:=ql4 ok hy y2;rw[qn8 ok hp,qn8 ok hp'] at e;have q:=λy (hy:y∈[a,b,c,f])=>qf4 ok hp h hy;have q':∀y∈[a',b',c',f'],y<rows.length+2:=λy hy=>by
     have:=(ok _ _ hp').2 y hy;have:=(gS_ hp').1;lia
    injection e with e1 e2 e3 e4
    have h1:=ih a a' (q a (by simp)).2 (q a (by simp)).1 (q' a' (by simp)) e1;have h2:=ih b b' (q b (by simp)).2 (q b (by simp)).1 (q' b' (by simp)) e2;have h3:=ih c c' (q c (by simp)).2 (q c (by simp)).1 (q' c' (by simp)) e3;have h4:=ih f f' (q f (by simp)).2 (q f (by simp)).1 (q' f' (by simp)) e4;subst h1 h2 h3 h4;have:p=p':=by
     rcases VG p p' with z|z|z
     ·exact absurd (hp.trans hp'.symm) (nd_iff.mp nd p p' z (gS_ hp').1)
     ·exact z
     ·exact absurd (hp'.trans hp.symm) (nd_iff.mp nd p' p z (gS_ hp).1)
    rw[this]
def tau (rows:List Row) (p:Nat):Tr:=T rows (p+2)
theorem xl0 {rows:List Row}(ok:qd4 rows) (nd:rows.Nodup){e:List Nat}(pe:Post rows e){p:Nat}(hp:p<rows.length):tau rows p∈e.map (tau rows)<->p∈e:=by
 constructor
 ·intro h;obtain⟨q,hq,e2⟩:=Ym.mp h;have:=xy2 ok nd _ (q+2) (p+2) (Ze _) (by have:=pe.lt q hq;lia) (by lia) e2;have:q=p:=by lia
  rw[<- this];exact hq
 ·exact λh=>Ym.mpr ⟨p,h,rfl⟩
theorem qM9 {rows:List Row}(ok:qd4 rows) (nd:rows.Nodup):∀(d:Nat) (e:List Nat) (x:Nat),Post rows e->x<rows.length+2->dp rows x<=d->(dfs rows d e x).map (tau rows)=post (T rows x) (e.map (tau rows)):=by
 intro d
 induction d with
 |zero=>
  intro e x pe hx hd;have x2:=qE9 ok hx hd
  match x,x2 with
  |0,_=>rw[qg5];rfl
  |1,_=>rw[qp3];rfl
 |succ d ih=>
  intro e x pe hx hd;by_cases x2:x<2
  ·have:dfs rows (d+1) e x=e:=by
    show (if x<2\/x-2∈e then e else _)=e;rw[Zx (.inl x2)]
   rw[this]
   match x,x2 with
   |0,_=>rw[qg5];rfl
   |1,_=>rw[qp3];rfl
  ·obtain⟨p,a,b,c,f,rfl,hp⟩:=ql4 ok hx x2;have jI:=(gS_ hp).1;have hm:=xl0 ok nd pe jI;have hg:rows.getD p []=[a,b,c,f]:=by rw[ZA,hp];rfl
   have et:tau rows p=.nd (T rows a) (T rows b) (T rows c) (T rows f):=qn8 ok hp;rw[qn8 ok hp];show (if p+2<2\/p+2-2∈e then e else (rows.getD (p+2-2) []).foldl (dfs rows d) e++[p+2-2]).map (tau rows)=(if _∈e.map (tau rows) then _ else _);rw[show p+2-2=p by lia,<- et,hg];by_cases hpe:p∈e
   ·rw[Zx (.inr hpe),Zx (hm.mpr hpe)]
   ·rw[Zk (by rintro (z|z);lia;exact hpe z),Zk (λz=>hpe (hm.mp z))];have q:=λy (hy:y∈[a,b,c,f])=>qf4 ok hp hd hy;obtain⟨qa,qa'⟩:=q a (by simp);obtain⟨qb,qb'⟩:=q b (by simp);obtain⟨qc,qc'⟩:=q c (by simp);obtain⟨qf,qf'⟩:=q f (by simp);have p1:=(qh9 ok d e a pe qa qa').1;have p2:=(qh9 ok d _ b p1 qb qb').1;have p3:=(qh9 ok d _ c p2 qc qc').1;show (dfs rows d (dfs rows d (dfs rows d (dfs rows d e a) b) c) f++[p]).map (tau rows)=_;rw[Z7,ih _ f p3 qf qf',ih _ c p2 qc qc',ih _ b p1 qb qb',ih _ a pe qa qa',et];show _++[tau rows p]=_;rw[et]
theorem qQ4 {n top:Nat}{rows:List Row}(c:Canon n top rows):rows=rowsOf (post (T rows top) [])/\top=name (post (T rows top) []) (T rows top):=by
 have h:=qM9 c.rok c.unlike n [] top (qr3 rows) c.inn c.deep;rw[c.ends] at h;have hord:Ord (post (T rows top) [])/\In (post (T rows top) []) (T rows top):=post_ord _ _ ord_nil;have hpost:post (T rows top) []=(List.range rows.length).map (tau rows):=h.symm;obtain⟨ho,hi⟩:=hord;generalize post (T rows top) []=L at ho hi hpost;have lat:∀p,p<rows.length->L[p]?=some (tau rows p):=λp hp=>by
  rw[hpost,Zg,XE hp];rfl
 have hL:L.length=rows.length:=by rw[hpost];simp
 have nmq:∀q,q<rows.length+2->name L (T rows q)=q:=λq hq=>by
  by_cases q2:q<2
  ·match q,q2 with
   |0,_=>rw[qg5];rfl
   |1,_=>rw[qp3];rfl
  ·have:=name_at ho (lat (q-2) (by lia));unfold tau at this;rw[show q-2+2=q by lia] at this;exact this
 refine⟨?_,(nmq top c.inn).symm⟩;refine Xr λp=>?_;by_cases hp:p<rows.length
 ·have hg:rows[p]?=some rows[p]:=Zd hp;obtain⟨a,b,e,f,er⟩:=qp2 (c.rok p _ hg).1;rw[er] at hg;rw[hg,rowsOf_at (lat p hp)];have et:tau rows p=.nd (T rows a) (T rows b) (T rows e) (T rows f):=qn8 c.rok hg;have lt:∀y∈[a,b,e,f],y<rows.length+2:=λy hy=>by
   have:=(c.rok _ _ hg).2 y hy;lia
  rw[et];show some [a,b,e,f]=some [name L (T rows a),name L (T rows b),name L (T rows e),name L (T rows f)];rw[nmq a (lt a (by simp)),nmq b (lt b (by simp)),nmq e (lt e (by simp)),nmq f (lt f (by simp))]
 ·rw[Yt (by lia),Yt (by rw[rowsOf_len];lia)]
theorem qp4 {L:List Tr}(h:Ord L):∀t:Tr,In L t->dp (rowsOf L) (name L t)=dep t
 |.z,_=>xf4 (by decide:(0:Nat)<2)
 |.o,_=>xf4 (by decide:(1:Nat)<2)
 |.nd a b c d,hi=>by
  rcases qj5 h hi with ⟨e,_⟩|⟨e,_⟩|⟨i,e,e2⟩
  ·cases e
  ·cases e
  ·have hk:=λs (hs:s∈kids (.nd a b c d))=>(kid_in h e hs).1;rw[e2,qI8 (qu3 h) (rowsOf_at e)];show 1+mx [_,_,_,_]=1+mx [dep a,dep b,dep c,dep d];rw[qp4 h a (hk a (by simp[kids])),qp4 h b (hk b (by simp[kids])),qp4 h c (hk c (by simp[kids])),qp4 h d (hk d (by simp[kids]))]
theorem qu5 {L:List Tr}(h:Ord L):∀t:Tr,In L t->T (rowsOf L) (name L t)=t
 |.z,_=>qg5 _
 |.o,_=>qp3 _
 |.nd a b c d,hi=>by
  rcases qj5 h hi with ⟨e,_⟩|⟨e,_⟩|⟨i,e,e2⟩
  ·cases e
  ·cases e
  ·have hk:=λs (hs:s∈kids (.nd a b c d))=>(kid_in h e hs).1;rw[e2,qn8 (qu3 h) (rowsOf_at e),qu5 h a (hk a (by simp[kids])),qu5 h b (hk b (by simp[kids])),qu5 h c (hk c (by simp[kids])),qu5 h d (hk d (by simp[kids]))]
def q06 (L:List Tr):Prop:=∀t∈L,Red t
theorem qn9:∀(t:Tr) (e:List Tr),Red t->q06 e->q06 (post t e)
 |.z,_,_,h=>h
 |.o,_,_,h=>h
 |.nd a b c d,e,hr,h=>by
  unfold post;split
  ·exact h
  ·have h4:=qn9 d _ hr.2.2.2.2.2 (qn9 c _ hr.2.2.2.2.1 (qn9 b _ hr.2.2.2.1 (qn9 a e hr.2.2.1 h)));intro s hs;rcases Z5.mp hs with hs|hs
   ·exact h4 s hs
   ·have:s=.nd a b c d:=by simpa using hs
    rw[this];exact hr
theorem qe8 {L:List Tr}{t:Tr}(h:name L t=0):t=.z:=by
 cases t with
 |z=>rfl
 |o=>cases h
 |nd a b c d=>rw[qu2] at h;lia
theorem qg6 {L:List Tr}{t:Tr}(h:name L t=1):t=.o:=by
 cases t with
 |z=>cases h
 |o=>rfl
 |nd a b c d=>rw[qu2] at h;lia
theorem qw1 {L:List Tr}(h:Ord L) (hr:q06 L):∀r∈rowsOf L,¬qy8 r:=λr hm=>by
 obtain⟨i,hi,e⟩:=ZE.mp hm;obtain⟨t,ht,rfl⟩:=qp1 (i:=i) (r:=r) (by rw[Zd hi,e]);obtain⟨⟨a,b,c,d,rfl⟩,_⟩:=h.ch i t ht;have rd:=hr _ (Zr ht);rintro (z|z)
 ·have z':[name L a,name L b,name L c,name L d]=[0,0,0,0]:=z;simp only[YV,V7] at z';exact rd.1 ⟨qe8 z'.1,qe8 z'.2.1,qe8 z'.2.2.1,qe8 z'.2.2.2⟩
 ·have z':[name L a,name L b,name L c,name L d]=[1,1,1,1]:=z;simp only[YV,V7] at z';exact rd.2.1 ⟨qg6 z'.1,qg6 z'.2.1,qg6 z'.2.2.1,qg6 z'.2.2.2⟩
theorem qQ5 {n:Nat}(hn:n<=12){t:Tr}(hr:Red t) (hd:dep t<=n):Canon n (name (post t []) t) (rowsOf (post t [])):=by
 obtain⟨ho,hi⟩:=post_ord t [] ord_nil;have hred:=qn9 t [] hr (λs hs=>nomatch hs);have hT:=qu5 ho t hi;have hdp:=qp4 ho t hi;have hpost:post t []=post t []:=rfl;generalize hL:post t []=L at ho hi hred hT hdp;have ok:=qu3 ho;have ndr:=qq4 ho;have jU:name L t<(rowsOf L).length+2:=by
  rw[rowsOf_len];rcases qj5 ho hi with ⟨_,e⟩|⟨_,e⟩|⟨i,e,e2⟩
  ·lia
  ·lia
  ·have:=(gS_ e).1;lia
 refine⟨hn,ok,jU,by rw[hdp];exact hd,qw1 ho hred,ndr,?_⟩;have hdt:=qM9 ok ndr n [] (name L t) (qr3 _) jU (by rw[hdp];exact hd);rw[hT] at hdt;have e2:(dfs (rowsOf L) n [] (name L t)).map (tau (rowsOf L))=L:=by rw[hdt];exact hL
 have pe:=(qh9 ok n [] (name L t) (qr3 _) jU (by rw[hdp];exact hd)).1;generalize dfs (rowsOf L) n [] (name L t)=E at e2 pe;have hE:E.length=L.length:=by rw[<- e2];simp
 refine Xr λi=>?_;by_cases vZ:i<E.length
 ·have hg:E[i]?=some E[i]:=Zd vZ;have jA:=pe.lt E[i] (Ys vZ);rw[rowsOf_len] at jA;have e3:L[i]?=some (tau (rowsOf L) E[i]):=by
   conv=>lhs;rw[<- e2]
   rw[Zg,hg];rfl
  have e4:tau (rowsOf L) E[i]=L[E[i]]:=by
   have ea:L[E[i]]?=some L[E[i]]:=Zd jA;have:=qu5 ho L[E[i]] (.inr (.inr (Ys jA)));rw[name_at ho ea] at this;exact this
  rw[e4] at e3;have:E[i]=i:=by
   rcases VG E[i] i with z|z|z
   ·exact absurd (by rw[e3];exact Zd jA) (nd_iff.mp ho.nd E[i] i z (by lia))
   ·exact z
   ·exact absurd (by rw[e3];exact (Zd jA).symm) (nd_iff.mp ho.nd i E[i] z jA)
  rw[hg,this,XE (by rw[rowsOf_len];lia)]
 ·rw[Yt (by lia),Yt (by rw[Y9,rowsOf_len];lia)]
end Qf
namespace Pr
open PySem L2 Qf
def TellAt (H:Hp) (t:Addr) (n top:Nat) (rows:List Row):Prop:=∃p:Addr,H t=some (.tup [.int (n:Nat),.int (top:Nat),.ref p])/\RowsAt H p rows
theorem TellAt.mono {H H':Hp}{t:Addr}{n top:Nat}{rows:List Row}(h:TellAt H t n top rows) (s:Tups H H'):TellAt H' t n top rows:=by
 obtain⟨p,h1,h2⟩:=h;exact⟨p,s _ _ h1,h2.mono s⟩
theorem xl1 {ys:List V}(h:∀(i:Nat) y,ys[i]?=some y->y=.bl true):ys=(List.replicate ys.length true).map V.bl:=by
 refine qk3 (by simp) λi x hx=>?_;have hi:=(gS_ hx).1;rw[h i x hx];simp[hi]
theorem q07 (k:Nat):(List.replicate k true).all id=true:=by
 rw[YN];intro x hx;exact (List.mem_replicate.mp hx).2
section
variable {P:Program}{w:World}{K:PySem.W.Frag}{mg:Str->Option Value}{base:Heap}
theorem scRow:FnScope ["thing", "before"] ["thing", "before"] (qa4 sRow):=qc7
def xs8:Sp:=λvs H Q _=>∃(b:Addr) (i:Nat) (r:Row),vs=[.ref b,.int (i:Nat)]/\H b=some (.tup (vN r))/\xs2 i r/\∀H',Same H H'->Q (.bl true) H'
theorem xs9 {f fN:Addr}{fd fdN:FuncData}(F:Fun K "is_row" "is_row" sRow f fd) (B:Blt mg) (hN:mg "is_number" = some (.ref fN)) (FN:Fun K "is_number" "is_number" qt8 fN fdN) (bN:Binds K fdN ["thing", "many"] []) (GN:FnOk P w K mg base CX0 2 fN fdN ["thing", "many"] qz5):FnOk P w K mg base CX0 3 f fd ["thing", "before"] xs8:=by
 refine F.ok scRow (λvs H Q E h=>?_) (λcdv A outer s H vs Q E hr h=>?_)
 ·obtain⟨b,i,r,rfl,_⟩:=h
  rfl
 ·obtain⟨b,i,r,rfl,hb,rk,q⟩:=h;refine⟨_,qb5 (qd9 (qk9 (qg1 (qe6 (qa5 qg2 (by rfl) B.isi Z6 (qa0 (pv 0) (qa0 (qi6 (v:=.ty "tuple") (by rfl) B.tuple Yn rfl) qa2)))))
    (qg9 (qb7 qT8 (qa5 qc9 (by rfl) B.len Yy (qa0 (pv 0) qa2)) qa1 (qb2 _)))).pt (qa8 (qa9 qm4)) qb8)
   (qa8 (qa9 (qa5 (qt6 rfl) (by rfl) B.all WV (qa0 (qg3 ["thing", "before"] (qa4 sRow) rfl rfl rfl scRow.nd (piT K rfl (pv 0)) (λcl C fp s₀ H₀=>pcN GN hr hN FN.kp bN (qa0 (pv 0) (qa0 (pv 2) qa2)))) qa2)))),?_⟩
  refine⟨_,rfl,_,_,_,_,true,rfl,rfl,.inl (.tup hb),rfl,_,rfl,iteF ⟨_,rfl,b,_,rfl,.inr (SqT.of hb),rfl,_,rfl,xx0 (by rw[ql3,rk.1];rfl) ?_⟩⟩;refine⟨_,rfl,b,rfl,⟨_,SqT.of hb⟩,λD hD=>qh3 hD (λ_ z _=>z=.bl true) (qr4 (K:=K) hb) (by rw[ql3,rk.1];decide) (λ_ _ _ _ _ _ h=>h) ?_ ?_⟩
  ·intro j x H3 hj hx s3 Q' hq;obtain⟨m,hm,rfl⟩:=qE7 hx;exact⟨_,rfl,_,rfl,m,i,rfl,rk.2 m (Zr hm),hq _ _ (Same.refl _) rfl⟩
  ·intro ys H3 s3 wA kS vJ;have e:=xl1 vJ;refine⟨D,List.replicate ys.length true,rfl,by rw[<- e];exact wA,?_⟩;rw[q07];exact q H3 s3
theorem scRows:FnScope ["thing"] ["thing"] (qa4 qZ6):=qc7
def xf8:Sp:=λvs H Q _=>∃(p:Addr) (rows:List Row),vs=[.ref p]/\RowsAt H p rows/\qd4 rows/\rows.length<=900/\∀H',Same H H'->Q (.bl true) H'
theorem xl2 {f fR:Addr}{fd fdR:FuncData}(F:Fun K "are_rows" "are_rows" qZ6 f fd) (B:Blt mg) (hR:mg "is_row" = some (.ref fR)) (FR:Fun K "is_row" "is_row" sRow fR fdR) (bR:Binds K fdR ["thing", "before"] []) (GR:FnOk P w K mg base CX0 3 fR fdR ["thing", "before"] xs8):FnOk P w K mg base CX0 4 f fd ["thing"] xf8:=by
 refine F.ok scRows (λvs H Q E h=>?_) (λcdv A outer s H vs Q E hr h=>?_)
 ·obtain⟨p,rows,rfl,_⟩:=h
  rfl
 ·obtain⟨p,rows,rfl,jO,ok,hn,q⟩:=h;obtain⟨bs,hp,j9,jE⟩:=id jO;refine⟨_,qa8 (qa9 (qi2 (qa5 qg2 (by rfl) B.isi Z6 (qa0 (pv 0) (qa0 (qi6 (v:=.ty "tuple") (by rfl) B.tuple Yn rfl) qa2)))
   (qm5 (qa5 (qt6 rfl) (by rfl) B.all WV (qa0 (qL5 ["thing"] (qa4 qZ6) rfl rfl rfl scRows.nd (qL4 (by rfl) B.enum (qa0 (pv 0) qa2)) (λcl C fp s₀ H₀=>pcN GR hr hR FR.kp bR (qa0 (pv 1) (qa0 (pv 0) qa2)))) qa2))))),?_⟩
  refine⟨_,rfl,_,_,_,_,true,rfl,rfl,.inl (.tup hp),rfl,_,rfl,iteT ?_⟩;have jT:(bs.map V.ref).length=rows.length:=by rw[Zh];exact j9
  refine⟨_,rfl,p,rfl,⟨_,SqT.of hp⟩,λD hD=>qp0 hD (λ_=>true) (λ_=>.bl true) (qZ1 (K:=K) hp) (by rw[jT];exact qd3 (by lia)) ?_ ?_⟩
  ·rintro i x H2 hi ⟨t,y,rfl,hy,ht⟩ s2 os ho Q1 Q2 q1 q2;obtain⟨o1,o2,rfl⟩:=L2.os2 ho
   ·
    have vZ:i<rows.length:=by rw[<- jT];exact hi
    rw[Zg] at hy;obtain⟨b,hb,rfl⟩:=Zj.mp hy;have jJ:rows[i]?=some rows[i]:=by simp[vZ]
    refine⟨t,_,rfl,SqT.of ht,rfl,_,_,rfl,_,_,rfl,rfl,?_⟩;refine iteT (B:=Q1 H2) ?_;exact⟨_,rfl,_,rfl,b,i,rows[i],rfl,s2 _ _ (jE i b _ hb jJ),ok i _ jJ,λH3 s3=>q2 rfl H3 s3⟩
  ·intro H2 s2 kK;refine⟨D,List.replicate (bs.map V.ref).length true,rfl,?_,?_⟩
   ·rw[kK];congr 2;rw[List.map_replicate,List.filter_eq_self.mpr (λ_ _=>rfl)];refine qk3 (by simp) λi x hx=>?_;have hi:=(gS_ hx).1;rw[Zg] at hx;obtain⟨_,_,rfl⟩:=Zj.mp hx;simp at hi;rw[Zh,List.getElem?_replicate,Zx hi]
   ·rw[q07];exact q H2 s2
theorem scTelling:FnScope ["thing", "n", "top", "rows"] ["thing"] (qa4 qr5):=qc7
def qF1:Sp:=λvs H Q _=>∃(t:Addr) (n tp:Nat) (rows:List Row),vs=[.ref t]/\TellAt H t n tp rows/\n<=12/\qd4 rows/\rows.length<=900/\tp<rows.length+2/\dp rows tp<=n/\∀H',Same H H'->Q (.bl true) H'
theorem qQ6 {f fS fR fN fD:Addr}{fd fdS fdR fdN fdD:FuncData}(F:Fun K "is_telling" "is_telling" qr5 f fd) (B:Blt mg)
  (hS:mg "is_size" = some (.ref fS)) (FS:Fun K "is_size" "is_size" qZ3 fS fdS) (bS:Binds K fdS ["thing"] []) (GS:FnOk P w K mg base CX0 2 fS fdS ["thing"] qZ8)
  (hR:mg "are_rows" = some (.ref fR)) (FR:Fun K "are_rows" "are_rows" qZ6 fR fdR) (bR:Binds K fdR ["thing"] []) (GR:FnOk P w K mg base CX0 4 fR fdR ["thing"] xf8)
  (hN:mg "is_number" = some (.ref fN)) (FN:Fun K "is_number" "is_number" qt8 fN fdN) (bN:Binds K fdN ["thing", "many"] []) (GN:FnOk P w K mg base CX0 2 fN fdN ["thing", "many"] qz5)
  (hD:mg "depths_of" = some (.ref fD)) (FD:Fun K "depths_of" "depths_of" qZ2 fD fdD) (bD:Binds K fdD ["rows"] []):FnOk P w K mg base CX0 5 f fd ["thing"] qF1:=by
 have GD:FnOk P w K mg base CX0 1 fD fdD ["rows"] xf6:=xk9 FD B;refine F.ok scTelling (λvs H Q E h=>?_) (λcdv A outer s H vs Q E hr h=>?_)
 ·obtain⟨t,n,tp,rows,rfl,_⟩:=h
  rfl
 ·obtain⟨t,n,tp,rows,rfl,⟨p,ht,jO⟩,hn,ok,hl,htp,hd,q⟩:=h;have jJ:Room 1 _:=hr.mono (by decide);have k8:Room 2 _:=hr.mono (by decide);refine⟨_,qb5 (qd9 (qk9 (qg1 (qe6 (qa5 qg2 (by rfl) B.isi Z6 (qa0 (pv 0) (qa0 (qi6 (v:=.ty "tuple") (by rfl) B.tuple Yn rfl) qa2)))))
    (qg9 (qb7 qT8 (qa5 qc9 (by rfl) B.len Yy (qa0 (pv 0) qa2)) qa1 (qb2 _)))).pt (qa8 (qa9 qm4)) qb8)
   (qb5 (qi7 (pv 0) (qi3 rfl (qb1 (pgN 1 scTelling.nd) (qb1 (pgN 2 scTelling.nd) (qb1 (pgN 3 scTelling.nd) qe9)))))
   (qb5 (qd9 (qk9 (qg1 (qe6 (pcN GS k8 hS FS.kp bS (qa0 (pv 1) qa2))))
    (qk9 (qg1 (qe6 (pcN GR hr hR FR.kp bR (qa0 (pv 3) qa2))))
    (qg9 (qg1 (qe6 (pcN GN k8 hN FN.kp bN (qa0 (pv 2) (qa0 (qa5 qc9 (by rfl) B.len Yy (qa0 (pv 3) qa2)) qa2)))))))).pt (qa8 (qa9 qm4)) qb8)
   (qa8 (qa9 (qd7 qs3 (pxN qf1 (pcN GD jJ hD FD.kp bD (qa0 (pv 3) qa2)) (pv 2)) (pv 1) (qb2 _)))))),?_⟩
  refine⟨_,rfl,_,_,_,_,true,rfl,rfl,.inl (.tup ht),rfl,_,rfl,iteF ⟨_,rfl,t,_,rfl,.inr (SqT.of ht),rfl,_,rfl,iteF ?_⟩⟩;refine⟨_,rfl,t,_,rfl,SqT.of ht,rfl,_,_,rfl,_,_,rfl,_,_,rfl,rfl,?_⟩;refine⟨_,rfl,n,rfl,hn,_,rfl,iteF ⟨_,rfl,p,rows,rfl,jO,ok,hl,λH2 s2=>⟨_,rfl,iteF ?_⟩⟩⟩;obtain⟨bs,hp,j9,jE⟩:=id jO;refine⟨_,rfl,_,rfl,p,_,rfl,.inr (SqT.of (s2 _ _ hp)),tp,rows.length,by rw[Zh,j9];rfl,htp,_,rfl,iteF ?_⟩;refine⟨_,rfl,p,rows,rfl,jO.same s2,ok,hl,λH3 D s3 wA=>?_⟩;refine⟨_,rfl,D,_,(tp:Int),.int (dp rows tp:Nat),rfl,rfl,SqL.of wA,qE8 (xf5 htp),_,rfl,_,_,rfl,rfl,?_⟩;show Q (V.bl (decide ((dp rows tp:Int)<=(n:Int)))) H3;rw[Zu (by lia)];exact q H3 (s2.trans s3)
end
def qe2 (H:Hp) (t:Addr) (n top:Nat) (rows:List Row):Prop:=TellAt H t n top rows/\Canon n top rows/\rows.length<=900
def keyN (r:List Nat):List Key:=r.map λn:Nat=>Sum.inl (n:Int)
theorem qu6 (r:List Nat):(keyN r).map kV=vN r:=by unfold keyN vN;rw[Yv];rfl
theorem qz7 {l m:List Nat}(h:keyN l=keyN m):l=m:=by
 have:vN l=vN m:=by rw[<- qu6,<- qu6,h]
 rw[qq3,qq3] at this;exact q01 ((List.map_inj_right (λ_ _ z=>V.int.inj z)).mp this)
theorem qQ7 {rows:List Row}(h:rows.Nodup):(rows.map keyN).Nodup:=by
 rw[nd_iff] at h ⊢;intro i j jX hj z;rw[Zh] at hj;refine h i j jX hj ?_;rw[Zg,Zg,Zd (by lia),Zd hj] at z;rw[Zd (by lia),Zd hj];congr 1;exact qz7 (ZO z)
theorem qQ8 (ns:List Int):PyData.depthAll (ns.map PyData.int)<=1:=by
 induction ns with
 |nil=>simp[PyData.depthAll]
 |cons a ns ih=>
  rw[Zy];simp only[PyData.depthAll,PyData.depth];lia
theorem qN0 (ns:List Int):(dL ns).depth<=2:=by
 have:=qQ8 ns;unfold dL;simp only[PyData.depth];lia
section
variable {P:Program}{w:World}{K:PySem.W.Frag}{mg:Str->Option Value}{base:Heap}
theorem scShape:FnScope ["thing", "top", "rows"] ["thing"] (qa4 qE2):=qc7
def q08:Sp:=λvs H Q _=>∃(t:Addr) (n tp:Nat) (rows:List Row),vs=[.ref t]/\qe2 H t n tp rows/\∀H',Same H H'->Q (.bl true) H'
theorem xa0 {f fT fP fA:Addr}{fd fdT fdP fdA:FuncData}(F:Fun K "is_shape" "is_shape" qE2 f fd) (B:Blt mg) (T:Cst mg)
  (hT:mg "is_telling" = some (.ref fT)) (FT:Fun K "is_telling" "is_telling" qr5 fT fdT) (bT:Binds K fdT ["thing"] []) (GT:FnOk P w K mg base CX0 5 fT fdT ["thing"] qF1)
  (hP:mg "is_plain" = some (.ref fP)) (FP:Fun K "is_plain" "is_plain" qL9 fP fdP) (bP:Binds K fdP ["row"] [])
  (hA:mg "places_as_ended" = some (.ref fA)) (FA:Fun K "places_as_ended" "places_as_ended" qy9 fA fdA) (bA:Binds K fdA ["rows", "top"] []) (GA:∀d,FnOk P w K mg base CX0 (d+2) fA fdA ["rows", "top"] (qz6 d)):FnOk P w K mg base CX0 15 f fd ["thing"] q08:=by
 have GP:FnOk P w K mg base CX0 2 fP fdP ["row"] q00:=q96 FP T;refine F.ok scShape (λvs H Q E h=>?_) (λcdv A outer s H vs Q E hr h=>?_)
 ·obtain⟨t,n,tp,rows,rfl,_⟩:=h
  rfl
 ·obtain⟨t,n,tp,rows,rfl,⟨hTell,cn,hl⟩,q⟩:=h;obtain⟨p,ht,jO⟩:=id hTell;obtain⟨bs,hp,j9,jE⟩:=id jO;have k8:Room 2 _:=hr.mono (by decide);have hr5:Room 5 _:=hr.mono (by decide);have hrA:Room (n+2) _:=hr.mono (by have:=cn.size;lia);refine⟨_,qb5 (qd9 (qg1 (qe6 (pcN GT hr5 hT FT.kp bT (qa0 (pv 0) qa2)))) (qa8 (qa9 qm4)) qb8)
   (qb5 (qi7 (qK7 xe9 (pv 0) (qU6 qa1) qU5) (qi3 rfl (qb1 (pgN 1 scShape.nd) (qb1 (pgN 2 scShape.nd) qe9))))
   (qb5 (qd9 (PW.pt (qk9 (qe6 (qa5 (qE0 rfl) (by rfl) B.any PyProof.Rows.boot_any (qa0 (qg3 ["thing", "top", "rows"] (qa4 qE2) rfl rfl rfl scShape.nd (piT K rfl (pv 2)) (λcl C fp s₀ H₀=>pcN GP k8 hP FP.kp bP (qa0 (pv 0) qa2))) qa2)))
    (qg9 (qb7 qj0 (qa5 qI6 (by rfl) B.len Yy (qa0 (qc6 (qX2 rfl hr) (by rfl) B.set PyProof.Rows.boot_set (qa0 (pv 2) qa2)) qa2)) (qa5 qc9 (by rfl) B.len Yy (qa0 (pv 2) qa2)) (qb2 _))))) (qa8 (qa9 qm4)) qb8)
   (qa8 (qa9 (qd7 (qX3 hr) (pcN (GA n) hrA hA FA.kp bA (qa0 (pv 2) (qa0 (pv 1) qa2)))
    (qc6 (qQ0 rfl) (by rfl) B.list WN (qa0 (qc6 qE1 (by rfl) B.range PyProof.Rows.boot_range (qa0 (qa5 qc9 (by rfl) B.len Yy (qa0 (pv 2) qa2)) qa2)) qa2)) (qb2 _)))))),?_⟩
  refine⟨_,rfl,t,n,tp,rows,rfl,hTell,cn.size,cn.rok,hl,cn.inn,cn.deep,λH1 s1=>⟨_,rfl,iteF ?_⟩⟩;have ht1:=s1 _ _ ht;refine⟨_,rfl,_,rfl,t,_,rfl,SqT.of ht1,(λz=>absurd (show HT.sIx 3 0 (some 1)=0 from z.1) (by decide)),λu hu=>?_⟩;refine⟨u,_,rfl,SqT.of qa3,rfl,_,_,rfl,_,_,rfl,rfl,?_⟩;have sA:Same H (upd H1 u (.tup [.int (tp:Nat),.ref p])):=s1.trans (qb4 hu);refine (λ(go:∀H2,Same H H2->_)=>go _ sA) ?_;intro H2 s2;have jN:=s2 _ _ hp;have jT:(bs.map V.ref).length=rows.length:=by rw[Zh];exact j9
  refine⟨_,rfl,p,rfl,⟨_,SqT.of jN⟩,λD hD=>qh3 hD (λ_ z _=>z=.bl false) (qr4 (K:=K) jN) (by rw[jT];exact qd3 (by lia)) (λ_ _ _ _ _ _ h=>h) ?_ ?_⟩
  ·intro j x H3 hj hx s3 Q' hq;have kZ:j<rows.length:=by rw[<- jT];exact hj
   rw[Zg] at hx;obtain⟨b,hb,rfl⟩:=Zj.mp hx;have jJ:rows[j]?=some rows[j]:=by simp[kZ]
   refine⟨_,rfl,b,rows[j],rfl,s3 _ _ (s2 _ _ (jE j b _ hb jJ)),(cn.rok j _ jJ).1,λH4 s4=>hq _ _ s4 ?_⟩;rw[Zn (cn.unplain _ (Ys kZ))]
  ·intro ys H3 s3 wA kS vJ;have e:ys=(List.replicate ys.length false).map V.bl:=by
    refine qk3 (by simp) λi x hx=>?_;have hi:=(gS_ hx).1;rw[vJ i x hx];simp[hi]
   have s23:Same H H3:=s2.trans s3;refine⟨D,List.replicate ys.length false,rfl,by rw[<- e];exact wA,_,rfl,?_⟩;have na:(List.replicate ys.length false).any id=false:=by
    rw[VA];intro x hx;rw[(List.mem_replicate.mp hx).2];decide
   rw[na];refine iteF ?_;have k9:=s23 _ _ hp;refine⟨_,rfl,p,bs,rows.map keyN,rfl,k9,by rw[Zh];exact j9,λi b ks e1 e2=>?_,qQ7 cn.unlike,by rw[Zh];lia,λr hr'=>?_⟩
   ·rw[Zg] at e2;obtain⟨r0,hr0,rfl⟩:=Zj.mp e2;rw[qu6];exact s23 _ _ (jE i b r0 e1 hr0)
   ·have s4:Same H (upd H3 r (.ext (SetN r (rows.map keyN).length))):=s23.trans (qb4 hr');have kM:=s4 _ _ hp;refine⟨r,_,rfl,qa3,by rw[Zh];lia,_,rfl,p,_,rfl,.inr (SqT.of kM),_,_,rfl,rfl,_,rfl,?_⟩;have nl:decide (((rows.map keyN).length:Int)<((bs.map V.ref).length:Int))=false:=Zn (by rw[jT,Zh];lia);rw[nl];refine iteF ?_;refine (λ(go:∀H5,Same H H5->_)=>go _ s4) ?_;intro H5 s5;refine⟨_,rfl,_,rfl,p,tp,rows,rfl,(jO.same s5).s,cn.rok,(ZF hl (by decide)),cn.inn,cn.deep,λH6 D6 s6 wJ=>?_⟩;have vV:=s6 _ _ (s5 _ _ hp);refine⟨_,rfl,p,_,rfl,.inr (SqT.of vV),_,rfl,λg hg=>⟨g,rows.length,rfl,by rw[qa3,jT],by lia,λl hl'=>?_⟩⟩;have w5:=qd5 (u:=.lst ((List.range rows.length).map λ(i:Nat)=>V.int (i:Int))) (qd5 (u:=.rng 0 ((bs.map V.ref).length:Int)) wJ hg) hl';rw[cn.ends,qq3] at w5;have e9:((List.range rows.length).map λ(i:Nat)=>V.int (i:Int))=((List.range rows.length).map λn:Nat=>(n:Int)).map V.int:=qq3 _;refine⟨dL ((List.range rows.length).map λn:Nat=>(n:Int)),dL ((List.range rows.length).map λn:Nat=>(n:Int)),.lst w5 (DatasAt.ints _),.lst qa3 (e9▸DatasAt.ints _),qL3 _,qL3 _,?_,?_⟩
    ·exact ZF (qN0 _) (by decide)
    ·rw[qX5,Zu rfl];exact q _ (s5.trans (s6.trans ((qb4 hg).trans (qb4 hl'))))
theorem xl3:FnScope ["shape"] ["shape"] (qa4 qE3):=qc7
def qI9:Sp:=λvs H Q _=>∃(t:Addr) (n tp:Nat) (rows:List Row),vs=[.ref t]/\qe2 H t n tp rows/\∀H',Same H H'->Q .non H'
theorem xa1 {f fS:Addr}{fd fdS:FuncData}(F:Fun K "want_shape" "want_shape" qE3 f fd)
  (hS:mg "is_shape" = some (.ref fS)) (FS:Fun K "is_shape" "is_shape" qE2 fS fdS) (bS:Binds K fdS ["thing"] []) (GS:FnOk P w K mg base CX0 15 fS fdS ["thing"] q08):FnOk P w K mg base CX0 16 f fd ["shape"] qI9:=by
 refine F.ok xl3 (λvs H Q E h=>?_) (λcdv A outer s H vs Q E hr h=>?_)
 ·obtain⟨t,n,tp,rows,rfl,_⟩:=h
  rfl
 ·obtain⟨t,n,tp,rows,rfl,y6,q⟩:=h;refine⟨_,qa8 (qd9 (qg1 (qe6 (pcN GS hr hS FS.kp bS (qa0 (pv 0) qa2)))) qf6 qb8),?_⟩;exact⟨_,rfl,t,n,tp,rows,rfl,y6,λH1 s1=>⟨_,rfl,iteF (q H1 s1)⟩⟩
end
end Pr
namespace L2
open PySem PySem.Spec PyProof.Rows
section
variable {prog:Program}{w:World}{κ:Type}[DecidableEq κ]{hk:HeapKind prog w κ}{A:Around}{E:Value->Shared->Prop}{s:Shared}{d a:Addr}{k:κ}{xs:List (κ×Addr×Value)}
end
section
variable {X:Cx}
end
end L2
namespace L2
open PySem PySem.Spec PyProof.Rows PySem.W
def Bare (h:Heap) (d:Addr) (tab:Array DictEntry) (ep:Nat):Prop:=∃o,h.get? d=some o/\o.ExactDict/\o.data=.dict tab ep
theorem Bare.stay {h h':Heap}{d:Addr}{tab:Array DictEntry}{ep:Nat}(x:Bare h d tab ep) (k:∀o,h.get? d=some o->h'.get? d=some o):Bare h' d tab ep:=let ⟨o,ho,r⟩:=x;⟨o,k o ho,r⟩
theorem Bare.ty {s:Shared}{d:Addr}{tab:Array DictEntry}{ep:Nat}(x:Bare s.heap d tab ep):s.TypeIs (.ref d) "dict":=let ⟨o,ho,hc,_⟩:=x;⟨o,ho,hc.1⟩
theorem Bare.lt {h:Heap}{d:Addr}{tab:Array DictEntry}{ep:Nat}(x:Bare h d tab ep):d<h.objs.size:=let ⟨_,ho,_⟩:=x;Zi ho
section
variable {prog:Program}{w:World}{A:Around}{E:Value->Shared->Prop}{s:Shared}{d it:Addr}{tab:Array DictEntry}{ep i:Nat}
theorem q09 {Q:Value->Shared->Prop}(lo:(d==sysModules)=false) (x:Bare s.heap d tab ep)
  (q:Q (.ref s.heap.objs.size) { s with heap:=s.heap.push { cls:=.type "dict_keyiterator",data:=.fields #[.ref d,.int 0 0,.int tab.size 0,.int ep 0] } }):wpAny (model prog w) A (pyIter (.ref d)) Q E s:=by
 obtain⟨o,ho,hc,kB⟩:=id x;refine VH x.ty F.slot_dict_iter (Z3 F.slot_dict_iter x.ty F.entry_dict_iter ?_ (F.args_dict_iter_1 _));show wpAny _ _ (Builtin.Dict.dictSlotNone _ _ >>= _) _ _ _;unfold Builtin.Dict.dictSlotNone;refine Za (Za (wpAny_notOrdered_dict x.ty (Zb ?_)));show wpAny _ _ (Builtin.Dict.showsAll d >>= _) _ _ s;unfold Builtin.Dict.showsAll;rw[Zk (by rw[lo];decide)];refine Za (Zb (Za (WO ho kB (Za (wpAny_dictEpoch ho kB ?_)))));refine Za (ZK (Zb ⟨_,rfl, "dict_keyiterator",_,⟨_,Zf _ rfl,rfl⟩,YL.lookup,?_⟩));simpa [rawInt] using q
theorem q10 {Q:Option Value->Shared->Prop}(st:s.heap.IsKeyIter it d i tab.size ep) (x:Bare s.heap d tab ep) (hi:i<tab.size)
  (q:∀h',h'.IsKeyIter it d (i+1) tab.size ep->Heap.SameBut it s.heap h'->Q (some tab[i].key) { s with heap:=h' }):wpAny (model prog w) A (pyNext (.ref it)) Q E s:=by
 obtain⟨o,ho,hc,hd⟩:=id st;obtain⟨od,hod,kW,hdd⟩:=id x;unfold pyNext;refine Za (Xv (Z2 (name:=Str.ofString "__next__") st.typeIs YL (Z3 YL st.typeIs F.entry_dict_keyiterator_next ?_ (F.args_dict_keyiterator_next_1 _))));refine Za (Zb (Za (Za ?_)))
 first|(refine Za (Y6 st.typeIs (Zb (Za (Wh ho hd ?_)))))|(refine Za (Xz st.typeIs (Zb (Za (Wh ho hd ?_)))))
 simp only[show Builtin.Dict_items.ownsTuple "dict_keyiterator" = false by decide,Zq,ZZ];show wpAny _ _ (if (Value.ref d==Value.none)=true then _ else _) _ _ s;rw[Zk (show ¬((Value.ref d==Value.none)=true) by exact Zs)];refine Za (Zb (Za (WO hod hdd ?_)));rw[Zk (by simp)];refine Za (Zb (Za (wpAny_dictEpoch hod hdd ?_)));rw[Zk (by simp)];refine Zb ?_;simp only[show ¬((i:Int)<0) by lia,ZZ,ZB,YX hi];refine Za ?_
 first|(refine Za (Y6 st.typeIs (Zb (Za (WW st.typeIs ?_)))))|(refine Za (Xz st.typeIs (Zb (Za (WW st.typeIs ?_)))))
 show wpAny _ _ (setField (.ref it) 1 (rawInt ((i:Int)+1)) >>= _) _ _ s;refine Za (Xk ho hd (by simp) ?_);have st':(s.heap.update it (Obj.mapFields (·.setIfInBounds 1 (rawInt ((i:Int)+1))))).IsKeyIter it d (i+1) tab.size ep:=⟨_,ZT _ ho (Xm (Yp hd _)),(WL ..).trans hc,by rw[Yp hd];simp[rawInt]⟩;refine Za (ZX (Za (WW (s:={ s with heap:=s.heap.update it (Obj.mapFields (·.setIfInBounds 1 (rawInt ((i:Int)+1)))) }) st'.typeIs ?_)));show wpAny _ _ (pure tab[i].key) _ _ _;exact Zb (Zb ⟨_,rfl,Zb (q _ st' (Z8 ..))⟩)
theorem xa2 {Q:Option Value->Shared->Prop}(hh:A.handled=none) (st:s.heap.IsKeyIter it d tab.size tab.size ep) (x:Bare s.heap d tab ep)
  (q:∀h',Heap.ExtBut it s.heap h'->Q none { s with heap:=h' }):wpAny (model prog w) A (pyNext (.ref it)) Q E s:=by
 obtain⟨o,ho,hc,hd⟩:=id st;obtain⟨od,hod,kW,hdd⟩:=id x;unfold pyNext;refine Za (Xv (Z2 (name:=Str.ofString "__next__") st.typeIs YL (Z3 YL st.typeIs F.entry_dict_keyiterator_next ?_ (F.args_dict_keyiterator_next_1 _))));refine Za (Zb (Za (Za ?_)))
 first|(refine Za (Y6 st.typeIs (Zb (Za (Wh ho hd ?_)))))|(refine Za (Xz st.typeIs (Zb (Za (Wh ho hd ?_)))))
 simp only[show Builtin.Dict_items.ownsTuple "dict_keyiterator" = false by decide,Zq,ZZ];show wpAny _ _ (if (Value.ref d==Value.none)=true then _ else _) _ _ s;rw[Zk (show ¬((Value.ref d==Value.none)=true) by exact Zs)];refine Za (Zb (Za (WO hod hdd ?_)));rw[Zk (by simp)];refine Za (Zb (Za (wpAny_dictEpoch hod hdd ?_)));rw[Zk (by simp)];refine Zb ?_;simp only[show ¬((tab.size:Int)<0) by lia,ZZ,ZB,WP (Ze tab.size)];refine Za ?_
 first|(refine Za (Y6 st.typeIs (Zb ?_)))|(refine Za (Xz st.typeIs (Zb ?_)))
 show wpAny _ _ (setField (.ref it) 0 .none >>= _) _ _ s;refine Za (Xk ho hd (by simp) ?_);show wpAny _ _ (newExc (.type "StopIteration") [] >>= _) _ _ _;refine Za ?_;simp only[newExc,newTuple];refine Za (ZK ?_ (by size_fits));refine Za (m:=firstArgMember _ _) (WG (a:=Value.none) (by first|rfl|(simp only[firstArgMember];rfl)) (ZK ?_ (by size_fits)));simp only[raiseNew];refine Za (wpAny_handled ?_);rw[show A.in1.handled=none by exact hh];refine Za (Zb (wpAny_throw ?_));refine Za (XM (T:= "StopIteration") (b:=true) ⟨_,Zf _ rfl,rfl⟩ isSubtype_stop ?_);exact Zb (q _ (((Z8 ..).extBut.push _).push _))
theorem qQ9 (hh:A.handled=none) (jF:d≠it):Walks prog w A it [it,d] [it] tab.size (λi v=>∃e,tab[i]?=some e/\v=e.key) (λi h=>h.IsKeyIter it d i tab.size ep/\Bare h d tab ep) where
 sub:=λb hb=>by simp at hb;simp[hb]
 frame:=λ_ _ _ st k=>⟨st.1.at λo e=>k it (by simp) o e,st.2.stay λo e=>k d (by simp) o e⟩
 item:=λi s Q E hi st q=>q10 st.1 st.2 hi λh' st' sb=>q _ h' s.toks ⟨tab[i],by simp[hi],rfl⟩ ⟨st',st.2.stay λo e=>sb.extBut d o jF e⟩ λb o hb e=>sb.extBut b o (λh=>hb (by simp[h])) e
 done:=λs Q E st q=>xa2 hh st.1 st.2 λh' eb=>q h' s.toks λb o hb e=>eb b o (λh=>hb (by simp[h])) e
 self:=λ_ _ _ _ st q=>wpAny_pyIter_keyiter st.1 q
theorem xa3 (lo:(d==sysModules)=false):KdlSrc prog w "dict" d d tab.size (λi v=>∃e,tab[i]?=some e/\v=e.key) (λh=>Bare h d tab ep) where
 type:=λ_ x=>x.ty
 there:=λ_ x=>⟨x.lt,x.lt⟩
 keep:=λ_ _ x k=>x.stay λo e=>k d (.inl rfl) o e
 notList:=by decide
 notTuple:=by decide
 hint:=λ_ _ _ _ x q=>kdl_hint_dict x.ty q
 iter:=λ_ _ hh x=>⟨_,_,(λ_ _ q=>q09 lo x q),qQ9 hh (Zp x.lt),⟨⟨_,Zf _ rfl,rfl,rfl⟩,x.stay λo e=>Zc _ e⟩⟩
theorem q11 (lo:(d==sysModules)=false):MeetsIn prog w (Builtin.«dict.__len__» ⟨[.ref d],[]⟩) (λ_ R s=>∃tab ep,Bare s.heap d tab ep/\R (.ok (.ret (.int tab.size s.toks))) { s with toks:=s.toks+1 }):=
 .of_wp λA R s ⟨tab,ep,⟨o,ho,hx,kB⟩,q⟩=>by
  show wpAny _ _ (dictSize d >>= _) _ _ s;unfold dictSize;refine Za (Za (WO ho kB (Zb ?_)));show wpAny _ _ (Builtin.Dict.pendingCount d >>= _) _ _ s;exact Za (wpAny_pendingCount_other lo (wpAny_ret_mkInt (by rw[VY];exact q)))
theorem xa4 {Q:Value->Shared->Prop}(lo:(d==sysModules)=false) (x:Bare s.heap d tab ep) (fit:(tab.size:Int)<2^63) (q:Q (.int tab.size (s.toks+1)) { s with toks:=s.toks+1+1 }) :
  wpAny (model prog w) A (call (.builtin "len") [.ref d]) Q E s:=by
 refine Calls.call_function_entry kind_len plain_len entry_len (args_len1 _) ?_;unfold Builtin.«len»;refine Za (m:=oneArg "len" _) (Zb ?_);refine Za (m:=callSpecial? (.ref d) (Str.ofString "__len__")) (Z2 (name:=Str.ofString "__len__") x.ty F.slot_dict_len (call_meetsIn F.slot_dict_len x.ty F.entry_dict_len (F.args_dict_len_1 _) (q11 lo) ⟨tab,ep,x,?_⟩));show wpAny _ _ _ _ _ { s with toks:=s.toks+1 };refine Za (ZX (Zb (Za (W5 ?_))));show wpAny _ _ (if ((tab.size:Nat):Int)<0 then _ else _) _ _ _;rw[Zk (by lia)];show wpAny _ _ (if ((tab.size:Nat):Int)>=2^63 then _ else _) _ _ _;rw[Zk (by lia)];exact Za (wpAny_mkInt (Zb ⟨_,rfl,q⟩))
end
section
variable {X:Cx}
theorem q12:qe3 X (.builtin "len") (λxs H Q=>∃d kvs,xs=[V.ref d]/\H d=some (.dT kvs)/\Q (.int kvs.length) H):=by
 intro j8 s σ H xs us Q I r h;obtain⟨d,kvs,rfl,hd,q⟩:=h;obtain⟨u,rfl,ru⟩:=qf0 r;cases ru;obtain⟨z,lo,ys,rel,o,tab,ep,ho,hx,kB,ent,uni⟩:=(show ObjOk X.prog X.w H s.heap d (.dT kvs) from I.hok d _ hd);have hl:tab.size=kvs.length:=(size_of_entries ent).trans (Y2 rel).symm;have fit:(tab.size:Int)<2^63:=by rw[hl];rw[XQ] at z;lia
 refine xa4 lo ⟨o,ho,hx,kB⟩ fit ⟨.int kvs.length,H,I.tok _,?_,q⟩;rw[hl];exact⟨_,rfl⟩
end
section
variable {prog:Program}{w:World}{A:Around}{E:Value->Shared->Prop}{s:Shared}{T:String}{r d:Addr}{n:Nat}{P:Nat->Value->Prop}{OK:Heap->Prop}
theorem qJ0 {Q:List Value->Shared->Prop}(K:KdlSrc prog w T r d n P OK) (hh:A.handled=none) (hok:OK s.heap) (hn:n<=sizeLine)
  (hQ:∀(h':Heap) tk acc',(∀b o,s.heap.get? b=some o->h'.get? b=some o)->ItemsOf P acc' n->Q acc'.toList { s with heap:=h',toks:=tk }):wpAny (model prog w) A (collect (.ref r)) Q E s:=by
 have jA:=K.there _ hok;unfold collect;refine Za (Vq (Ye F.entry_proto_collect ?_));rw[Z1 F.plain_proto_collect _];show wpAny _ A.in1 (newList [] >>= λl=>again (.builtin "list.__iadd__" ⟨[l,.ref r],[]⟩)) _ _ s;refine Za (ZK ?_);refine Zb ⟨YA F.plain_list_iadd _,Ye F.entry_list_iadd ?_⟩;rw[Z1 F.plain_list_iadd _];have hS₁:(s.heap.push { cls:=.type "list",data:=.seq ([]:List Value).toArray }).get? s.heap.objs.size=some { cls:=.type "list",data:=.seq ([]:List Value).toArray }:=Zf _ rfl;show wpAny _ A.in1 (Builtin.List.listExtendWith (.ref s.heap.objs.size) (.ref r) (.ref s.heap.objs.size)) _ _ _;refine kdl_extend (R:=wants (λv s'=>wpAny (model prog w) A (match v with|.ref a=>(do let ob <- load a;match ob.data with|.seq xs _=>pure xs.toList|_=>unsupported "internal:collect")|_=>unsupported "internal:collect") Q E s') E) (s:={ s with heap:=s.heap.push { cls:=.type "list",data:=.seq ([]:List Value).toArray } }) K hh (K.keep _ _ hok λb _ o e=>Zc _ e) s.heap.objs.size (XS jA.1) (XS jA.2) _ _ hS₁ (λh' tk acc' c' hk hS' jH=>?_) hn;show wpAny _ A (load s.heap.objs.size >>= _) _ _ _;refine Za (wpAny_load hS' ?_);exact Zb (hQ h' tk acc' (λb o e=>hk b o (Zp (Zi e)) (Zc _ e)) jH)
theorem qw2 {Q₁:Value->Shared->Prop}(K:KdlSrc prog w T r d n P OK) (hh:A.handled=none) (hok:OK s.heap) (hn:n<=sizeLine)
  (h:∀(h':Heap) tk acc,(∀b o,s.heap.get? b=some o->h'.get? b=some o)->ItemsOf P acc n->Q₁ (.ref h'.objs.size) { s with heap:=h'.push { cls:=.type "tuple",data:=.seq acc },toks:=tk }) :
  codeAny (model prog w) A (.call (.builtin "tuple.__new__") ⟨[.type "tuple",.ref r],[]⟩) (wants Q₁ E) s:=by
 refine W8 ?_;show wpAny _ A.in1 (do checkBuiltinCall "tuple.__new__" ⟨[.type "tuple",.ref r],[]⟩;again (.builtin "tuple.__new__" ⟨[.type "tuple",.ref r],[]⟩)) _ _ s;refine Za (WG (F.newCall_tuple_1 _) (Zb ⟨YA F.plain_tuple_new _,Ye F.entry_tuple_new ?_⟩));rw[Z1 F.plain_tuple_new _];have jP:=sub_tuple_self;have hinit:=init_tuple_lookup;have hmh:=madeHere_tuple;have hTI:=K.type s hok;have hnt:=K.notTuple
 wp_walk using Vf hTI,qJ0 (A:=A.in1) K hh hok hn
 intro h' tk acc hk jH;show wpAny _ _ (Builtin.Tuple.tupleExact acc.toList.toArray >>= λv=>ret v) _ _ _;unfold Builtin.Tuple.tupleExact;refine Za (ZK ?_ (by show acc.toList.toArray.size<=sizeLine;simp only[Array.toArray_toList];rw[jH.1];exact hn));refine Zb ?_;have e:acc.toList.toArray=acc:=by simp
 rw[e];exact h h' tk acc hk jH
theorem q13 {Q:Value->Shared->Prop}(K:KdlSrc prog w T r d n P OK) (hh:A.handled=none) (hok:OK s.heap) (hn:n<=sizeLine)
  (h:∀(h':Heap) tk acc,(∀b o,s.heap.get? b=some o->h'.get? b=some o)->ItemsOf P acc n->Q (.ref h'.objs.size) { s with heap:=h'.push { cls:=.type "tuple",data:=.seq acc },toks:=tk }) :
  wpAny (model prog w) A (call (.type "tuple") [.ref r]) Q E s:=by
 refine callType_codes (Q₁:=λobj s₁=>s₁.TypeIs obj "tuple" /\ Q obj s₁) F.called_tuple (F.typeCall_tuple_1 _) F.entry_object_init
  (qw2 K hh hok hn λh' tk acc hk jH=>⟨⟨_,Zf _ rfl,rfl⟩,h h' tk acc hk jH⟩) λobj s₁ h₁=>?_
 exact⟨h₁.1,F.args_object_init_2 obj _,object_init_meets F.called_tuple.init.lookup F.called_tuple.made (by decide) prog w A.in1 _ s₁ ⟨h₁.1,rfl,h₁.2⟩⟩
end
section
variable {X:Cx}
theorem qF2 (hc:X.calm=true):qe3 X (.type "tuple") (λxs H Q=>∃(d:Addr) (kvs:List (List Key×V)),xs=[.ref d]/\H d=some (.dT kvs) /\
  ∀(l:Addr) (bs:List Addr),H l=none->bs.length=kvs.length->(∀(i:Nat) b kv,bs[i]?=some b->kvs[i]?=some kv->H b=some (.tup (kv.1.map kV)))->Q (.ref l) (upd H l (.tup (bs.map V.ref)))):=by
 intro j8 s σ H xs us Q I r h;obtain⟨d,kvs,rfl,hd,q⟩:=h;obtain⟨u,rfl,ru⟩:=qf0 r;cases ru;obtain⟨z,lo,ys,rel,o,tab,ep,ho,hx,kB,ent,uni⟩:=(show ObjOk X.prog X.w H s.heap d (.dT kvs) from I.hok d _ hd);have hl:kvs.length=ys.length:=Y2 rel;have ht:tab.size=ys.length:=size_of_entries ent;refine q13 (xa3 (tab:=tab) (ep:=ep) lo) (I.ok.hd hc) ⟨o,ho,hx,kB⟩ (by lia) λh' tk acc kp jH=>?_;have at_:∀(i:Nat) p y,kvs[i]?=some p->ys[i]?=some y->H y.2.1=some (.tup (p.1.map kV)):=by
  have gen:∀{l:List (List Key×V)}{m:List (List Key×Addr×Value)},Paired (λ(p:List Key×V) (q:List Key×Addr×Value)=>p.1=q.1/\H q.2.1=some (.tup (p.1.map kV))/\RelV p.2 q.2.2) l m->∀(i:Nat) p y,l[i]?=some p->m[i]?=some y->H y.2.1=some (.tup (p.1.map kV)):=by
   intro l m pr
   induction pr with
   |nil=>intro i p y h1;simp at h1
   |cons a1 a2 ih=>
    intro i p y h1 h2;cases i with
    |zero=>simp at h1 h2;subst h1;subst h2;exact a1.2.1
    |succ i=>exact ih i p y (by simpa using h1) (by simpa using h2)
  exact gen rel
 have jT:(ys.map (·.2.1)).length=kvs.length:=by rw[Zh,hl]
 have I1:=I.kept (t':=tk) kp;have hf:H h'.objs.size=none:=I1.hok.fresh (Ze _);refine⟨.ref h'.objs.size,_,I1.laid (a:=h'.objs.size) (o:=.tup ((ys.map (·.2.1)).map V.ref)) (t':=tk) (λb o e=>Zc _ e) (Ze _) (show ObjOk X.prog X.w _ _ _ (.tup ((ys.map (·.2.1)).map V.ref)) from ⟨by rw[Zh,jT];exact z,acc.toList,?_,by have:=IsTupX.new h' acc.toList.toArray;simpa using this⟩),rfl,q _ _ hf jT λi b kv e1 e2=>?_⟩
 ·refine qy7 (by simp[jH.1,ht]) λi x v h1 h2=>?_;rw[Zg,Zg] at h1;obtain⟨b,hb,rfl⟩:=Zj.mp h1;obtain⟨y,hy,rfl⟩:=Zj.mp hb;obtain⟨e,he,rfl⟩:=jH.2 i v (by simpa using h2);rw[entry_at ent i,hy] at he;have:=ZO he;subst this
  rfl
 ·rw[Zg] at e1;obtain⟨y,hy,rfl⟩:=Zj.mp e1;exact at_ i kv y e2 hy
open Classical in
noncomputable def qJ1 (h:Heap) (d:PyData) (w:Value):Bool:=decide (∃(e:PyData) (bs:List Addr),Reads h w e bs/\e.canLay0=true/\PyData.eqv e d=true)
open Classical in
theorem xa5 {h:Heap}{d d':PyData}{w:Value}{bs:List Addr}(rb:Reads h w d' bs) (c:d'.canLay0=true):qJ1 h d w=PyData.eqv d' d:=by
 unfold qJ1;cases hb:PyData.eqv d' d with
 |true=>exact Zu ⟨d',bs,rb,c,hb⟩
 |false=>
  refine Zn λ⟨e,bs',re,_,he⟩=>?_;have:=SeqAt.Reads.unique d' e w bs bs' c rb re;rw[<- this,hb] at he;cases he
theorem q14 {j8:List (Addr×Obj)}{s:Shared}{σ:St}{H:Hp}{v:Value}{d:PyData}{as:List Addr}(I:Inv X j8 σ H s) (un:X.A.units+64<cLine) (ra:Reads s.heap v d as) (c1:d.canLay0=true) (dd:d.depth<=50) :
  ∀{xs:List V}{ds:List PyData}{us:List Value},DatasAt H xs ds->Vals xs us->PyData.canLayAll0 ds=true->(∀w∈us,SeqAt.EqAt X.A.in1 s w v (qJ1 s.heap d w))/\us.any (qJ1 s.heap d)=ds.any λe=>PyData.eqv e d
 |_,_,_,.nil,.nil,_=>⟨λw hw=>(nomatch hw),rfl⟩
 |_,d'::ds',u0::us0,.cons hx hxs,.cons r0 rs,h3=>by
  have h3':d'.canLay0=true/\PyData.canLayAll0 ds'=true:=by simpa [PyData.canLayAll0] using h3
  obtain⟨e1,e2⟩:=q14 I un ra c1 dd hxs rs h3'.2;obtain⟨bs,rb⟩:=hx.reads I.hok r0;have eb:=xa5 (d:=d) rb h3'.1;refine⟨λw hw=>?_,?_⟩
  ·rcases Zt.mp hw with rfl|hw
   ·rw[eb];exact SeqAt.eqAt_reads d' d X.A.in1 s w v bs as rb ra h3'.1 c1 (by
     have:X.A.in1.units=X.A.units+1:=rfl;lia)
   ·exact e1 w hw
  ·rw[X1,X1,eb,e2]
theorem xt0 {k:Nat}(hr:Room k X.A):OpR X (compareOp .In) (λx y H Q=>∃(p:Addr) (xs:List V) (ds:List PyData) (d:PyData),y=.ref p/\H p=some (.tup xs)/\DatasAt H xs ds/\DataAt H x d/\d.canLay0=true/\PyData.canLayAll0 ds=true/\d.depth<=50 /\
  Q (.bl (ds.any λe=>PyData.eqv e d)) H):=by
 intro j8 s σ H x y v u Q I rx ry h;obtain⟨p,xs,ds,d,rfl,hp,kD,hd,c1,c2,dd,q⟩:=h;cases ry;obtain⟨as,ra⟩:=hd.reads I.hok rx;obtain⟨its,rv,pl,hz⟩:=I.tuple (SqT.of hp);have un:=hr.units;obtain⟨k1,k2⟩:=q14 (X:=X) I un ra c1 dd kD rv c2;refine SeqAt.in_tupleAt (qJ1 s.heap d) pl (λw hw=>k1 w (by simpa using hw)) ⟨.bl _,H,I,rfl,?_⟩;rw[show its.toArray.any (qJ1 s.heap d)=its.any (qJ1 s.heap d) by simp,k2];exact q
end
end L2
namespace L2
open PySem
theorem xa6 {α:Type}{i1 i2:BEq α}(h1:@LawfulBEq α i1) (h2:@LawfulBEq α i2):i1=i2:=by
 have:∀a b,@BEq.beq α i1 a b=@BEq.beq α i2 a b:=λa b=>by
  rw[Xb,@Wg α i1 h1,@Wg α i2 h2]
 cases i1;cases i2;congr 1;funext a b;exact this a b
structure PEb (X:Cx) (e:Expr) (t:TE):Prop where
 go:PE X e t
structure PSb (X:Cx) (st:Stmt) (t:TS):Prop where
 go:PS X st t
inductive StB (X:Cx):List Stmt->TS->Prop
 |one {st:Stmt}{t:TS}(h:PSb X st t):StB X [st] t
 |cons {st:Stmt}{rest:List Stmt}{t u:TS}(h:PSb X st t) (r:StB X rest u):StB X (st::rest) (tSeq t u)
theorem StB.go {X:Cx}:∀{l:List Stmt}{t:TS},StB X l t->PSs X l t
 |_,_,.one h=>qa8 h.go
 |_,_,.cons h r=>qb5 h.go r.go
theorem seqE {X:Cx}{st:Stmt}{rest:List Stmt}{R:TS->Prop}(h:∃t,PSb X st t/\∃u,PSs X rest u/\R (tSeq t u)):∃t,PSs X (st::rest) t/\R t:=by
 obtain⟨t,h1,u,h2,h3⟩:=h;exact⟨_,qb5 h1.go h2,h3⟩
theorem qf9 {X:Cx}{st:Stmt}{R:TS->Prop}(h:∃t,PSb X st t/\R t):∃t,PSs X [st] t/\R t:=by
 obtain⟨t,h1,h3⟩:=h;exact⟨_,qa8 h1.go,h3⟩
inductive Ars2 (X:Cx):List Expr->TA->Prop
 |nil:Ars2 X [] tNil
 |cons {e:Expr}{es:List Expr}{te:TE}{t:TA}(h:PEb X e te) (r:Ars2 X es t) (hs:starEach (e::es) X.env=(false,eval e X.env)::starEach es X.env):Ars2 X (e::es) (qC0 te t)
theorem Ars2.go {X:Cx}:∀{es:List Expr}{t:TA},Ars2 X es t->PA X es t
 |_,_,.nil=>qa2
 |_,_,.cons h r hs=>qa0 h.go r.go hs
theorem qg0 {X:Cx}{i:Int}{j:Nat}{pos:Pos}:PEb X (.Constant (.int i) j pos) (tC (.int i)):=⟨qa1⟩
end L2
namespace Pr
open PySem L2 Qf
def PurseAt (H:Hp) (p:Addr):Prop:=∃a b:Int,H p=some (.lst [.int a,.int b])/\0<=a/\0<=b/\b<2^40
theorem PurseAt.same {H H':Hp}{p:Addr}(h:PurseAt H p) (s:Same H H'):PurseAt H' p:=by
 obtain⟨a,b,e,r⟩:=h;exact⟨a,b,s _ _ e,r⟩
def RowsL (H:Hp) (p:Addr) (rows:List Row):Prop:=∃bs:List Addr,H p=some (.lst (bs.map V.ref))/\bs.length=rows.length/\∀(i:Nat) b r,bs[i]?=some b->rows[i]?=some r->H b=some (.tup (vN r))
theorem RowsL.same {H H':Hp}{p:Addr}{rows:List Row}(h:RowsL H p rows) (s:Same H H'):RowsL H' p rows:=by
 obtain⟨bs,h1,h2,h3⟩:=h;exact⟨bs,s _ _ h1,h2,λi b r e1 e2=>s _ _ (h3 i b r e1 e2)⟩
def tabl {α κ:Type}(key:α->κ) (l:List α) (k:Nat):List (κ×V):=(l.zipIdx k).map λp=>(key p.1,V.int (p.2:Nat))
section
variable {α κ:Type}[DecidableEq α] [DecidableEq κ]{key:α->κ}
theorem qr7 (l:List α) (k:Nat):(tabl key l k).length=l.length:=by simp[tabl]
theorem q15 (a:α) (l:List α) (k:Nat):tabl key (a::l) k=(key a,V.int (k:Nat))::tabl key l (k+1):=by simp[tabl]
theorem q16 (l:List α) (a:α) (k:Nat):tabl key (l++[a]) k=tabl key l k++[(key a,V.int (k+l.length:Nat))]:=by simp[tabl,List.zipIdx_append]
theorem qz8 (inj:∀a b,key a=key b->a=b) (a:α):∀(l:List α) (k:Nat),valV (tabl key l k) (key a)=if a∈l then some (.int (k+l.idxOf a:Nat)) else none
 |[],k=>by simp[tabl,valV]
 |b::l,k=>by
  rw[q15];by_cases h:b=a
  ·subst h;rw[qq9 rfl,Zx ZC,List.idxOf_cons_self]
   rfl
  ·rw[qr0 (λz=>h (inj _ _ z)),qz8 inj a l (k+1)];by_cases hm:a∈l
   ·have e:(b::l).idxOf a=l.idxOf a+1:=by
     rw[List.idxOf_cons,beq_false_of_ne h]
     rfl
    rw[Zx hm,Zx (Zl _ hm),e];congr 3;lia
   ·rw[Zk hm,Zk (λz=>by rcases Zt.mp z with z|z;exact h z.symm;exact hm z)]
theorem xa7 (inj:∀a b,key a=key b->a=b){l:List α}{a:α}{k:Nat}(h:a∉l):putK (tabl key l k) (key a) (.int (k+l.length:Nat))=tabl key (l++[a]) k:=by
 unfold putK;rw[qm8,qz8 inj,Zk h,Zk (by decide),q16]
end
theorem RowsL.but {H H':Hp}{p e:Addr}{rows:List Row}{o:HO}(h:RowsL H p rows) (b:But e H H') (hpe:p≠e) (he:H e=some o) (no:∀u,o≠.tup u):RowsL H' p rows:=by
 obtain⟨bs,h1,h2,h3⟩:=h;exact⟨bs,b _ _ h1 hpe,h2,λi c r e1 e2=>b.tups he no _ _ (h3 i c r e1 e2)⟩
theorem qx7 {H:Hp}:∀{bs:List Addr}{rows:List Row},bs.length=rows.length->(∀(i:Nat) b r,bs[i]?=some b->rows[i]?=some r->H b=some (.tup (vN r))) ->
  DatasAt H (bs.map V.ref) (rows.map λr=>dT (r.map λx:Nat=>(x:Int)))
 |[],[],_,_=>.nil
 |b::bs,r::rows,hl,h=>by
  refine .cons ?_ (qx7 (by simpa using hl) λi c q e1 e2=>h (i+1) c q (by simpa using e1) (by simpa using e2));have h0:=h 0 b r rfl rfl;rw[qq3] at h0;exact .tup h0 (DatasAt.ints _)
theorem qo0:∀rows:List Row,PyData.canLayAll0 (rows.map λr=>dT (r.map λx:Nat=>(x:Int)))=true
 |[]=>rfl
 |r::rows=>by
  rw[Zy,PyData.canLayAll0,qX4,qo0 rows];rfl
theorem qx8:∀ns:List Int,PyData.depthAll (ns.map PyData.int)=0
 |[]=>rfl
 |n::ns=>by rw[Zy,PyData.depthAll,qx8 ns];rfl
theorem qx9:∀rows:List Row,PyData.depthAll (rows.map λr=>dT (r.map λx:Nat=>(x:Int)))<=1
 |[]=>by decide
 |r::rows=>by
  have:=qx9 rows;have e:(dT (r.map λx:Nat=>(x:Int))).depth=1:=by
   show PyData.depthAll _+1=1;rw[qx8]
  rw[Zy,PyData.depthAll,e];lia
theorem xa8 (cs:List Addr) (t:Addr):cs.map V.ref++[.ref t]=(cs++[t]).map V.ref:=by rw[Z7];rfl
def q17 (rows:List Row):List PyData:=rows.map λr=>dT (r.map λx:Nat=>(x:Int))
theorem qJ2 (m:List Row):PyData.eqv (.list (q17 m)) (.list [])=m.isEmpty:=by
 cases m with
 |nil=>rfl
 |cons a l=>simp[q17,PyData.eqv,PyData.eqvAll]
theorem qk4 {H:Hp}{p:Addr}{rows:List Row}(h:RowsL H p rows):DataAt H (.ref p) (.list (q17 rows)):=by
 obtain⟨bs,hp,hl,hr⟩:=h;exact .lst hp (qx7 hl hr)
theorem qi0 (rows:List Row):(PyData.list (q17 rows)).depth<=60:=by
 have:=qx9 rows;show PyData.depthAll _+1<=60;unfold q17;lia
def tK (rows:List Row):List (List Key×V):=tabl keyN rows 2
theorem xa9 {α:Type}{i1 i2:BEq α}(h1:@LawfulBEq α i1) (h2:@LawfulBEq α i2) (l:List α) (a:α):@List.idxOf α i1 a l=@List.idxOf α i2 a l:=by
 cases xa6 h1 h2
 rfl
theorem xf9 (rows:List Row) (r:Row):valV (tK rows) (keyN r)=if r∈rows then some (.int (rows.idxOf r+2:Nat)) else none:=by
 unfold tK;rw[qz8 (λa b=>qz7)];split
 ·rw[Nat.add_comm];exact Yk (λn:Nat=>some (V.int ((n+2:Nat):Int))) (xa9 (by infer_instance) (by infer_instance) _ _)
 ·rfl
theorem qJ3 {H1 H2:Hp}{t n tp:Nat}{rows:List Row}(h:qe2 H1 t n tp rows) (s:Same H1 H2):qe2 H2 t n tp rows:=let ⟨⟨p,a,b⟩,c,d⟩:=h;⟨⟨p,s _ _ a,b.same s⟩,c,d⟩
end Pr
namespace Qf
open Tr
theorem qu7 {L:List Tr}{t:Tr}(h:In L t):post t L=L:=by
 cases t with
 |z=>rfl
 |o=>rfl
 |nd a b c d=>
  have hm:Tr.nd a b c d∈L:=by rcases h with h|h|h;cases h;cases h;exact h
  unfold post;rw[Zx hm]
theorem qy0 {L:List Tr}(h:Ord L){t:Tr}(hk:∀s∈kids t,In L s):rowsOf (L++[t])=rowsOf L++[(kids t).map (name L)]:=by
 unfold rowsOf;rw[Z7];congr 1
 ·refine Xh λu hu=>?_;obtain⟨i,hi,e⟩:=ZE.mp hu;exact Xh λs hs=>name_app (kid_in h (i:=i) (t:=u) (by rw[Zd hi,e]) hs).1 h
 ·show[(kids t).map (name (L++[t]))]=_;congr 1;exact Xh λs hs=>name_app (hk s hs) h
theorem xl4 {L:List Tr}(h:Ord L){a b c d:Tr}(hk:∀s∈kids (.nd a b c d),In L s):(kids (.nd a b c d)).map (name L)∈rowsOf L<->Tr.nd a b c d∈L:=by
 constructor
 ·intro hm;obtain⟨i,hi,e⟩:=ZE.mp hm;obtain⟨t,ht,er⟩:=qp1 (i:=i) (r:=(kids (.nd a b c d)).map (name L)) (by rw[Zd hi,e]);have:=qM8 ⟨a,b,c,d,rfl⟩ (h.ch i t ht).1 (qj6 h hk (λs hs=>(kid_in h ht hs).1) er);rw[this];exact Zr ht
 ·intro hm;obtain⟨i,hi,e⟩:=ZE.mp hm;exact Zr (rowsOf_at (i:=i) (t:=.nd a b c d) (by rw[Zd hi,e]))
theorem xl5 {L:List Tr}(h:Ord L){i:Nat}{t:Tr}(e:L[i]?=some t):(rowsOf L).idxOf ((kids t).map (name L))=i:=by
 have hl:=(gS_ e).1;have e2:=rowsOf_at e;have jM:i<(rowsOf L).length:=by rw[rowsOf_len];exact hl
 have e3:=(gS_ e2).2;rw[<- e3];exact (qq4 h).idxOf_getElem i jM
end Qf
namespace Pr
open PySem L2 Qf
theorem xg0 {H:Hp}{e u:Addr}{L:List Tr}(hO:Tr.Ord L){a b c d:Tr}(hm:Tr.nd a b c d∈L) (he:H e=some (.dT (tK (Tr.rowsOf L)))) (hu:H u=some (.tup (vN [Tr.name L a,Tr.name L b,Tr.name L c,Tr.name L d]))) :
  DGet H e (.ref u) (some (.int (Tr.name L (.nd a b c d):Nat))):=by
 obtain⟨i,hi,ei⟩:=ZE.mp hm;have ei':L[i]?=some (.nd a b c d):=by rw[Zd hi,ei]
 have hix:=xl5 hO ei';have hmr:(Tr.kids (.nd a b c d)).map (Tr.name L)∈Tr.rowsOf L:=Zr (Tr.rowsOf_at ei');have:=DGet.t (k:=keyN ((Tr.kids (.nd a b c d)).map (Tr.name L))) he (by rw[qu6];exact hu);rw[xf9,Zx hmr,hix] at this;rw[Tr.name_at hO ei'];exact this
end Pr
namespace Qf
open Tr
theorem qg8 {rows:List Row}(ok:qd4 rows){q:Nat}(hq:q<rows.length+2):(T rows q=z<->q=0)/\(T rows q=o<->q=1):=by
 by_cases q2:q<2
 ·match q,q2 with
  |0,_=>rw[qg5];exact⟨⟨λ_=>rfl,λ_=>rfl⟩,⟨λh=>(nomatch h),λh=>(nomatch h)⟩⟩
  |1,_=>rw[qp3];exact⟨⟨λh=>(nomatch h),λh=>(nomatch h)⟩,⟨λ_=>rfl,λ_=>rfl⟩⟩
 ·obtain⟨p',a',b',c',d',rfl,hp'⟩:=ql4 ok hq q2;rw[qn8 ok hp'];exact⟨⟨λh=>(nomatch h),λh=>by lia⟩,⟨λh=>(nomatch h),λh=>by lia⟩⟩
theorem xy3 {rows:List Row}(ok:qd4 rows) (np:∀r∈rows,¬qy8 r):∀x,x<rows.length+2->Red (T rows x):=by
 intro x
 induction x using Nat.strongRecOn with
 |ind x ih=>
  intro hx;by_cases z:x<2
  ·match x,z with
   |0,_=>rw[qg5];trivial
   |1,_=>rw[qp3];trivial
  ·obtain⟨p,a,b,c,d,rfl,hp⟩:=ql4 ok hx z;have jA:=(ok p _ hp).2;have jI:=(gS_ hp).1;have la:=jA a (by simp);have lb:=jA b (by simp);have lc:=jA c (by simp);have ld:=jA d (by simp);rw[qn8 ok hp];have hnp:=np _ (Zr hp);refine⟨λh=>hnp (.inl ?_),λh=>hnp (.inr ?_),ih a (by lia) (by lia),ih b (by lia) (by lia),ih c (by lia) (by lia),ih d (by lia) (by lia)⟩
   ·rw[(qg8 ok (by lia)).1.mp h.1,(qg8 ok (by lia)).1.mp h.2.1,(qg8 ok (by lia)).1.mp h.2.2.1,(qg8 ok (by lia)).1.mp h.2.2.2]
   ·rw[(qg8 ok (by lia)).2.mp h.1,(qg8 ok (by lia)).2.mp h.2.1,(qg8 ok (by lia)).2.mp h.2.2.1,(qg8 ok (by lia)).2.mp h.2.2.2]
theorem q18 {n top:Nat}{rows:List Row}(c:Canon n top rows):Red (T rows top):=xy3 c.rok c.unplain top c.inn
theorem qu8 {n top:Nat}{rows:List Row}(c:Canon n top rows):dep (T rows top)<=n:=by
 obtain⟨er,et⟩:=qQ4 c;obtain⟨ho,hi⟩:=post_ord (T rows top) [] ord_nil;have h:=qp4 ho _ hi;rw[<- er,<- et] at h;rw[<- h];exact c.deep
def qr (i:Nat):Tr->Tr
 |.nd a b c d=>[a,b,c,d].getD i .z
 |t=>t
theorem T_qr {rows:List Row}(ok:qd4 rows){p i:Nat}{r:Row}{x:Nat}(hp:rows[p]?=some r) (hi:i<4) (hx:r[i]?=some x):T rows x=qr i (T rows (p+2)):=by
 obtain⟨a,b,c,d,rfl⟩:=qp2 (ok p r hp).1;rw[qn8 ok hp]
 match i,hi with
 |0,_=>cases hx;rfl
 |1,_=>cases hx;rfl
 |2,_=>cases hx;rfl
 |3,_=>cases hx;rfl
theorem xg1 {i k:Nat}(hi:i<4):∀(t:Tr),dep t<=k+1->dep (qr i t)<=k
 |.z,_=>Zv _
 |.o,_=>Zv _
 |.nd a b c d,h=>by
  have h':mx [dep a,dep b,dep c,dep d]<=k:=by
   have:1+mx [dep a,dep b,dep c,dep d]<=k+1:=h;lia
  have m:∀x∈[dep a,dep b,dep c,dep d],x<=k:=λx hx=>ZF (qY4 hx) h'
  match i,hi with
  |0,_=>exact m (dep a) (by simp)
  |1,_=>exact m (dep b) (by simp)
  |2,_=>exact m (dep c) (by simp)
  |3,_=>exact m (dep d) (by simp)
theorem dep0:∀{t:Tr},dep t<=0->t=.z\/t=.o
 |.z,_=>.inl rfl
 |.o,_=>.inr rfl
 |.nd a b c d,h=>by
  have:1+mx [dep a,dep b,dep c,dep d]<=0:=h;lia
def wdn:Tr->List Nat->Tr×List Nat
 |.nd a b c d,x::ds=>((wdn (qr x (.nd a b c d)) ds).1,x::(wdn (qr x (.nd a b c d)) ds).2)
 |t,_=>(t,[])
theorem qz9 (t:Tr):wdn t []=(t,[]):=by cases t<;>rfl
theorem qF3 {t:Tr}(h:t=.z\/t=.o) (ds:List Nat):wdn t ds=(t,[]):=by rcases h with rfl|rfl<;>cases ds<;>rfl
def cof (f:Nat->Nat):Nat->List Nat->Nat
 |k+1,d::ds=>2^k*f d+cof f k ds
 |_,_=>0
theorem q19 (f:Nat->Nat):∀(n:Nat) (l m:List Nat),l.length<=n->cof f n (l++m)=cof f n l+cof f (n-l.length) m
 |n,[],m,_=>by
  have:cof f n []=0:=by cases n<;>rfl
  rw[this];simp
 |n+1,d::l,m,h=>by
  have h':l.length<=n:=by simpa using h
  show 2^n*f d+cof f n (l++m)=2^n*f d+cof f n l+cof f (n+1-(l.length+1)) m;rw[q19 f n l m h',WX];lia
theorem qA0:∀(t:Tr) (l m:List Nat),((wdn t l).2=l/\wdn t (l++m)=((wdn (wdn t l).1 m).1,l++(wdn (wdn t l).1 m).2))\/(((wdn t l).1=.z\/(wdn t l).1=.o)/\wdn t (l++m)=wdn t l)
 |t,[],m=>by
  left;rw[qz9];exact⟨rfl,by simp⟩
 |.z,x::l,m=>.inr ⟨.inl rfl,rfl⟩
 |.o,x::l,m=>.inr ⟨.inr rfl,rfl⟩
 |.nd a b c d,x::l,m=>by
  rcases qA0 (qr x (.nd a b c d)) l m with ⟨h1,h2⟩|⟨h1,h2⟩
  ·left;refine⟨?_,?_⟩
   ·show x::(wdn (qr x (.nd a b c d)) l).2=x::l;rw[h1]
   ·show ((wdn (qr x (.nd a b c d)) (l++m)).1,x::(wdn (qr x (.nd a b c d)) (l++m)).2)=_;rw[h2]
    rfl
  ·right;refine⟨h1,?_⟩;show ((wdn (qr x (.nd a b c d)) (l++m)).1,x::(wdn (qr x (.nd a b c d)) (l++m)).2)=_;rw[h2]
   rfl
def dgp (r c k:Nat):Nat->List Nat
 |0=>[]
 |j+1=>(2*(r/2^(k+j)%2)+c/2^(k+j)%2)::dgp r c k j
theorem q20 (r c k:Nat):∀j,(dgp r c k j).length=j
 |0=>rfl
 |j+1=>by show (dgp r c k j).length+1=_;rw[q20]
theorem xg2 (r c k:Nat):∀j,∀d∈dgp r c k j,d<4
 |0,d,h=>by cases h
 |j+1,d,h=>by
  rcases Zt.mp h with rfl|h
  ·lia
  ·exact xg2 r c k j d h
end Qf
namespace L2
open PySem PySem.Spec PyProof.Rows
theorem q21 {z:Str}{g:TG}{tb:TS}{D:Ends}{σ:St}{H:Hp}(Pv:Nat->St->Hp->Prop) (h0:Pv 0 σ H)
  (hs:∀i c σ H,z.cps[i]?=some c->Pv i σ H->g (.str ⟨#[c]⟩) σ H λσ2 H2=>tb { D with nx:=Pv (i+1),ct:=Pv (i+1),bk:=D.nx } σ2 H2) (hd:∀σ H,Pv z.cps.size σ H->D.nx σ H) :
  ∃W:Nat->Nat->St->Hp->Prop,(∃m,W 0 m σ H)/\∀i m σ H,W i m σ H ->
   ((Its z).stop i H/\D.nx σ H)\/((Its z).go i H/\∃N:St->Hp->Prop,(∀σ' H',N σ' H'->∃m',m'<m/\W (i+1) m' σ' H')/\∀x H',(Its z).yld i H x H'->g x σ H' λσ2 H2=>tb { D with nx:=N,ct:=N,bk:=D.nx } σ2 H2):=by
 refine⟨λi m σ H=>m=z.cps.size-i/\i<=z.cps.size/\Pv i σ H,⟨z.cps.size,by simp,Zv _,h0⟩,?_⟩;rintro i m σ H ⟨rfl,hi,p⟩;by_cases jA:i<z.cps.size
 ·refine .inr ⟨jA,Pv (i+1),λσ' H' p'=>⟨z.cps.size-(i+1),by lia,rfl,jA,p'⟩,λx H' y=>?_⟩;obtain⟨e,c,e1,e2⟩:=y;subst e e2;exact hs i c σ _ e1 p
 ·have e:i=z.cps.size:=by lia
  subst e;exact .inl ⟨Ze _,hd σ H p⟩
end L2
namespace Pr
open PySem L2 Qf
def txt (ds:List Nat):Str:=⟨(ds.map (48+·)).toArray⟩
theorem qA1 (ds:List Nat):(txt ds).length=ds.length:=by simp[txt,Str.length]
theorem qA2 (ds:List Nat):(txt ds).cps.size=ds.length:=by simp[txt]
theorem q22 {ds:List Nat}{i c:Nat}(h:(txt ds).cps[i]?=some c):∃d,ds[i]?=some d/\c=48+d:=by
 have hc':(ds.map (48+·))[i]?=some c:=by simpa [txt] using h
 rw[Zg] at hc';obtain⟨d,hd,rfl⟩:=Zj.mp hc';exact⟨d,hd,rfl⟩
theorem q23 {d:Nat}(h:d<4):PySem.intText? ⟨#[48+d]⟩=some (d:Int):=by
 match d,h with
 |0,_|1,_|2,_|3,_=>decide +kernel
def four (c:Nat):Bool:=!(Builtin.Str.occurrences "0123" ⟨#[c]⟩ 0 ("0123" : Str).length 1).isEmpty
theorem xb0 {d:Nat}(h:d<4):four (48+d)=true:=by
 match d,h with
 |0,_|1,_|2,_|3,_=>decide +kernel
theorem qN1 {d:Nat}(h:d<4):((toString (d:Int):String):Str)=⟨#[48+d]⟩:=by
 match d,h with
 |0,_|1,_|2,_|3,_=>decide +kernel
def qd (r c k:Nat):Nat:=2*(r/2^k%2)+c/2^k%2
theorem xy4 (r c k:Nat):qd r c k<4:=by unfold qd;lia
theorem q24 (r k:Nat):Builtin.bitAnd ((r:Int)/2^((k:Nat):Int).toNat) 1=((r/2^k%2:Nat):Int):=by
 rw[PyProof.Rows.bitAnd_m1,ZB];have e:((2:Int)^k)=((2^k:Nat):Int):=by simp
 rw[e];lia
theorem qF4 (r c k:Nat):∀j,dgp r c k j=(List.range j).map λi=>qd r c (k+j-1-i)
 |0=>rfl
 |j+1=>by
  rw[WQ,Zy,Yv];show qd r c (k+j)::dgp r c k j=_;rw[qF4 r c k j];congr 1;refine Xh λi _=>?_;show qd r c (k+j-1-i)=qd r c (k+(j+1)-1-(i+1));congr 1;lia
theorem qu9 {ds:List Nat}{i d:Nat}(h:ds[i]?=some d):ds.take (i+1)=ds.take i++[d]:=by rw[List.take_succ,h];rfl
theorem qr8 {f:Nat->Nat}{n i d:Nat}{ds:List Nat}(h:ds[i]?=some d) (hl:ds.length<=n):cof f n (ds.take (i+1))=cof f n (ds.take i)+2^(n-i-1)*f d:=by
 have hi:=(gS_ h).1;have ht:(ds.take i).length=i:=by rw[XH];lia
 rw[qu9 h,q19 f n _ _ (by lia),ht];congr 1;obtain⟨k,hk⟩:∃k,n-i=k+1:=⟨n-i-1,by lia⟩;rw[hk];show 2^k*f d+cof f k []=_;have:cof f k []=0:=by cases k<;>rfl
 rw[this]
 rfl
theorem qN2 {n i:Nat}(h:i<n):((2^(n-i):Nat):Int)/2=((2^(n-i-1):Nat):Int):=by
 have e:2^(n-i)=2^(n-i-1)*2:=by
  rw[<- Yu];congr 1;lia
 rw[e];lia
theorem qo1 {n:Nat}(h:n<=12):2^n<=4096:=Wi (n:=2) (by decide) h
section
variable {P:Program}{w:World}{K:PySem.W.Frag}{mg:Str->Option Value}{base:Heap}
theorem xt1:FnScope ["n"] ["n"] (qa4 qZ5):=qc7
def q25:Sp:=λvs H Q _=>∃n:Nat,vs=[.int (n:Nat)]/\n<=12/\Q (.int ((2^n:Nat):Int)) H
theorem q26 {f:Addr}{fd:FuncData}(F:Fun K "side_of" "side_of" qZ5 f fd):FnOk P w K mg base CX0 1 f fd ["n"] q25:=by
 refine F.ok xt1 (λvs H Q E h=>?_) (λcdv A outer s H vs Q E hr h=>?_)
 ·obtain⟨n,rfl,_⟩:=h
  rfl
 ·obtain⟨n,rfl,h1,q⟩:=h;refine⟨_,qa8 (qa9 (qa6 qf2 qa1 (pv 0))),?_⟩;refine⟨_,rfl,_,_,rfl,rfl,⟨by lia,by lia,by decide⟩,?_⟩;show Q (V.int (1*2^((n:Nat):Int).toNat)) H;rw[VI,ZB];have e:((2:Int)^n)=((2^n:Nat):Int):=by simp
  rw[e];exact q
theorem scAddr:FnScope ["n", "thing"] ["n", "thing"] (qa4 qZ4):=qc7
def xg3:Sp:=λvs H Q _=>∃(n:Nat) (ds:List Nat),vs=[.int (n:Nat),.str (txt ds)]/\n<=12/\(∀d∈ds,d<4)/\ds.length<=n/\∀H',Same H H'->Q (.bl true) H'
theorem xl6 {f:Addr}{fd:FuncData}(F:Fun K "is_address" "is_address" qZ4 f fd) (B:Blt mg) (k5:mg "str" = none):FnOk P w K mg base CX0 2 f fd ["n", "thing"] xg3:=by
 refine F.ok scAddr (λvs H Q E h=>?_) (λcdv A outer s H vs Q E hr h=>?_)
 ·obtain⟨n,x,rfl,_⟩:=h
  rfl
 ·obtain⟨n,ds,rfl,hn,kD,hl,q⟩:=h;refine⟨_,qa8 (qa9 (qi2 (qa5 qg2 (by rfl) B.isi Z6 (qa0 (pv 1) (qa0 (qi6 (v:=.ty "str") (by rfl) k5 PyProof.Rows.boot_str rfl) qa2)))
   (qi2 (qd7 qs3 (qa5 qC5 (by rfl) B.len Yy (qa0 (pv 1) qa2)) (pv 0) (qb2 _))
   (qm5 (qa5 (qt6 rfl) (by rfl) B.all WV (qa0 (qg3 ["n", "thing"] (qa4 qZ4) rfl rfl rfl scAddr.nd (qY9 (pv 1)) (λcl C fp s₀ H₀=>qd7 qs4 (pv 0) qw6 (by first|exact qb2 _|rfl|decide))) qa2)))))),?_⟩
  have hcs:(txt ds).cps.size=ds.length:=qA2 ds;refine⟨_,rfl,_,_,_,_,true,rfl,rfl,.inl (.str _),rfl,_,rfl,iteT ?_⟩;refine⟨_,rfl,txt ds,rfl,by rw[qA1];exact XR (qd3 (by lia)),_,rfl,_,_,rfl,rfl,_,rfl,?_⟩;rw[qA1,Zu (by lia)];refine iteT ?_;refine⟨_,rfl,txt ds,rfl,λD hD=>⟨λi m xs H2=>i<=ds.length/\m=ds.length-i/\xs=(List.replicate i true).map V.bl/\H2=upd H D (.lst xs),⟨_,Zv _,rfl,rfl,rfl⟩,?_⟩⟩;rintro i m xs H2 ⟨hi,rfl,rfl,rfl⟩;refine⟨qa3,qd3 (by simp;lia),?_⟩;by_cases he:i=ds.length
  ·refine .inl ⟨by show (txt ds).cps.size<=i;lia,D,List.replicate i true,rfl,qa3,?_⟩;have e1:(List.replicate i true).all id=true:=by simp
   rw[e1];exact q _ λb o e=>by rw[qb9 (qa7 e hD)];exact e
  ·refine .inr ⟨show i<(txt ds).cps.size by lia,?_⟩;rintro y H3 ⟨rfl,c,hcc,rfl⟩;obtain⟨d,hd,rfl⟩:=q22 hcc;refine⟨_,rfl,_,_,rfl,rfl,qa3,ds.length-(i+1),by lia,by lia,rfl,?_,xi2⟩;have e4:(!(Builtin.Str.occurrences "0123" ⟨#[48+d]⟩ 0 ("0123" : Str).length 1).isEmpty)=true:=xb0 (kD d (Zr hd));rw[e4,List.replicate_succ',Z7]
   rfl
theorem xl7:FnScope ["n", "address"] ["n", "address"] (qa4 qM1):=qc7
def q27:Sp:=λvs H Q _=>∃(n:Nat) (ds:List Nat),vs=[.int (n:Nat),.str (txt ds)]/\n<=12/\(∀d∈ds,d<4)/\ds.length<=n/\∀H',Same H H'->Q .non H'
theorem xb1 {f fA:Addr}{fd fdA:FuncData}(F:Fun K "want_address" "want_address" qM1 f fd) (hA:mg "is_address" = some (.ref fA)) (FA:Fun K "is_address" "is_address" qZ4 fA fdA) (bA:Binds K fdA ["n", "thing"] []) (GA:FnOk P w K mg base CX0 2 fA fdA ["n", "thing"] xg3) :
  FnOk P w K mg base CX0 3 f fd ["n", "address"] q27:=by
 refine F.ok xl7 (λvs H Q E h=>?_) (λcdv A outer s H vs Q E hr h=>?_)
 ·obtain⟨n,x,rfl,_⟩:=h
  rfl
 ·obtain⟨n,ds,rfl,hn,kD,hl,q⟩:=h;refine⟨_,qa8 (qd9 (qg1 (qe6 (pcN GA hr hA FA.kp bA (qa0 (pv 0) (qa0 (pv 1) qa2))))) qf6 qb8),?_⟩;exact⟨_,rfl,_,rfl,n,ds,rfl,hn,kD,hl,λH' sm=>⟨_,rfl,iteF (q H' sm)⟩⟩
theorem scCell:FnScope ["n", "row", "column", "side"] ["n", "row", "column"] (qa4 q92):=qc7
def xg4:Sp:=λvs H Q _=>∃(n:Nat) (r c:Int),vs=[.int (n:Nat),.int r,.int c]/\n<=12/\Q (.bl (decide ((0<=r/\r<((2^n:Nat):Int))/\0<=c/\c<((2^n:Nat):Int)))) H
theorem xl8 {f fW fS:Addr}{fd fdW fdS:FuncData}(F:Fun K "is_cell" "is_cell" q92 f fd) (B:Blt mg) (hW:mg "is_whole" = some (.ref fW)) (FW:Fun K "is_whole" "is_whole" qx5 fW fdW) (bW:Binds K fdW ["thing"] [])
  (hS:mg "side_of" = some (.ref fS)) (FS:Fun K "side_of" "side_of" qZ5 fS fdS) (bS:Binds K fdS ["n"] []):FnOk P w K mg base CX0 2 f fd ["n", "row", "column"] xg4:=by
 have GW:FnOk P w K mg base CX0 1 fW fdW ["thing"] qz3:=qz4 FW B;have GS:FnOk P w K mg base CX0 1 fS fdS ["n"] q25:=q26 FS;refine F.ok scCell (λvs H Q E h=>?_) (λcdv A outer s H vs Q E hr h=>?_)
 ·obtain⟨n,x,y,rfl,_⟩:=h
  rfl
 ·obtain⟨n,r,c,rfl,hn,q⟩:=h;refine⟨_,qb5 (psN 3 scCell.nd (pcN GS hr hS FS.kp bS (qa0 (pv 0) qa2)))
   (qa8 (qa9 (qi2 (pcN GW hr hW FW.kp bW (qa0 (pv 1) qa2))
    (qi2 (pcN GW hr hW FW.kp bW (qa0 (pv 2) qa2))
    (qi2 (qq8 qs3 qj0 qa1 (pv 1) (pv 3)) (qm5 (qq8 qs3 qj0 qa1 (pv 2) (pv 3)))))))),?_⟩
  refine⟨_,rfl,n,rfl,hn,?_⟩;refine⟨_,rfl,r,rfl,_,rfl,iteT ?_⟩;refine⟨_,rfl,c,rfl,_,rfl,iteT ?_⟩;refine⟨_,rfl,_,_,rfl,rfl,_,rfl,?_⟩;generalize ((2^n:Nat):Int)=m at q ⊢;have q':Q (.bl ((decide (0<=r)&&decide (r<m))&&(decide (0<=c)&&decide (c<m)))) H:=by
   simpa only [Bool.decide_and] using q
  refine ite2 (λa1=>⟨_,rfl,_,_,rfl,rfl,_,rfl,?_⟩) (λa1=>⟨_,rfl,iteF ?_⟩)
  ·rw[a1,Bool.true_and] at q';refine ite2 (λa2=>⟨_,rfl,_,_,rfl,rfl,_,rfl,?_⟩) (λa2=>?_)
   ·rw[a2,Bool.true_and] at q';refine ite2 (λa3=>⟨_,rfl,_,_,rfl,rfl,?_⟩) (λa3=>?_)
    ·rw[a3,Bool.true_and] at q';exact q'
    ·rw[Yg.mpr a3,Wa] at q';exact q'
   ·rw[Yg.mpr a2,Wa] at q';exact q'
  ·rw[Yg.mpr a1,Wa,Wa] at q';exact q'
theorem scBoxAt:FnScope ["n", "address", "row", "column", "side", "figure"] ["n", "address"] (qa4 qM2):=qc7
abbrev rwo (n:Nat) (ds:List Nat):Nat:=cof (· / 2) n ds
abbrev clo (n:Nat) (ds:List Nat):Nat:=cof (·%2) n ds
def qA3:Sp:=λvs H Q _=>∃(n:Nat) (ds:List Nat),vs=[.int (n:Nat),.str (txt ds)]/\n<=12/\(∀d∈ds,d<4)/\ds.length<=n /\
 ∀p,H p=none->Q (.ref p) (upd H p (.tup (vN [rwo n ds,clo n ds,2^(n-ds.length)])))
theorem xb2 {f fS:Addr}{fd fdS:FuncData}(F:Fun K "box_at" "box_at" qM2 f fd) (B:Blt mg)
  (hS:mg "side_of" = some (.ref fS)) (FS:Fun K "side_of" "side_of" qZ5 fS fdS) (bS:Binds K fdS ["n"] []):FnOk P w K mg base CX0 2 f fd ["n", "address"] qA3:=by
 have GS:FnOk P w K mg base CX0 1 fS fdS ["n"] q25:=q26 FS;refine F.ok scBoxAt (λvs H Q E h=>?_) (λcdv A outer s H vs Q E hr h=>?_)
 ·obtain⟨m,ds,rfl,_⟩:=h
  rfl
 ·obtain⟨n,ds,rfl,hn,kD,hl,q⟩:=h;refine⟨_,(qb5 (xk4 qa1 (pgN 2 scBoxAt.nd) (pgN 3 scBoxAt.nd))
   (qb5 (psN 4 scBoxAt.nd (pcN GS hr hS FS.kp bS (qa0 (pv 0) qa2)))
   (qb5 (ql1 YK rfl (qY9 (pv 1)) (pgN 5 scBoxAt.nd)
    (qb5 (psN 4 scBoxAt.nd (qa6 qi9 (pv 4) qa1))
    (qb5 (xe5 (i:=2) scBoxAt.nd rfl (Or.inl rfl) (qa6 qf7 (pv 4) (qa6 qi9 (qc6 qD9 (by rfl) B.int YZ (qa0 (pv 5) qa2)) qa1)) qT4)
    (qa8 (xe5 (i:=3) scBoxAt.nd rfl (Or.inl rfl) (qa6 qf7 (pv 4) (qa6 qT3 (qc6 qD9 (by rfl) B.int YZ (qa0 (pv 5) qa2)) qa1)) qT4)))))
   (qa8 (qa9 (qd8 (qa0 (pv 2) (qa0 (pv 3) (qa0 (pv 4) qa2)))))))) ),?_⟩
  refine⟨_,rfl,n,rfl,hn,?_⟩;have c0:∀g:Nat->Nat,cof g n []=0:=λg=>by cases n<;>rfl
  refine⟨_,rfl,txt ds,rfl,q21 (λi σ H2=>H2=H/\∃v,σ=[some (.int (n:Nat)),some (.str (txt ds)),some (.int ((rwo n (ds.take i):Nat):Int)),some (.int ((clo n (ds.take i):Nat):Int)),some (.int ((2^(n-i):Nat):Int)),v]) ⟨rfl,none,by
   rw[Vs];show _=[some (V.int (n:Nat)),some (.str (txt ds)),some (.int ((cof (· / 2) n []:Nat):Int)),some (.int ((cof (·%2) n []:Nat):Int)),some (.int ((2^(n-0):Nat):Int)),none];rw[c0,c0]
   rfl⟩ ?_ ?_⟩
  ·rintro i c σ H2 hc ⟨rfl,v,rfl⟩;obtain⟨d,hd,rfl⟩:=q22 hc;have hi:=(gS_ hd).1;have jV:d<4:=kD d (Zr hd);have h1:rwo n (ds.take (i+1))=rwo n (ds.take i)+2^(n-i-1)*(d/2):=qr8 hd hl;have h2:clo n (ds.take (i+1))=clo n (ds.take i)+2^(n-i-1)*(d%2):=qr8 hd hl;have h3:=qN2 (n:=n) (i:=i) (by lia);have h4:2^(n-i-1)<=4096:=qo1 (by lia);have hb4:-(2^64)<((2^(n-i):Nat):Int)/2/\((2^(n-i):Nat):Int)/2<2^64:=by
    rw[h3];generalize 2^(n-i-1)=x at h4;lia
   refine⟨_,rfl,_,_,rfl,rfl,⟨by decide,by decide⟩,?_⟩;refine⟨_,rfl,_,rfl,_,rfl,_,d,rfl,q23 jV,(by show 1<=640;decide),_,_,rfl,rfl,⟨by decide,by decide⟩,_,_,rfl,rfl,.inl hb4,_,_,rfl,rfl,?_⟩;refine⟨_,rfl,_,rfl,_,rfl,_,d,rfl,q23 jV,(by show 1<=640;decide),_,_,rfl,rfl,_,_,rfl,rfl,.inl hb4,_,_,rfl,rfl,?_⟩;refine⟨rfl,some (.str ⟨#[48+d]⟩),?_⟩;rw[h1,h2];have e1:((rwo n (ds.take i):Nat):Int)+((2^(n-i-1):Nat):Int)*((d:Int)/2)=((rwo n (ds.take i)+2^(n-i-1)*(d/2):Nat):Int):=by
    rw[Xf,XZ,VS]
    rfl
   have e2:((clo n (ds.take i):Nat):Int)+((2^(n-i-1):Nat):Int)*Builtin.bitAnd (d:Int) 1=((clo n (ds.take i)+2^(n-i-1)*(d%2):Nat):Int):=by
    rw[PyProof.Rows.bitAnd_m1,Xf,XZ,VT]
    rfl
   rw[<- e1,<- e2,show n-(i+1)=n-i-1 from by lia,<- h3]
   rfl
  ·rintro σ H2 ⟨rfl,v,rfl⟩;refine⟨_,rfl,_,rfl,_,rfl,(by show 3<=sizeLine;decide),λp vD=>?_⟩;have e:ds.take (txt ds).cps.size=ds:=Yq (by simp[txt]);rw[e,qA2];exact q p vD
end
end Pr
namespace L2
open PySem PySem.Spec PyProof.Rows
section
variable {X:Cx}{elts:List Expr}{x1:Nat}{tpos:Pos}
end
end L2
namespace Pr
open PySem L2 Qf
end Pr
namespace Sp
open PySem PySem.StrLaws Builtin Builtin.Str
end Sp
namespace Pr
open PySem L2 Qf Sp
theorem q28 (a b:List Nat):txt a++txt b=txt (a++b):=by
 show (⟨(txt a).cps++(txt b).cps⟩:Str)=_;simp[txt]
theorem xl9 {a b:List Nat}(h:txt a=txt b):a=b:=by
 have h2:(txt a).cps.toList=(txt b).cps.toList:=by rw[h]
 simp only[txt] at h2;have:∀(l m:List Nat),l.map (48+·)=m.map (48+·)->l=m:=λl=>by
  induction l with
  |nil=>intro m e;cases m with
   |nil=>rfl
   |cons _ _=>simp at e
  |cons x l ih=>intro m e;cases m with
   |nil=>simp at e
   |cons y m=>
    simp only[Zy,YV] at e;rw[ih m e.2,show x=y by lia]
 exact this a b h2
theorem xb3 {t:Tr}{ds:List Nat}{i d:Nat}{a b c e:Tr}(hd:ds[i]?=some d) (h:(wdn t (ds.take i)).2=ds.take i) (hp:(wdn t (ds.take i)).1=.nd a b c e):(wdn t (ds.take (i+1))).1=qr d (.nd a b c e)/\(wdn t (ds.take (i+1))).2=ds.take (i+1):=by
 rw[qu9 hd];rcases qA0 t (ds.take i) [d] with ⟨_,h2⟩|⟨z,_⟩
 ·rw[h2,hp];show (wdn (qr d (.nd a b c e)) []).1=_/\_++d::(wdn (qr d (.nd a b c e)) []).2=_;rw[qz9];exact⟨rfl,rfl⟩
 ·rw[hp] at z;rcases z with z|z<;>cases z
def vT (L:List (List Nat)):List V:=L.map λe=>V.str (txt e)
end Pr
namespace L2
open PySem
section
variable {X:Cx}
theorem qJ4 (ns:List Int):∀n,n<=ns.length->preSum (λi=>ns.getD i 0) n=(ns.take n).sum:=by
 intro n
 induction n with
 |zero=>intro _;simp[preSum]
 |succ n ih=>
  intro h;have hn:n<ns.length:=h;rw[preSum,ih (XR hn),WR hn,List.sum_append];simp[List.getD,hn]
theorem qF5 (hc:X.calm=true):qe3 X (.builtin "sum") (λxs H Q=>∃(p:Addr) (ns:List Int),xs=[.ref p]/\H p=some (.lst (ns.map V.int))/\Q (.int ns.sum) H):=by
 intro j8 s σ H xs us Q I r h;obtain⟨p,ns,rfl,hp,q⟩:=h;obtain⟨u,rfl,rx⟩:=qf0 r;cases rx;obtain⟨z,its,n,rv,hl⟩:=I.hok p _ hp;have isl:s.heap.IsList p its.toArray:=⟨_,hl,rfl,_,rfl⟩;have j9:its.length=ns.length:=by have:=rv.length;simpa using this.symm
 have np:p≠s.heap.objs.size:=Zp (Zi hl);refine call_sum_walkAnyB (Y8 isl ?_);refine⟨s.heap.objs.size,_,_,_,_,_,_,λi=>ns.getD i 0,rfl,(Vr (A:=X.A.in1) (I.ok.hd hc) s.heap.objs.size p np its.toArray).toS,⟨⟨_,Zf _ rfl,rfl,rfl⟩,isl.at λo e=>Zc _ e⟩,?_,?_,?_⟩
 ·intro b hb;rw[ZV];rcases Zt.mp hb with rfl|hb
  ·exact Yi _
  ·have:b=p:=by simpa using hb
   subst this;exact ZR (Zi hl)
 ·intro i v hv;have hv':its[i]?=some v:=by simpa using hv
  have hi:i<ns.length:=by rw[<- j9];exact (gS_ hv').1
  obtain⟨w',e1,t,e2⟩:=rv.get (x:=V.int (ns[i])) (i:=i) (by simp[hi]);rw[hv'] at e1;cases e1;exact .inl ⟨t,by rw[e2];simp[List.getD,hi]⟩
 ·intro s' t' mv;have es:its.toArray.size=ns.length:=by simpa using j9
  refine⟨.int ns.sum,H,qj2 I mv λb o e hb=>?_,⟨t',?_⟩,q⟩
  ·have:b=s.heap.objs.size:=by simpa using hb
   exact Yc _ (by rw[this] at e;exact Zi e)
  ·rw[es,qJ4 ns _ (Ze _),Wp]
end
end L2
namespace Qf
open Tr
def nlf:Tr->Nat
 |.nd a b c d=>nlf a+nlf b+nlf c+nlf d
 |_=>1
def cntL (rows:List Row) (i:Nat):List Nat:=1::1::(List.range i).map λp=>nlf (T rows (p+2))
theorem xb4 (rows:List Row) (i:Nat):(cntL rows i).length=i+2:=by simp[cntL]
theorem q29 {rows:List Row}{i x:Nat}(h:x<i+2):(cntL rows i)[x]?=some (nlf (T rows x)):=by
 match x,h with
 |0,_=>rw[qg5];rfl
 |1,_=>rw[qp3];rfl
 |x+2,h=>
  show ((List.range i).map λp=>nlf (T rows (p+2)))[x]?=_;rw[Zg,XE (by lia)]
  rfl
theorem q30 {rows:List Row}(ok:qd4 rows){i:Nat}{r:Row}(h:rows[i]?=some r):cntL rows (i+1)=cntL rows i++[(r.map λx=>nlf (T rows x)).sum]:=by
 obtain⟨a,b,c,d,rfl⟩:=qp2 (ok i r h).1;unfold cntL;rw[Xe,Z7];show 1::1::(_++[nlf (T rows (i+2))])=_;rw[qn8 ok h];show 1::1::(_++[nlf (T rows a)+nlf (T rows b)+nlf (T rows c)+nlf (T rows d)])=_;have:([a,b,c,d].map λx=>nlf (T rows x)).sum=nlf (T rows a)+nlf (T rows b)+nlf (T rows c)+nlf (T rows d):=by simp;lia
 rw[this]
 rfl
theorem xm0 (l:List Nat):(l.map λn:Nat=>(n:Int)).sum=((l.sum:Nat):Int):=by
 induction l with
 |nil=>rfl
 |cons a l ih=>rw[Zy,X4,X4,ih];lia
end Qf
namespace Pr
open PySem L2 Qf
section
variable {P:Program}{w:World}{K:PySem.W.Frag}{mg:Str->Option Value}{base:Heap}
abbrev nCo:List Str:=["top", "rows", "counts", "row"]
theorem scCo:FnScope nCo ["top", "rows"] (qa4 qt9):=qc7
def spCo:Sp:=λvs H Q _=>∃(p:Addr) (x:Nat) (rows:List Row),vs=[.int (x:Nat),.ref p]/\RowsAt H p rows/\qd4 rows/\rows.length<=900/\x<rows.length+2/\∀H',Same H H'->Q (.int (nlf (T rows x):Nat)) H'
theorem xy5 {f:Addr}{fd:FuncData}(F:Fun K "count_leaves" "count_leaves" qt9 f fd) (hsm:mg "sum" = none):FnOk P w K mg base CX0 1 f fd ["top", "rows"] spCo:=by
 refine F.ok scCo (λvs H Q E h=>?_) (λcdv A outer s H vs Q E hr h=>?_)
 ·obtain⟨p,x,rows,rfl,_⟩:=h
  rfl
 ·obtain⟨p,x,rows,rfl,hR,ok,hn,hx,q⟩:=h;refine⟨_,qb5 (psN 2 scCo.nd (qi4 (qa0 qa1 (qa0 qa1 qa2))))
   (qb5 (ql1 YK rfl (qw8 (pv 1)) (pgN 3 scCo.nd)
    (qa8 (qe1 (q81 XN Xx Xy qh1 (pv 2) (qa0 (qa5 (qF5 rfl) (by rfl) hsm PyProof.Rows.boot_sum
     (qa0 (qg3 nCo (qa4 qt9) rfl rfl rfl scCo.nd (qw8 (pv 3)) (λcl C fp s₀ H₀=>pxN (ixL K rfl) (pv 3) (pv 0))) qa2)) qa2)))))
   (qa8 (qa9 (pxN (ixL K rfl) (pv 2) (pv 0))))),?_⟩
  refine⟨(by show 2<=sizeLine;decide),λD hD=>?_⟩;obtain⟨bs,hp,j9,jE⟩:=id hR;have jY:=qd5 (u:=.lst [.int 1,.int 1]) hp hD;have jT:(bs.map V.ref).length=rows.length:=by rw[Zh];exact j9
  refine⟨_,rfl,p,rfl,⟨_,SqT.of jY⟩,qI1 (K:=K) (a:=p) (xs:=bs.map V.ref) (λi σ H2=>Same H H2/\H2 D=some (.lst (vN (cntL rows i)))/\∃v2,σ=[some (.int (x:Nat)),some (.ref p),some (.ref D),v2])
   ⟨qb4 hD,qa3,none,rfl⟩ (λi σ H2 _ ⟨s2,_⟩=>SqT.of (s2 _ _ hp)) ?_ ?_⟩
  ·rintro i y σ H2 hy ⟨s2,kK,v2,rfl⟩;have hi:i<rows.length:=by rw[<- jT];exact (gS_ hy).1
   rw[Zg] at hy;obtain⟨b,hb,rfl⟩:=Zj.mp hy;have jJ:rows[i]?=some rows[i]:=by simp[hi]
   have kG:=s2 _ _ (jE i b rows[i] hb jJ);have rk:=ok i _ jJ;generalize rows[i]=r at jJ kG rk;refine⟨_,rfl,.inl ⟨rfl,_,SqL.of kK⟩,_,rfl,b,rfl,⟨_,SqT.of kG⟩,λD2 kY=>qh3 kY (λj z _=>∃x,r[j]?=some x/\z=.int (nlf (T rows x):Nat)) (qr4 (K:=K) kG) (by rw[ql3,rk.1];decide) (λ_ _ _ _ _ _ h=>h) ?_ ?_⟩
   ·intro j x H3 hj hx s3 Q' hq;obtain⟨m,hm,rfl⟩:=qE7 hx;have jA:=rk.2 m (Zr hm);exact⟨_,rfl,_,rfl,D,_,(m:Int),.int (nlf (T rows m):Nat),rfl,rfl,SqL.of (s3 _ _ kK),qE8 (q29 jA),hq _ _ (Same.refl _) ⟨m,hm,rfl⟩⟩
   ·intro ys H3 s3 wA kS vJ;have ey:ys=(r.map λx=>nlf (T rows x)).map (λn:Nat=>V.int (n:Int)):=by
     refine qk3 (by rw[kS,ql3,Zh,Zh]) λj x hx=>?_;obtain⟨m,hm,rfl⟩:=vJ j x hx;rw[Zg,Zg,hm];rfl
    have e2:ys=((r.map λx=>nlf (T rows x)).map (λn:Nat=>(n:Int))).map V.int:=ey.trans (qq3 _);refine⟨D2,(r.map λx=>nlf (T rows x)).map (λn:Nat=>(n:Int)),rfl,e2▸wA,?_⟩;rw[xm0];have jV:=s3 _ _ kK;refine⟨D,_,_,rfl,rfl,jV,?_,?_⟩
    ·rw[ql3,xb4];exact qd3 (by lia)
    ·have nD:∀b o,H b=some o->b≠D:=λb o e=>qa7 e hD;refine⟨λb o e=>by rw[qb9 (nD b o e)];exact s3 _ _ (s2 _ _ e),?_,_,rfl⟩;rw[qa3,q30 ok jJ];unfold vN;rw[Z7]
     rfl
  ·rintro σ H2 ⟨s2,kK,v2,rfl⟩;rw[jT] at kK;exact⟨_,rfl,_,rfl,D,_,(x:Int),.int (nlf (T rows x):Nat),rfl,rfl,SqL.of kK,qE8 (q29 hx),q H2 s2⟩
theorem scWL:FnScope ["shape", "most"] ["shape", "most"] (qa4 qM4):=qc7
def spWL:Sp:=λvs H Q _=>∃(t:Addr) (n tp m:Nat) (rows:List Row),vs=[.ref t,.int (m:Nat)]/\qe2 H t n tp rows/\nlf (T rows tp)<=m/\∀H',Same H H'->Q .non H'
theorem xy6 {f fC:Addr}{fd fdC:FuncData}(F:Fun K "want_leaves" "want_leaves" qM4 f fd) (hC:mg "count_leaves" = some (.ref fC)) (FC:Fun K "count_leaves" "count_leaves" qt9 fC fdC) (bC:Binds K fdC ["top", "rows"] []) (GC:FnOk P w K mg base CX0 1 fC fdC ["top", "rows"] spCo) :
  FnOk P w K mg base CX0 2 f fd ["shape", "most"] spWL:=by
 refine F.ok scWL (λvs H Q E h=>?_) (λcdv A outer s H vs Q E hr h=>?_)
 ·obtain⟨t,n,tp,m,rows,rfl,_⟩:=h
  rfl
 ·obtain⟨t,n,tp,m,rows,rfl,hS,hm,q⟩:=h;obtain⟨⟨p,ht,hR⟩,cn,hl⟩:=id hS;refine qf9 ⟨_,⟨qd9 (qb7 q77 (PEb.go ⟨pcN GC hr hC FC.kp bC (Ars2.go (.cons ⟨pxN qb0 (pv 0) qa1⟩ (.cons ⟨pxN qb0 (pv 0) qa1⟩ .nil rfl) rfl))⟩) (pv 1) (qb2 _)) qf6 qb8⟩,?_⟩;refine⟨_,rfl,t,_,1,.int (tp:Nat),rfl,rfl,SqT.of ht,rfl,_,rfl,t,_,2,.ref p,rfl,rfl,SqT.of ht,rfl,p,tp,rows,rfl,hR,cn.rok,hl,cn.inn,λH1 s1=>?_⟩;refine⟨_,rfl,_,_,rfl,rfl,_,rfl,?_⟩;rw[Zn (show ¬((m:Int)<(nlf (T rows tp):Nat)) by lia)];exact iteF (q H1 s1)
theorem scCs:FnScope ["shape"] ["shape"] (qa4 qz0):=qc7
def spCs:Sp:=λvs H Q _=>∃(t:Addr) (n tp:Nat) (rows:List Row),vs=[.ref t]/\qe2 H t n tp rows/\nlf (T rows tp)<=2000/\∀H',Same H H'->Q .non H'
theorem xy7 {f fC:Addr}{fd fdC:FuncData}(F:Fun K "want_coarse" "want_coarse" qz0 f fd) (hmo:∃t,mg "MOST_LEAVES" = some (.int 2000 t)) (hC:mg "want_leaves" = some (.ref fC)) (FC:Fun K "want_leaves" "want_leaves" qM4 fC fdC) (bC:Binds K fdC ["shape", "most"] []) (GC:FnOk P w K mg base CX0 2 fC fdC ["shape", "most"] spWL) :
  FnOk P w K mg base CX0 3 f fd ["shape"] spCs:=by
 obtain⟨tm,hmo⟩:=hmo;refine F.ok scCs (λvs H Q E h=>?_) (λcdv A outer s H vs Q E hr h=>?_)
 ·obtain⟨t,n,tp,rows,rfl,_⟩:=h
  rfl
 ·obtain⟨t,n,tp,rows,rfl,hS,hm,q⟩:=h;refine⟨_,qa8 (qe1 (pcN GC hr hC FC.kp bC (qa0 (pv 0) (qa0 (qe0 (v:=.int 2000) (by rfl) hmo ⟨_,rfl⟩) qa2)))),?_⟩;exact⟨_,rfl,t,n,tp,2000,rows,rfl,hS,hm,q⟩
end
end Pr
namespace Qf
open Tr
def lvT:Tr->List (List Nat×Bool)
 |.z=>[([],false)]
 |.o=>[([],true)]
 |.nd a b c d=>(lvT a).map (λe=>(0::e.1,e.2))++(lvT b).map (λe=>(1::e.1,e.2))++(lvT c).map (λe=>(2::e.1,e.2))++(lvT d).map (λe=>(3::e.1,e.2))
def preL (ad:List Nat) (L:List (List Nat×Bool)):List (List Nat×Bool):=L.map λe=>(ad++e.1,e.2)
theorem qj7:∀t:Tr,(lvT t).length=nlf t
 |.z=>rfl
 |.o=>rfl
 |.nd a b c d=>by
  show (_++_++_++_:List _).length=nlf a+nlf b+nlf c+nlf d;simp only[Zz,Zh];rw[qj7 a,qj7 b,qj7 c,qj7 d]
theorem xm1 (ad:List Nat) (a b c d:Tr):preL ad (lvT (.nd a b c d))=preL (ad++[0]) (lvT a)++preL (ad++[1]) (lvT b)++preL (ad++[2]) (lvT c)++preL (ad++[3]) (lvT d):=by
 show List.map _ (_++_++_++_)=_;unfold preL;simp only[Z7,Yv,Function.comp_def,Yo,List.singleton_append]
theorem xb5 (ad:List Nat) (L:List (List Nat×Bool)):(preL ad L).length=L.length:=by unfold preL;rw[Zh]
theorem q31 {f:Nat->Nat}(hf:∀d,d<4->f d<=1):∀(ds:List Nat) (n:Nat),(∀d∈ds,d<4)->ds.length<=n->∃q,cof f n ds=2^(n-ds.length)*q/\q<2^ds.length
 |[],n,_,_=>⟨0,by cases n<;>rfl,by simp⟩
 |d::ds,0,_,h=>by simp at h
 |d::ds,n+1,hd,h=>by
  have h':ds.length<=n:=by simpa using h
  obtain⟨q,e,hq⟩:=q31 hf ds n (λx hx=>hd x (Zl _ hx)) h';refine⟨2^ds.length*f d+q,?_,?_⟩
  ·show 2^n*f d+cof f n ds=2^(n+1-(ds.length+1))*_;rw[e,WX,Wb,<- Y3,<- W6,Nat.sub_add_cancel h']
  ·have:=hf d (hd d (by simp));show _<2^(ds.length+1);rw[Yu];have h2:2^ds.length*f d<=2^ds.length*1:=Nat.mul_le_mul_left _ this;lia
theorem qy1 {f:Nat->Nat}(hf:∀d,d<4->f d<=1){ds:List Nat}{n:Nat}(hd:∀d∈ds,d<4) (h:ds.length<=n):cof f n ds+2^(n-ds.length)<=2^n:=by
 obtain⟨q,e,hq⟩:=q31 hf ds n hd h;have e2:2^n=2^(n-ds.length)*2^ds.length:=by rw[<- W6,Nat.sub_add_cancel h]
 rw[e,e2,<- Nat.mul_succ];exact Nat.mul_le_mul_left _ hq
theorem qJ5:∀d,d<4->d/2<=1:=λd h=>by lia
theorem q32:∀d,d<4->d%2<=1:=λd h=>by lia
end Qf
namespace Qf
open Tr L2
def plT (b:Bool):Tr:=if b then .o else .z
theorem lvT_nd {a b c d:Tr}{e:List Nat×Bool}:e∈lvT (.nd a b c d)<->∃x l,x<4/\e.1=x::l/\(l,e.2)∈lvT (qr x (.nd a b c d)):=by
 have key:∀(x:Nat) (t:Tr),e∈(lvT t).map (λe=>(x::e.1,e.2))<->∃l,e.1=x::l/\(l,e.2)∈lvT t:=λx t=>by
  rw[Ym];constructor
  ·rintro⟨f,hf,rfl⟩;exact⟨f.1,rfl,hf⟩
  ·rintro⟨l,h1,h2⟩;exact⟨_,h2,Prod.ext h1.symm rfl⟩
 show e∈_++_++_++_<->_;simp only[Z5,key];constructor
 ·rintro (((⟨l,h⟩|⟨l,h⟩)|⟨l,h⟩)|⟨l,h⟩)
  ·exact⟨0,l,by decide,h⟩
  ·exact⟨1,l,by decide,h⟩
  ·exact⟨2,l,by decide,h⟩
  ·exact⟨3,l,by decide,h⟩
 ·rintro⟨x,l,hx,h⟩
  match x,hx with
  |0,_=>exact .inl (.inl (.inl ⟨l,h⟩))
  |1,_=>exact .inl (.inl (.inr ⟨l,h⟩))
  |2,_=>exact .inl (.inr ⟨l,h⟩)
  |3,_=>exact .inr ⟨l,h⟩
theorem qq5 {x m:Nat}{a b c d:Tr}(hx:x<4) (h:dep (.nd a b c d)<=m+1):dep (qr x (.nd a b c d))<=m:=xg1 hx _ h
theorem qv0:∀(m:Nat) (t:Tr) (e:List Nat×Bool),dep t<=m->e∈lvT t->(∀d∈e.1,d<4)/\e.1.length<=m
 |m,.z,e,_,h=>by
  have:e=([],false):=by simpa [lvT] using h
  subst this;exact⟨λd h=>(nomatch h),Zv _⟩
 |m,.o,e,_,h=>by
  have:e=([],true):=by simpa [lvT] using h
  subst this;exact⟨λd h=>(nomatch h),Zv _⟩
 |0,.nd a b c d,e,hd,h=>by rcases dep0 hd with z|z<;>cases z
 |m+1,.nd a b c d,e,hd,h=>by
  obtain⟨x,l,hx,h1,h2⟩:=lvT_nd.mp h;obtain⟨i1,i2⟩:=qv0 m _ _ (qq5 hx hd) h2;rw[h1];refine⟨λq hq=>?_,by rw[ZW];exact Nat.succ_le_succ i2⟩;rcases Zt.mp hq with rfl|z
  ·exact hx
  ·exact i1 q z
def inB (n:Nat) (ad:List Nat) (r c:Nat):Prop:=cof (· / 2) n ad<=r/\r<cof (· / 2) n ad+2^(n-ad.length)/\cof (·%2) n ad<=c/\c<cof (·%2) n ad+2^(n-ad.length)
theorem qA4 (f:Nat->Nat) (n:Nat):cof f n []=0:=by cases n<;>rfl
theorem qF6 (r m:Nat):r%2^(m+1)=2^m*(r/2^m%2)+r%2^m:=by
 rw[Yu,Nat.mod_mul,Nat.add_comm]
theorem q33:∀(n:Nat) (t:Tr) (r c:Nat),dep t<=n->(∃ad b,(ad,b)∈lvT t/\wdn t (dgp r c 0 n)=(plT b,ad))/\∀ad b,(ad,b)∈lvT t->(wdn t (dgp r c 0 n)=(plT b,ad)<->inB n ad (r%2^n) (c%2^n)):=by
 have plain:∀(b0:Bool) (t:Tr),t=plT b0->lvT t=[([],b0)]->∀n r c,(∃ad b,(ad,b)∈lvT t/\wdn t (dgp r c 0 n)=(plT b,ad))/\∀ad b,(ad,b)∈lvT t->(wdn t (dgp r c 0 n)=(plT b,ad)<->inB n ad (r%2^n) (c%2^n)):=λb0 t ht hl n r c=>by
  have e:wdn t (dgp r c 0 n)=(plT b0,[]):=by
   rw[qF3 (by rw[ht];cases b0;exact .inl rfl;exact .inr rfl),ht]
  refine⟨⟨[],b0,by rw[hl];simp,e⟩,λad b h=>?_⟩;rw[hl] at h;have h':ad=[]/\b=b0:=by simpa using h
  obtain⟨rfl,rfl⟩:=h';refine⟨λ_=>?_,λ_=>e⟩;unfold inB;rw[qA4,qA4];have:=XU r (YW (n:=n) (show 0<2 by decide));have:=XU c (YW (n:=n) (show 0<2 by decide));simp;lia
 intro n
 induction n with
 |zero=>
  intro t r c hd;rcases dep0 hd with rfl|rfl
  ·exact plain false _ rfl rfl _ _ _
  ·exact plain true _ rfl rfl _ _ _
 |succ m ih=>
  intro t r c hd;cases t with
  |z=>exact plain false _ rfl rfl _ _ _
  |o=>exact plain true _ rfl rfl _ _ _
  |nd p q s u=>
   have ed:dgp r c 0 (m+1)=(2*(r/2^m%2)+c/2^m%2)::dgp r c 0 m:=by
    show (2*(r/2^(0+m)%2)+c/2^(0+m)%2)::dgp r c 0 m=_;rw[Vi]
   have ew:wdn (.nd p q s u) (dgp r c 0 (m+1))=((wdn (qr (2*(r/2^m%2)+c/2^m%2) (.nd p q s u)) (dgp r c 0 m)).1,(2*(r/2^m%2)+c/2^m%2)::(wdn (qr (2*(r/2^m%2)+c/2^m%2) (.nd p q s u)) (dgp r c 0 m)).2):=by rw[ed];rfl
   rw[ew];have wP:2*(r/2^m%2)+c/2^m%2<4:=by lia
   constructor
   ·obtain⟨⟨ad,b,h1,h2⟩,_⟩:=ih _ r c (qq5 wP hd);refine⟨_::ad,b,lvT_nd.mpr ⟨_,ad,wP,rfl,h1⟩,?_⟩;rw[h2]
   ·intro ad b h;obtain⟨x,l,hx,rfl,h2⟩:=lvT_nd.mp h;obtain⟨_,hi⟩:=ih (qr x (.nd p q s u)) r c (qq5 hx hd);have hil:=hi l b h2;obtain⟨a1,a2⟩:=qv0 m _ _ (qq5 hx hd) h2;have c1:=qy1 qJ5 a1 a2;have c2:=qy1 q32 a1 a2;have lr:=XU r (YW (n:=m) (show 0<2 by decide));have lc:=XU c (YW (n:=m) (show 0<2 by decide));have hir:inB (m+1) (x::l) (r%2^(m+1)) (c%2^(m+1))<->(r/2^m%2=x/2/\c/2^m%2=x%2)/\inB m l (r%2^m) (c%2^m):=by
     unfold inB;rw[qF6 r m,qF6 c m,show m+1-(x::l).length=m-l.length by simp];show (2^m*(x/2)+cof (· / 2) m l<=_/\_<2^m*(x/2)+cof (· / 2) m l+_/\2^m*(x%2)+cof (·%2) m l<=_/\_<2^m*(x%2)+cof (·%2) m l+_)<->_;generalize cof (· / 2) m l=A at *;generalize cof (·%2) m l=B at *;generalize 2^(m-l.length)=S at *;generalize r%2^m=R at *;generalize c%2^m=C at *;have k8:r/2^m%2=0\/r/2^m%2=1:=by lia
     have hc2:c/2^m%2=0\/c/2^m%2=1:=by lia
     generalize r/2^m%2=ρ at *;generalize c/2^m%2=γ at *;generalize 2^m=M at *;have hx2:x/2=0\/x/2=1:=by lia
     have hx3:x%2=0\/x%2=1:=by lia
     generalize x/2=X2 at *;generalize x%2=X3 at *;rcases k8 with rfl|rfl<;>rcases hc2 with rfl|rfl<;>rcases hx2 with rfl|rfl<;>rcases hx3 with rfl|rfl<;>simp only[Nat.mul_zero,Nat.mul_one,Vi,true_and,V7,false_and,and_false,iff_false,reduceCtorEq,Nat.one_ne_zero,Nat.zero_ne_one,eq_self]<;>lia
    rw[hir,<- hil];constructor
    ·intro e;have e1:=Yk Prod.fst e;have e2:=Yk Prod.snd e;obtain⟨e3,e4⟩:=List.cons.inj e2;have e3:2*(r/2^m%2)+c/2^m%2=x:=e3;rw[e3] at e1 e4;exact⟨by lia,Prod.ext e1 e4⟩
    ·rintro⟨e1,e2⟩;have e3:2*(r/2^m%2)+c/2^m%2=x:=by lia
     rw[e3,e2]
def lfAd (t:Tr) (n r c:Nat):List Nat:=(wdn t (dgp r c 0 n)).2
theorem q34 {n:Nat}{t:Tr}{r c:Nat}{ad:List Nat}{b:Bool}(hd:dep t<=n) (hr:r<2^n) (hc:c<2^n) (h:(ad,b)∈lvT t) (hi:inB n ad r c):lfAd t n r c=ad/\(wdn t (dgp r c 0 n)).1=plT b:=by
 have:=((q33 n t r c hd).2 ad b h).mpr (by rw[W1 hr,W1 hc];exact hi);unfold lfAd;rw[this];exact⟨rfl,rfl⟩
theorem qv1:∀t:Tr,((lvT t).map (·.1)).Pairwise (·<·)
 |.z=>WH _ _
 |.o=>WH _ _
 |.nd a b c d=>by
  have one:∀(x:Nat) (t:Tr),((lvT t).map (·.1)).Pairwise (·<·)->(((lvT t).map (λe=>(x::e.1,e.2))).map (·.1)).Pairwise (·<·):=λx t h=>by
   rw[Yv,VJ] at *;exact h.imp λ{u v} z=>by
    show x::u.1<x::v.1;rw[ZU];exact .inr ⟨rfl,z⟩
  have two:∀{x y:Nat}{s t:Tr}{u v:List Nat},x<y->u∈((lvT s).map (λe=>(x::e.1,e.2))).map (·.1)->v∈((lvT t).map (λe=>(y::e.1,e.2))).map (·.1)->u<v:=λ{x y s t u v} h hu hv=>by
   rw[Yv] at hu hv;obtain⟨e,_,rfl⟩:=Ym.mp hu;obtain⟨f,_,rfl⟩:=Ym.mp hv;show x::e.1<y::f.1;rw[ZU];exact .inl h
  show ((_++_++_++_:List _).map _).Pairwise _;rw[Z7,Z7,Z7];refine YO.mpr ⟨YO.mpr ⟨YO.mpr ⟨one 0 a (qv1 a),one 1 b (qv1 b),λu hu v hv=>two (by decide) hu hv⟩,one 2 c (qv1 c),λu hu v hv=>?_⟩,one 3 d (qv1 d),λu hu v hv=>?_⟩
  ·rcases Z5.mp hu with hu|hu
   ·exact two (by decide) hu hv
   ·exact two (by decide) hu hv
  ·rcases Z5.mp hu with hu|hu
   ·rcases Z5.mp hu with hu|hu
    ·exact two (by decide) hu hv
    ·exact two (by decide) hu hv
   ·exact two (by decide) hu hv
theorem xg5:∀{l m:List (List Nat)},l.Pairwise (·<·)->m.Pairwise (·<·)->(∀x,x∈l<->x∈m)->l=m
 |[],[],_,_,_=>rfl
 |[],y::m,_,_,h=>absurd ((h y).mpr (by simp)) (by simp)
 |x::l,[],_,_,h=>absurd ((h x).mp (by simp)) (by simp)
 |x::l,y::m,hl,hm,h=>by
  obtain⟨l1,l2⟩:=Xl.mp hl;obtain⟨m1,m2⟩:=Xl.mp hm;have e:x=y:=by
   rcases Zt.mp ((h x).mp (by simp)) with z|z
   ·exact z
   ·rcases Zt.mp ((h y).mpr (by simp)) with z2|z2
    ·exact z2.symm
    ·exact absurd (List.lt_trans (m1 x z) (l1 y z2)) (XO _)
  subst e;rw[xg5 l2 m2 λz=>?_];constructor
  ·intro hz;rcases Zt.mp ((h z).mp (by simp[hz])) with e|e
   ·subst e;exact absurd (l1 z hz) (XO _)
   ·exact e
  ·intro hz;rcases Zt.mp ((h z).mpr (by simp[hz])) with e|e
   ·subst e;exact absurd (m1 z hz) (XO _)
   ·exact e
def abI (i:Int):Int:=if i<0 then -i else i
def mxI (i j:Int):Int:=if j>i then j else i
def dst (r c a b:Nat):Int:=mxI (abI ((a:Int)-r)) (abI ((b:Int)-c))
def key3 (x y z:Int):List (List Int):=[[x],[y],[z]]
theorem q35 {x y z x' y' z':Int}:key3 x y z<key3 x' y' z'<->x<x'\/x=x'/\(y<y'\/y=y'/\z<z'):=by
 unfold key3;simp[ZU]
theorem xb6 {x y z x' y' z':Int}(h:key3 x y z=key3 x' y' z'):x=x'/\y=y'/\z=z':=by
 unfold key3 at h;simpa using h
def lfF (n r c:Nat) (ad:List Nat):Int:=best [0,(cof (· / 2) n ad:Nat)-(r:Int),(cof (·%2) n ad:Nat)-(c:Int),1-((2^(n-ad.length):Nat):Int)-((cof (· / 2) n ad:Nat)-(r:Int)),1-((2^(n-ad.length):Nat):Int)-((cof (·%2) n ad:Nat)-(c:Int))] 4
def lfR (n r c:Nat) (ad:List Nat):Int:=mxI (cof (· / 2) n ad:Nat) ((r:Int)-lfF n r c ad)
def lfC (n r c:Nat) (ad:List Nat):Int:=mxI (cof (·%2) n ad:Nat) ((c:Int)-lfF n r c ad)
def kF (n r c:Nat) (ad:List Nat):List (List Int):=key3 (lfF n r c ad) (lfR n r c ad) (lfC n r c ad)
def kC (r c a b:Nat):List (List Int):=key3 (dst r c a b) a b
theorem xy8 (a b c d e:Int):(a<=best [a,b,c,d,e] 4/\b<=best [a,b,c,d,e] 4/\c<=best [a,b,c,d,e] 4/\d<=best [a,b,c,d,e] 4/\e<=best [a,b,c,d,e] 4)/\(best [a,b,c,d,e] 4=a\/best [a,b,c,d,e] 4=b\/best [a,b,c,d,e] 4=c\/best [a,b,c,d,e] 4=d\/best [a,b,c,d,e] 4=e):=by
 have e0:best [a,b,c,d,e] 0=a:=rfl;have step:∀k x,[a,b,c,d,e].getD (k+1) 0=x->(best [a,b,c,d,e] k<=best [a,b,c,d,e] (k+1)/\x<=best [a,b,c,d,e] (k+1))/\(best [a,b,c,d,e] (k+1)=best [a,b,c,d,e] k\/best [a,b,c,d,e] (k+1)=x):=λk x h=>by
  have:best [a,b,c,d,e] (k+1)=if x>best [a,b,c,d,e] k then x else best [a,b,c,d,e] k:=by rw[<- h];rfl
  rw[this];by_cases z:x>best [a,b,c,d,e] k
  ·rw[Zx z];exact⟨⟨by lia,by lia⟩,.inr rfl⟩
  ·rw[Zk z];exact⟨⟨by lia,by lia⟩,.inl rfl⟩
 have s1:=step 0 b rfl;have s2:=step 1 c rfl;have s3:=step 2 d rfl;have s4:=step 3 e rfl;simp only[Nat.reduceAdd] at s1 s2 s3 s4;rw[e0] at s1;lia
theorem ql0 (i j:Int):i<=mxI i j/\j<=mxI i j/\(mxI i j=i\/mxI i j=j):=by
 unfold mxI;split
 ·exact⟨by lia,Wj _,.inr rfl⟩
 ·exact⟨Wj _,by lia,.inl rfl⟩
theorem q36 {i f:Int}:abI i<=f<->i<=f/\-i<=f:=by
 unfold abI;split<;>lia
theorem dst_le {r c a b:Nat}{f:Int}:dst r c a b<=f<->(a:Int)-r<=f/\(r:Int)-a<=f/\(b:Int)-c<=f/\(c:Int)-b<=f:=by
 unfold dst;obtain⟨h1,h2,h3⟩:=ql0 (abI ((a:Int)-r)) (abI ((b:Int)-c));have e:mxI (abI ((a:Int)-r)) (abI ((b:Int)-c))<=f<->abI ((a:Int)-r)<=f/\abI ((b:Int)-c)<=f:=⟨λh=>⟨Int.le_trans h1 h,Int.le_trans h2 h⟩,λh=>by rcases h3 with e|e<;>rw[e];exact h.1;exact h.2⟩;rw[e,q36,q36];clear h1 h2 h3 e;lia
theorem xg6 {n r c:Nat}{ad:List Nat}(h4:∀d∈ad,d<4) (hl:ad.length<=n) (hr:r<2^n) (hc:c<2^n) :
  (∃a b:Nat,inB n ad a b/\a<2^n/\b<2^n/\kF n r c ad=kC r c a b)/\∀a b,inB n ad a b->¬kC r c a b<kF n r c ad:=by
 have c1:=qy1 qJ5 h4 hl;have c2:=qy1 q32 h4 hl;have hs:0<2^(n-ad.length):=YW (by decide);unfold kF kC lfR lfC inB;have hb:=xy8 0 ((cof (· / 2) n ad:Nat)-(r:Int)) ((cof (·%2) n ad:Nat)-(c:Int)) (1-((2^(n-ad.length):Nat):Int)-((cof (· / 2) n ad:Nat)-(r:Int))) (1-((2^(n-ad.length):Nat):Int)-((cof (·%2) n ad:Nat)-(c:Int)));change (_<=lfF n r c ad/\_<=lfF n r c ad/\_<=lfF n r c ad/\_<=lfF n r c ad/\_<=lfF n r c ad)/\(lfF n r c ad=_\/lfF n r c ad=_\/lfF n r c ad=_\/lfF n r c ad=_\/lfF n r c ad=_) at hb;generalize lfF n r c ad=f at *;generalize cof (· / 2) n ad=A at *;generalize cof (·%2) n ad=B at *;generalize 2^(n-ad.length)=S at *;generalize 2^n=N at *;obtain⟨⟨b1,b2,b3,b4,b5⟩,hb⟩:=hb;obtain⟨m1,m2,m3⟩:=ql0 A ((r:Int)-f);obtain⟨k1,k2,k3⟩:=ql0 B ((c:Int)-f);generalize mxI A ((r:Int)-f)=R at *;generalize mxI B ((c:Int)-f)=C at *;have low:∀a b:Nat,A<=a->a<A+S->B<=b->b<B+S->f<=dst r c a b:=λa b h1 h2 h3 h4=>by
  obtain⟨d1,d2,d3,d4⟩:=dst_le.mp (Wj (dst r c a b));generalize dst r c a b=d at d1 d2 d3 d4 ⊢;clear m1 m2 m3 k1 k2 k3 b1 b2 b3 b4 b5 c1 c2;rcases hb with e|e|e|e|e
  ·lia
  ·lia
  ·lia
  ·lia
  ·lia
 clear hb;constructor
 ·have hR:R<(A:Int)+S:=by rcases m3 with e|e<;>lia
  have hC:C<(B:Int)+S:=by rcases k3 with e|e<;>lia
  obtain⟨x,rfl⟩:∃x:Nat,R=x:=⟨R.toNat,by lia⟩;obtain⟨y,rfl⟩:∃y:Nat,C=y:=⟨C.toNat,by lia⟩;have l1:A<=x:=by lia
  have l2:x<A+S:=by lia
  have l3:B<=y:=by lia
  have l4:y<B+S:=by lia
  have lw:=low x y l1 l2 l3 l4;have up:dst r c x y<=f:=dst_le.mpr ⟨by rcases m3 with e|e<;>lia,by lia,by rcases k3 with e|e<;>lia,by lia⟩;refine⟨x,y,⟨l1,l2,l3,l4⟩,by lia,by lia,?_⟩;rw[show dst r c x y=f by lia]
 ·rintro a b ⟨h1,h2,h3,h4⟩ z;have lw:=low a b h1 h2 h3 h4;clear low;rw[q35] at z;obtain⟨d1,d2,d3,d4⟩:=dst_le.mp (Wj (dst r c a b));generalize dst r c a b=d at *;have z':d=f/\((a:Int)<R\/(a:Int)=R/\(b:Int)<C):=by
   rcases z with z|z
   ·lia
   ·exact z
  obtain⟨rfl,z'⟩:=z';have hRa:R<=(a:Int):=by rcases m3 with e|e<;>lia
  have hCb:C<=(b:Int):=by rcases k3 with e|e<;>lia
  clear m1 m2 m3 k1 k2 k3 b1 b2 b3 b4 b5 c1 c2 d1 d2 d3 d4;lia
end Qf
namespace L2
open PySem PySem.Spec PyProof.Rows
section
variable {prog:Program}{w:World}{A:Around}{E:Value->Shared->Prop}{s:Shared}
end
section
variable {X:Cx}{elts:List Expr}{x1:Nat}{tpos:Pos}
end
theorem q37 {K:PySem.W.Frag}{a:Addr}{xs:List V}{g:TG}{tb:TS}{D:Ends}{σ:St}{H:Hp}(Pv:Nat->St->Hp->Prop) (hk:∀i σ H2,Pv i σ H2->H2 a=some (.tup xs)) (h0:Pv 0 σ H)
  (hs:∀i x σ H p,xs[i]?=some x->Pv i σ H->H p=none->g (.ref p) σ (upd H p (.tup [.int i,x])) λσ2 H2=>tb { D with nx:=Pv (i+1),ct:=Pv (i+1),bk:=D.nx } σ2 H2) (hd:∀σ H,Pv xs.length σ H->D.nx σ H) :
  ∃W:Nat->Nat->St->Hp->Prop,(∃m,W 0 m σ H)/\∀i m σ H,W i m σ H ->
   ((Ite K a).stop i H/\D.nx σ H)\/((Ite K a).go i H/\∃N:St->Hp->Prop,(∀σ' H',N σ' H'->∃m',m'<m/\W (i+1) m' σ' H')/\∀x H',(Ite K a).yld i H x H'->g x σ H' λσ2 H2=>tb { D with nx:=N,ct:=N,bk:=D.nx } σ2 H2):=by
 refine⟨λi m σ H=>m=xs.length-i/\i<=xs.length/\Pv i σ H,⟨xs.length,by simp,Zv _,h0⟩,?_⟩;rintro i m σ H ⟨rfl,hi,p⟩;have hq:SqT K H a xs:=SqT.of (hk i σ H p);by_cases jA:i<xs.length
 ·refine .inr ⟨⟨xs,xs[i],hq,by simp[jA]⟩,Pv (i+1),λσ' H' p'=>⟨xs.length-(i+1),by lia,rfl,jA,p'⟩,λx H' y=>?_⟩;obtain⟨b,c,e0,e1,e2,e3⟩:=y;subst e2 e3;exact hs i c σ _ b (e1 xs hq) p e0
 ·have e:i=xs.length:=by lia
  subst e;exact .inl ⟨⟨xs,hq,Ze _⟩,hd σ H p⟩
section
variable {X:Cx}
end
end L2
namespace Pr
open PySem L2 Qf
theorem qj8 {f:St->Hp->Prop}{σ σ':St}{H:Hp}(e:σ=σ') (h:f σ' H):f σ H:=by rw[e];exact h
def LvL (H:Hp) (lp:Addr) (L:List (List Nat×Bool)):Prop:=∃bs:List Addr,H lp=some (.lst (bs.map V.ref))/\bs.length=L.length/\∀(i:Nat) b e,bs[i]?=some b->L[i]?=some e->H b=some (.tup [.str (txt e.1),.bl e.2])
theorem LvL.same {H H':Hp}{lp:Addr}{L:List (List Nat×Bool)}(h:LvL H lp L) (s:Same H H'):LvL H' lp L:=by
 obtain⟨bs,h0,h1,h2⟩:=h;exact⟨bs,s _ _ h0,h1,λi b e e1 e2=>s _ _ (h2 i b e e1 e2)⟩
theorem LvL.push {H:Hp}{lp k:Addr}{L:List (List Nat×Bool)}{e:List Nat×Bool}{bs:List Addr}(h0:H lp=some (.lst (bs.map V.ref))) (h1:bs.length=L.length) (h2:∀(i:Nat) b e,bs[i]?=some b->L[i]?=some e->H b=some (.tup [.str (txt e.1),.bl e.2])) (hk:H k=none) :
  LvL (upd (upd H k (.tup [.str (txt e.1),.bl e.2])) lp (.lst (bs.map V.ref++[.ref k]))) lp (L++[e]):=by
 have npk:lp≠k:=qa7 h0 hk;refine⟨bs++[k],by rw[qa3,Z7];rfl,by rw[Zz,Zz,h1];rfl,λi b x e1 e2=>?_⟩;by_cases hi:i<bs.length
 ·rw[ZD hi] at e1;rw[ZD (by lia)] at e2;have z:=h2 i b x e1 e2;rw[qb9 (λw=>by rw[w,h0] at z;cases z),qb9 (qa7 z hk)];exact z
 ·have jA:=(gS_ e1).1;rw[Zz] at jA;have hi':i=bs.length:=by simp at jA;lia
  subst hi';rw[h1] at e2;have z1:b=k:=by simpa using e1.symm
  have z2:x=e:=by simpa using e2.symm
  subst z1;subst z2;rw[qb9 npk.symm,qa3]
section
variable {P:Program}{w:World}{K:PySem.W.Frag}{mg:Str->Option Value}{base:Heap}
abbrev nGL:List Str:=["rows", "number", "address", "leaves", "at", "quarter"]
abbrev nGL4:List Str:=["rows", "number", "address", "leaves"]
theorem scGL:FnScope nGL nGL4 (qa4 qr6):=qc7
def spGL (d:Nat):Sp:=λvs H Q _=>∃(rp lp:Addr) (x:Nat) (ad:List Nat) (L:List (List Nat×Bool)) (rows:List Row),vs=[.ref rp,.int (x:Nat),.str (txt ad),.ref lp]/\RowsAt H rp rows/\qd4 rows/\x<rows.length+2/\Tr.dep (T rows x)<=d/\LvL H lp L/\ad.length+d<=100/\L.length+nlf (T rows x)<=100000 /\
 ∀(H':Hp),But lp H H'->LvL H' lp (L++preL ad (lvT (T rows x)))->Q .non H'
theorem xy9 {f:Addr}{fd:FuncData}(F:Fun K "gather_leaves" "gather_leaves" qr6 f fd) (Tc:Cst mg) (k5:mg "str" = none) (hen:mg "enumerate" = none) (hfu:∃t,mg "FULL" = some (.int 1 t)) (hG:mg "gather_leaves" = some (.ref f)) (bG:Binds K fd nGL4 []):∀d,FnOk P w K mg base CX0 (d+1) f fd nGL4 (spGL d):=by
 obtain⟨tf,hfi⟩:=Tc.first;obtain⟨tu,hfu⟩:=hfu;have early:∀{x lp k:Nat}{ad:List Nat}{L:List (List Nat×Bool)}{rows:List Row}{H:Hp}{Q:VK}{bs:List Addr},x<2->H k=none->H lp=some (.lst (bs.map V.ref))->bs.length=L.length->(∀(i:Nat) b e,bs[i]?=some b->L[i]?=some e->H b=some (.tup [.str (txt e.1),.bl e.2])) ->
   (∀(H':Hp),But lp H H'->LvL H' lp (L++preL ad (lvT (T rows x)))->Q .non H')->Q .non (upd (upd H k (.tup [.str (txt ad),.bl (decide (V.int (x:Nat)=V.int 1))])) lp (.lst (bs.map V.ref++[.ref k]))):=λ{x lp k ad L rows H Q bs} x2 hk h0 h1 h2 q=>by
  refine q _ (λb o e ne=>by rw[qb9 ne,qb9 (qa7 e hk)];exact e) ?_;have e:preL ad (lvT (T rows x))=[(ad,decide (V.int (x:Nat)=V.int 1))]:=by
   have:x=0\/x=1:=by lia
   rcases this with rfl|rfl
   ·rw[qg5];show[(ad++[],false)]=_;rw[YT];rfl
   ·rw[qp3];show[(ad++[],true)]=_;rw[YT];rfl
  rw[e];exact LvL.push (e:=(ad,decide (V.int (x:Nat)=V.int 1))) h0 h1 h2 hk
 intro d
 induction d with
 |zero=>
  refine F.ok scGL (λvs H Q E h=>?_) (λcdv A outer s H vs Q E hr h=>?_)
  ·obtain⟨rp,lp,x,ad,L,rows,rfl,_⟩:=h
   rfl
  ·obtain⟨rp,lp,x,ad,L,rows,rfl,hR,ok,hx,hd,kP,vR,hL,q⟩:=h;have x2:x<2:=by
    rcases dep0 hd with z|z
    ·have:=(qg8 ok hx).1.mp z;lia
    ·have:=(qg8 ok hx).2.mp z;lia
   obtain⟨bs,h0,h1,h2⟩:=kP;refine seqE ⟨_,⟨qd9 (qb7 qj0 (pv 1) (qe0 (v:=.int 2) (by rfl) hfi ⟨_,rfl⟩) (qb2 _)) (StB.go (.cons ⟨qe1 (q81 XN Xx Xy qh1 (pv 3) (qa0 (PEb.go ⟨qd8 (qa0 (pv 2) (qa0 (qd7 qB8 (pv 1) (qe0 (v:=.int 1) (by rfl) hfu ⟨_,rfl⟩) (qb2 _)) qa2))⟩) qa2))⟩ (.one ⟨qy2⟩))) qb8⟩,?_⟩;refine⟨_,qf6,?_⟩;refine⟨_,rfl,_,_,rfl,rfl,_,rfl,?_⟩;rw[Zu (show (x:Int)<2 by lia)];refine iteT ?_;refine⟨_,rfl,.inl ⟨rfl,_,SqL.of h0⟩,_,rfl,_,rfl,rfl,(by show 2<=sizeLine;decide),λk hk=>⟨lp,_,_,rfl,rfl,qd5 h0 hk,?_,early x2 hk h0 h1 h2 q⟩⟩;rw[Zh,h1];exact qu1 (by lia)
 |succ d ih=>
  refine F.ok scGL (λvs H Q E h=>?_) (λcdv A outer s H vs Q E hr h=>?_)
  ·obtain⟨rp,lp,x,ad,L,rows,rfl,_⟩:=h
   rfl
  ·obtain⟨rp,lp,x,ad,L,rows,rfl,hR,ok,hx,hd,kP,vR,hL,q⟩:=h;obtain⟨bs,h0,h1,h2⟩:=id kP;refine seqE ⟨_,⟨qd9 (qb7 qj0 (pv 1) (qe0 (v:=.int 2) (by rfl) hfi ⟨_,rfl⟩) (qb2 _)) (StB.go (.cons ⟨qe1 (q81 XN Xx Xy qh1 (pv 3) (qa0 (PEb.go ⟨qd8 (qa0 (pv 2) (qa0 (qd7 qB8 (pv 1) (qe0 (v:=.int 1) (by rfl) hfu ⟨_,rfl⟩) (qb2 _)) qa2))⟩) qa2))⟩ (.one ⟨qy2⟩))) qb8⟩,?_⟩;refine qf9 ⟨_,⟨ql1 YK rfl (qL4 (by rfl) hen (qa0 (PEb.go ⟨pxN qb0 (pv 0) (qa6 qc0 (pv 1) (qe0 (v:=.int 2) (by rfl) hfi ⟨_,rfl⟩))⟩) qa2)) (qi3 rfl (qb1 (pgN 4 scGL.nd) (qb1 (pgN 5 scGL.nd) qe9)))
    (StB.go (.one ⟨qe1 (pcN ih hr hG F.kp bG (Ars2.go (.cons ⟨pv 0⟩ (.cons ⟨pv 5⟩ (.cons ⟨qa6 qx2 (pv 2) (PEb.go ⟨qc6 qB9 (by rfl) k5 PyProof.Rows.boot_str (qa0 (pv 4) qa2)⟩)⟩ (.cons ⟨pv 3⟩ .nil rfl) rfl) rfl) rfl)))⟩))⟩,?_⟩
   refine⟨_,rfl,_,_,rfl,rfl,_,rfl,?_⟩;refine ite2 (λhc=>?_) (λhc=>?_)
   ·have x2:x<2:=by have:=ZI hc;lia
    refine⟨_,rfl,.inl ⟨rfl,_,SqL.of h0⟩,_,rfl,_,rfl,rfl,(by show 2<=sizeLine;decide),λk hk=>⟨lp,_,_,rfl,rfl,qd5 h0 hk,?_,early x2 hk h0 h1 h2 q⟩⟩;rw[Zh,h1];exact qu1 (by lia)
   ·have x2:¬x<2:=λz=>hc (Zu (by lia));obtain⟨pl,a0,a1,a2,a3,rfl,jI⟩:=ql4 ok hx x2;have eT:T rows (pl+2)=.nd (T rows a0) (T rows a1) (T rows a2) (T rows a3):=qn8 ok jI;obtain⟨rs,hrp,kH,jE⟩:=id hR;have hpr1:=(gS_ jI).1;have vP:rs[pl]?=some (rs[pl]'(by lia)):=Zd (by lia);have hra:=jE pl _ _ vP jI;generalize rs[pl]'(by lia)=ra at vP hra
    let pt:Nat->List (List Nat×Bool):=λk=>preL (ad++[k]) (lvT (T rows ([a0,a1,a2,a3].getD k 0)))
    have eP:preL ad (lvT (T rows (pl+2)))=(List.range 4).flatMap pt:=by
     rw[eT,xm1];show _=pt 0++(pt 1++(pt 2++(pt 3++[])));rw[YT,Yo,Yo]
     rfl
    have wS:∀i,i<=4->((List.range i).flatMap pt).length+(if i<4 then nlf (T rows ([a0,a1,a2,a3].getD i 0)) else 0)<=nlf (T rows (pl+2)):=λi hi=>by
     have hp:∀k,(pt k).length=nlf (T rows ([a0,a1,a2,a3].getD k 0)):=λk=>by rw[xb5,qj7]
     have en:nlf (T rows (pl+2))=nlf (T rows a0)+nlf (T rows a1)+nlf (T rows a2)+nlf (T rows a3):=by rw[eT];rfl
     have q0:=hp 0;have q1:=hp 1;have q2:=hp 2;have q3:=hp 3;simp only[List.getD_cons_zero,List.getD_cons_succ] at q0 q1 q2 q3
     match i,hi with
     |0,_=>show 0+nlf (T rows a0)<=_;lia
     |1,_=>show (pt 0++[]).length+nlf (T rows a1)<=_;rw[Zz];simp only[Wx];lia
     |2,_=>show (pt 0++(pt 1++[])).length+nlf (T rows a2)<=_;simp only[Zz,Wx];lia
     |3,_=>show (pt 0++(pt 1++(pt 2++[]))).length+nlf (T rows a3)<=_;simp only[Zz,Wx];lia
     |4,_=>show (pt 0++(pt 1++(pt 2++(pt 3++[])))).length+0<=_;simp only[Zz,Wx];lia
    rw[eP] at q;refine⟨_,rfl,_,rfl,_,_,rfl,rfl,rp,_,((pl:Nat):Int),.ref ra,rfl,Yk V.int (by lia),SqT.of hrp,ql9 (by rw[Zg,vP];rfl),ra,rfl,⟨_,SqT.of hra⟩,q37 (K:=K) (xs:=vN [a0,a1,a2,a3]) (λi σ H2=>But lp H H2/\LvL H2 lp (L++(List.range i).flatMap pt)/\∃v4 v5,σ=[some (.ref rp),some (.int ((pl+2:Nat):Int)),some (.str (txt ad)),some (.ref lp),v4,v5])
     (λi σ H2 ⟨B2,_⟩=>B2.tups h0 (λu z=>nomatch z) _ _ hra) ⟨But.refl _ _,by simpa using kP,none,none,rfl⟩ ?_ ?_⟩
    ·rintro i y σ H2 p hy ⟨B2,jM,v4,v5,rfl⟩ vD;obtain⟨m,hm,rfl⟩:=qE7 hy;have wV:i<4:=(gS_ hm).1;have T2:Tups H H2:=B2.tups h0 (λu z=>nomatch z);have em:[a0,a1,a2,a3].getD i 0=m:=by rw[ZA,hm];rfl
     have hle':=wS i (by lia);rw[Zx wV,em] at hle';have s3:=qb4 (o:=.tup [V.int (i:Nat),V.int (m:Nat)]) vD;have hl3:=jM.same s3;have B3:But lp H (upd H2 p (.tup [V.int (i:Nat),V.int (m:Nat)])):=B2.trans (But.of s3);have hup:upd H2 p (.tup [V.int (i:Nat),V.int (m:Nat)]) p=some (.tup [V.int (i:Nat),V.int (m:Nat)]):=qa3;generalize upd H2 p (.tup [V.int (i:Nat),V.int (m:Nat)])=H3 at s3 hl3 B3 hup ⊢;have T3:Tups H H3:=B3.tups h0 (λu z=>nomatch z);have hkl:m<rows.length+2:=by
      have:=(ok pl _ jI).2 m (Zr hm);lia
     have hTk:=T_qr ok jI wV hm;refine⟨p,_,rfl,SqT.of hup,rfl,_,_,rfl,_,_,rfl,rfl,?_⟩;refine qj8 (σ':=[some (.ref rp),some (.int ((pl+2:Nat):Int)),some (.str (txt ad)),some (.ref lp),some (.int (i:Nat)),some (.int (m:Nat))]) rfl ?_;refine⟨_,rfl,_,rfl,_,rfl,_,rfl,(i:Int),rfl,?_,_,_,rfl,rfl,?_,_,rfl,?_⟩
     ·match i,wV with
      |0,_|1,_|2,_|3,_=>decide +kernel
     ·rw[qN1 wV,qA1];show ad.length+1<=sizeLine;exact XR (qd3 (by lia))
     ·rw[qN1 wV];refine⟨rp,lp,m,ad++[i],L++(List.range i).flatMap pt,rows,?_,hR.mono T3,ok,hkl,?_,hl3,?_,?_,λH4 B4 hl4=>?_⟩
      ·rw[<- q28];rfl
      ·rw[hTk];exact xg1 wV _ hd
      ·rw[Zz];show ad.length+1+d<=100;lia
      ·rw[Zz];lia
      ·refine⟨B3.trans B4,?_,_,_,rfl⟩;rw[Xe,List.flatMap_append,<- Yo];have e1:([i]:List Nat).flatMap pt=preL (ad++[i]) (lvT (T rows m)):=by
        show pt i++[]=_;rw[YT];show preL (ad++[i]) (lvT (T rows ([a0,a1,a2,a3].getD i 0)))=_;rw[em]
       rw[e1];exact hl4
    ·rintro σ H2 ⟨B2,jM,v4,v5,rfl⟩;exact q H2 B2 jM
end
end Pr
namespace L2
open PySem PySem.Spec PyProof.Rows PySem.W
section
variable {X:Cx}
theorem q38 (a b c d e:Value):argsOk "max" ⟨[a,b,c,d,e],[]⟩:=by unfold argsOk;kernel_rfl
theorem q39 (hc:X.calm=true):qe3 X (.builtin "max") (λxs H Q=>∃(a b c d e:Int),xs=[.int a,.int b,.int c,.int d,.int e]/\Q (.int (best [a,b,c,d,e] 4)) H):=by
 intro j8 s σ H xs us Q I r h;obtain⟨a,b,c,d,e,rfl,q⟩:=h;have rv:=r;have j9:us.length=5:=rv.length.symm;obtain⟨u1,u2,u3,u4,u5,rfl⟩:=L2.os5 j9
 ·
  have jS:(toString "max" ++ toString ".loop" : String) = "max.loop":=by decide
  refine call_function_tree PySem.F.kind_max PySem.F.plain_max PySem.F.entry_max (q38 _ _ _ _ _) ?_;show wpAny _ X.A.in1 (Builtin.Builtins.bindParams "max" ["key", "default"] 0 ⟨[],[]⟩ >>= _) _ _ s;refine Za (WG (show Builtin.Builtins.bindParams "max" ["key", "default"] 0 ⟨[],[]⟩=pure [none,none] from rfl) ?_);show wpAny _ X.A.in1 (newTuple [u1,u2,u3,u4,u5] >>= _) _ _ s;refine Za (ZK ?_);have hT:(s.heap.push { cls:=.type "tuple",data:=.seq #[u1,u2,u3,u4,u5] }).IsTuple s.heap.objs.size #[u1,u2,u3,u4,u5]:=⟨_,Zf _ rfl,rfl,0,rfl⟩;have hsz:(s.heap.push { cls:=.type "tuple",data:=.seq #[u1,u2,u3,u4,u5] }).objs.size=s.heap.objs.size+1:=ZV ..;have item:∀(i:Nat) (v:Value),(#[u1,u2,u3,u4,u5]:Array Value)[i]?=some v->∃t,v=.int ([a,b,c,d,e].getD i 0) t:=λi v hv=>by
   have hv':[u1,u2,u3,u4,u5][i]?=some v:=by simpa using hv
   have hi:i<5:=(gS_ hv').1;obtain⟨w',e1,t,e2⟩:=rv.get (x:=V.int ([a,b,c,d,e].getD i 0)) (i:=i) (by
    match i,hi with
    |0,_|1,_|2,_|3,_|4,_=>rfl)
   rw[hv'] at e1;cases e1;exact⟨t,e2⟩
  refine Za (YF (Y0 hT (Q:=λit s₂=>it=.ref (s.heap.objs.size+1)/\s₂=_) ⟨by rw[hsz],rfl⟩) (λit s₂ h₂=>?_) λ_ _ e=>e);obtain⟨rfl,rfl⟩:=h₂;have W:=Walks.tuple (prog:=X.prog) (w:=X.w) (A:=X.A.in1) (I.ok.hd hc) (s.heap.objs.size+1) s.heap.objs.size (Zp (Yi _)) #[u1,u2,u3,u4,u5];refine Za (ZK ?_);rw[jS];refine Zb ⟨YA PySem.F.plain_max_loop _,codeAny_max_loop_first W (λi j=>decide ([a,b,c,d,e].getD i 0>[a,b,c,d,e].getD j 0)) ?_ _ ?_ (by show 0<5;decide) ?_ (Zf _ rfl) λv h' tk hP hk=>?_⟩
  ·intro i j vi vj s' Q' E' hi hj hq;obtain⟨t,rfl⟩:=item i vi hi;obtain⟨t',rfl⟩:=item j vj hj;exact gt_int hq
  ·intro hm;simp only[ZV] at hm;have:s.heap.objs.size+1+1=s.heap.objs.size+1\/s.heap.objs.size+1+1=s.heap.objs.size:=by simpa using hm
   lia
  ·refine W.frame _ _ _ ?_ λb _ o e=>Zc _ e;refine⟨⟨{ cls:=.type "tuple_iterator",data:=.fields #[.ref s.heap.objs.size,.int 0 0] },?_,rfl,rfl⟩,hT.push _⟩;rw[<- hsz];exact Zf _ rfl
  ·obtain⟨t,rfl⟩:=item _ v hP;have eb:=(qr2 [a,b,c,d,e] 4).1;refine⟨.int _,H,I.kept (h':=h') (t':=tk) (λb' o e'=>hk b' o (λz=>?_) (λz=>?_) (Zc _ (Zc _ (Zc _ e')))),⟨t,rfl⟩,?_⟩
   ·have h1:b'=s.heap.objs.size+1:=by simpa using z
    rw[h1] at e';exact absurd (Zi e') (Nat.not_lt.mpr (Wf _))
   ·have h1:b'=s.heap.objs.size+1+1:=by rw[z];simp only[ZV]
    rw[h1] at e';exact absurd (Zi e') (Nat.not_lt.mpr (ZF (Wf _) (Wf _)))
   ·show Q (.int ([a,b,c,d,e].getD (argBest (λi j=>decide ([a,b,c,d,e].getD i 0>[a,b,c,d,e].getD j 0)) 4) 0)) H;rw[eb];exact q
theorem loc3 {K:PySem.W.Frag}{y:V}{os σ:St}{H:Hp}{R:St->Hp->Prop}(ho:os.length=3) (h:gTup K 3 (qf3 (qd1 0) (qf3 (qd1 1) (qf3 (qd1 2) gNil))) y (os++σ) H R) :
  gTup K 3 (qf3 (qd1 0) (qf3 (qd1 1) (qf3 (qd1 2) gNil))) y (os++σ) H λσ' H'=>(∃os':St,os'.length=3/\σ'=os'++σ)/\R σ' H':=by
 obtain⟨o1,o2,o3,rfl⟩:=L2.os3 ho
 ·
  obtain⟨a,xs,e1,e2,e3,v,r,e4,v2,r2,e5,v3,r3,e6,e8,q⟩:=h;exact⟨a,xs,e1,e2,e3,v,r,e4,v2,r2,e5,v3,r3,e6,e8,⟨[some v,some v2,some v3],rfl,rfl⟩,q⟩
theorem xg7 {x y u:Str}{p1 p2 p3 tpos:Pos}{k:Nat}{scope:Scope}{cl:List (Str×Addr)}{C:Addr}{fp:List Addr}{s₀:Shared}{H₀:Hp}(hc:X.calm=true) (hN:X.N.Nodup) (hd:[x,y,u].Nodup) (s3:∀z∈X.N,scope.names.lookup z≠some .local)
  (hx:scope.names.lookup x=some .local) (hy:scope.names.lookup y=some .local) (hu:scope.names.lookup u=some .local) :
  PG (qb3 X scope cl C [x,y,u] fp s₀ H₀) (.Tuple [.Name x p1,.Name y p2,.Name u p3] k tpos) (gTup X.K 3 (qf3 (qd1 0) (qf3 (qd1 1) (qf3 (qd1 2) gNil)))):=by
 have lx:(qb3 X scope cl C [x,y,u] fp s₀ H₀).env.scope.names.lookup x=some .local:=Yx hx;have ly:(qb3 X scope cl C [x,y,u] fp s₀ H₀).env.scope.names.lookup y=some .local:=Yx hy;have lu:(qb3 X scope cl C [x,y,u] fp s₀ H₀).env.scope.names.lookup u=some .local:=Yx hu;have nd:(qb3 X scope cl C [x,y,u] fp s₀ H₀).N.Nodup:=by
  show ([x,y,u]++X.N).Nodup;rw[X7];refine⟨hd,hN,λa ha b hb e=>?_⟩;subst e;have hl:scope.names.lookup a=some .local:=by
   have:a=x\/a=y\/a=u:=by simpa using ha
   rcases this with rfl|rfl|rfl<;>assumption
  exact s3 a hb hl
 exact qi3 (X:=qb3 X scope cl C [x,y,u] fp s₀ H₀) hc (qb1 (qh8 (i:=0) nd rfl (.inl lx) (.inr lx)) (qb1 (qh8 (i:=1) nd rfl (.inl ly) (.inr ly)) (qb1 (qh8 (i:=2) nd rfl (.inl lu) (.inr lu)) qe9)))
theorem qR0 {x y u:Str}{p1 p2 p3 tpos pos:Pos}{k:Nat}{elt iter c:Expr}{scope:Scope}{wi:TI}{tt:TT}{te:TE}(N:List Str) (sc:Scope) (kX:X.N=N) (k6:X.env.scope=sc) (hc:X.calm=true) (hN:X.N.Nodup) (hi:PI X (.Tuple [.Name x p1,.Name y p2,.Name u p3] k tpos) iter wi)
  (ht:∀cl C fp s₀ H₀,PT (qb3 X scope cl C [x,y,u] fp s₀ H₀) c tt) (he:∀cl C fp s₀ H₀,PE (qb3 X scope cl C [x,y,u] fp s₀ H₀) elt te) (hd:[x,y,u].Nodup:=by decide)
  (jD:scope.kind=.function:=by rfl) (jB:scope.names.all (λy=>y.2 != .cell)=true:=by decide +kernel) (jC:scope.names.all (λy=>y.2 != .local||scope.names.lookup y.1==some .local)=true:=by decide +kernel)
  (hx:scope.names.lookup x=some .local:=by rfl) (hy:scope.names.lookup y=some .local:=by rfl) (hu:scope.names.lookup u=some .local:=by rfl) (jG:N.all (λy=>scope.names.lookup y != some .local)=true:=by decide +kernel)
  (jQ:scope.names.all (λp=>p.2 != .free||(sc.names.lookup p.1==some .cell||sc.names.lookup p.1==some .free))=true:=by decide +kernel)
  (hs:∀x,foldedSetIterable iter X.env x=pure x:=by intro _;rfl):PE X (.ListComp elt [⟨.Tuple [.Name x p1,.Name y p2,.Name u p3] k tpos,iter,[c],0⟩] scope pos) (qn1 3 wi (gTup X.K 3 (qf3 (qd1 0) (qf3 (qd1 1) (qf3 (qd1 2) gNil)))) tt te):=by
 obtain⟨s1,s2,s3,s4⟩:=qh2 kX k6 jB jC jG jQ;exact qr1 (nn:=[x,y,u]) (λenv=>isTrue c env (eval c env)) hc hi (λit acc env=>qy6 elt _ iter c scope pos it acc env) (λcl C fp s₀ H₀=>xg7 hc hN hd s3 hx hy hu) (λy os σ H R ho h=>loc3 ho h) (λcl C fp s₀ H₀ j8 s σ H Q I h=>ht cl C fp s₀ H₀ j8 s σ H Q I h) he jD s1 s2 s3 s4 hs
end
end L2
namespace PyProof.Rows
open PySem
def xm2:Bool->Keyed->Array Keyed->Nat->Nat->Nat->StateT SortSt Sem (Option Nat):=sortPriv% PySem.Builtin.gallop
def KLt (prog:Program) (w:World) (A:Around) (s:Shared) (κ:KeyKind) (kd:SortKind):Prop:=
 ∀(E:Value->Shared->Prop) (x y:Value) (a b:κ.α) (Q:Bool->Shared->Prop),κ.keyOf x=some a->κ.keyOf y=some b->Q (κ.blt a b) s->wpAny (model prog w) A (keyLt' kd x y) Q E s
section
variable {prog:Program}{w:World}{A:Around}{E:Value->Shared->Prop}{s:Shared}{κ:KeyKind}
theorem qv2 {kd:SortKind}(hO:KLt prog w A s κ kd){st:SortSt}{x y:Keyed}{a b:κ.α}{Q:Option Bool->SortSt->Prop}(hk:kindOf st=kd) (ha:κ.keyOf x.1=some a) (hb:κ.keyOf y.1=some b) (h:Q (some (κ.blt a b)) st) :
  wpS (model prog w) A E s (lt' x y) Q st:=by
 rw[lt'_eq];refine Zm (W3 ?_);rw[hk];refine Zm (VU (Xv (hO _ _ _ a b _ ha hb ⟨rfl,?_⟩)));exact Zw h
theorem qb6 {st:SortSt}{arr:Array Keyed}{i:Nat}{x:Keyed}{Q:Keyed->SortSt->Prop}(hi:arr[i]?=some x) (h:Q x st):wpS (model prog w) A E s (elem' arr i) Q st:=by
 rw[elem'_eq,hi];exact Zw h
def asks (left:Bool) (k x:κ.α):Bool:=if left then κ.blt x k else !κ.blt k x
theorem qf5 {kd:SortKind}(hO:KLt prog w A s κ kd){left:Bool}{key:Keyed}{k:κ.α}{arr:Array Keyed}{base n hint c:Nat}{st:SortSt}{Q:Option Nat->SortSt->Prop}(hk:kindOf st=kd) (kJ:κ.keyOf key.1=some k)
  (harr:∀i,i<n->∃x a,arr[base+i]?=some x/\κ.keyOf x.1=some a/\asks left k a=decide (i<c)) (hh:hint<n) (hc:c<=n) (h:Q (some c) st):wpS (model prog w) A E s (xm2 left key arr base n hint) Q st:=by
 have bey:∀(i:Nat) (Q':Option Bool->SortSt->Prop),i<n->Q' (some (decide (i<c))) st->wpS (model prog w) A E s (elem' arr (base+i) >>= λx=>if left=true then lt' x key else lt' key x >>= λr=>pure (Option.map (λx=>!x) r)) Q' st:=λi Q' hi hq=>by
  obtain⟨x,a,e1,e2,e3⟩:=harr i hi;refine Zm (qb6 e1 ?_);unfold asks at e3;cases left with
  |true=>
   rw[Zx rfl] at e3 ⊢;refine qv2 hO hk e2 kJ ?_;rw[e3];exact hq
  |false=>
   rw[Zk (by decide)] at e3 ⊢;refine Zm (qv2 hO hk kJ e2 (Zw ?_));show Q' (some (!κ.blt k a)) st;rw[e3];exact hq
 refine Zm (bey hint _ hh ?_);have fin:∀lo hi,lo<=c->c<=hi->hi<=n->∀(f:Nat->Option (Option Nat)×Nat×Nat->StateT SortSt Sem (ForInStep (Option (Option Nat)×Nat×Nat))) (g:Option (Option Nat)×Nat×Nat->StateT SortSt Sem (Option Nat)),
   (∀x lo hi,lo<hi->hi<=n->∀Q',(∀b,Q' (ForInStep.yield (none,if decide (lo+(hi-lo)/2<c)=true then (lo+(hi-lo)/2+1,hi) else (lo,lo+(hi-lo)/2))) b\/b≠st)->wpS (model prog w) A E s (f x (none,lo,hi)) Q' st) ->
   (∀x lo hi,lo>=hi->f x (none,lo,hi)=pure (ForInStep.done (none,lo,hi)))->(∀lo hi,g (none,lo,hi)=pure (some hi))->wpS (model prog w) A E s (forIn [:n] (none,lo,hi) f >>= g) Q st:=by
  intro lo hi h1 h2 h3 f g hf hf2 hg;refine Zm (Wu (Y5 (I:=λx cc st'=>st'=st/\∃lo hi,cc=(none,lo,hi)/\lo<=c/\c<=hi/\hi<=n/\hi-lo<=n-x) (Q:=λcc st'=>st'=st/\∃lo,cc=(none,lo,c)) ?step ?fin ⟨rfl,lo,hi,rfl,h1,h2,h3,by lia⟩) ?post)
  case post=>
   rintro cc st' ⟨rfl,lo,rfl⟩;rw[hg];exact Zw h
  case fin=>
   rintro cc st' ⟨rfl,lo,hi,rfl,g1,g2,g3,g4⟩;have:hi=c:=by lia
   exact⟨rfl,lo,by rw[this]⟩
  case step=>
   rintro x cc st' _ hx ⟨rfl,lo,hi,rfl,g1,g2,g3,g4⟩;by_cases w4:lo>=hi
   ·rw[hf2 x lo hi w4];have:hi=c:=by lia
    exact Zw ⟨rfl,lo,by rw[this]⟩
   ·refine hf x lo hi (by lia) g3 _ λb=>?_;by_cases hbst:b=st'
    ·left;subst hbst;by_cases hm:lo+(hi-lo)/2<c
     ·rw[Zu hm];exact⟨rfl,_,_,rfl,by lia,g2,g3,by lia⟩
     ·rw[Zn hm];exact⟨rfl,_,_,rfl,g1,by lia,by lia,by lia⟩
    ·exact .inr hbst
 have go:∀(x lo hi:Nat),lo<hi->hi<=n->∀(Q':ForInStep (Option (Option Nat)×Nat×Nat)->SortSt->Prop),(∀b,Q' (ForInStep.yield (none,if decide (lo+(hi-lo)/2<c)=true then (lo+(hi-lo)/2+1,hi) else (lo,lo+(hi-lo)/2))) b\/b≠st) ->
   ∀F:Option Bool->StateT SortSt Sem (ForInStep (Option (Option Nat)×Nat×Nat)),(∀b:Bool,F (some b)=if b=true then pure (ForInStep.yield (none,lo+(hi-lo)/2+1,hi)) else pure (ForInStep.yield (none,lo,lo+(hi-lo)/2))) ->
   wpS (model prog w) A E s ((elem' arr (base+(lo+(hi-lo)/2)) >>= λx=>if left=true then lt' x key else lt' key x >>= λr=>pure (Option.map (λx=>!x) r)) >>= F) Q' st:=by
  intro x lo hi jA hn Q' hq F hF;refine Zm (bey _ _ (by lia) ?_);rw[hF];have q:=(hq st).resolve_right (λz=>z rfl);by_cases hm:lo+(hi-lo)/2<c
  ·rw[Zu hm] at q ⊢;exact Zw q
  ·rw[Zn hm] at q ⊢;exact Zw q
 by_cases hr:hint<c
 ·rw[Zu hr];dsimp only;rw[Zx rfl];refine Zm (Wu (Y5 (I:=λx cc st'=>st'=st/\∃l o,cc=(none,l,o)/\l<o/\hint+l<c/\x<o) (Q:=λcc st'=>st'=st/\∃l o,cc=(none,l,o)/\hint+l<c/\(n-hint<=o\/c<=hint+o)) ?step ?fin ⟨rfl,0,1,rfl,by lia,by lia,by lia⟩) ?post)
  case fin=>
   rintro cc st' ⟨rfl,l,o,rfl,g1,g2,g3⟩;exact⟨rfl,l,o,rfl,g2,.inl (by lia)⟩
  case step=>
   rintro x cc st' _ hx ⟨rfl,l,o,rfl,g1,g2,g3⟩;dsimp only;by_cases ho:o>=n-hint
   ·rw[Zx ho];exact Zw ⟨rfl,l,o,rfl,g2,.inl ho⟩
   ·rw[Zk ho];refine Zm (bey (hint+o) _ (by lia) ?_);by_cases hm:hint+o<c
    ·rw[Zu hm];exact Zw ⟨rfl,o,2*o+1,rfl,by lia,hm,by lia⟩
    ·rw[Zn hm];exact Zw ⟨rfl,l,o,rfl,g2,.inr (by lia)⟩
  case post=>
   rintro cc st' ⟨rfl,l,o,rfl,g2,g3⟩;dsimp only;refine fin (hint+l+1) (hint+min o (n-hint)) (by lia) (by lia) (by lia) _ _ (λx lo hi jA hn' Q' hq=>?_) (λx lo hi w4=>?_) (λlo hi=>rfl)
   ·dsimp only;rw[Zk (by lia)];exact go x lo hi jA hn' Q' hq _ (λb=>rfl)
   ·dsimp only;rw[Zx w4]
 ·rw[Zn hr];dsimp only;rw[Zk (by decide)];refine Zm (Wu (Y5 (I:=λx cc st'=>st'=st/\∃l o,cc=(none,l,o)/\l<o/\c<=hint-l/\l<=hint/\x<o) (Q:=λcc st'=>st'=st/\∃l o,cc=(none,l,o)/\c<=hint-l/\l<=hint/\(hint+1<=o\/(o<=hint/\hint-o<c))) ?step ?fin ⟨rfl,0,1,rfl,by lia,by lia,by lia,by lia⟩) ?post)
  case fin=>
   rintro cc st' ⟨rfl,l,o,rfl,g1,g2,g3,g4⟩;exact⟨rfl,l,o,rfl,g2,g3,.inl (by lia)⟩
  case step=>
   rintro x cc st' _ hx ⟨rfl,l,o,rfl,g1,g2,g3,g4⟩;dsimp only;by_cases ho:o>=hint+1
   ·rw[Zx ho];exact Zw ⟨rfl,l,o,rfl,g2,g3,.inl ho⟩
   ·rw[Zk ho];refine Zm (bey (hint-o) _ (by lia) ?_);by_cases hm:hint-o<c
    ·rw[Zu hm];exact Zw ⟨rfl,l,o,rfl,g2,g3,.inr ⟨by lia,hm⟩⟩
    ·rw[Zn hm];exact Zw ⟨rfl,o,2*o+1,rfl,by lia,by lia,by lia,by lia⟩
  case post=>
   rintro cc st' ⟨rfl,l,o,rfl,g2,g3,g5⟩;dsimp only;refine fin (hint+1-min o (hint+1)) (hint-l) (by lia) (by lia) (by lia) _ _ (λx lo hi jA hn' Q' hq=>?_) (λx lo hi w4=>?_) (λlo hi=>rfl)
   ·dsimp only;rw[Zk (by lia)];exact go x lo hi jA hn' Q' hq _ (λb=>rfl)
   ·dsimp only;rw[Zx w4]
end
def SrtK (κ:KeyKind) (xs:Array Keyed) (lo hi:Nat):Prop:=∀i j,lo<=i->i<=j->j<hi->κ.kle (KK κ xs i) (KK κ xs j)
structure Mv (st st':SortSt) (lo hi:Nat):Prop where
 perm:(arrOf st').Perm (arrOf st)
 kind:kindOf st'=kindOf st
 fail:failedOf st'=failedOf st
 pend:pendingOf st'=pendingOf st
 out:∀k:Nat,k<lo\/hi<=k->(arrOf st')[k]?=(arrOf st)[k]?
theorem Mv.refl (st:SortSt) (lo hi:Nat):Mv st st lo hi:=⟨.refl _,rfl,rfl,rfl,λ_ _=>rfl⟩
theorem Mv.trans {a b c:SortSt}{lo hi:Nat}(h:Mv a b lo hi) (k:Mv b c lo hi):Mv a c lo hi:=
 ⟨k.perm.trans h.perm,k.kind.trans h.kind,k.fail.trans h.fail,k.pend.trans h.pend,λi hi=>(k.out i hi).trans (h.out i hi)⟩
theorem Mv.size {a b:SortSt}{lo hi:Nat}(h:Mv a b lo hi):(arrOf b).size=(arrOf a).size:=h.perm.size_eq
theorem qh4 {κ:KeyKind}{xs ys:Array Keyed}(h:KeysOf κ ys) (p:xs.Perm ys):KeysOf κ xs:=λq hq=>h q ((Wk.mp p).mem_iff.mp hq)
theorem xg8 {κ:KeyKind}{xs:Array Keyed}(h:KeysOf κ xs){i:Nat}(hi:i<xs.size):∃x p a,xs[i]?=some (x,p)/\κ.keyOf x=some a/\KK κ xs i=a:=by
 obtain⟨a,ha⟩:=h xs[i] (by simp);have e:xs[i]?=some xs[i]:=ZL _ i hi;refine⟨xs[i].1,xs[i].2,a,by rw[e],ha,?_⟩;unfold KK;rw[e];simp[ha]
section
variable {prog:Program}{w:World}{A:Around}{E:Value->Shared->Prop}{s:Shared}{κ:KeyKind}
theorem qp5 {kd:SortKind}(hO:KLt prog w A s κ kd){st:SortSt}{i j:Nat}{Q:Option Bool->SortSt->Prop}(hk:kindOf st=kd) (h0:KeysOf κ (arrOf st)) (hi:i<(arrOf st).size) (hj:j<(arrOf st).size)
  (h:Q (some (κ.blt (KK κ (arrOf st) i) (KK κ (arrOf st) j))) st):wpS (model prog w) A E s (ltAt' i j) Q st:=by
 obtain⟨x,p,a,e1,e2,e3⟩:=xg8 h0 hi;obtain⟨y,q,b,f1,f2,f3⟩:=xg8 h0 hj;rw[e3,f3] at h;rw[ltAt'_eq];refine Zm (W3 ?_);exact Zm (qb6 e1 (Zm (qb6 f1 (qv2 hO hk e2 f2 h))))
theorem xb7 {kd:SortKind}(hO:KLt prog w A s κ kd){st:SortSt}{lo n ok:Nat}{Q:Bool->SortSt->Prop}(hk:kindOf st=kd) (h0:KeysOf κ (arrOf st)) (hn:lo+n<=(arrOf st).size) (hok:ok<=n) (hs:SrtK κ (arrOf st) lo (lo+ok))
  (h:∀st',Mv st st' lo (lo+n)->SrtK κ (arrOf st') lo (lo+n)->Q true st'):wpS (model prog w) A E s (binarySort' lo n ok) Q st:=by
 refine Zm (Wu (Y5 (I:=λk c st'=>c=(none,())/\Mv st st' lo (lo+n)/\SrtK κ (arrOf st') lo (lo+min k n)) (Q:=λc st'=>c=(none,())/\Mv st st' lo (lo+n)/\SrtK κ (arrOf st') lo (lo+n)) ?step ?fin ?init) ?post)
 case post=>
  rintro c st' ⟨rfl,m,o⟩;exact Zw (h st' m o)
 case init=>
  refine⟨rfl,Mv.refl _ _ _,λi j h1 h2 h3=>?_⟩;by_cases z:ok=0
  ·have:i=j:=by lia
   rw[this];exact YM _
  ·exact hs i j h1 h2 (by lia)
 case fin=>
  rintro c st' ⟨rfl,m,o⟩;exact⟨rfl,m,λi j h1 h2 h3=>o i j h1 h2 (by lia)⟩
 case step=>
  rintro k c st1 hk1 hkn ⟨rfl,m1,o1⟩;have hsz:lo+k<(arrOf st1).size:=by rw[m1.size];lia
  have hk':kindOf st1=kd:=m1.kind.trans hk;have h0':KeysOf κ (arrOf st1):=qh4 h0 m1.perm;have o2:SrtK κ (arrOf st1) lo (lo+k):=λi j h1 h2 h3=>o1 i j h1 h2 (by lia);refine Zm (Wu (Y5 (I:=λx c st2=>st2=st1/\∃l r,c=(none,l,r)/\l<=r/\r<=k/\r-l<=k-x/\(∀i,i<l->κ.kle (KK κ (arrOf st1) (lo+i)) (KK κ (arrOf st1) (lo+k)))/\(∀i,r<=i->i<k->κ.klt (KK κ (arrOf st1) (lo+k)) (KK κ (arrOf st1) (lo+i))))
   (Q:=λc st2=>st2=st1/\∃l r,c=(none,l,r)/\l<=k/\(∀i,i<l->κ.kle (KK κ (arrOf st1) (lo+i)) (KK κ (arrOf st1) (lo+k)))/\(∀i,l<=i->i<k->κ.klt (KK κ (arrOf st1) (lo+k)) (KK κ (arrOf st1) (lo+i)))) ?istep ?ifin ⟨rfl,0,k,rfl,by lia,by lia,by lia,λi hi=>by lia,λi h1 h2=>by lia⟩) ?ipost)
  case ifin=>
   rintro c st2 ⟨rfl,l,r,rfl,g1,g2,g3,g4,g5⟩;have:r=l:=by lia
   exact⟨rfl,l,r,rfl,by lia,g4,by rw[this] at g5;exact g5⟩
  case istep=>
   rintro x c st2 _ hx ⟨rfl,l,r,rfl,g1,g2,g3,g4,g5⟩;dsimp only;by_cases w4:l>=r
   ·rw[Zx w4];have:r=l:=by lia
    exact Zw ⟨rfl,l,r,rfl,by lia,g4,by rw[this] at g5;exact g5⟩
   ·rw[Zk w4];refine Zm (qp5 hO hk' h0' hsz (show lo+(l+r)/2<_ by lia) ?_);cases hb:κ.blt (KK κ (arrOf st2) (lo+k)) (KK κ (arrOf st2) (lo+(l+r)/2))
    ·refine Zw ⟨rfl,(l+r)/2+1,r,rfl,by lia,by lia,by lia,λi hi=>?_,g5⟩;exact ZQ (o2 (lo+i) (lo+(l+r)/2) (by lia) (by lia) (by lia)) (show κ.kle _ _ from hb)
    ·refine Zw ⟨rfl,l,(l+r)/2,rfl,by lia,by lia,by lia,g4,λi h1 h2=>?_⟩;exact Wv hb (o2 (lo+(l+r)/2) (lo+i) (by lia) (by lia) (by lia))
  case ipost=>
   rintro c st2 ⟨rfl,l,r,rfl,g1,g4,g5⟩;dsimp only;have ed:lo+k-(lo+l)=k-l:=by lia
   have es:lo+k-(k-l)=lo+l:=by lia
   refine Zm (m:=moveDown' (lo+k) (lo+l)) ?_;rw[moveDown'_eq];refine XA (Zw ⟨rfl,m1.trans ⟨bubble_perm _ _ _,rfl,rfl,rfl,λi hi=>?_⟩,λi j h1 h2 h3=>?_⟩)
   ·show (bubble (arrOf st2) (lo+k) (lo+k-(lo+l)))[i]?=_;rw[ed,getElem?_bubble hsz _ (by lia),es,Zk (by lia),Zk (by lia)]
   ·show κ.kle (KK κ (bubble (arrOf st2) (lo+k) (lo+k-(lo+l))) i) (KK κ (bubble (arrOf st2) (lo+k) (lo+k-(lo+l))) j);have h3':j<lo+(k+1):=by lia
    have low:∀i,lo<=i->i<lo+l->κ.kle (KK κ (arrOf st2) i) (KK κ (arrOf st2) (lo+k)):=λi a b=>by
     have:=g4 (i-lo) (by lia)
     rwa [show lo+(i-lo)=i by lia] at this
    have high:∀i,lo+l<=i->i<lo+k->κ.kle (KK κ (arrOf st2) (lo+k)) (KK κ (arrOf st2) i):=λi a b=>by
     have:=Z4 (g5 (i-lo) (by lia) (by lia))
     rwa [show lo+(i-lo)=i by lia] at this
    rw[ed,KK_bubble hsz (by lia),KK_bubble hsz (by lia),es]
    repeat' split
    all_goals first
     |(exfalso;lia)
     |exact YM _
     |exact low _ (by lia) (by lia)
     |exact high _ (by lia) (by lia)
     |exact o2 _ _ (by lia) (by lia) (by lia)
theorem qN3 {kd:SortKind}(hO:KLt prog w A s κ kd){st:SortSt}{lo a nrem:Nat}{Q:Option (Option Nat)×Nat->SortSt->Prop}(hk:kindOf st=kd) (h0:KeysOf κ (arrOf st)) (hn:lo+nrem<=(arrOf st).size) (ha:1<=a) (han:a<=nrem) (hs:SrtK κ (arrOf st) lo (lo+a))
  (h:∀n,a<=n->n<=nrem->SrtK κ (arrOf st) lo (lo+n)->(n=nrem\/κ.klt (KK κ (arrOf st) (lo+n)) (KK κ (arrOf st) (lo+n-1)))->Q (none,n) st)
  (f:Nat->Option (Option Nat)×Nat->StateT SortSt Sem (ForInStep (Option (Option Nat)×Nat)))
  (hf:∀x n (Q':ForInStep (Option (Option Nat)×Nat)->SortSt->Prop),lo+n<(arrOf st).size->1<=n->Q' (if κ.blt (KK κ (arrOf st) (lo+n)) (KK κ (arrOf st) (lo+n-1))=true then .done (none,n) else .yield (none,n+1)) st->wpS (model prog w) A E s (f x (none,n)) Q' st) :
  wpS (model prog w) A E s (forIn [a:nrem] (none,a) f) Q st:=by
 refine Wu (Y5 (I:=λx c st'=>st'=st/\c=(none,x)/\a<=x/\x<=nrem/\SrtK κ (arrOf st) lo (lo+x)) (Q:=λc st'=>st'=st/\∃n,c=(none,n)/\a<=n/\n<=nrem/\SrtK κ (arrOf st) lo (lo+n)/\(n=nrem\/κ.klt (KK κ (arrOf st) (lo+n)) (KK κ (arrOf st) (lo+n-1)))) ?step ?fin ⟨rfl,rfl,Ze _,han,hs⟩) ?post
 case post=>
  rintro c st' ⟨rfl,n,rfl,g1,g2,g3,g4⟩;exact h n g1 g2 g3 g4
 case fin=>
  rintro c st' ⟨rfl,rfl,g1,g2,g3⟩;exact⟨rfl,_,rfl,g1,g2,g3,.inl (by lia)⟩
 case step=>
  rintro x c st' h1 h2 ⟨rfl,rfl,g1,g2,g3⟩;refine hf x x _ (by lia) (by lia) ?_;cases hb:κ.blt (KK κ (arrOf st') (lo+x)) (KK κ (arrOf st') (lo+x-1))
  ·refine⟨rfl,rfl,by lia,by lia,λi j h3 h4 h5=>?_⟩;by_cases hj:j=lo+x
   ·by_cases hi:i=lo+x
    ·rw[hi,hj];exact YM _
    ·rw[hj];exact ZQ (g3 i (lo+x-1) h3 (by lia) (by lia)) (show κ.kle _ _ from hb)
   ·exact g3 i j h3 h4 (by lia)
  ·exact⟨rfl,x,rfl,g1,g2,g3,.inr hb⟩
end
def qF7 (κ:KeyKind) (xs:Array Keyed) (lo m:Nat):Prop:=∀i j,lo<=i->i<=j->j<lo+m->κ.kle (KK κ xs j) (KK κ xs i)
def EqK (κ:KeyKind) (xs:Array Keyed) (lo m q:Nat):Prop:=∀i,lo+m-(q+1)<=i->i<lo+m->KK κ xs i=KK κ xs (lo+m-1)
section
variable {prog:Program}{w:World}{A:Around}{E:Value->Shared->Prop}{s:Shared}{κ:KeyKind}
theorem qr9 {st:SortSt}{i j:Nat}{Q:Unit->SortSt->Prop}(h:Q () (setArr st (mirror (arrOf st) i j ((j-i)/2)))):wpS (model prog w) A E s (reverseSlice' i j) Q st:=by
 rw[reverseSlice'_eq];exact XA h
theorem Mv.rev {st st':SortSt}{lo hi i j:Nat}(h:Mv st st' lo hi) (hi1:lo<=i) (hj:j<=hi) (hs:j<=(arrOf st').size):Mv st (setArr st' (mirror (arrOf st') i j ((j-i)/2))) lo hi:=
 h.trans ⟨mirror_perm _ _ _ _,rfl,rfl,rfl,λk hk=>by
  show (mirror (arrOf st') i j ((j-i)/2))[k]?=_;rw[getElem?_mirror_all hs,Zk (by lia)]⟩
theorem xb8 {st:SortSt}{lo m:Nat}(h:qF7 κ (arrOf st) lo m) (hs:lo+m<=(arrOf st).size):SrtK κ (arrOf (setArr st (mirror (arrOf st) lo (lo+m) ((lo+m-lo)/2)))) lo (lo+m):=λi j h1 h2 h3=>by
 show κ.kle (KK κ (mirror (arrOf st) lo (lo+m) ((lo+m-lo)/2)) i) (KK κ (mirror (arrOf st) lo (lo+m) ((lo+m-lo)/2)) j);rw[KK_mirror hs,KK_mirror hs,Zx (by lia),Zx (by lia)];exact h _ _ (by lia) (by lia) (by lia)
theorem xg9 {st:SortSt}{lo m q:Nat}(h:EqK κ (arrOf st) lo m q) (hs:lo+m<=(arrOf st).size) (k:Nat):KK κ (arrOf (setArr st (mirror (arrOf st) (lo+m-(q+1)) (lo+m) ((lo+m-(lo+m-(q+1)))/2)))) k=KK κ (arrOf st) k:=
 KK_mirror_equal (xs:=arrOf st) hs (λi h1 h2=>h i h1 h2) k
theorem xm3 {G0:Prop}{P G:SortSt->Prop}(a:(∀m,P m->G m)->G0) (b:∀m,P m->G m):G0:=a b
theorem xb9 {kd:SortKind}(hO:KLt prog w A s κ kd){st:SortSt}{lo nrem:Nat}{Q:Option Nat->SortSt->Prop}(hk:kindOf st=kd) (h0:KeysOf κ (arrOf st)) (hn:lo+nrem<=(arrOf st).size) (h1:1<=nrem)
  (h:∀m st',1<=m->m<=nrem->Mv st st' lo (lo+nrem)->SrtK κ (arrOf st') lo (lo+m)->Q (some m) st'):wpS (model prog w) A E s (countRun' lo nrem) Q st:=by
 refine Zm (qN3 hO hk h0 hn (Ze 1) h1 ?_ (λn g1 g2 g3 g4=>?_) _ (λx n Q' e1 e2 hq=>?_))
 ·intro i j a b c;have:i=j:=by lia
  rw[this];exact YM _
 ·dsimp only;by_cases hnn:n=nrem
  ·rw[Zx (by simp[hnn])];exact Zw (h n st g1 g2 (Mv.refl _ _ _) g3)
  ·rw[Zk (by simp[hnn])];have jA:κ.klt (KK κ (arrOf st) (lo+n)) (KK κ (arrOf st) (lo+n-1)):=g4.resolve_left hnn;refine' xm3 (P:=λst1=>Mv st st1 lo (lo+nrem)/\qF7 κ (arrOf st1) lo (n+1)) (G:=_) (λkey=>?ka) (λst1 hP=>?kb)
   case ka=>
    by_cases hn1:n>1
    case pos=>
     rw[Zx hn1];refine Zm (qp5 hO hk h0 (by lia) (by lia) ?_);cases hb:κ.blt (KK κ (arrOf st) lo) (KK κ (arrOf st) (lo+n-1))
     case true=>exact Zw (h n st g1 g2 (Mv.refl _ _ _) g3)
     dsimp only;rw[Zk (by decide)];refine Zm (qr9 ?_);have mv:=(Mv.refl st lo (lo+nrem)).rev (i:=lo) (j:=lo+n) (Ze _) (by lia) (by lia);have alle:∀i,lo<=i->i<lo+n->KK κ (arrOf st) i=KK κ (arrOf st) (lo+n-1):=λi a b=>
      KeyOrd.kle_antisymm (g3 i (lo+n-1) a (by lia) (by lia)) (ZQ (show κ.kle _ _ from hb) (g3 lo i (Ze _) a b))
     have kk:∀k,KK κ (arrOf (setArr st (mirror (arrOf st) lo (lo+n) ((lo+n-lo)/2)))) k=KK κ (arrOf st) k:=KK_mirror_equal (xs:=arrOf st) (by lia) alle;have hf:qF7 κ (arrOf (setArr st (mirror (arrOf st) lo (lo+n) ((lo+n-lo)/2)))) lo (n+1):=λi j a b c=>by
      rw[kk,kk];by_cases ej:j=lo+n
      ·by_cases ei:i=lo+n
       ·rw[ei,ej];exact YM _
       ·rw[ej,alle i a (by lia)];exact Z4 jA
      ·rw[alle i a (by lia),alle j (by lia) (by lia)];exact YM _
     generalize setArr st (mirror (arrOf st) lo (lo+n) ((lo+n-lo)/2))=st1 at mv hf ⊢;exact key st1 ⟨mv,hf⟩
    case neg=>
     rw[Zk hn1];have hf:qF7 κ (arrOf st) lo (n+1):=λi j a b c=>by
      by_cases e:i=j
      ·rw[e];exact YM _
      ·have e1:i=lo+n-1:=by lia
       have e2:j=lo+n:=by lia
       rw[e1,e2];exact Z4 jA
     have mv:=Mv.refl st lo (lo+nrem);exact key st ⟨mv,hf⟩
   case kb=>
    obtain⟨mv,hf⟩:=hP;refine Zm (VU (Xd ⟨rfl,?_⟩));refine Zm (Wu (Y5 (I:=λx c st2=>∃q,c=(none,x,q)/\Mv st st2 lo (lo+nrem)/\n+1<=x/\x<=nrem/\qF7 κ (arrOf st2) lo x/\EqK κ (arrOf st2) lo x q/\q+1<=x) (Q:=λc st2=>∃m q,c=(none,m,q)/\Mv st st2 lo (lo+nrem)/\n+1<=m/\m<=nrem/\qF7 κ (arrOf st2) lo m/\EqK κ (arrOf st2) lo m q/\q+1<=m) ?step ?fin ?init) ?post)
    case init=>
     refine⟨0,rfl,mv,Ze _,by lia,hf,λi a b=>?_,by lia⟩;rw[show i=lo+(n+1)-1 by lia]
    case fin=>
     rintro c st2 ⟨q,rfl,r1,r2,r3,r4,r5,r6⟩;exact⟨_,q,rfl,r1,r2,r3,r4,r5,r6⟩
    case step=>
     rintro x c st2 a b ⟨q,rfl,m2,c1,c2,f2,e2,c3⟩;dsimp only;have hk2:=m2.kind.trans hk;have h02:=qh4 h0 m2.perm;have sz2:=m2.size;refine Zm (qp5 hO hk2 h02 (by lia) (by lia) ?_);cases hb:κ.blt (KK κ (arrOf st2) (lo+x)) (KK κ (arrOf st2) (lo+x-1))
     ·dsimp only;rw[Zk (by decide)];refine Zm (qp5 hO hk2 h02 (by lia) (by lia) ?_);cases vI:κ.blt (KK κ (arrOf st2) (lo+x-1)) (KK κ (arrOf st2) (lo+x))
      ·dsimp only;rw[Zk (by decide)];have eqk:KK κ (arrOf st2) (lo+x)=KK κ (arrOf st2) (lo+x-1):=κ.total _ _ hb vI;refine Zw ⟨q+1,rfl,m2,by lia,by lia,λi j d1 d2 d3=>?_,λi d1 d2=>?_,by lia⟩
       ·by_cases ej:j=lo+x
        ·by_cases ei:i=lo+x
         ·rw[ei,ej];exact YM _
         ·rw[ej,eqk];exact f2 i (lo+x-1) d1 (by lia) (by lia)
        ·exact f2 i j d1 d2 (by lia)
       ·rw[show lo+(x+1)-1=lo+x by lia];by_cases ei:i=lo+x
        ·rw[ei]
        ·rw[eqk];exact e2 i (by lia) (by lia)
      ·exact Zw ⟨x,q,rfl,m2,c1,c2,f2,e2,c3⟩
     ·dsimp only;rw[Zx rfl];have nf:∀st3:SortSt,(∀k,KK κ (arrOf st3) k=KK κ (arrOf st2) k)->qF7 κ (arrOf st3) lo (x+1):=λst3 kk i j d1 d2 d3=>by
       rw[kk,kk];by_cases ej:j=lo+x
       ·by_cases ei:i=lo+x
        ·rw[ei,ej];exact YM _
        ·rw[ej];exact ZQ (Z4 hb) (f2 i (lo+x-1) d1 (by lia) (by lia))
       ·exact f2 i j d1 d2 (by lia)
      have ne:∀st3:SortSt,EqK κ (arrOf st3) lo (x+1) 0:=λst3 i d1 d2=>by rw[show i=lo+(x+1)-1 by lia]
      by_cases hq:q>0
      ·rw[Zx hq];exact Zm (qr9 (Zw ⟨0,rfl,m2.rev (by lia) (by lia) (by lia),by lia,by lia,nf _ (xg9 e2 (by lia)),ne _,by lia⟩))
      ·rw[Zk hq];exact Zw ⟨0,rfl,m2,by lia,by lia,nf _ (λ_=>rfl),ne _,by lia⟩
    case post=>
     rintro c st2 ⟨m,q,rfl,m2,c1,c2,f2,e2,c3⟩;dsimp only;have sz2:=m2.size;by_cases hq:q>0
     case' neg=>
      rw[Zk hq];have m3:=m2;have f3:=f2;generalize st2=st3 at m3 f3 ⊢
     case' pos=>
      rw[Zx hq];refine Zm (qr9 ?_);have m3:=m2.rev (i:=lo+m-(q+1)) (j:=lo+m) (by lia) (by lia) (by lia);have kk:=xg9 e2 (by lia);have f3:qF7 κ (arrOf (setArr st2 (mirror (arrOf st2) (lo+m-(q+1)) (lo+m) ((lo+m-(lo+m-(q+1)))/2)))) lo m:=λi j d1 d2 d3=>by rw[kk,kk];exact f2 i j d1 d2 d3
      generalize setArr st2 (mirror (arrOf st2) (lo+m-(q+1)) (lo+m) ((lo+m-(lo+m-(q+1)))/2))=st3 at m3 f3 ⊢
     all_goals
      refine Zm (qr9 ?_);have m4:=m3.rev (i:=lo) (j:=lo+m) (Ze _) (by lia) (by rw[m3.size];lia);have o4:=xb8 f3 (by rw[m3.size];lia);have hk4:=m4.kind.trans hk;have h04:=qh4 h0 m4.perm;have z4:=m4.size;generalize setArr st3 (mirror (arrOf st3) lo (lo+m) ((lo+m-lo)/2))=st4 at m4 o4 hk4 h04 z4 ⊢;refine Zm (qN3 hO hk4 h04 (by lia) (show 1<=m by lia) c2 o4 (λk k1 k2 k3 _=>?_) _ (λx k Q' e1 e2 hq=>?_))
      ·exact Zw (h k st4 (by lia) k2 m4 k3)
      ·refine Zm (qp5 hO hk4 h04 e1 (by lia) ?_);cases hb:κ.blt (KK κ (arrOf st4) (lo+k)) (KK κ (arrOf st4) (lo+k-1))
       ·rw[hb] at hq;exact Zw hq
       ·rw[hb] at hq;exact Zw hq
 ·refine Zm (qp5 hO hk h0 e1 (by lia) ?_);cases hb:κ.blt (KK κ (arrOf st) (lo+n)) (KK κ (arrOf st) (lo+n-1))
  ·rw[hb] at hq;exact Zw hq
  ·rw[hb] at hq;exact Zw hq
end
def kv (κ:KeyKind) (p:Keyed):κ.α:=(κ.keyOf p.1).getD κ.dflt
def Asc (κ:KeyKind) (l:List Keyed):Prop:=l.Pairwise λx y=>κ.kle (kv κ x) (kv κ y)
structure Mg (κ:KeyKind) (all out a b:List Keyed):Prop where
 perm:(out++(a++b)).Perm all
 so:Asc κ out
 sa:Asc κ a
 sb:Asc κ b
 la:∀x∈out,∀y∈a,κ.kle (kv κ x) (kv κ y)
 lb:∀x∈out,∀y∈b,κ.kle (kv κ x) (kv κ y)
theorem Mg.takeA {κ:KeyKind}{all out a b:List Keyed}{x:Keyed}(m:Mg κ all out (x::a) b) (h:∀y∈b,κ.kle (kv κ x) (kv κ y)):Mg κ all (out++[x]) a b where
 perm:=by simpa using m.perm
 so:=YO.mpr ⟨m.so,by simp,λp hp q hq=>by
  have:q=x:=by simpa using hq
  rw[this];exact m.la p hp x (by simp)⟩
 sa:=(Xl.mp m.sa).2
 sb:=m.sb
 la:=λp hp y hy=>by
  rcases Z5.mp hp with z|z
  ·exact m.la p z y (Zl _ hy)
  ·have:p=x:=by simpa using z
   rw[this];exact (Xl.mp m.sa).1 y hy
 lb:=λp hp y hy=>by
  rcases Z5.mp hp with z|z
  ·exact m.lb p z y hy
  ·have:p=x:=by simpa using z
   rw[this];exact h y hy
theorem Mg.swap {κ:KeyKind}{all out a b:List Keyed}(m:Mg κ all out a b):Mg κ all out b a where
 perm:=(WY out List.perm_append_comm).trans m.perm
 so:=m.so
 sa:=m.sb
 sb:=m.sa
 la:=m.lb
 lb:=m.la
theorem Mg.takeB {κ:KeyKind}{all out a b:List Keyed}{x:Keyed}(m:Mg κ all out a (x::b)) (h:∀y∈a,κ.kle (kv κ x) (kv κ y)):Mg κ all (out++[x]) a b:=(m.swap.takeA h).swap
theorem Mg.doneB {κ:KeyKind}{all out a:List Keyed}(m:Mg κ all out a []):(out++a).Perm all/\Asc κ (out++a):=
 ⟨by simpa using m.perm,YO.mpr ⟨m.so,m.sa,m.la⟩⟩
theorem Mg.doneAB {κ:KeyKind}{all out a b:List Keyed}(m:Mg κ all out a b) (h:∀y∈b,∀x∈a,κ.kle (kv κ y) (kv κ x)):(out++(b++a)).Perm all/\Asc κ (out++(b++a)):=
 ⟨m.swap.perm,YO.mpr ⟨m.so,YO.mpr ⟨m.sb,m.sa,h⟩,λx hx y hy=>(Z5.mp hy).elim (m.lb x hx y) (m.la x hx y)⟩⟩
def xc0:Array Keyed->Array Keyed->StateT SortSt Sem (Array Keyed):=sortPriv% PySem.Builtin.mergeLo
abbrev qo2 (st:SortSt) (g:Nat):SortSt:=SortSt.mk' (kindOf st) (arrOf st) (pendingOf st) g (failedOf st)
theorem Mg.takesA {κ:KeyKind}{all b:List Keyed}:∀{out l a:List Keyed},Mg κ all out (l++a) b->(∀x∈l,∀y∈b,κ.kle (kv κ x) (kv κ y))->Mg κ all (out++l) a b
 |out,[],a,m,_=>by rw[YT];exact m
 |out,x::l,a,m,h=>by
  have:=(m.takeA (λy hy=>h x (by simp) y hy)).takesA (λz hz=>h z (by simp[hz]))
  rwa [Yo] at this
theorem Mg.takesB {κ:KeyKind}{all out l a b:List Keyed}(m:Mg κ all out a (l++b)) (h:∀x∈l,∀y∈a,κ.kle (kv κ x) (kv κ y)):Mg κ all (out++l) a b:=(m.swap.takesA h).swap
theorem qF8 {p:Nat->Bool}:∀n:Nat,(∀i j,i<=j->j<n->p j=true->p i=true)->∃c,c<=n/\∀i,i<n->p i=decide (i<c)
 |0,_=>⟨0,Ze _,λi hi=>absurd hi (Xp _)⟩
 |n+1,h=>by
  obtain⟨c,c1,c2⟩:=qF8 n (λi j a b e=>h i j a (by lia) e);cases e:p n with
  |true=>
   exact⟨n+1,Ze _,λi hi=>by rw[h i n (by lia) (by lia) e,Zu hi]⟩
  |false=>
   refine⟨c,by lia,λi hi=>?_⟩;by_cases en:i=n
   ·rw[en,e,Zn (by lia)]
   ·exact c2 i (by lia)
theorem q40 {a:Array Keyed}{i:Nat}(h:i<a.size):a.toList.drop i=a[i]::a.toList.drop (i+1):=by
 rw[Wr (by simpa using h)];simp
theorem qo3 {κ:KeyKind}{a:Array Keyed}(h:KeysOf κ a){i:Nat}(hi:i<a.size):κ.keyOf a[i].1=some (kv κ a[i]):=by
 obtain⟨x,e⟩:=h a[i] (by simp);rw[e];unfold kv;rw[e];rfl
theorem qh5 {κ:KeyKind}{a:Array Keyed}(h:Asc κ a.toList){i j:Nat}(jX:i<=j) (hj:j<a.size):κ.kle (kv κ a[i]) (kv κ a[j]):=by
 rcases Nat.lt_or_eq_of_le jX with z|z
 ·have:=Xo.mp h i j (by simp;lia) (by simpa using hj) z;simpa using this
 ·subst z;exact YM _
theorem qk5 {a:Array Keyed}{i:Nat}{x:Keyed}(h:x∈a.toList.drop i):∃j,∃hj:j<a.size,i<=j/\a[j]=x:=by
 obtain⟨k,hk,e⟩:=XF h;have hk':i+k<a.size:=by simp at hk;lia
 exact⟨i+k,hk',by lia,by rw[<- e];simp⟩
theorem qF9 {κ:KeyKind}{a:Array Keyed}(ka:KeysOf κ a) (sa:Asc κ a.toList) (k:κ.α){base n:Nat}(hn:base+n<=a.size) :
  ∃c,c<=n/\(∀i,i<n->∃x y,a[base+i]?=some x/\κ.keyOf x.1=some y/\asks false k y=decide (i<c))/\∀i,(h:base+i<a.size)->i<n->(i<c->κ.kle (kv κ a[base+i]) k)/\(c<=i->κ.klt k (kv κ a[base+i])):=by
 have key:∀i,(h:base+i<a.size)->KK κ a (base+i)=kv κ a[base+i]:=λi h=>by unfold KK kv;rw[ZL a _ h]
 obtain⟨c,c1,c2⟩:=qF8 (p:=λi=>!κ.blt k (KK κ a (base+i))) n (λi j jX hj e=>by
  simp only[WS] at e ⊢;rw[key _ (by lia)] at e ⊢;exact ZQ (qh5 sa (by lia) (by lia)) e)
 refine⟨c,c1,λi hi=>⟨_,_,ZL a _ (by lia),qo3 ka (by lia),?_⟩,λi h hi=>⟨λhc=>?_,λhc=>?_⟩⟩
 ·rw[<- c2 i hi,key i (by lia)];rfl
 ·have e:=c2 i hi;rw[key i h,Zu hc] at e;exact (WS _).mp e
 ·have e:=c2 i hi;rw[key i h,Zn (by lia)] at e;exact (Bool.not_eq_false' _).mp e
theorem qN4 {κ:KeyKind}{a:Array Keyed}(ka:KeysOf κ a) (sa:Asc κ a.toList) (k:κ.α){base n:Nat}(hn:base+n<=a.size) :
  ∃c,c<=n/\(∀i,i<n->∃x y,a[base+i]?=some x/\κ.keyOf x.1=some y/\asks true k y=decide (i<c))/\∀i,(h:base+i<a.size)->i<n->(i<c->κ.klt (kv κ a[base+i]) k)/\(c<=i->κ.kle k (kv κ a[base+i])):=by
 have key:∀i,(h:base+i<a.size)->KK κ a (base+i)=kv κ a[base+i]:=λi h=>by unfold KK kv;rw[ZL a _ h]
 obtain⟨c,c1,c2⟩:=qF8 (p:=λi=>κ.blt (KK κ a (base+i)) k) n (λi j jX hj e=>by
  rw[key _ (by lia)] at e ⊢;exact KeyOrd.klt_of_kle_of_klt (qh5 sa (by lia) (by lia)) e)
 refine⟨c,c1,λi hi=>⟨_,_,ZL a _ (by lia),qo3 ka (by lia),?_⟩,λi h hi=>⟨λhc=>?_,λhc=>?_⟩⟩
 ·rw[<- c2 i hi,key i (by lia)];rfl
 ·have e:=c2 i hi;rw[key i h,Zu hc] at e;exact e
 ·have e:=c2 i hi;rw[key i h,Zn (by lia)] at e;exact e
def Mp (κ:KeyKind) (a b out:Array Keyed) (ia ib:Nat):Prop:=Mg κ (a.toList++b.toList) out.toList (a.toList.drop ia) (b.toList.drop ib)
abbrev Rd (κ:KeyKind) (a b out:Array Keyed):Prop:=out.toList.Perm (a.toList++b.toList)/\Asc κ out.toList
section
variable {κ:KeyKind}{a b out:Array Keyed}{ia ib:Nat}
theorem Mp.ta (sb:Asc κ b.toList) (m:Mp κ a b out ia ib) (vY:ia<a.size) (vG:ib<b.size) (h:κ.kle (kv κ a[ia]) (kv κ b[ib])):Mp κ a b (out.push a[ia]) (ia+1) ib:=by
 unfold Mp at m ⊢;rw[q40 vY] at m;rw[Xa];refine m.takeA λy hy=>?_;obtain⟨j,hj,h1,rfl⟩:=qk5 hy;exact ZQ h (qh5 sb h1 hj)
theorem Mp.tb (sa:Asc κ a.toList) (m:Mp κ a b out ia ib) (vY:ia<a.size) (vG:ib<b.size) (h:κ.kle (kv κ b[ib]) (kv κ a[ia])):Mp κ a b (out.push b[ib]) ia (ib+1):=by
 unfold Mp at m ⊢;rw[q40 vG] at m;rw[Xa];refine m.takeB λy hy=>?_;obtain⟨j,hj,h1,rfl⟩:=qk5 hy;exact ZQ h (qh5 sa h1 hj)
theorem qN5 {a:Array Keyed}{i k:Nat}(h:i+k<=a.size):a.toList.drop i=(a.extract i (i+k)).toList++a.toList.drop (i+k):=by
 rw[Xs,List.extract_eq_drop_take,<- V8,show i+k-i=k by lia,YY]
theorem q41 {a:Array Keyed}{i k:Nat}(h:i+k<=a.size){x:Keyed}(hx:x∈(a.extract i (i+k)).toList):∃j,∃hj:i+j<a.size,j<k/\a[i+j]=x:=by
 obtain⟨j,hj,e⟩:=XF hx;have hj':j<k:=by simp at hj;lia
 exact⟨j,by lia,hj',by rw[<- e];simp⟩
theorem Mp.as (sb:Asc κ b.toList) (m:Mp κ a b out ia ib){k:Nat}(hk:ia+k<=a.size) (vG:ib<b.size) (h:∀i,(hi:ia+i<a.size)->i<k->κ.kle (kv κ a[ia+i]) (kv κ b[ib])):Mp κ a b (out++a.extract ia (ia+k)) (ia+k) ib:=by
 unfold Mp at m ⊢;rw[qN5 hk] at m;rw[Yb];refine m.takesA λx hx y hy=>?_;obtain⟨i,hi,wU,rfl⟩:=q41 hk hx;obtain⟨j,hj,h1,rfl⟩:=qk5 hy;exact ZQ (h i hi wU) (qh5 sb h1 hj)
theorem Mp.bs (sa:Asc κ a.toList) (m:Mp κ a b out ia ib){k:Nat}(hk:ib+k<=b.size) (vY:ia<a.size) (h:∀i,(hi:ib+i<b.size)->i<k->κ.kle (kv κ b[ib+i]) (kv κ a[ia])):Mp κ a b (out++b.extract ib (ib+k)) ia (ib+k):=by
 unfold Mp at m ⊢;rw[qN5 hk] at m;rw[Yb];refine m.takesB λx hx y hy=>?_;obtain⟨i,hi,wU,rfl⟩:=q41 hk hx;obtain⟨j,hj,h1,rfl⟩:=qk5 hy;exact ZQ (h i hi wU) (qh5 sa h1 hj)
theorem qA5 {a:Array Keyed}{i:Nat}:(a.extract i a.size).toList=a.toList.drop i:=by
 rw[Xs,List.extract_eq_drop_take,Yq (by simp)]
theorem Mp.done (m:Mp κ a b out ia ib) (h:ib=b.size):Rd κ a b (out++a.extract ia a.size++b.extract ib b.size):=by
 unfold Mp at m;have e:b.toList.drop ib=[]:=by rw[h];simp
 rw[e] at m;show (out++a.extract ia a.size++b.extract ib b.size).toList.Perm _/\Asc κ (out++a.extract ia a.size++b.extract ib b.size).toList;rw[Yb,Yb,qA5,qA5,e,YT];exact m.doneB
def ap1 {α:Type}{β:Type _}(f:α->β) (x:α):β:=f x
def ap2 {α γ:Type}{β:Type _}(f:α->γ->β) (x:α) (y:γ):β:=f x y
theorem qc4 {M:Model}{A:Around}{E:Value->Shared->Prop}{s:Shared}{σ α:Type}{c:Prop}[Decidable c]{x y:StateT σ Sem α}{Q:α->σ->Prop}{st:σ}(h:c) (k:wpS M A E s x Q st):wpS M A E s (if c then x else y) Q st:=by rw[Zx h];exact k
theorem qc2 {M:Model}{A:Around}{E:Value->Shared->Prop}{s:Shared}{σ α:Type}{c:Prop}[Decidable c]{x y:StateT σ Sem α}{Q:α->σ->Prop}{st:σ}(h:¬c) (k:wpS M A E s y Q st):wpS M A E s (if c then x else y) Q st:=by rw[Zk h];exact k
theorem qp6 {M:Model}{A:Around}{E:Value->Shared->Prop}{s:Shared}{σ α:Type}{c:Prop}[Decidable c]{x y:StateT σ Sem α}{Q:α->σ->Prop}{st:σ}(h:c->wpS M A E s x Q st) (k:¬c->wpS M A E s y Q st):wpS M A E s (if c then x else y) Q st:=
 if e:c then qc4 e (h e) else qc2 e (k e)
theorem qk6 {M:Model}{A:Around}{E:Value->Shared->Prop}{s:Shared}{σ β γ:Type}{a b:Nat}{f:Nat->β->StateT σ Sem (ForInStep β)}{k:β->StateT σ Sem γ}{Q0:γ->σ->Prop}(I:Nat->β->σ->Prop){Q:β->σ->Prop}
  (step:∀(i:Nat) (c:β) (st:σ),a<=i->i<b->I i c st->wpS M A E s (ap2 f i c) (λr st'=>match r with|ForInStep.done c'=>Q c' st'|ForInStep.yield c'=>I (i+1) c' st') st)
  (fin:∀(c:β) (st:σ),I (max a b) c st->Q c st){c:β}{st:σ}(init:I a c st) (post:∀c' st',Q c' st'->wpS M A E s (ap1 k c') Q0 st'):wpS M A E s (forIn [a:b] c f >>= k) Q0 st:=Zm (Wu (Y5 I step fin init) post)
theorem xh0 {G0:Prop}{P G:Nat->Prop}(a:(∀m,P m->G m)->G0) (b:∀m,P m->G m):G0:=a b
theorem xm4 {G0:Prop}{P G:Nat->Array Keyed->Prop}(a:(∀m o,P m o->G m o)->G0) (b:∀m o,P m o->G m o):G0:=a b
theorem Mp.last (m:Mp κ a b out ia ib) (na:0<a.size) (h2:∀j,(hj:j<b.size)->κ.klt (kv κ b[j]) (kv κ a[a.size-1])) (h:ia+1=a.size):Rd κ a b (out++b.extract ib b.size++a.extract ia a.size):=by
 show (out++b.extract ib b.size++a.extract ia a.size).toList.Perm _/\Asc κ (out++b.extract ib b.size++a.extract ia a.size).toList;rw[Yb,Yb,qA5,qA5,Yo];refine Mg.doneAB m λy hy x hx=>?_;obtain⟨i,hi,h3,rfl⟩:=qk5 hx;obtain⟨j,hj,_,rfl⟩:=qk5 hy;have:i=a.size-1:=by lia
 subst this;exact Z4 (h2 j hj)
end
def LoI (κ:KeyKind) (a b:Array Keyed) (st:SortSt) (x:Nat) (out:Array Keyed) (ia ib:Nat) (st':SortSt):Prop:=(∃g,st'=qo2 st g)/\Mp κ a b out ia ib/\ia+1<a.size/\ib<b.size/\x<=ia+ib
def LoD (κ:KeyKind) (a b:Array Keyed) (st:SortSt) (o:Option (Array Keyed)) (st':SortSt):Prop:=∃r,o=some r/\(∃g,st'=qo2 st g)/\Rd κ a b r
theorem LoI.of {κ:KeyKind}{a b out:Array Keyed}{st:SortSt}{x g ia ib:Nat}(m:Mp κ a b out ia ib) (h1:ia+1<a.size) (h2:ib<b.size) (h3:x<=ia+ib):LoI κ a b st x out ia ib (qo2 st g):=⟨⟨g,rfl⟩,m,h1,h2,h3⟩
theorem LoI.mono {κ:KeyKind}{a b out:Array Keyed}{st st':SortSt}{x y ia ib:Nat}(j:LoI κ a b st x out ia ib st') (h:y<=x):LoI κ a b st y out ia ib st':=⟨j.1,j.2.1,j.2.2.1,j.2.2.2.1,ZF h j.2.2.2.2⟩
section
variable {prog:Program}{w:World}{A:Around}{E:Value->Shared->Prop}{s:Shared}{κ:KeyKind}
theorem qJ6 {kd:SortKind}(hO:KLt prog w A s κ kd){st:SortSt}{a b:Array Keyed}{Q:Array Keyed->SortSt->Prop}(wT:kindOf st=kd) (ka:KeysOf κ a) (kb:KeysOf κ b) (sa:Asc κ a.toList) (sb:Asc κ b.toList)
  (na:0<a.size) (nb:0<b.size) (h1:κ.klt (kv κ b[0]) (kv κ a[0])) (h2:∀j,(hj:j<b.size)->κ.klt (kv κ b[j]) (kv κ a[a.size-1]))
  (h:∀out g,Rd κ a b out->Q out (qo2 st g)):wpS (model prog w) A E s (xc0 a b) Q st:=by
 have hk:∀g,kindOf (qo2 st g)=kd:=λg=>wT;refine Zm (VU (Xd ⟨rfl,?_⟩));refine Zm (qb6 (ZL b 0 nb) ?_);have m0:Mp κ a b #[b[0]] 0 1:=by
  refine Mp.tb (out:=#[]) (ib:=0) sa ⟨by simp,by simp[Asc],by simpa using sa,by simpa using sb,by simp,by simp⟩ na nb (Z4 h1)
 by_cases e0:1=b.size
 ·exact qc4 (by simp[<- e0]) (Zw (h _ (gallopOf st) (m0.done e0)))
 refine qc2 (by simpa using e0) ?_;by_cases e1:0+1=a.size
 ·exact qc4 (by simp[<- e1]) (Zw (h _ (gallopOf st) (m0.last na h2 e1)))
 refine qc2 (by simpa using e1) ?_;refine Zm (W3 ?_);refine qk6 (I:=λx c st'=>LoI κ a b st x c.2.1 c.2.2.1 c.2.2.2.1 st') (Q:=λc st'=>LoD κ a b st c.1 st') ?step ?fin (LoI.of (g:=gallopOf st) (ia:=0) (ib:=1) m0 (by lia) (by lia) (by lia)) ?post
 case post=>
  rintro⟨c1,c2⟩ st' ⟨r,e,⟨g,rfl⟩,hr⟩;cases (show c1=some r from e);exact Zw (h r g hr)
 case fin=>
  rintro c st' ⟨_,m,y1,y2,y3⟩;lia
 case step=>
  rintro x c st' _ hx ⟨⟨g,rfl⟩,m0,y1,y2,y3⟩;refine qk6 (I:=λy c st'=>LoI κ a b st (x+y) c.2.1 c.2.2.1 c.2.2.2.1 st') (Q:=λc st'=>c.1=none/\LoI κ a b st (x+1) c.2.1 c.2.2.1 c.2.2.2.1 st'\/LoD κ a b st c.1 st') ?step ?fin (LoI.of (g:=g) m0 y1 y2 (by lia)) ?post
  case fin=>
   rintro c st' ⟨_,m,y1,y2,y3⟩;lia
  case step=>
   rintro y c st' _ hy ⟨⟨g,rfl⟩,m,y1,y2,y3⟩;refine Zm (qb6 (ZL b c.2.2.2.1 y2) ?_);refine Zm (qb6 (ZL a c.2.2.1 (by lia)) ?_);refine Zm (qv2 hO (hk g) (qo3 kb y2) (qo3 ka (by lia)) ?_);by_cases hb:κ.blt (kv κ b[c.2.2.2.1]) (kv κ (a[c.2.2.1]'(by lia)))=true
   ·refine qc4 hb ?_;refine Zm (qb6 (ZL b c.2.2.2.1 y2) ?_);have m1:=m.tb sa (by lia) y2 (Z4 hb);by_cases e1:c.2.2.2.1+1=b.size
    ·exact qc4 (by simp[e1]) (Zw (.inr ⟨_,rfl,⟨_,rfl⟩,m1.done e1⟩))
    have j:=LoI.of (st:=st) (g:=g) (x:=x+(y+1)) m1 y1 (by lia) (by lia);exact qc2 (by simp[e1]) (qp6 (λ_=>Zw (.inl ⟨rfl,j.mono (by lia)⟩)) λ_=>Zw j)
   ·refine qc2 hb ?_;refine Zm (qb6 (ZL a c.2.2.1 (by lia)) ?_);have m1:=m.ta sb (by lia) y2 (eq_false_of_ne_true hb);by_cases e1:c.2.2.1+1+1=a.size
    ·exact qc4 (by simp[e1]) (Zw (.inr ⟨_,rfl,⟨_,rfl⟩,m1.last na h2 e1⟩))
    have j:=LoI.of (st:=st) (g:=g) (x:=x+(y+1)) m1 (by lia) y2 (by lia);exact qc2 (by simp[e1]) (qp6 (λ_=>Zw (.inl ⟨rfl,j.mono (by lia)⟩)) λ_=>Zw j)
  case post=>
   rintro⟨c1,c2⟩ st' (⟨e,⟨g,rfl⟩,m,y1,y2,y3⟩|⟨r,e,hg,hr⟩)
   ·cases (show c1=none from e);refine Zm (VU (Xd ⟨rfl,?_⟩));refine qk6 (I:=λy c st'=>LoI κ a b st (x+1+y) c.2.1 c.2.2.1 c.2.2.2.1 st') (Q:=λc st'=>c.1=none/\LoI κ a b st (x+1) c.2.1 c.2.2.1 c.2.2.2.1 st'\/LoD κ a b st c.1 st') ?step ?fin (LoI.of (g:=g) m y1 y2 y3) ?post
    case fin=>
     rintro c st' ⟨_,m,y1,y2,y3⟩;lia
    case post=>
     rintro⟨c1,c2⟩ st' (⟨e,⟨g,rfl⟩,m,y1,y2,y3⟩|⟨r,e,hg,hr⟩)
     ·cases (show c1=none from e);exact Zm (XA (Zw ⟨⟨_,rfl⟩,m,y1,y2,y3⟩))
     ·cases (show c1=some r from e);exact Zw ⟨r,rfl,hg,hr⟩
    case step=>
     rintro y c st' _ hy ⟨⟨g,rfl⟩,m1,y1,y2,y3⟩;refine' xh0 (P:=λ_=>True) (G:=_) (λkey=>?ka) (λm _=>?kb)
     case ka=>
      by_cases hc:c.2.2.2.2.1>1
      case neg=>
       refine qc2 hc ?_;generalize c.2.2.2.2.1=mg;exact key mg trivial
      case pos=>exact qc4 hc (key _ trivial)
     case kb=>
      refine Zm (XA ?_);refine Zm (qb6 (ZL b c.2.2.2.1 y2) ?_);obtain⟨k,c1,c2,c3⟩:=qF9 ka sa (kv κ b[c.2.2.2.1]) (base:=c.2.2.1) (n:=a.size-c.2.2.1) (by lia);refine Zm (qf5 hO (hk m) (qo3 kb y2) c2 (by lia) c1 ?_);have lc:k<a.size-c.2.2.1:=by
       rcases Nat.lt_or_ge k (a.size-c.2.2.1) with z|z
       ·exact z
       ·have:=(c3 (a.size-1-c.2.2.1) (by lia) (by lia)).1 (by lia);have e:a[c.2.2.1+(a.size-1-c.2.2.1)]'(by lia)=a[a.size-1]:=by congr 1;lia
        rw[e] at this;exact absurd (h2 c.2.2.2.1 y2) (WZ this)
      refine' xm4 (P:=λia1 out1=>∃hz:ia1+1<a.size,c.2.2.1<=ia1/\Mp κ a b out1 ia1 c.2.2.2.1/\κ.klt (kv κ (b[c.2.2.2.1]'y2)) (kv κ (a[ia1]'(by lia)))) (G:=_) (λkey=>?kc) (λia1 out1 hP=>?kd)
      case kc=>
       by_cases hc:k>0
       case neg=>
        refine qc2 hc ?_;have q2:κ.klt (kv κ b[c.2.2.2.1]) (kv κ a[c.2.2.1]):=(c3 0 (by lia) (by lia)).2 (by lia);have key':=key c.2.2.1 c.2.1 ⟨y1,Ze _,m1,q2⟩;generalize c.2.2.1=ia at key' ⊢;generalize c.2.1=out at key' ⊢;exact key'
       case pos=>
        refine qc4 hc ?_;have m2:=m1.as sb (k:=k) (by lia) y2 (λi hi hic=>(c3 i hi (by lia)).1 hic);have q2:κ.klt (kv κ b[c.2.2.2.1]) (kv κ a[c.2.2.1+k]):=(c3 k (by lia) (by lia)).2 (Ze _);by_cases e2:c.2.2.1+k+1=a.size
        ·exact qc4 (by simp[e2]) (Zw (.inr ⟨_,rfl,⟨_,rfl⟩,m2.last na h2 e2⟩))
        exact qc2 (by simp[e2]) (qc2 (by simp;lia) (key _ _ ⟨by lia,by lia,m2,q2⟩))
      case kd=>
       obtain⟨hz,w4,m2,q2⟩:=hP;refine Zm (qb6 (ZL b c.2.2.2.1 y2) ?_);have m3:=m2.tb sa (by lia) y2 (Z4 q2);by_cases e3:c.2.2.2.1+1=b.size
       ·exact qc4 (by simp[e3]) (Zw (.inr ⟨_,rfl,⟨_,rfl⟩,m3.done e3⟩))
       refine qc2 (by simp[e3]) ?_;refine Zm (qb6 (ZL a ia1 (by lia)) ?_);obtain⟨d,d1,d2,d3⟩:=qN4 kb sb (kv κ a[ia1]) (base:=c.2.2.2.1+1) (n:=b.size-(c.2.2.2.1+1)) (by lia);refine Zm (qf5 hO (hk m) (qo3 ka (by lia)) d2 (by lia) d1 ?_);by_cases hd:d>0
       case' neg=>
        refine qc2 hd ?_;have m4:=m3;have q4:κ.kle (kv κ a[ia1]) (kv κ b[c.2.2.2.1+1]):=(d3 0 (by lia) (by lia)).2 (by lia)
       case' pos=>
        refine qc4 hd ?_;have m4:=m3.bs sa (k:=d) (by lia) (by lia) (λi hi hid=>Z4 ((d3 i hi (by lia)).1 hid));by_cases e4:c.2.2.2.1+1+d=b.size
        ·exact qc4 (by simp[e4]) (Zw (.inr ⟨_,rfl,⟨_,rfl⟩,m4.done e4⟩))
        refine qc2 (by simp[e4]) ?_;have q4:κ.kle (kv κ a[ia1]) (kv κ b[c.2.2.2.1+1+d]):=(d3 d (by lia) (by lia)).2 (Ze _)
       all_goals
        refine Zm (qb6 (ZL a ia1 (by lia)) ?_);have m5:=m4.ta sb (by lia) (by lia) q4;by_cases e5:ia1+1+1=a.size
        ·exact qc4 (by simp[e5]) (Zw (.inr ⟨_,rfl,⟨_,rfl⟩,m5.last na h2 e5⟩))
        have j:=LoI.of (st:=st) (g:=m) (x:=x+1+(y+1)) m5 (by lia) (by lia) (by lia);exact qc2 (by simp[e5]) (qp6 (λ_=>Zw (.inl ⟨rfl,j.mono (by lia)⟩)) λ_=>Zw j)
   ·cases (show c1=some r from e);exact Zw ⟨r,rfl,hg,hr⟩
end
def xc1:Array Keyed->Array Keyed->StateT SortSt Sem (Array Keyed):=sortPriv% PySem.Builtin.mergeHi
def xm5 (κ:KeyKind):KeyKind where
 α:=κ.α
 blt:=λa b=>κ.blt b a
 irrefl:=κ.irrefl
 trans:=λa b c h1 h2=>κ.trans _ _ _ h2 h1
 negTrans:=λa b c h=>(κ.negTrans _ b _ h).symm
 total:=λa b h1 h2=>κ.total _ _ h2 h1
 keyOf:=κ.keyOf
 dflt:=κ.dflt
theorem qN6 {κ:KeyKind}{l:List Keyed}(h:Asc (xm5 κ) l):Asc κ l.reverse:=List.pairwise_reverse.mpr h
theorem qG0 {κ:KeyKind}{l:List Keyed}(h:Asc κ l):Asc (xm5 κ) l.reverse:=List.pairwise_reverse.mpr h
theorem q42 {a:Array Keyed}{n:Nat}(h:n<a.size):(a.toList.take (n+1)).reverse=a[n]::(a.toList.take n).reverse:=by
 rw[WR (by simpa using h),XG];simp
theorem qk7 {a:Array Keyed}{n:Nat}{x:Keyed}(h:x∈(a.toList.take n).reverse):∃j,∃hj:j<a.size,j<n/\a[j]=x:=by
 obtain⟨k,hk,e⟩:=XF (List.mem_reverse.mp h);have hk':k<n/\k<a.size:=by simp at hk;lia
 exact⟨k,hk'.2,hk'.1,by rw[<- e];simp⟩
theorem qN7 {a:Array Keyed}{i n:Nat}(h:i<=n) (hn:n<=a.size):(a.toList.take n).reverse=(a.extract i n).reverse.toList++(a.toList.take i).reverse:=by
 rw[Wl,Xs,List.extract_eq_drop_take,<- XG,<- List.take_add,show i+(n-i)=n by lia]
theorem qN8 {a:Array Keyed}{i n:Nat}(hn:n<=a.size){x:Keyed}(hx:x∈(a.extract i n).reverse.toList):∃j,∃hj:j<a.size,i<=j/\j<n/\a[j]=x:=by
 rw[Wl] at hx;obtain⟨j,hj,e⟩:=XF (List.mem_reverse.mp hx);have hj':i+j<n:=by simp at hj;lia
 exact⟨i+j,by lia,by lia,hj',by rw[<- e];simp⟩
theorem qA6 {a:Array Keyed}{n:Nat}:(a.extract 0 n).toList=a.toList.take n:=by
 rw[Xs,List.extract_eq_drop_take];simp
def Hp (κ:KeyKind) (a b out:Array Keyed) (na nb:Nat):Prop:=Mg (xm5 κ) (a.toList++b.toList) out.toList (a.toList.take na).reverse (b.toList.take nb).reverse
section
variable {κ:KeyKind}{a b out:Array Keyed}{na nb:Nat}
theorem Hp.ta (m:Hp κ a b out (na+1) nb) (hna:na<a.size) (h:∀j,(hj:j<b.size)->j<nb->κ.kle (kv κ b[j]) (kv κ a[na])):Hp κ a b (out.push a[na]) na nb:=by
 unfold Hp at m ⊢;rw[q42 hna] at m;rw[Xa];refine m.takeA λy hy=>?_;obtain⟨j,hj,h1,rfl⟩:=qk7 hy;exact h j hj h1
theorem Hp.tb (m:Hp κ a b out na (nb+1)) (hnb:nb<b.size) (h:∀j,(hj:j<a.size)->j<na->κ.kle (kv κ a[j]) (kv κ b[nb])):Hp κ a b (out.push b[nb]) na nb:=by
 unfold Hp at m ⊢;rw[q42 hnb] at m;rw[Xa];refine m.takeB λy hy=>?_;obtain⟨j,hj,h1,rfl⟩:=qk7 hy;exact h j hj h1
theorem Hp.as (m:Hp κ a b out na nb){k:Nat}(hk:k<=na) (hna:na<=a.size) (h:∀i j,(hi:i<a.size)->(hj:j<b.size)->k<=i->i<na->j<nb->κ.kle (kv κ b[j]) (kv κ a[i])):Hp κ a b (out++(a.extract k na).reverse) k nb:=by
 unfold Hp at m ⊢;rw[qN7 hk hna] at m;rw[Yb];refine m.takesA λx hx y hy=>?_;obtain⟨i,hi,wU,jU,rfl⟩:=qN8 hna hx;obtain⟨j,hj,h1,rfl⟩:=qk7 hy;exact h i j hi hj wU jU h1
theorem Hp.bs (m:Hp κ a b out na nb){k:Nat}(hk:k<=nb) (hnb:nb<=b.size) (h:∀i j,(hi:i<b.size)->(hj:j<a.size)->k<=i->i<nb->j<na->κ.kle (kv κ a[j]) (kv κ b[i])):Hp κ a b (out++(b.extract k nb).reverse) na k:=by
 unfold Hp at m ⊢;rw[qN7 hk hnb] at m;rw[Yb];refine m.takesB λx hx y hy=>?_;obtain⟨i,hi,wU,jU,rfl⟩:=qN8 hnb hx;obtain⟨j,hj,h1,rfl⟩:=qk7 hy;exact h i j hi hj wU jU h1
theorem Hp.done (m:Hp κ a b out na nb) (h:na=0):Rd κ a b (a.extract 0 na++b.extract 0 nb++out.reverse):=by
 unfold Hp at m;subst h;have e:=m.swap.doneB;have z:(a.extract 0 0++b.extract 0 nb++out.reverse).toList=(out.toList++(b.toList.take nb).reverse).reverse:=by
  rw[Yb,Yb,qA6,qA6,Wl,XG];simp
 show (a.extract 0 0++b.extract 0 nb++out.reverse).toList.Perm _/\Asc κ (a.extract 0 0++b.extract 0 nb++out.reverse).toList;rw[z];exact⟨(WT _).trans e.1,qN6 e.2⟩
theorem Hp.first (m:Hp κ a b out na nb) (sa:Asc κ a.toList) (ha:0<a.size) (hb:0<b.size) (h1:κ.klt (kv κ b[0]) (kv κ a[0])) (h:nb=1):Rd κ a b (b.extract 0 nb++a.extract 0 na++out.reverse):=by
 unfold Hp at m;subst h;have e:=m.swap.doneAB λy hy x hx=>by
  obtain⟨i,hi,_,rfl⟩:=qk7 hy;obtain⟨j,hj,h3,rfl⟩:=qk7 hx;have:j=0:=by lia
  subst this;have q:κ.kle (kv κ b[0]) (kv κ a[i]):=ZQ (Z4 h1) (qh5 sa (Zv i) hi);exact q
 have z:(b.extract 0 1++a.extract 0 na++out.reverse).toList=(out.toList++((a.toList.take na).reverse++(b.toList.take 1).reverse)).reverse:=by
  rw[Yb,Yb,qA6,qA6,Wl,XG,XG];simp
 show (b.extract 0 1++a.extract 0 na++out.reverse).toList.Perm _/\Asc κ (b.extract 0 1++a.extract 0 na++out.reverse).toList;rw[z];exact⟨(WT _).trans e.1,qN6 e.2⟩
end
theorem Hp.ta' {κ:KeyKind}{a b out:Array Keyed}{na nb:Nat}(sb:Asc κ b.toList) (m:Hp κ a b out na nb) (h0:0<na) (hna:na<=a.size) (h1:0<nb) (hnb:nb<=b.size) (h:κ.kle (kv κ (b[nb-1]'(by lia))) (kv κ (a[na-1]'(by lia)))):Hp κ a b (out.push (a[na-1]'(by lia))) (na-1) nb:=by
 refine Hp.ta (na:=na-1) (by rw[show na-1+1=na by lia];exact m) (by lia) λj hj hn=>?_;exact ZQ (qh5 sb (show j<=nb-1 by lia) (by lia)) h
theorem Hp.tb' {κ:KeyKind}{a b out:Array Keyed}{na nb:Nat}(sa:Asc κ a.toList) (m:Hp κ a b out na nb) (h0:0<na) (hna:na<=a.size) (h1:0<nb) (hnb:nb<=b.size) (h:κ.kle (kv κ (a[na-1]'(by lia))) (kv κ (b[nb-1]'(by lia)))):Hp κ a b (out.push (b[nb-1]'(by lia))) na (nb-1):=by
 refine Hp.tb (nb:=nb-1) (by rw[show nb-1+1=nb by lia];exact m) (by lia) λj hj hn=>?_;exact ZQ (qh5 sa (show j<=na-1 by lia) (by lia)) h
theorem xm6 {G0:Prop}{P:Nat->Array Keyed->Prop}{G:Nat->Array Keyed->Nat->Prop}(a:(∀m o c,P m o->G m o c)->G0) (b:∀m o c,P m o->G m o c):G0:=a b
def HiI (κ:KeyKind) (a b:Array Keyed) (st:SortSt) (x na nb:Nat) (out:Array Keyed) (st':SortSt):Prop:=(∃g,st'=qo2 st g)/\Hp κ a b out na nb/\0<na/\na<=a.size/\1<nb/\nb<=b.size/\x+na+nb<=a.size+b.size
theorem HiI.of {κ:KeyKind}{a b out:Array Keyed}{st:SortSt}{x g na nb:Nat}(m:Hp κ a b out na nb) (h1:0<na) (h2:na<=a.size) (h3:1<nb) (h4:nb<=b.size) (h5:x+na+nb<=a.size+b.size):HiI κ a b st x na nb out (qo2 st g):=⟨⟨g,rfl⟩,m,h1,h2,h3,h4,h5⟩
theorem HiI.mono {κ:KeyKind}{a b out:Array Keyed}{st st':SortSt}{x y na nb:Nat}(j:HiI κ a b st x na nb out st') (h:y<=x):HiI κ a b st y na nb out st':=by
 obtain⟨j1,j2,j3,j4,j5,j6,j7⟩:=j;exact⟨j1,j2,j3,j4,j5,j6,by lia⟩
section
variable {prog:Program}{w:World}{A:Around}{E:Value->Shared->Prop}{s:Shared}{κ:KeyKind}
theorem qJ7 {kd:SortKind}(hO:KLt prog w A s κ kd){st:SortSt}{a b:Array Keyed}{Q:Array Keyed->SortSt->Prop}(wT:kindOf st=kd) (ka:KeysOf κ a) (kb:KeysOf κ b) (sa:Asc κ a.toList) (sb:Asc κ b.toList)
  (pa:0<a.size) (pb:0<b.size) (h1:κ.klt (kv κ b[0]) (kv κ a[0])) (h2:∀j,(hj:j<b.size)->κ.klt (kv κ b[j]) (kv κ a[a.size-1]))
  (h:∀out g,Rd κ a b out->Q out (qo2 st g)):wpS (model prog w) A E s (xc1 a b) Q st:=by
 have hk:∀g,kindOf (qo2 st g)=kd:=λg=>wT;have bq:∀{i j:Nat},i=j->(i==j)=true:=λe=>Wg.mpr e;have bn:∀{i j:Nat},i≠j->¬(i==j)=true:=λe z=>e (Wg.mp z);refine Zm (VU (Xd ⟨rfl,?_⟩));refine Zm (qb6 (ZL a (a.size-1) (by lia)) ?_);have m0:Hp κ a b #[a[a.size-1]] (a.size-1) b.size:=by
  refine Hp.ta' (out:=#[]) sb ⟨by simp only[Array.toList_empty,List.nil_append];rw[Yq (by simp),Yq (by simp)];exact (WT _).append (WT _),by simp[Asc],?_,?_,by simp,by simp⟩ pa (Ze _) pb (Ze _) (Z4 (h2 _ (by lia)))
  ·rw[Yq (by simp)];exact qG0 sa
  ·rw[Yq (by simp)];exact qG0 sb
 by_cases e0:a.size-1=0
 ·exact qc4 (bq e0) (Zw (h _ (gallopOf st) (m0.done e0)))
 refine qc2 (bn e0) ?_;by_cases e1:b.size=1
 ·exact qc4 (bq e1) (Zw (h _ (gallopOf st) (m0.first sa pa pb h1 e1)))
 refine qc2 (bn e1) ?_;refine Zm (W3 ?_);refine qk6 (I:=λx c st'=>HiI κ a b st x c.2.1 c.2.2.1 c.2.2.2.1 st') (Q:=λc st'=>LoD κ a b st c.1 st') ?step ?fin (HiI.of (g:=gallopOf st) (na:=a.size-1) (nb:=b.size) m0 (by lia) (by lia) (by lia) (by lia) (by lia)) ?post
 case post=>
  rintro⟨c1,c2⟩ st' ⟨r,e,⟨g,rfl⟩,hr⟩;cases (show c1=some r from e);exact Zw (h r g hr)
 case fin=>
  rintro c st' ⟨_,m,y1,y2,y3,y4,y5⟩;lia
 case step=>
  rintro x c st' _ hx ⟨⟨g,rfl⟩,m0,y1,y2,y3,y4,y5⟩;refine qk6 (I:=λy c st'=>HiI κ a b st (x+y) c.2.1 c.2.2.1 c.2.2.2.1 st') (Q:=λc st'=>c.1=none/\HiI κ a b st (x+1) c.2.1 c.2.2.1 c.2.2.2.1 st'\/LoD κ a b st c.1 st') ?step ?fin (HiI.of (g:=g) m0 y1 y2 y3 y4 (by lia)) ?post
  case fin=>
   rintro c st' ⟨_,m,y1,y2,y3,y4,y5⟩;lia
  case step=>
   rintro y c st' _ hy ⟨⟨g,rfl⟩,m,y1,y2,y3,y4,y5⟩;refine Zm (qb6 (ZL b (c.2.2.1-1) (by lia)) ?_);refine Zm (qb6 (ZL a (c.2.1-1) (by lia)) ?_);refine Zm (qv2 hO (hk g) (qo3 kb (by lia)) (qo3 ka (by lia)) ?_);by_cases hb:κ.blt (kv κ (b[c.2.2.1-1]'(by lia))) (kv κ (a[c.2.1-1]'(by lia)))=true
   ·refine qc4 hb ?_;refine Zm (qb6 (ZL a (c.2.1-1) (by lia)) ?_);have m1:=m.ta' sb y1 y2 (by lia) y4 (Z4 hb);by_cases e1:c.2.1-1=0
    ·exact qc4 (bq e1) (Zw (.inr ⟨_,rfl,⟨_,rfl⟩,m1.done e1⟩))
    have j:=HiI.of (st:=st) (g:=g) (x:=x+(y+1)) m1 (by lia) (by lia) y3 y4 (by lia);exact qc2 (bn e1) (qp6 (λ_=>Zw (.inl ⟨rfl,j.mono (by lia)⟩)) λ_=>Zw j)
   ·refine qc2 hb ?_;refine Zm (qb6 (ZL b (c.2.2.1-1) (by lia)) ?_);have m1:=m.tb' sa y1 y2 (by lia) y4 (eq_false_of_ne_true hb);by_cases e1:c.2.2.1-1=1
    ·exact qc4 (bq e1) (Zw (.inr ⟨_,rfl,⟨_,rfl⟩,m1.first sa pa pb h1 e1⟩))
    have j:=HiI.of (st:=st) (g:=g) (x:=x+(y+1)) m1 y1 y2 (by lia) (by lia) (by lia);exact qc2 (bn e1) (qp6 (λ_=>Zw (.inl ⟨rfl,j.mono (by lia)⟩)) λ_=>Zw j)
  case post=>
   rintro⟨c1,c2⟩ st' (⟨e,⟨g,rfl⟩,m,y1,y2,y3,y4,y5⟩|⟨r,e,hg,hr⟩)
   ·cases (show c1=none from e);refine Zm (VU (Xd ⟨rfl,?_⟩));refine qk6 (I:=λy c st'=>HiI κ a b st (x+1+y) c.2.1 c.2.2.1 c.2.2.2.1 st') (Q:=λc st'=>c.1=none/\HiI κ a b st (x+1) c.2.1 c.2.2.1 c.2.2.2.1 st'\/LoD κ a b st c.1 st') ?step ?fin (HiI.of (g:=g) m y1 y2 y3 y4 y5) ?post
    case fin=>
     rintro c st' ⟨_,m,y1,y2,y3,y4,y5⟩;lia
    case post=>
     rintro⟨c1,c2⟩ st' (⟨e,⟨g,rfl⟩,m,y1,y2,y3,y4,y5⟩|⟨r,e,hg,hr⟩)
     ·cases (show c1=none from e);exact Zm (XA (Zw ⟨⟨_,rfl⟩,m,y1,y2,y3,y4,y5⟩))
     ·cases (show c1=some r from e);exact Zw ⟨r,rfl,hg,hr⟩
    case step=>
     rintro y c st' _ hy ⟨⟨g,rfl⟩,m1,y1,y2,y3,y4,y5⟩;refine' xh0 (P:=λ_=>True) (G:=_) (λkey=>?ka) (λm _=>?kb)
     case ka=>
      by_cases hc:c.2.2.2.2.1>1
      case neg=>
       refine qc2 hc ?_;generalize c.2.2.2.2.1=mg;exact key mg trivial
      case pos=>exact qc4 hc (key _ trivial)
     case kb=>
      refine Zm (XA ?_);refine Zm (qb6 (ZL b (c.2.2.1-1) (by lia)) ?_);obtain⟨k,c1,c2,c0⟩:=qF9 ka sa (kv κ (b[c.2.2.1-1]'(by lia))) (base:=0) (n:=c.2.1) (by lia);have c3:∀i,(hi:i<a.size)->i<c.2.1->(i<k->κ.kle (kv κ a[i]) (kv κ (b[c.2.2.1-1]'(by lia))))/\(k<=i->κ.klt (kv κ (b[c.2.2.1-1]'(by lia))) (kv κ a[i])):=λi hi hn=>by
       have:=c0 i (by lia) hn;simp only[Vi] at this;exact this
      refine Zm (qf5 hO (hk m) (qo3 kb (by lia)) c2 (by lia) c1 ?_);refine' xm6 (P:=λna1 out1=>∃hz:0<na1/\na1<=c.2.1,Hp κ a b out1 na1 c.2.2.1/\κ.kle (kv κ (a[na1-1]'(by lia))) (kv κ (b[c.2.2.1-1]'(by lia)))) (G:=_) (λkey=>?kc) (λna1 out1 cn hP=>?kd)
      case kc=>
       by_cases hc:c.2.1-k>0
       case neg=>
        refine qc2 hc ?_;have q2:κ.kle (kv κ (a[c.2.1-1]'(by lia))) (kv κ (b[c.2.2.1-1]'(by lia))):=(c3 (c.2.1-1) (by lia) (by lia)).1 (by lia);have key':=key c.2.1 c.2.2.2.1 (c.2.1-k) ⟨⟨y1,Ze _⟩,m1,q2⟩;generalize c.2.1-k=cn at key' ⊢;generalize c.2.1=na at key' ⊢;generalize c.2.2.2.1=out at key' ⊢;exact key'
       case pos=>
        refine qc4 hc ?_;have m2:=m1.as (k:=k) (by lia) (by lia) (λi j hi hj z1 z2 z3=>ZQ (qh5 sb (show j<=c.2.2.1-1 by lia) (by lia)) (Z4 ((c3 i hi z2).2 z1)));by_cases e2:k=0
        ·exact qc4 (bq e2) (Zw (.inr ⟨_,rfl,⟨_,rfl⟩,m2.done e2⟩))
        have q2:κ.kle (kv κ (a[k-1]'(by lia))) (kv κ (b[c.2.2.1-1]'(by lia))):=(c3 (k-1) (by lia) (by lia)).1 (by lia);exact qc2 (bn e2) (key k _ (c.2.1-k) ⟨⟨by lia,by lia⟩,m2,q2⟩)
      case kd=>
       obtain⟨hz,m2,q2⟩:=hP;refine Zm (qb6 (ZL b (c.2.2.1-1) (by lia)) ?_);have m3:=m2.tb' sa (by lia) (by lia) (by lia) (by lia) q2;by_cases e3:c.2.2.1-1=1
       ·exact qc4 (bq e3) (Zw (.inr ⟨_,rfl,⟨_,rfl⟩,m3.first sa pa pb h1 e3⟩))
       refine qc2 (bn e3) ?_;refine Zm (qb6 (ZL a (na1-1) (by lia)) ?_);obtain⟨d,d1,d2,d0⟩:=qN4 kb sb (kv κ (a[na1-1]'(by lia))) (base:=0) (n:=c.2.2.1-1) (by lia);have d3:∀i,(hi:i<b.size)->i<c.2.2.1-1->(i<d->κ.klt (kv κ b[i]) (kv κ (a[na1-1]'(by lia))))/\(d<=i->κ.kle (kv κ (a[na1-1]'(by lia))) (kv κ b[i])):=λi hi hn=>by
        have:=d0 i (by lia) hn;simp only[Vi] at this;exact this
       refine Zm (qf5 hO (hk m) (qo3 ka (by lia)) d2 (by lia) d1 ?_);have ld:0<d:=by
        rcases Nat.eq_zero_or_pos d with z|z
        ·have:=(d3 0 (by lia) (by lia)).2 (by lia);exact absurd (Wv h1 (qh5 sa (Zv (na1-1)) (by lia))) (WZ this)
        ·exact z
       by_cases hd:c.2.2.1-1-d>0
       case' neg=>
        refine qc2 hd ?_;have m4:=m3;have q4:κ.klt (kv κ (b[c.2.2.1-1-1]'(by lia))) (kv κ (a[na1-1]'(by lia))):=(d3 (c.2.2.1-1-1) (by lia) (by lia)).1 (by lia)
       case' pos=>
        refine qc4 hd ?_;have m4:=m3.bs (k:=d) (by lia) (by lia) (λi j hi hj c1 c2 c3=>ZQ (qh5 sa (show j<=na1-1 by lia) (by lia)) ((d3 i hi (by lia)).2 c1));by_cases e4:d=1
        ·exact qc4 (bq e4) (Zw (.inr ⟨_,rfl,⟨_,rfl⟩,m4.first sa pa pb h1 e4⟩))
        refine qc2 (bn e4) (qc2 (bn (show d≠0 by lia)) ?_);have q4:κ.klt (kv κ (b[d-1]'(by lia))) (kv κ (a[na1-1]'(by lia))):=(d3 (d-1) (by lia) (by lia)).1 (by lia)
       all_goals
        refine Zm (qb6 (ZL a (na1-1) (by lia)) ?_);have m5:=m4.ta' sb (by lia) (by lia) (by lia) (by lia) (Z4 q4);by_cases e5:na1-1=0
        ·exact qc4 (bq e5) (Zw (.inr ⟨_,rfl,⟨_,rfl⟩,m5.done e5⟩))
        have j:=HiI.of (st:=st) (g:=m) (x:=x+1+(y+1)) m5 (by lia) (by lia) (by lia) (by lia) (by lia);exact qc2 (bn e5) (qp6 (λ_=>Zw (.inl ⟨rfl,j.mono (by lia)⟩)) λ_=>Zw j)
   ·cases (show c1=some r from e);exact Zw ⟨r,rfl,hg,hr⟩
end
theorem qw3 {κ:KeyKind}{a:Array Keyed}{i:Nat}(h:i<a.size):KK κ a i=kv κ a[i]:=by unfold KK kv;rw[ZL a _ h]
theorem qR1 {κ:KeyKind}{a:Array Keyed}(ka:KeysOf κ a){base n:Nat}(sa:SrtK κ a base (base+n)) (k:κ.α) (hn:base+n<=a.size) :
  ∃c,c<=n/\(∀i,i<n->∃x y,a[base+i]?=some x/\κ.keyOf x.1=some y/\asks false k y=decide (i<c))/\∀i,i<n->(i<c->κ.kle (KK κ a (base+i)) k)/\(c<=i->κ.klt k (KK κ a (base+i))):=by
 obtain⟨c,c1,c2⟩:=qF8 (p:=λi=>!κ.blt k (KK κ a (base+i))) n (λi j jX hj e=>by
  simp only[WS] at e ⊢;exact ZQ (sa (base+i) (base+j) (by lia) (by lia) (by lia)) e)
 refine⟨c,c1,λi hi=>⟨_,_,ZL a _ (by lia),qo3 ka (by lia),?_⟩,λi hi=>⟨λhc=>?_,λhc=>?_⟩⟩
 ·rw[<- c2 i hi,qw3 (by lia)];rfl
 ·have e:=c2 i hi;rw[Zu hc] at e;exact (WS _).mp e
 ·have e:=c2 i hi;rw[Zn (by lia)] at e;exact (Bool.not_eq_false' _).mp e
theorem q43 {κ:KeyKind}{a:Array Keyed}(ka:KeysOf κ a){base n:Nat}(sa:SrtK κ a base (base+n)) (k:κ.α) (hn:base+n<=a.size) :
  ∃c,c<=n/\(∀i,i<n->∃x y,a[base+i]?=some x/\κ.keyOf x.1=some y/\asks true k y=decide (i<c))/\∀i,i<n->(i<c->κ.klt (KK κ a (base+i)) k)/\(c<=i->κ.kle k (KK κ a (base+i))):=by
 obtain⟨c,c1,c2⟩:=qF8 (p:=λi=>κ.blt (KK κ a (base+i)) k) n (λi j jX hj e=>KeyOrd.klt_of_kle_of_klt (sa (base+i) (base+j) (by lia) (by lia) (by lia)) e);refine⟨c,c1,λi hi=>⟨_,_,ZL a _ (by lia),qo3 ka (by lia),?_⟩,λi hi=>⟨λhc=>?_,λhc=>?_⟩⟩
 ·rw[<- c2 i hi,qw3 (by lia)];rfl
 ·have e:=c2 i hi;rw[Zu hc] at e;exact e
 ·have e:=c2 i hi;rw[Zn (by lia)] at e;exact e
def qe4 (xs:Array Keyed) (lo:Nat) (l:List (Keyed×Nat)):Array Keyed:=l.foldl (λa x=>a.setIfInBounds (lo+x.2) x.1) xs
theorem qm2 (lo k:Nat):∀(l:List Keyed) (o:Nat) (xs:Array Keyed),lo+o+l.length<=xs.size->(qe4 xs lo (l.zipIdx o)).size=xs.size/\(qe4 xs lo (l.zipIdx o))[k]?=if lo+o<=k/\k<lo+o+l.length then l[k-(lo+o)]? else xs[k]?
 |[],o,xs,_=>⟨rfl,by rw[Zk (by simp)];rfl⟩
 |p::l,o,xs,h=>by
  have h':lo+(o+1)+l.length<=(xs.setIfInBounds (lo+o) p).size:=by simp at h ⊢;lia
  obtain⟨i1,i2⟩:=qm2 lo k l (o+1) (xs.setIfInBounds (lo+o) p) h';have e:qe4 xs lo ((p::l).zipIdx o)=qe4 (xs.setIfInBounds (lo+o) p) lo (l.zipIdx (o+1)):=rfl;rw[e];refine⟨by rw[i1];simp,?_⟩;rw[i2];simp only[ZW] at h ⊢;by_cases c1:k=lo+o
  ·subst c1;rw[Zk (by lia),Zx (by lia),V0];rw[Vb];simp;lia
  ·by_cases c2:lo+o<=k/\k<lo+o+(l.length+1)
   ·rw[Zx (by lia),Zx c2];rw[show k-(lo+o)=(k-(lo+(o+1)))+1 by lia];simp
   ·rw[Zk (by lia),Zk c2,Vb,Zk (by lia)]
theorem qG1 {xs m:Array Keyed}{lo:Nat}(h:lo+m.size<=xs.size):(qe4 xs lo m.toList.zipIdx).toList=xs.toList.take lo++(m.toList++xs.toList.drop (lo+m.size)):=by
 apply Xr;intro k;have g:=(qm2 lo k m.toList 0 xs (by simpa using h)).2;rw[Yl,g];simp only[VY,ZJ];by_cases c1:k<lo
 ·rw[Zk (by lia),ZD (by simp;lia),List.getElem?_take_of_lt c1];simp
 ·have el:(xs.toList.take lo).length=lo:=by simp;lia
  rw[ZH (by lia),el];by_cases c2:k<lo+m.size
  ·rw[Zx (by lia),ZD (by simp;lia)]
  ·rw[Zk (by lia),ZH (by simp;lia),List.getElem?_drop];simp only[ZJ];rw[show lo+m.size+(k-lo-m.size)=k by lia];simp
theorem qA7 {a:Array Keyed}{i j:Nat}:(a.extract i j).toList=(a.toList.drop i).take (j-i):=by
 rw[Xs,List.extract_eq_drop_take]
theorem q44 {κ:KeyKind}{a:Array Keyed}{lo hi:Nat}(h:SrtK κ a lo hi) (hs:hi<=a.size):Asc κ (a.extract lo hi).toList:=by
 refine Xo.mpr λi j hi' hj jX=>?_;simp at hi' hj;have:=h (lo+i) (lo+j) (by lia) (by lia) (by lia);rw[qw3 (by lia),qw3 (by lia)] at this;simpa using this
theorem qs0 {κ:KeyKind}{a:Array Keyed}(h:KeysOf κ a) (lo hi:Nat):KeysOf κ (a.extract lo hi):=λp hp=>by
 rw[qA7] at hp;exact h p (List.mem_of_mem_drop (List.mem_of_mem_take hp))
section
variable {prog:Program}{w:World}{A:Around}{E:Value->Shared->Prop}{s:Shared}{κ:KeyKind}
theorem xm7 {Q:PUnit->SortSt->Prop}{st st':SortSt}(h:Q ⟨⟩ st'):wpS (model prog w) A E s (set st':StateT SortSt Sem PUnit) Q st:=by
 unfold wpS;rw[StateT.run_set];exact Zb ⟨rfl,h⟩
structure Mrg (κ:KeyKind) (st st':SortSt) (i sa na pw nb:Nat):Prop where
 perm:(arrOf st').Perm (arrOf st)
 kind:kindOf st'=kindOf st
 fail:failedOf st'=failedOf st
 out:∀k:Nat,k<sa\/sa+na+nb<=k->(arrOf st')[k]?=(arrOf st)[k]?
 srt:SrtK κ (arrOf st') sa (sa+na+nb)
 pend:pendingOf st'=((pendingOf st).setIfInBounds i (sa,na+nb,pw)).eraseIdxIfInBounds (i+1)
theorem q45 {a m:Array Keyed}{sa na nb k d:Nat}(s1:SrtK κ a sa (sa+na)) (s2:SrtK κ a (sa+na) (sa+na+nb)) (hsz:sa+na+nb<=a.size) (hk:k<na) (hd:d<=nb) (pnb:0<nb)
  (g1:∀i,i<na->i<k->κ.kle (KK κ a (sa+i)) (KK κ a (sa+na))) (g2:∀i,i<nb->d<=i->κ.kle (KK κ a (sa+na-1)) (KK κ a (sa+na+i)))
  (r:Rd κ (a.extract (sa+k) (sa+na)) (a.extract (sa+na) (sa+na+d)) m) :
  (qe4 a (sa+k) m.toList.zipIdx).Perm a/\(∀j:Nat,j<sa\/sa+na+nb<=j->(qe4 a (sa+k) m.toList.zipIdx)[j]?=a[j]?)/\SrtK κ (qe4 a (sa+k) m.toList.zipIdx) sa (sa+na+nb):=by
 have hm:m.size=na-k+d:=by
  have:=r.1.length_eq;simp at this;lia
 have cat:(a.extract (sa+k) (sa+na)).toList++(a.extract (sa+na) (sa+na+d)).toList=(a.toList.drop (sa+k)).take (na-k+d):=by
  rw[qA7,qA7,show sa+na-(sa+k)=na-k by lia,show sa+na+d-(sa+na)=d by lia,List.take_add,V8,show sa+k+(na-k)=sa+na by lia]
 have get:=λj=>(qm2 (sa+k) j m.toList 0 a (by simp;lia)).2;simp only[VY,ZJ] at get;have p:(qe4 a (sa+k) m.toList.zipIdx).Perm a:=by
  refine Wk.mpr ?_;rw[qG1 (by lia)];have e:a.toList=a.toList.take (sa+k)++((a.toList.drop (sa+k)).take (na-k+d)++a.toList.drop (sa+k+m.size)):=by
   rw[hm,<- V8 (i:=na-k+d) (j:=sa+k),YY,YY]
  conv=>rhs;rw[e]
  refine WY _ (List.Perm.append_right _ ?_);rw[<- cat];exact r.1
 refine⟨p,λj hj=>?_,?_⟩
 ·rw[get j,Zk (by lia)]
 ·have low:∀j,j<sa+k\/sa+na+d<=j->KK κ (qe4 a (sa+k) m.toList.zipIdx) j=KK κ a j:=λj hj=>KK_congr (by rw[get j,Zk (by lia)]);have mid:∀j,sa+k<=j->(hj:j<sa+na+d)->KK κ (qe4 a (sa+k) m.toList.zipIdx) j=kv κ (m[j-(sa+k)]'(by lia)):=λj h1 h2=>by
   unfold KK kv;rw[get j,Zx (by lia),Yl,ZL m _ (by lia)]
  have src:∀j,sa+k<=j->j<sa+na+d->∃i,sa+k<=i/\i<sa+na+d/\KK κ (qe4 a (sa+k) m.toList.zipIdx) j=KK κ a i:=λj h1 h2=>by
   rw[mid j h1 h2];have me:m[j-(sa+k)]'(by lia)∈(a.toList.drop (sa+k)).take (na-k+d):=by
    rw[<- cat];exact r.1.mem_iff.mp (by simp)
   obtain⟨i,hi,e⟩:=XF me;simp at hi;refine⟨sa+k+i,by lia,by lia,?_⟩;rw[qw3 (by lia),<- e];simp
  have last:∀i,sa<=i->i<sa+na->κ.kle (KK κ a i) (KK κ a (sa+na-1)):=λi h1 h2=>s1 i (sa+na-1) h1 (by lia) (by lia);intro i j h1 h2 h3;by_cases ci:i<sa+k
  ·rw[low i (.inl ci)];have gi:κ.kle (KK κ a i) (KK κ a (sa+na)):=by
    have:=g1 (i-sa) (by lia) (by lia)
    rwa [show sa+(i-sa)=i by lia] at this
   by_cases cj:j<sa+k\/sa+na+d<=j
   ·rw[low j cj];by_cases c:j<sa+na
    ·exact s1 i j h1 h2 c
    ·exact ZQ gi (s2 (sa+na) j (Ze _) (by lia) (by lia))
   ·obtain⟨q,q1,q2,q3⟩:=src j (by lia) (by lia);rw[q3];by_cases c:q<sa+na
    ·exact s1 i q h1 (by lia) c
    ·exact ZQ gi (s2 (sa+na) q (Ze _) (by lia) (by lia))
  ·by_cases ci2:i<sa+na+d
   ·by_cases cj:j<sa+na+d
    ·rw[mid i (by lia) ci2,mid j (by lia) cj];exact qh5 r.2 (by lia) (by lia)
    ·obtain⟨q,q1,q2,q3⟩:=src i (by lia) ci2;rw[q3,low j (.inr (by lia))];by_cases c:q<sa+na
     ·have:=g2 (j-(sa+na)) (by lia) (by lia);rw[show sa+na+(j-(sa+na))=j by lia] at this;exact ZQ (last q (by lia) c) this
     ·exact s2 q j (by lia) (by lia) (by lia)
   ·rw[low i (.inr (by lia)),low j (.inr (by lia))];exact s2 i j (by lia) h2 h3
theorem qJ8 {kd:SortKind}(hO:KLt prog w A s κ kd){st:SortSt}{i sa na pw nb pw2:Nat}{Q:Bool->SortSt->Prop}(hk:kindOf st=kd) (h0:KeysOf κ (arrOf st)) (hf:failedOf st=none)
  (p1:(pendingOf st)[i]?=some (sa,na,pw)) (p2:(pendingOf st)[i+1]?=some (sa+na,nb,pw2)) (pna:0<na) (pnb:0<nb) (hsz:sa+na+nb<=(arrOf st).size)
  (s1:SrtK κ (arrOf st) sa (sa+na)) (s2:SrtK κ (arrOf st) (sa+na) (sa+na+nb)) (h:∀st',Mrg κ st st' i sa na pw nb->Q true st'):wpS (model prog w) A E s (mergeAt' i) Q st:=by
 refine Zm (W3 ?_);dsimp only;rw[p1,p2];refine Zm (xm7 ?_);refine Zm (qb6 (ZL (arrOf st) (sa+na) (by lia)) ?_);obtain⟨k,k1,k2,k3⟩:=qR1 h0 s1 (KK κ (arrOf st) (sa+na)) (by lia);refine Zm (qf5 (st:=SortSt.mk' (kindOf st) (arrOf st) (((pendingOf st).setIfInBounds i (sa,na+nb,pw)).eraseIdxIfInBounds (i+1)) (gallopOf st) (failedOf st)) hO hk (qo3 h0 (by lia)) (by rw[qw3 (by lia)] at k2;exact k2) pna k1 ?_);dsimp only;by_cases c1:na-k=0
 ·rw[Zx (by simp only[Wg];exact c1)];refine Zw (h _ ⟨.refl _,rfl,rfl,λ_ _=>rfl,λx y d1 d2 d3=>?_,rfl⟩);show κ.kle (KK κ (arrOf st) x) (KK κ (arrOf st) y);by_cases cx:x<sa+na
  ·by_cases cy:y<sa+na
   ·exact s1 x y d1 d2 cy
   ·have:=(k3 (x-sa) (by lia)).1 (by lia);rw[show sa+(x-sa)=x by lia] at this;exact ZQ this (s2 (sa+na) y (Ze _) (by lia) d3)
  ·exact s2 x y (by lia) d2 d3
 ·rw[Zk (by simp only[Wg];exact c1)];rw[show sa+k+(na-k)-1=sa+na-1 by lia];refine Zm (qb6 (ZL (arrOf st) (sa+na-1) (by lia)) ?_);obtain⟨d,d1,d2,d3⟩:=q43 h0 s2 (KK κ (arrOf st) (sa+na-1)) (by lia);refine Zm (qf5 (st:=SortSt.mk' (kindOf st) (arrOf st) (((pendingOf st).setIfInBounds i (sa,na+nb,pw)).eraseIdxIfInBounds (i+1)) (gallopOf st) (failedOf st)) hO hk (qo3 h0 (by lia)) (by rw[qw3 (by lia)] at d2;exact d2) (by lia) d1 ?_);dsimp only;have lk:κ.klt (KK κ (arrOf st) (sa+na)) (KK κ (arrOf st) (sa+k)):=(k3 k (by lia)).2 (Ze _);have ld:d≠0:=λz=>by
   have:=(d3 0 pnb).2 (by lia);exact absurd (Wv lk (s1 (sa+k) (sa+na-1) (by lia) (by lia) (by lia))) (WZ this)
  rw[Zk (by simp only[Wg];exact ld)];have sx:((arrOf st).extract (sa+k) (sa+na)).size=na-k:=by simp;lia
  have sy:((arrOf st).extract (sa+na) (sa+na+d)).size=d:=by simp;lia
  have px:0<((arrOf st).extract (sa+k) (sa+na)).size:=by lia
  have py:0<((arrOf st).extract (sa+na) (sa+na+d)).size:=by lia
  have gx:∀j,(hj:j<((arrOf st).extract (sa+k) (sa+na)).size)->kv κ ((arrOf st).extract (sa+k) (sa+na))[j]=KK κ (arrOf st) (sa+k+j):=λj hj=>by rw[qw3 (by lia)];simp
  have gy:∀j,(hj:j<((arrOf st).extract (sa+na) (sa+na+d)).size)->kv κ ((arrOf st).extract (sa+na) (sa+na+d))[j]=KK κ (arrOf st) (sa+na+j):=λj hj=>by rw[qw3 (by lia)];simp
  have q1:κ.klt (kv κ (((arrOf st).extract (sa+na) (sa+na+d))[0]'(by lia))) (kv κ (((arrOf st).extract (sa+k) (sa+na))[0]'(by lia))):=by
   rw[gx,gy];exact lk
  have q2:∀j,(hj:j<((arrOf st).extract (sa+na) (sa+na+d)).size)->κ.klt (kv κ ((arrOf st).extract (sa+na) (sa+na+d))[j]) (kv κ (((arrOf st).extract (sa+k) (sa+na))[((arrOf st).extract (sa+k) (sa+na)).size-1]'(by lia))):=λj hj=>by
   rw[gx,gy,show sa+k+(((arrOf st).extract (sa+k) (sa+na)).size-1)=sa+na-1 by lia];exact (d3 j (by lia)).1 (by lia)
  have fin:∀out g,Rd κ ((arrOf st).extract (sa+k) (sa+na)) ((arrOf st).extract (sa+na) (sa+na+d)) out->Q true (SortSt.mk' (kindOf st) (qe4 (arrOf st) (sa+k) out.toList.zipIdx) (((pendingOf st).setIfInBounds i (sa,na+nb,pw)).eraseIdxIfInBounds (i+1)) g (failedOf st)):=λout g r=>by
   obtain⟨r1,r2,r3⟩:=q45 s1 s2 hsz (by lia) d1 pnb (λj j1 j2=>(k3 j j1).1 j2) (λj j1 j2=>(d3 j j1).2 j2) r;exact h _ ⟨r1,rfl,rfl,r2,r3,rfl⟩
  have fn:∀out g,Rd κ ((arrOf st).extract (sa+k) (sa+na)) ((arrOf st).extract (sa+na) (sa+na+d)) out->Q (failedOf st).isNone (SortSt.mk' (kindOf st) (qe4 (arrOf st) (sa+k) out.toList.zipIdx) (((pendingOf st).setIfInBounds i (sa,na+nb,pw)).eraseIdxIfInBounds (i+1)) g (failedOf st)):=λout g r=>by
   have e:(failedOf st).isNone=true:=by rw[hf];rfl
   rw[e];exact fin out g r
  have ax:Asc κ ((arrOf st).extract (sa+k) (sa+na)).toList:=q44 (λx y e1 e2 e3=>s1 x y (by lia) e2 e3) (by lia);have ay:Asc κ ((arrOf st).extract (sa+na) (sa+na+d)).toList:=q44 (λx y e1 e2 e3=>s2 x y e1 e2 (by lia)) (by lia);by_cases wS:na-k<=d
  ·rw[Zx wS];refine Zm (qJ6 (st:=SortSt.mk' (kindOf st) (arrOf st) (((pendingOf st).setIfInBounds i (sa,na+nb,pw)).eraseIdxIfInBounds (i+1)) (gallopOf st) (failedOf st)) hO hk (qs0 h0 _ _) (qs0 h0 _ _) ax ay px py q1 q2 λout g r=>?_);exact Zm (XA (Zm (W3 (Zw (fn out g r)))))
  ·rw[Zk wS];refine Zm (qJ7 (st:=SortSt.mk' (kindOf st) (arrOf st) (((pendingOf st).setIfInBounds i (sa,na+nb,pw)).eraseIdxIfInBounds (i+1)) (gallopOf st) (failedOf st)) hO hk (qs0 h0 _ _) (qs0 h0 _ _) ax ay px py q1 q2 λout g r=>?_);exact Zm (XA (Zm (W3 (Zw (fn out g r)))))
end
def Runs (κ:KeyKind) (a:Array Keyed):List (Nat×Nat×Nat)->Nat->Nat->Prop
 |[],lo,hi=>lo=hi
 |r::rs,lo,hi=>r.1=lo/\0<r.2.1/\SrtK κ a lo (lo+r.2.1)/\Runs κ a rs (lo+r.2.1) hi
section
variable {κ:KeyKind}{a a':Array Keyed}
theorem Runs.app:∀{p q:List (Nat×Nat×Nat)}{lo hi:Nat},Runs κ a (p++q) lo hi<->∃m,Runs κ a p lo m/\Runs κ a q m hi
 |[],q,lo,hi=>⟨λh=>⟨lo,rfl,h⟩,λ⟨m,e,h⟩=>by cases e;exact h⟩
 |r::p,q,lo,hi=>⟨λ⟨h1,h2,h3,h4⟩=>by
   obtain⟨m,m1,m2⟩:=Runs.app.mp h4;exact⟨m,⟨h1,h2,h3,m1⟩,m2⟩,λ⟨m,⟨h1,h2,h3,m1⟩,m2⟩=>⟨h1,h2,h3,Runs.app.mpr ⟨m,m1,m2⟩⟩⟩
theorem Runs.le:∀{p:List (Nat×Nat×Nat)}{lo hi:Nat},Runs κ a p lo hi->lo+p.length<=hi
 |[],lo,hi,h=>by cases h;simp
 |r::p,lo,hi,⟨h1,h2,h3,h4⟩=>by
  have:=h4.le;simp only[ZW];lia
theorem SrtK.congr {lo hi:Nat}(h:SrtK κ a lo hi) (e:∀k:Nat,lo<=k->k<hi->a'[k]?=a[k]?):SrtK κ a' lo hi:=λi j h1 h2 h3=>by
 rw[KK_congr (e i h1 (by lia)),KK_congr (e j (by lia) h3)];exact h i j h1 h2 h3
theorem Runs.congr:∀{p:List (Nat×Nat×Nat)}{lo hi:Nat},Runs κ a p lo hi->(∀k:Nat,lo<=k->k<hi->a'[k]?=a[k]?)->Runs κ a' p lo hi
 |[],lo,hi,h,_=>h
 |r::p,lo,hi,⟨h1,h2,h3,h4⟩,e=>⟨h1,h2,h3.congr (λk k1 k2=>e k k1 (by have:=h4.le;lia)),h4.congr (λk k1 k2=>e k (by lia) k2)⟩
theorem Runs.mod {f:Nat×Nat×Nat->Nat×Nat×Nat}(hf:∀x,(f x).1=x.1/\(f x).2.1=x.2.1):∀{p:List (Nat×Nat×Nat)}{i lo hi:Nat},Runs κ a p lo hi->Runs κ a (p.modify i f) lo hi
 |[],i,lo,hi,h=>by cases i<;>exact h
 |r::p,0,lo,hi,⟨h1,h2,h3,h4⟩=>by
  show Runs κ a (f r::p) lo hi;refine⟨by rw[(hf r).1];exact h1,by rw[(hf r).2];exact h2,by rw[(hf r).2];exact h3,by rw[(hf r).2];exact h4⟩
 |r::p,i+1,lo,hi,⟨h1,h2,h3,h4⟩=>⟨h1,h2,h3,h4.mod hf⟩
theorem Runs.one {lo n w:Nat}(h:0<n) (hs:SrtK κ a lo (lo+n)):Runs κ a [(lo,n,w)] lo (lo+n):=⟨rfl,h,hs,rfl⟩
end
theorem xt2 {α:Type}{l:List α}{i:Nat}(h:i+1<l.length):∃pre x y post,l=pre++x::y::post/\pre.length=i:=by
 refine⟨l.take i,l[i],l[i+1],l.drop (i+2),?_,by simp;lia⟩;rw[<- Wr,<- Wr,YY]
theorem xt3 {p:Array (Nat×Nat×Nat)}{pre post:List (Nat×Nat×Nat)}{x y v:Nat×Nat×Nat}{i:Nat}(h:p.toList=pre++x::y::post) (hi:pre.length=i):((p.setIfInBounds i v).eraseIdxIfInBounds (i+1)).toList=pre++v::post:=by
 have hl:p.size=i+(post.length+2):=by
  have:=Yk List.length h;simp at this;lia
 rw[Array.eraseIdxIfInBounds,dif_pos (by simp;lia),Array.toList_eraseIdx,Wc,h];subst hi;have e1:(pre++x::y::post).set pre.length v=pre++v::y::post:=by
  rw[List.set_append_right _ _ (Ze _)];simp
 rw[e1,List.eraseIdx_append_of_length_le (by lia)];simp
structure Stands (κ:KeyKind) (kd:SortKind) (a₀:Array Keyed) (st:SortSt) (lo:Nat):Prop where
 perm:(arrOf st).Perm a₀
 kind:kindOf st=kd
 fail:failedOf st=none
 runs:Runs κ (arrOf st) (pendingOf st).toList 0 lo
section
variable {prog:Program}{w:World}{A:Around}{E:Value->Shared->Prop}{s:Shared}{κ:KeyKind}
theorem Stands.merge {kd:SortKind}{a₀:Array Keyed}(hO:KLt prog w A s κ kd) (h0:KeysOf κ a₀){st:SortSt}{lo i:Nat}{Q:Bool->SortSt->Prop}(d:Stands κ kd a₀ st lo) (hlo:lo<=a₀.size) (hi:i+1<(pendingOf st).size)
  (h:∀st',Stands κ kd a₀ st' lo->(pendingOf st').size+1=(pendingOf st).size->(∀k:Nat,lo<=k->(arrOf st')[k]?=(arrOf st)[k]?)->Q true st'):wpS (model prog w) A E s (mergeAt' i) Q st:=by
 obtain⟨pre,⟨s1,n1,w1⟩,⟨s2,n2,w2⟩,post,e,hp⟩:=xt2 (l:=(pendingOf st).toList) (by simpa using hi);have r:=d.runs;rw[e] at r;obtain⟨m,r1,r2,r3,r4,r5,r6,r7,r8⟩:=Runs.app.mp r;simp only at r2 r3 r4 r5 r6 r7 r8;subst r2 r5;have l8:=r8.le;have l1:=r1.le;have sz:(arrOf st).size=a₀.size:=d.perm.size_eq;have p1:(pendingOf st)[i]?=some (s1,n1,w1):=by
  rw[<- Yl,e,ZH (by lia),hp,V0];rfl
 have p2:(pendingOf st)[i+1]?=some (s1+n1,n2,w2):=by
  rw[<- Yl,e,ZH (by lia),hp,Nat.add_sub_cancel_left];rfl
 refine qJ8 hO d.kind (qh4 h0 d.perm) d.fail p1 p2 r3 r6 (by lia) r4 r7 λst' g=>h st' ⟨g.perm.trans d.perm,g.kind.trans d.kind,g.fail.trans d.fail,?_⟩ ?_ λk hk=>g.out k (.inr (by lia))
 ·rw[g.pend,xt3 e hp];refine Runs.app.mpr ⟨s1,r1.congr λk _ k2=>g.out k (.inl k2),rfl,by show 0<n1+n2;lia,?_,?_⟩
  ·have:=g.srt
   rwa [Nat.add_assoc] at this
  ·have:=r8.congr (a':=arrOf st') λk k1 _=>g.out k (.inr k1)
   rwa [Nat.add_assoc] at this
 ·have:=Yk List.length (xt3 (v:=(s1,n1+n2,w1)) e hp);rw[<- g.pend] at this;have e2:=Yk List.length e;simp at this e2;lia
theorem qA8 {kd:SortKind}{a₀:Array Keyed}(hO:KLt prog w A s κ kd) (h0:KeysOf κ a₀){st:SortSt}{Q:Unit->SortSt->Prop}(d:Stands κ kd a₀ st 0)
  (h:∀st',(arrOf st').Perm a₀->failedOf st'=none->SortedToK κ (arrOf st') a₀.size->Q () st'):wpS (model prog w) A E s sortRuns' Q st:=by
 rw[sortRuns'_eq];refine Zm (W3 ?_);dsimp only;have sz:(arrOf st).size=a₀.size:=d.perm.size_eq;simp only[sz];generalize minRun' a₀.size a₀.size 0=mr;refine Zm (Wu (Y5 (I:=λx c st'=>∃lo,c=(none,lo)/\Stands κ kd a₀ st' lo/\x<=lo/\lo<=a₀.size)
  (Q:=λc st'=>c=(none,a₀.size)/\Stands κ kd a₀ st' a₀.size) ?step ?fin ⟨0,rfl,d,Ze _,Zv _⟩) ?post)
 case fin=>
  rintro c st' ⟨lo,rfl,d,h1,h2⟩;have:lo=a₀.size:=by lia
  subst this;exact⟨rfl,d⟩
 case post=>
  rintro c st' ⟨rfl,d⟩;dsimp only;refine Zm (Wu (Y5 (I:=λx c st'=>c=(none,())/\Stands κ kd a₀ st' a₀.size/\(pendingOf st').size+x<=a₀.size)
   (Q:=λc st'=>c=(none,())/\Stands κ kd a₀ st' a₀.size/\(pendingOf st').size<=1) ?step2 ?fin2 ⟨rfl,d,?init2⟩) ?post2)
  case init2=>
   have:=d.runs.le;simp at this;lia
  case fin2=>
   rintro c st' ⟨rfl,d,h1⟩;exact⟨rfl,d,by lia⟩
  case post2=>
   rintro c st' ⟨rfl,d,h1⟩;refine Zw (h st' d.perm d.fail λi j jX hj=>?_);have r:=d.runs;cases e:(pendingOf st').toList with
   |nil=>
    rw[e] at r;have r':0=a₀.size:=r;lia
   |cons p ps=>
    rw[e] at r;obtain⟨r1,r2,r3,r4⟩:=r;have:ps=[]:=by
     have:=Yk List.length e;simp at this;exact WI.mp (by lia)
    subst this;have r4':0+p.2.1=a₀.size:=r4;rw[r4'] at r3;exact r3 i j (Zv _) jX hj
  case step2=>
   rintro x c st' _ hx ⟨rfl,d,h1⟩;refine Zm (W3 ?_);by_cases c1:(pendingOf st').size<=1
   ·rw[Zx c1];exact Zw ⟨rfl,d,c1⟩
   ·rw[Zk c1];refine Zm (d.merge hO h0 (Ze _) ?_ λst2 d2 e2 _=>?_)
    ·have key:∀c:Bool,(if c=true then (pendingOf st').size-2-1 else (pendingOf st').size-2)+1<(pendingOf st').size:=λc=>by cases c<;>simp<;>lia
     exact key _
    ·simp only[YH,Zq,ZZ];exact Zw ⟨rfl,d2,by lia⟩
 case step=>
  rintro x c st' _ hx ⟨lo,rfl,d,h1,h2⟩;dsimp only;by_cases c1:lo>=a₀.size
  ·rw[Zx c1];have:lo=a₀.size:=by lia
   subst this;exact Zw ⟨rfl,d⟩
  ·rw[Zk c1];have sz':(arrOf st').size=a₀.size:=d.perm.size_eq;have rest:∀(n:Nat) (st2:SortSt),1<=n->lo+n<=a₀.size->Mv st' st2 lo a₀.size->SrtK κ (arrOf st2) lo (lo+n)->Stands κ kd a₀ st2 lo:=λn st2 n1 n2 m2 _=>
    ⟨m2.perm.trans d.perm,m2.kind.trans d.kind,m2.fail.trans d.fail,by rw[m2.pend];exact d.runs.congr λk _ k2=>m2.out k (.inl k2)⟩
   have push:∀(n:Nat) (st2:SortSt),1<=n->Stands κ kd a₀ st2 lo->SrtK κ (arrOf st2) lo (lo+n)->Stands κ kd a₀ (setPending st2 ((pendingOf st2).push (lo,n,0))) (lo+n):=λn st2 n1 d2 s2=>
    ⟨d2.perm,d2.kind,d2.fail,by
     show Runs κ (arrOf st2) ((pendingOf st2).push (lo,n,0)).toList 0 (lo+n);rw[Xa];exact Runs.app.mpr ⟨lo,d2.runs,Runs.one (by lia) s2⟩⟩
   refine Zm (xb9 hO d.kind (qh4 h0 d.perm) (by lia) (by lia) λm st2 m1 m2 mv s2=>?_);have mv':Mv st' st2 lo a₀.size:=by rwa [show lo+(a₀.size-lo)=a₀.size by lia] at mv
   dsimp only;by_cases c2:m<mr
   case' neg=>
    rw[Zk c2];have s3:=s2;have d3:=rest _ st2 m1 (by lia) mv' s2;have n1:1<=m:=m1;have n2:lo+m<=a₀.size:=by lia
    clear s2;obtain⟨n,hn⟩:∃n,n=m:=⟨_,rfl⟩;simp only[<- hn] at s3 n1 n2 ⊢
   case' pos=>
    rw[Zx c2];refine Zm (VU (Xd ⟨rfl,?_⟩));have hmin:lo+min (a₀.size-lo) mr<=(arrOf st2).size:=by rw[mv.size];lia
    refine Zm (xb7 hO (mv.kind.trans d.kind) (qh4 h0 (mv.perm.trans d.perm)) hmin (by lia) s2 λst3 mv3 s3=>?_);simp only[YH,Zq,ZZ];have mv3':Mv st' st3 lo a₀.size:=mv'.trans ⟨mv3.perm,mv3.kind,mv3.fail,mv3.pend,λk hk=>mv3.out k (by lia)⟩;have d3:=rest _ st3 (show 1<=min (a₀.size-lo) mr by lia) (by lia) mv3' s3;obtain⟨n,hn⟩:∃n,n=min (a₀.size-lo) mr:=⟨_,rfl⟩;have n1:1<=n:=by lia
    have n2:lo+n<=a₀.size:=by lia
    simp only[<- hn] at s3 ⊢;clear hn hmin mv3
   all_goals
    refine Zm (W3 ?_);split
    ·refine Zm (Wu (Y5 (I:=λx c st4=>c=(none,())/\Stands κ kd a₀ st4 lo/\SrtK κ (arrOf st4) lo (lo+n)) (Q:=λc st4=>c=(none,())/\Stands κ kd a₀ st4 lo/\SrtK κ (arrOf st4) lo (lo+n)) ?_ ?_ ⟨rfl,d3,s3⟩) ?_)
     ·rintro y c st4 _ _ ⟨rfl,d4,s4⟩;refine Zm (W3 ?_);split
      ·rename_i e5;split
       ·exact Zw ⟨rfl,d4,s4⟩
       ·have hsz2:(pendingOf st4).size>1:=by
         by_cases z:(pendingOf st4).size>1
         ·exact z
         ·rw[Zk z] at e5;cases e5
        refine Zm (d4.merge hO h0 h2 (by lia) λst5 d5 _ o5=>?_);simp only[YH,Zq,ZZ];exact Zw ⟨rfl,d5,s4.congr λk k1 _=>o5 k k1⟩
      ·exact Zw ⟨rfl,d4,s4⟩
     ·rintro c st4 ⟨rfl,d4,s4⟩;exact⟨rfl,d4,s4⟩
     ·rintro c st4 ⟨rfl,d4,s4⟩;refine Zm (XA (Zm (XA (Zw ⟨_,rfl,push _ _ n1 ⟨d4.perm,d4.kind,d4.fail,?_⟩ s4,by lia,n2⟩))));show Runs κ (arrOf st4) (Array.modify _ _ _).toList 0 lo;rw[Array.toList_modify];refine Runs.mod ?_ d4.runs;exact λ_=>⟨rfl,rfl⟩
    ·exact Zm (XA (Zw ⟨_,rfl,push _ _ n1 d3 s3,by lia,n2⟩))
end
inductive AtK:Bool->Value->List Int->Prop
 |int (i:Int) (t:Tok):AtK false (.int i t) [i]
 |str (x:Str) (t:Tok):AtK true (.str x t) (x.cps.toList.map Int.ofNat)
theorem AtK.uniq {k:Bool}{v:Value}{l m:List Int}(h:AtK k v l) (g:AtK k v m):l=m:=by
 cases h<;>cases g<;>rfl
theorem q46:∀{l m:List Nat},l.map Int.ofNat<m.map Int.ofNat<->l<m
 |[],[]=>by simp
 |[],_::_=>by simp
 |_::_,[]=>by simp
 |x::l,y::m=>by
  rw[Zy,Zy,ZU,ZU,q46];simp only[Int.ofNat_eq_natCast,Int.ofNat_lt,Int.ofNat_inj]
theorem q47:∀{l m:List Nat},l.map Int.ofNat=m.map Int.ofNat->l=m
 |[],[],_=>rfl
 |[],_::_,h=>by simp at h
 |_::_,[],h=>by simp at h
 |x::l,y::m,h=>by
  rw[Zy,Zy] at h;obtain⟨h1,h2⟩:=List.cons.inj h;rw[Int.ofNat.inj h1,q47 h2]
section
variable {prog:Program}{w:World}{A:Around}{E:Value->Shared->Prop}{s:Shared}{pat:Nat->Bool}
theorem xt4 {k:Bool}{x y:Value}{a b:List Int}{Q:Bool->Shared->Prop}(hx:AtK k x a) (hy:AtK k y b) (h:Q (decide (a=b)) s):wpAny (model prog w) A (eqBool x y) Q E s:=by
 cases hx with
 |int i t=>
  cases hy with
  |int j u=>
   refine wpAny_eqBool_int ?_;have e:decide ([i]=[j])=(i==j):=by simp;rfl
   rw[e] at h;exact h
 |str x t=>
  cases hy with
  |str y u=>
   refine PySem.wpAny_eqBool_str ?_;have e:decide (x.cps.toList.map Int.ofNat=y.cps.toList.map Int.ofNat)=decide (x=y):=by
    rw[YQ];constructor
    ·intro z;have:=q47 z;cases x;cases y;simp at this ⊢;exact this
    ·rintro rfl;rfl
   rw[e] at h;exact h
theorem xc2 {k c:Bool}{x y:Value}{a b:List Int}{Q:Bool->Shared->Prop}(hx:AtK k x a) (hy:AtK k y b) (h:Q (decide (a<b)) s):wpAny (model prog w) A (oneLt' c x y) Q E s:=by
 cases hx with
 |int i t=>
  cases hy with
  |int j u=>
   have e:decide ([i]<[j])=decide (i<j):=by rw[YQ,ZU];simp
   rw[e] at h;cases c with
   |true=>exact oneLt_int h
   |false=>
    rw[oneLt'_eq];simp only[Zq,ZZ,Vk];exact Za (wpAny_lt_int (Yd h))
 |str x t=>
  cases hy with
  |str y u=>
   have e:decide (x.cps.toList.map Int.ofNat<y.cps.toList.map Int.ofNat)=decide (x.cps.toList<y.cps.toList):=by rw[YQ];exact q46
   rw[e] at h;cases c with
   |true=>exact oneLt_str h
   |false=>
    rw[oneLt'_eq];simp only[Zq,ZZ,Vk];exact Za (PySem.P.lt_str (Yd h))
end
theorem q48:∀{l m:List (List Int)}(a b:List (List Int)),l.length=m.length->(l++a<m++b<->l<m\/(l=m/\a<b))
 |[],[],a,b,_=>by simp
 |[],_::_,_,_,h=>by simp at h
 |_::_,[],_,_,h=>by simp at h
 |x::l,y::m,a,b,h=>by
  rw[List.cons_append,List.cons_append,ZU,ZU,q48 a b (by simpa using h)];constructor
  ·rintro (z|⟨z,u|⟨u,v⟩⟩)
   ·exact .inl (.inl z)
   ·exact .inl (.inr ⟨z,u⟩)
   ·exact .inr ⟨by rw[z,u],v⟩
  ·rintro ((z|⟨z,u⟩)|⟨z,v⟩)
   ·exact .inl z
   ·exact .inr ⟨z,.inl u⟩
   ·obtain⟨z1,z2⟩:=List.cons.inj z;exact .inr ⟨z1,.inr ⟨z2,v⟩⟩
structure OKind (prog:Program) (w:World) where
 is:Heap->Value->List (List Int)->Prop
 lvl:Nat
 keep:∀{h h':Heap}{v:Value}{l:List (List Int)},(∀b o,h.get? b=some o->o.cls=.type "tuple" -> h'.get? b=some o)->is h v l->is h' v l
 len:∀{h h':Heap}{u v:Value}{l m:List (List Int)},is h u l->is h' v m->l.length=m.length
 uniq:∀{h:Heap}{v:Value}{l m:List (List Int)},is h v l->is h v m->l=m
 eqB:∀{A:Around}{E:Value->Shared->Prop}{s:Shared}{u v:Value}{l m:List (List Int)}{Q:Bool->Shared->Prop},A.units+lvl<cLine->is s.heap u l->is s.heap v m->Q (decide (l=m)) s->wpAny (model prog w) A (eqBool u v) Q E s
 lt:∀{A:Around}{E:Value->Shared->Prop}{s:Shared}{u v:Value}{l m:List (List Int)}{Q:Value->Shared->Prop},A.units+lvl<cLine->is s.heap u l->is s.heap v m->Q (.bool (decide (l<m))) s->wpAny (model prog w) A (richCompare .Lt u v) Q E s
section
variable {prog:Program}{w:World}
theorem dec1 (a b:List Int):decide ([a]=[b])=decide (a=b):=by simp
theorem dec2 (a b:List Int):decide ([a]<[b])=decide (a<b):=by rw[YQ,ZU];simp
def atO (k:Bool):OKind prog w where
 is _ v l:=∃x,l=[x]/\AtK k v x
 lvl:=0
 keep:=λ_ h=>h
 len:=λ⟨_,e,_⟩ ⟨_,e',_⟩=>by rw[e,e'];rfl
 uniq:=λ⟨_,e,h⟩ ⟨_,e',h'⟩=>by rw[e,e',h.uniq h']
 eqB:=λ_ ⟨_,e,h⟩ ⟨_,e',h'⟩ q=>by
  subst e e';rw[dec1] at q;exact xt4 h h' q
 lt:=λ_ ⟨_,e,h⟩ ⟨_,e',h'⟩ q=>by
  subst e e';rw[dec2] at q;cases h with
  |int i t=>
   cases h' with
   |int j u=>
    have e:decide ([i]<[j])=decide (i<j):=by rw[YQ,ZU];simp
    rw[e] at q;exact wpAny_lt_int q
  |str x t=>
   cases h' with
   |str y u=>
    have e:decide (x.cps.toList.map Int.ofNat<y.cps.toList.map Int.ofNat)=decide (x.cps.toList<y.cps.toList):=by rw[YQ];exact q46
    rw[e] at q;exact PySem.P.lt_str q
inductive ItO (h:Heap):List (OKind prog w)->List Value->List (List Int)->Prop
 |nil:ItO h [] [] []
 |cons {k:OKind prog w}{v:Value}{l:List (List Int)}{ks:List (OKind prog w)}{vs:List Value}{ls:List (List Int)}(x:k.is h v l) (r:ItO h ks vs ls):ItO h (k::ks) (v::vs) (l++ls)
theorem ItO.keep {h h':Heap}(kp:∀b o,h.get? b=some o->o.cls=.type "tuple" -> h'.get? b=some o):∀{ks:List (OKind prog w)}{vs:List Value}{l:List (List Int)},ItO h ks vs l->ItO h' ks vs l
 |_,_,_,.nil=>.nil
 |k::_,_,_,.cons x r=>.cons (k.keep kp x) (r.keep kp)
theorem ItO.len {h h':Heap}:∀{ks:List (OKind prog w)}{us vs:List Value}{l m:List (List Int)},ItO h ks us l->ItO h' ks vs m->l.length=m.length
 |_,_,_,_,_,.nil,.nil=>rfl
 |k::_,_,_,_,_,.cons x r,.cons x' r'=>by rw[Zz,Zz,k.len x x',r.len r']
theorem ItO.uniq {h:Heap}:∀{ks:List (OKind prog w)}{vs:List Value}{l m:List (List Int)},ItO h ks vs l->ItO h ks vs m->l=m
 |_,_,_,_,.nil,.nil=>rfl
 |k::_,_,_,_,.cons x r,.cons x' r'=>by rw[k.uniq x x',r.uniq r']
theorem ItO.size {h:Heap}:∀{ks:List (OKind prog w)}{vs:List Value}{l:List (List Int)},ItO h ks vs l->vs.length=ks.length
 |_,_,_,.nil=>rfl
 |_::_,_,_,.cons _ r=>by rw[ZW,ZW,r.size]
def IsTO (ks:List (OKind prog w)) (h:Heap) (v:Value) (l:List (List Int)):Prop:=∃a o xs n,v=.ref a/\h.get? a=some o/\o.cls=.type "tuple" /\ o.data=.seq xs n/\ItO h ks xs.toList l
variable {A:Around}{E:Value->Shared->Prop}{s:Shared}
theorem IsTO.keep {ks:List (OKind prog w)}{h h':Heap}{v:Value}{l:List (List Int)}(kp:∀b o,h.get? b=some o->o.cls=.type "tuple" -> h'.get? b=some o) (x:IsTO ks h v l):IsTO ks h' v l:=by
 obtain⟨a,o,xs,n,rfl,e1,e2,e3,e4⟩:=x;exact⟨a,o,xs,n,rfl,kp _ _ e1 e2,e2,e3,e4.keep kp⟩
theorem IsTO.uniq {ks:List (OKind prog w)}{h:Heap}{v:Value}{l m:List (List Int)}(x:IsTO ks h v l) (y:IsTO ks h v m):l=m:=by
 obtain⟨a,o,xs,n,rfl,e1,e2,e3,e4⟩:=x;obtain⟨a',o',xs',n',e5,f1,f2,f3,f4⟩:=y;cases e5;rw[e1] at f1;cases f1;rw[e3] at f3;cases f3;exact e4.uniq f4
theorem xc3 {ks:List (OKind prog w)}{L:Nat}(hL:∀k∈ks,k.lvl<=L) (hu:A.units+L<cLine){l m:List (List Int)}{a b:Addr}{P:Fin->Shared->Prop}(hx:IsTO ks s.heap (.ref a) l) (hy:IsTO ks s.heap (.ref b) m) (h:P (.done (.ret (.bool (decide (l=m))))) s) :
  wpAny (model prog w) A (Builtin.«tuple.__eq__» ⟨[.ref a,.ref b],[]⟩) P E s:=by
 obtain⟨a',oa,xs,na,ea,kN,_,kE,vY⟩:=hx;obtain⟨b',ob,ys,nb,eb,hob,hcb,vA,vG⟩:=hy;cases ea;cases eb;have hTb:s.TypeIs (.ref b) "tuple":=⟨ob,hob,hcb⟩;have hsz:xs.size=ys.size:=by have:=vY.size;have:=vG.size;simp at *;lia
 show wpAny _ _ (isInstance (.ref b) (.type "tuple") >>= _) _ _ s;refine Za (XM hTb isSubtype_tuple_tuple ?_);simp only[YH,Zq,ZZ];refine Za (WE kN kE ?_);refine Za (WE hob vA ?_);refine Za ?_;refine Wn _
  (λrest r s'=>r.1=none/\s'=s/\∃(ks':List (OKind prog w)) (xs' ys':List Value) (l' m':List (List Int)),rest=List.zip xs' ys'/\(∀k∈ks',k.lvl<=L)/\ItO s.heap ks' xs' l'/\ItO s.heap ks' ys' m'/\decide (l'=m')=decide (l=m))
  _ ?_ ?_ _ _ ⟨rfl,rfl,ks,xs.toList,ys.toList,l,m,rfl,hL,vY,vG,rfl⟩
 ·rintro⟨u,v⟩ rest r s' ⟨hr,rfl,ks',xs',ys',l',m',hz,hl',hx',hy',jZ⟩;cases hx' with
  |nil=>simp at hz
  |@cons k u' x ks'' xs'' ls x1 r1=>
   cases hy' with
   |@cons _ v' y _ ys'' ms x2 r2=>
    simp only[WF,YV,VN] at hz;obtain⟨⟨rfl,rfl⟩,rfl⟩:=hz;have j9:=k.len x1 x2;refine Za (k.eqB (by have:=hl' k (by simp);lia) x1 x2 ?_);by_cases hk:x=y
    ·subst hk;rw[Zu rfl];simp only[YH,Zq,ZZ];refine Zb ⟨rfl,rfl,ks'',xs'',ys'',ls,ms,rfl,λq hq=>hl' q (by simp[hq]),r1,r2,?_⟩;rw[<- jZ,YQ,List.append_cancel_left_eq]
    ·rw[Zn hk];simp only[WJ,Xq];have hf:decide (l=m)=false:=by rw[<- jZ];exact Zn λz=>hk (List.append_inj_left z j9)
     rw[hf] at h;exact Za (Zb (Zb (Zb h)))
 ·rintro⟨r1,r2⟩ s' ⟨hr,rfl,ks',xs',ys',l',m',hz,hl',hx',hy',jZ⟩;simp only at hr;subst hr;refine Zb ?_;have hfin:(xs.size==ys.size)=decide (l=m):=by
   rw[<- jZ];cases hx' with
   |nil=>cases hy';simp[hsz]
   |cons _ _=>cases hy' with|cons _ _=>simp at hz
  show P (.done (.ret (.bool (xs.size==ys.size)))) s';rw[hfin];exact h
theorem xc4 {ks:List (OKind prog w)}{L:Nat}(hL:∀k∈ks,k.lvl<=L) (hu:A.units+L<cLine){l m:List (List Int)}{a b:Addr}{P:Fin->Shared->Prop}(hx:IsTO ks s.heap (.ref a) l) (hy:IsTO ks s.heap (.ref b) m) (h:P (.done (.ret (.bool (decide (l<m))))) s) :
  wpAny (model prog w) A (Builtin.«tuple.__lt__» ⟨[.ref a,.ref b],[]⟩) P E s:=by
 obtain⟨a',oa,xs,na,ea,kN,_,kE,vY⟩:=hx;obtain⟨b',ob,ys,nb,eb,hob,hcb,vA,vG⟩:=hy;cases ea;cases eb;have hTb:s.TypeIs (.ref b) "tuple":=⟨ob,hob,hcb⟩;have hsz:xs.size=ys.size:=by have:=vY.size;have:=vG.size;simp at *;lia
 show wpAny _ _ (isInstance (.ref b) (.type "tuple") >>= _) _ _ s;refine Za (XM hTb isSubtype_tuple_tuple ?_);simp only[YH,Zq,ZZ];refine Za (WE kN kE ?_);refine Za (WE hob vA ?_);refine Za ?_;refine Wn _
  (λrest r s'=>r.1=none/\s'=s/\∃(ks':List (OKind prog w)) (xs' ys':List Value) (l' m':List (List Int)),rest=List.zip xs' ys'/\(∀k∈ks',k.lvl<=L)/\ItO s.heap ks' xs' l'/\ItO s.heap ks' ys' m'/\decide (l'<m')=decide (l<m))
  _ ?_ ?_ _ _ ⟨rfl,rfl,ks,xs.toList,ys.toList,l,m,rfl,hL,vY,vG,rfl⟩
 ·rintro⟨u,v⟩ rest r s' ⟨hr,rfl,ks',xs',ys',l',m',hz,hl',hx',hy',jZ⟩;cases hx' with
  |nil=>simp at hz
  |@cons k u' x ks'' xs'' ls x1 r1=>
   cases hy' with
   |@cons _ v' y _ ys'' ms x2 r2=>
    simp only[WF,YV,VN] at hz;obtain⟨⟨rfl,rfl⟩,rfl⟩:=hz;have j9:=k.len x1 x2;refine Za (k.eqB (by have:=hl' k (by simp);lia) x1 x2 ?_);by_cases hk:x=y
    ·subst hk;rw[Zu rfl];simp only[YH,Zq,ZZ];refine Zb ⟨rfl,rfl,ks'',xs'',ys'',ls,ms,rfl,λq hq=>hl' q (by simp[hq]),r1,r2,?_⟩;rw[<- jZ,YQ,q48 _ _ rfl];simp[XO]
    ·rw[Zn hk];simp only[WJ,Xq];have hf:decide (x<y)=decide (l<m):=by rw[<- jZ,YQ,q48 _ _ j9];simp[hk]
     rw[<- hf] at h;refine Za (Xd (Za (k.lt (by have:=hl' k (by simp);lia) x1 x2 ?_)));exact Za (Zb (Zb (Zb h)))
 ·rintro⟨r1,r2⟩ s' ⟨hr,rfl,ks',xs',ys',l',m',hz,hl',hx',hy',jZ⟩;simp only at hr;subst hr;refine Zb ?_;have hfin:decide (xs.size<ys.size)=decide (l<m):=by
   rw[<- jZ];cases hx' with
   |nil=>cases hy';simp[hsz]
   |cons _ _=>cases hy' with|cons _ _=>simp at hz
  show P (.done (.ret (.bool (decide (xs.size<ys.size))))) s';rw[hfin];exact h
theorem IsTO.typeIs {ks:List (OKind prog w)}{l:List (List Int)}{a:Addr}(x:IsTO ks s.heap (.ref a) l):s.TypeIs (.ref a) "tuple":=by
 obtain⟨a',o,_,_,e,ho,hc,_⟩:=x;cases e;exact⟨o,ho,hc⟩
def tpO (ks:List (OKind prog w)) (L:Nat) (hL:∀k∈ks,k.lvl<=L):OKind prog w where
 is:=IsTO ks
 lvl:=L+1
 keep:=λkp x=>x.keep kp
 len:=λ⟨_,_,_,_,_,_,_,_,e⟩ ⟨_,_,_,_,_,_,_,_,e'⟩=>e.len e'
 uniq:=IsTO.uniq
 eqB:=λ{A E s u v l m Q} hu hx hy h=>by
  obtain⟨a,rfl⟩:∃a,u=.ref a:=let ⟨a,_,_,_,e,_⟩:=hx;⟨a,e⟩;obtain⟨b,rfl⟩:∃a,v=.ref a:=let ⟨a,_,_,_,e,_⟩:=hy;⟨a,e⟩;unfold eqBool
  try with_reducible refine ZX ?_
  show wpAny _ _ (if (Value.ref a==Value.ref b)=true then _ else _) Q E s;by_cases vB:(Value.ref a==Value.ref b)=true
  ·rw[Zx vB];have e:a=b:=by have:=eq_of_beq vB;injection this
   subst e;obtain rfl:=hx.uniq hy;exact Za (Xd (Zb (by simpa using h)))
  ·rw[Zk vB];exact Za (wpAny_richCompare_same_room (op:=.Eq) hx.typeIs hy.typeIs F.slot_tuple_eq
    (Z3 F.slot_tuple_eq hx.typeIs F.entry_tuple_eq (xc3 hL (by show A.units+1+L<cLine;lia) hx hy ⟨_,rfl,(λe=>nomatch e),Yd h⟩) (F.args_tuple_eq_2 _ _)) (by lia))
 lt:=λ{A E s u v l m Q} hu hx hy h=>by
  obtain⟨a,rfl⟩:∃a,u=.ref a:=let ⟨a,_,_,_,e,_⟩:=hx;⟨a,e⟩;obtain⟨b,rfl⟩:∃a,v=.ref a:=let ⟨a,_,_,_,e,_⟩:=hy;⟨a,e⟩;exact wpAny_richCompare_same_room (op:=.Lt) hx.typeIs hy.typeIs F.slot_tuple_lt
   (Z3 F.slot_tuple_lt hx.typeIs F.entry_tuple_lt (xc4 hL (by show A.units+1+L<cLine;lia) hx hy ⟨_,rfl,(λe=>nomatch e),h⟩) (F.args_tuple_lt_2 _ _)) (by lia)
end
open Classical in
noncomputable def qA9 {prog:Program}{w:World}(κ:OKind prog w) (h:Heap):KeyKind where
 α:=List (List Int)
 blt a b:=decide (a<b)
 irrefl a:=by simpa using XO a
 trans a b c h1 h2:=by simp only[WM] at *;exact List.lt_trans h1 h2
 negTrans a b c h:=by
  simp only[WM] at *;by_cases vB:a<b
  ·exact .inl vB
  ·exact .inr (List.lt_of_le_of_lt (W7.mp vB) h)
 total a b h1 h2:=by simp only[decide_eq_false_iff_not] at *;exact List.le_antisymm (W7.mp h2) (W7.mp h1)
 keyOf v:=if e:∃l,κ.is h v l then some e.choose else none
 dflt:=[]
section
variable {prog:Program}{w:World}{κ:OKind prog w}
open Classical in
theorem xm8 {h:Heap}{v:Value}{l:List (List Int)}(x:κ.is h v l):(qA9 κ h).keyOf v=some l:=by
 have e:∃l,κ.is h v l:=⟨l,x⟩;show (if e:∃l,κ.is h v l then some e.choose else none)=some l;rw[dif_pos e,κ.uniq e.choose_spec x]
open Classical in
theorem xt5 {h:Heap}{v:Value}{l:List (List Int)}(x:(qA9 κ h).keyOf v=some l):κ.is h v l:=by
 by_cases e:∃l,κ.is h v l
 ·have:=xm8 e.choose_spec;rw[this] at x;cases x;exact e.choose_spec
 ·have:(qA9 κ h).keyOf v=none:=by
   show (if e:∃l,κ.is h v l then some e.choose else none)=none;rw[dif_neg e]
  rw[this] at x;cases x
structure SKd (κ:OKind prog w) (kd:SortKind):Prop where
 kind:∀{A:Around}{E:Value->Shared->Prop}{s:Shared}{vs:List Value}{Q:SortKind->Shared->Prop},vs≠[]->(∀v∈vs,∃l,κ.is s.heap v l)->Q kd s->wpAny (model prog w) A (keyKind' vs.toArray) Q E s
 klt:∀{A:Around}{s:Shared},A.units+κ.lvl<cLine->KLt prog w A s (qA9 κ s.heap) kd
def tyA (k:Bool):Value:=if k then .type "str" else .type "int"
theorem xm9 {k:Bool}{u:Value}{l:List Int}(h:AtK k u l):typeOf u=pure (tyA k):=by cases h<;>rfl
theorem qG2 {k:Bool}:∀{us:List Value},(∀u∈us,∃l,AtK k u l)->us.mapM typeOf=pure (us.map λ_=>tyA k)
 |[],_=>by simp
 |u::us,h=>by
  rw[List.mapM_cons,qG2 (us:=us) λq hq=>h q (by simp[hq])];obtain⟨l,hl⟩:=h u (by simp);rw[xm9 hl];simp
theorem xc5 {k:Bool}{us:List Value}(h0:us≠[]) (h:∀u∈us,∃l,AtK k u l):oneTypeOnly' us.toArray=pure (some (tyA k)):=by
 rw[oneTypeOnly'_eq,List.mapM_toArray,qG2 h];simp only[map_pure,Vk];cases us with
 |nil=>exact absurd rfl h0
 |cons u us=>
  have e0:((u::us).map λ_=>tyA k).toArray[0]?=some (tyA k):=by simp
  have e1:(((u::us).map λ_=>tyA k).toArray.all λx=>x==tyA k)=true:=by
   simp only[List.all_toArray,List.all_map,YN];intro _ _;show (tyA k==tyA k)=true;cases k<;>rfl
  rw[e0];simp only[e1,Xq]
theorem xc6 {k:Bool}{u:Value}{l:List Int}(h:AtK k u l):firstOfTuple' u=pure none:=by cases h<;>rfl
theorem qG3 {k:Bool}:∀{us:List Value},(∀u∈us,∃l,AtK k u l)->us.mapM firstOfTuple'=pure (us.map λ_=>none)
 |[],_=>by simp
 |u::us,h=>by
  rw[List.mapM_cons,qG3 (us:=us) λq hq=>h q (by simp[hq])];obtain⟨l,hl⟩:=h u (by simp);rw[xc6 hl];simp
theorem xz0 (k:Bool):SKd (prog:=prog) (w:=w) (atO k) oneType' where
 kind:=λ{A E s vs Q} h0 hv h=>by
  have hv':∀u∈vs,∃l,AtK k u l:=λu hu=>let ⟨_,x,_,e⟩:=hv u hu;⟨x,e⟩;have e:keyKind' vs.toArray=pure oneType':=by
   rw[keyKind'_eq,List.mapM_toArray,qG3 hv'];simp only[map_pure,Vk];cases vs with
   |nil=>exact absurd rfl h0
   |cons v vs=>
    rw[Zk (by simp),Zk (by simp),xc5 h0 hv'];simp
  rw[e];exact Zb h
 klt:=λ{A s} _ E x y a b Q ha hb hq=>by
  obtain⟨x1,rfl,hx⟩:=xt5 ha;obtain⟨y1,rfl,hy⟩:=xt5 hb;have hq':Q (decide ([x1]<[y1])) s:=hq;rw[dec2] at hq';exact xc2 (c:=true) hx hy hq'
def AscO (κ:OKind prog w) (h:Heap) (vs:List Value):Prop:=vs.Pairwise λu v=>∀l m,κ.is h u l->κ.is h v m->¬m<l
theorem xz1 {vs:List Value}{h:Heap}{xs:Array Keyed}(hv:∀v∈vs,∃l,κ.is h v l) (hp:xs.Perm (pairsOf vs)) (hs:SortedToK (qA9 κ h) xs (pairsOf vs).size) :
  (xs.map (·.2)).toList.Perm vs/\AscO κ h (xs.map (·.2)).toList:=by
 have hl:xs.toList.Perm (vs.zip vs):=by rw[<- pairsOf_toList];exact Wk.mp hp
 have mem:∀p,p∈xs.toList->p.1=p.2/\p.1∈vs:=λp q=>mem_zip_self (hl.mem_iff.mp q);constructor
 ·rw[Array.toList_map];have z:=hl.map Prod.snd
  rwa [List.map_snd_zip (Ze _)] at z
 ·refine Xo.mpr λi j hi hj jX l m hl hm=>?_;have i1:i<xs.size:=by simpa using hi
  have j1:j<xs.size:=by simpa using hj
  have z:=hs i j (XR jX) (by rw[<- hp.size_eq];exact j1);have kk:∀(i:Nat) (i1:i<xs.size) l,κ.is h xs[i].2 l->KK (qA9 κ h) xs i=l:=λi i1 l hl=>by
   have a:=(mem xs[i] (by simp)).1;have b:κ.is h xs[i].1 l:=by rw[a];exact hl
   rw[qw3 i1];unfold kv;rw[xm8 b];rfl
  rw[kk i i1 l (by simpa using hl),kk j j1 m (by simpa using hm)] at z;exact Yj z
variable {A:Around}{E:Value->Shared->Prop}{s:Shared}
theorem xn0 {kd:SortKind}(sk:SKd κ kd) (hu:A.units+κ.lvl<cLine){p:Addr}{vs:List Value}{n:Nat}{P:Fin->Shared->Prop}(hL:s.heap.get? p=some (seqObj "list" vs.toArray n)) (hv:∀v∈vs,∃l,κ.is s.heap v l) (hz:vs.length<=sizeLine)
  (h:∀out:Array Value,out.toList.Perm vs->AscO κ s.heap out.toList->P (.done (.ret .none)) { s with heap:=sortedHeap s.heap p vs out }) :
  wpAny (model prog w) A (Builtin.«list.sort» ⟨[.ref p],[]⟩) P E s:=by
 have lt:=Zi hL;obtain⟨c1,hE⟩:∃c,(s.heap.update p (Obj.mapSeq λ_=>#[])).get? p=some (seqObj "list" #[] c):=⟨_,get?_update_seq hL (λ_=>#[])⟩;have kp:∀b o,b≠p->s.heap.get? b=some o->(((s.heap.update p (Obj.mapSeq λ_=>#[])).push (seqObj "tuple" vs.toArray 0)).push (seqObj "list" #[] 0)).get? b=some o:=λb o hb q=>by
  have l2:=Zi q;rw[WU _ _ _ (by rw[size_push',W2];exact Zp (ZR l2)),WU _ _ _ (by rw[W2];exact Zp l2),Heap.get?_update_ne _ _ _ _ hb];exact q
 have hT:(((s.heap.update p (Obj.mapSeq λ_=>#[])).push (seqObj "tuple" vs.toArray 0)).push (seqObj "list" #[] 0)).get? p=some (seqObj "list" #[] c1):=by
  rw[WU _ _ _ (by rw[size_push',W2];exact Zp (ZR lt)),WU _ _ _ (by rw[W2];exact Zp lt)];exact hE
 have kT:∀b o,s.heap.get? b=some o->o.cls=.type "tuple" -> (((s.heap.update p (Obj.mapSeq λ_=>#[])).push (seqObj "tuple" vs.toArray 0)).push (seqObj "list" #[] 0)).get? b=some o:=λb o q c=>kp b o (by rintro rfl;rw[hL] at q;cases q;simp at c) q;rw[list_sort_plain];refine Za (listItems_at hL rfl (Za (listUpdate_at hL rfl (Za (seqEpoch_at hE rfl (Za (wpAny_newTuple (Za (wpAny_newList (ZX ?_) (Zv _))) (by simpa using hz))))) (by simpa using hz) (Zv _))));show wpAny (model prog w) A _ P E { s with heap:=((s.heap.update p (Obj.mapSeq λ_=>#[])).push (seqObj "tuple" vs.toArray 0)).push (seqObj "list" #[] 0) };have fin:∀h' out,(∀b o,s.heap.get? b=some o->o.cls=.type "tuple" -> h'.get? b=some o)->out.toList.Perm vs->AscO κ h' out.toList->P (.done (.ret .none)) { s with heap:=sortedHeap s.heap p vs out }:=λh' out k1 o1 o2=>h out o1 (VL (λz l m x y=>z l m (κ.keep k1 x) (κ.keep k1 y)) o2);have hv':∀v∈vs,∃l,κ.is (((s.heap.update p (Obj.mapSeq λ_=>#[])).push (seqObj "tuple" vs.toArray 0)).push (seqObj "list" #[] 0)) v l:=λv q=>by
  obtain⟨l,x⟩:=hv v q;exact⟨l,κ.keep kT x⟩
 dsimp only;by_cases small:vs.toArray.size<2
 ·rw[Zx small,Zx small];refine Za (Zb ?_);rw[StateT.run_pure];refine Za (Zb ?_);dsimp only;have e:(vs.toArray.zip vs.toArray).map (·.2)=vs.toArray:=by
   apply Array.toList_inj.mp;simp[List.map_snd_zip]
  refine Za (seqEpoch_at hT rfl (Za (listUpdate_at hT rfl ?_ (Zv _) (by show ((vs.toArray.zip vs.toArray).map (·.2)).size<=_;rw[e];simp;lia))));simp only[bne_self_eq_false,Zq,ZZ];refine Zb ?_;show P _ { s with heap:=sortedHeap s.heap p vs ((vs.toArray.zip vs.toArray).map (·.2)) };rw[e];refine h _ (by simp) ?_;have:vs.length<2:=by simpa using small
  match vs,this with
  |[],_=>exact List.Pairwise.nil
  |[x],_=>exact WH _ _
  |_::_::_,z=>simp at z;lia
 ·rw[Zk small,Zk small];refine Za (sk.kind (λz=>small (by rw[z];decide)) hv' ?_);generalize hh:((s.heap.update p (Obj.mapSeq λ_=>#[])).push (seqObj "tuple" vs.toArray 0)).push (seqObj "list" #[] 0)=h1 at *;have ka:KeysOf (qA9 κ h1) (pairsOf vs):=λq hq=>by
   rw[pairsOf_toList] at hq;obtain⟨l,x⟩:=hv' _ (mem_zip_self hq).2;exact⟨l,xm8 x⟩
  refine Za (YF (qA8 (κ:=qA9 κ h1) (kd:=kd) (a₀:=pairsOf vs) (st:=SortSt.mk' kd (vs.toArray.zip vs.toArray) #[] 7 none)
   (Q:=λ_ st'=>(arrOf st').Perm (pairsOf vs)/\failedOf st'=none/\SortedToK (qA9 κ h1) (arrOf st') (pairsOf vs).size)
   (sk.klt (s:={ s with heap:=h1 }) hu) ka ⟨Array.Perm.refl _,rfl,rfl,rfl⟩ λst' a b c=>⟨a,b,c⟩) ?_ λ_ _ e=>e)
  rintro⟨⟨⟩,st'⟩ s' ⟨rfl,hp,hf,hs⟩;dsimp only;obtain⟨o1,o2⟩:=xz1 hv' hp hs;refine Za (seqEpoch_at hT rfl (Za (listUpdate_at hT rfl ?_ (Zv _) ?_)))
  ·rw[hf];simp only[bne_self_eq_false,Zq,ZZ];refine Zb ?_;subst hh;exact fin _ _ kT o1 o2
  ·refine ZF (Vg ?_) (VF hz);have:=o1.length_eq;rw[ZJ] at this;exact this
theorem xc7 {kd:SortKind}(sk:SKd κ kd) (hu:A.units+3+κ.lvl<cLine){x:Value}{Pv:List Value->Prop}{Q:Value->Shared->Prop}(hv:∀vs,Pv vs->(∀v∈vs,∃l,κ.is s.heap v l)/\vs.length<=sizeLine)
  (hc:∀Q':List Value->Shared->Prop,(∀(vs:List Value) (h':Heap) (tk:Nat) (d:Drawn),Pv vs->(∀b o,s.heap.get? b=some o->h'.get? b=some o)->Q' vs { s with heap:=h',drawn:=d,toks:=tk })->wpAny (model prog w) A.in1 (collect x) Q' E s)
  (h:∀(vs:List Value) (out:Array Value) (h1 h2:Heap) (tk:Nat) (d:Drawn) (c:Nat),Pv vs->(∀b o,s.heap.get? b=some o->h1.get? b=some o)->(∀b o,h1.get? b=some o->h2.get? b=some o)->h2.get? h1.objs.size=some (seqObj "list" out c)->out.toList.Perm vs->AscO κ s.heap out.toList->Q (.ref h1.objs.size) { s with heap:=h2,drawn:=d,toks:=tk }) :
  wpAny (model prog w) A (call (.builtin "sorted") [x]) Q E s:=by
 refine Calls.call_function_entry kind_sorted plain_sorted entry_sorted (args_sorted1 _) ?_;unfold Builtin.«sorted»;refine Za (m:=checkCount "sorted" 1 1 _) (Zb (Za (hc _ λvs h1 tk d pv k1=>Za (wpAny_newList ?_ (hv vs pv).2))));obtain⟨hv,hz⟩:=hv vs pv;have hL:(h1.push (seqObj "list" vs.toArray 0)).get? h1.objs.size=some (seqObj "list" vs.toArray 0):=Zf _ rfl;have k2:∀b o,s.heap.get? b=some o->(h1.push (seqObj "list" vs.toArray 0)).get? b=some o:=λb o e=>Zc _ (k1 b o e);show wpAny _ _ _ _ _ { s with heap:=h1.push (seqObj "list" vs.toArray 0),drawn:=d,toks:=tk };refine Za (ZX (Z3 (s:={ s with heap:=h1.push (seqObj "list" vs.toArray 0),drawn:=d,toks:=tk }) slot_list_sort ⟨_,hL,rfl⟩ entry_list_sort (xn0 sk ?_ hL (λv q=>(hv v q).imp λ_ z=>κ.keep (λb o e _=>k2 b o e) z) hz λout a1 a2=>⟨_,rfl,Zb ⟨_,rfl,?_⟩⟩) (args_list_sort _)))
 ·show A.units+1+1+κ.lvl<cLine;lia
 ·obtain⟨c,hc⟩:=sortedHeap_at (out:=out) hL;refine h vs out h1 _ tk d c pv k1 (λb o e=>?_) hc a1 (VL (λz l m x y=>z l m (κ.keep (λb o e _=>k2 b o e) x) (κ.keep (λb o e _=>k2 b o e) y)) a2);have lt:=Zi e;rw[sortedHeap_old (Zp lt) (by rw[size_push'];exact ZR lt)];exact Zc _ e
end
section
variable {prog:Program}{w:World}{A:Around}{E:Value->Shared->Prop}{s:Shared}
theorem q49 (key:Nat->List (List Int)):∀n j,j<=n->¬key j<key (argBest (λi j=>decide (key i<key j)) n)
 |0,j,h=>by
  have:j=0:=by lia
  subst this;exact XO _
 |n+1,j,h=>by
  unfold argBest;by_cases hb:key (n+1)<key (argBest (λi j=>decide (key i<key j)) n)
  ·rw[Zx (Zu hb)];by_cases e:j=n+1
   ·subst e;exact XO _
   ·intro z;exact q49 key n j (by lia) (List.lt_trans z hb)
  ·rw[Zk (by simpa using hb)];by_cases e:j=n+1
   ·subst e;exact hb
   ·exact q49 key n j (by lia)
section
variable {R:Result->Shared->Prop}{I:Addr}{fp wr:List Addr}{G:Array GenState->Array GenState->Prop}{n:Nat}{P:Nat->Value->Prop}{St:Nat->Shared->Prop}
theorem q50 (W:WalksS prog w A.in1 I fp wr G n P St) (S:Addr) (jW:S∉fp) (bt:Nat->Nat->Bool) (h0:Heap)
  (hcmp:∀i j vi vj (s':Shared) (Q':Value->Shared->Prop) (E':Value->Shared->Prop),(∀b o,b∉S::wr->h0.get? b=some o->s'.heap.get? b=some o)->P i vi->P j vj->Q' (.bool (bt i j)) s'->wpAny (model prog w) A.in1 (richCompare .Lt vi vj) Q' E' s') :
  ∀(k j:Nat) (s:Shared) (vb:Value) (c:Nat),n-(j+1)=k->j+1<=n->St (j+1) s->P (argBest bt j) vb->s.heap.get? S=some (seqObj "list" #[vb,vb] c) ->
   (∀b o,b∉S::wr->h0.get? b=some o->s.heap.get? b=some o)->(∀v s',P (argBest bt (n-1)) v->Moved (S::wr) G s s'->R (.ok (.ret v)) s')->codeAny (model prog w) A (.builtin "min.loop" ⟨[.ref I,.none,.ref S],[]⟩) R s
 |k,j,s,vb,c,hk,hj,k5,hPb,hS,kp,hR=>by
  have wB:S∉wr:=λh=>jW (W.sub _ h);have jP:∀b∈wr,b∈S::wr:=λb hb=>Zl _ hb;have jS:(toString "min" ++ toString ".loop" : String) = "min.loop":=by decide
  have other:∀{h:Heap}{f:Obj->Obj}{b:Addr}{o:Obj},b∉S::wr->h.get? b=some o->(h.update S f).get? b=some o:=λhb e=>(Z0 _ _ (λz=>hb (by rw[z];exact ZC))).trans e;have inFp:∀{h:Heap}{f:Obj->Obj}{b:Addr}{o:Obj},b∈fp->h.get? b=some o->(h.update S f).get? b=some o:=λhb e=>(Z0 _ _ (λz=>jW (by rw[z];exact hb))).trans e;refine Ye PySem.F.entry_min_loop ?_;rw[Z1 YR _];show wpAny _ A.in1 (seqItems? (.ref S) >>= _) _ _ s;refine Za (XI hS rfl ?_);show wpAny _ A.in1 (tryCatch (pyNext (.ref I)) _ >>= _) _ _ s;by_cases jA:j+1<n
  ·refine Za (Vt (W.item (j+1) s _ _ jA k5 λv s' hP hst' hm=>?_));have hS':=hm.heap S _ wB hS;have kp':∀b o,b∉S::wr->h0.get? b=some o->s'.heap.get? b=some o:=λb o hb e=>hm.heap b o (λz=>hb (jP b z)) (kp b o hb e);show wpAny _ A.in1 (tryCatch (holding [v,v] (richCompare .Lt v vb >>= _)) _ >>= _) _ _ _;refine Za (Vt (ZX (Za (hcmp (j+1) (argBest bt j) v vb _ _ _ kp' hP hPb ?_))));refine Za (ZX (Yd (Za (W5 (Zb ?_)))));cases hb:bt (j+1) (argBest bt j) with
   |true=>
    rw[Zx rfl];refine Za (WA hS' rfl (Za (W5 ?_)));rw[jS];refine Zb ⟨YA YR _,q50 W S jW bt h0 hcmp (k-1) (j+1) _ v _ (by lia) jA (W.frame _ s' _ s'.toks hst' (Ze _) λb hbf o e=>inFp hbf e) (by unfold argBest;rw[Zx hb];exact hP) (ZT _ hS' rfl)
     (λb o hb' e=>other hb' (kp' b o hb' e)) λv' s'' hP' hm''=>hR v' s'' hP' (VE W.gtrans ((hm.mono jP).then_heap (Ze _) λb o hb' e=>other hb' e) hm'')⟩
   |false=>
    rw[Zk Zs];refine Za (W5 ?_);rw[jS];exact Zb ⟨YA YR _,q50 W S jW bt h0 hcmp (k-1) (j+1) _ vb _ (by lia) jA hst' (by unfold argBest;rw[Zk (by rw[hb];exact Zs)];exact hPb) hS'
     kp' λv' s'' hP' hm''=>hR v' s'' hP' (VE W.gtrans (hm.mono jP) hm'')⟩
  ·have jU:j+1=n:=by lia
   refine Za (Vt (W.done s _ _ (jU▸k5) λs' hm=>?_));have hS':=hm.heap S _ wB hS;show wpAny _ A.in1 (updateSeq S (λ_=>#[]) >>= _) _ _ _;refine Za (WA hS' rfl (Za (W5 (Zb ?_))));exact hR vb _ (by rw[<- jU];exact hPb) ((hm.mono jP).then_heap (tk:=s'.toks) (Ze _) λb o hb e=>other hb e)
termination_by k=>k
end
theorem xt6 {x:Value}{Q:Value->Shared->Prop}
  (h:wpAny (model prog w) A.in1 (pyIter x) (λit s₂=>∃I fp wr G n P St bt,it=.ref I/\WalksS prog w A.in1 I fp wr G n P St/\St 0 s₂/\(∀b∈fp,b<s₂.heap.objs.size)/\0<n /\
   (∀i j vi vj (s':Shared) (Q':Value->Shared->Prop) (E':Value->Shared->Prop),(∀b o,b∉wr->s₂.heap.get? b=some o->s'.heap.get? b=some o)->P i vi->P j vj->Q' (.bool (bt i j)) s'->wpAny (model prog w) A.in1 (richCompare .Lt vi vj) Q' E' s') /\
   ∀v s',P (argBest bt (n-1)) v->Moved wr G s₂ s'->Q v s') E s) :
  wpAny (model prog w) A (call (.builtin "min") [x]) Q E s:=by
 have jS:(toString "min" ++ toString ".loop" : String) = "min.loop":=by decide
 refine call_function_tree PySem.F.kind_min PySem.F.plain_min PySem.F.entry_min (PySem.F.args_min1 _) ?_;show wpAny _ A.in1 (Builtin.Builtins.bindParams "min" ["key", "default"] 0 ⟨[],[]⟩ >>= _) _ _ s;refine Za (WG (show Builtin.Builtins.bindParams "min" ["key", "default"] 0 ⟨[],[]⟩=pure [none,none] from rfl) (Za (Zb (Za (YF h (λit s₂ h₂=>?_) λ_ _ e=>e)))));obtain⟨I,fp,wr,G,n,P,St,bt,rfl,W,k5,wH,hn,hcmp,hQ⟩:=h₂;refine Za (ZK ?_);have jW:s₂.heap.objs.size∉fp:=λhm=>Yc _ (wH _ hm);have wB:s₂.heap.objs.size∉wr:=λh=>jW (W.sub _ h);have jP:∀b∈wr,b∈s₂.heap.objs.size::wr:=λb hb=>Zl _ hb;have hS:(s₂.heap.push (seqObj "list" #[] 0)).get? s₂.heap.objs.size=some (seqObj "list" #[] 0):=Zf _ rfl;have nS:∀{b:Addr}{o:Obj},s₂.heap.get? b=some o->b≠s₂.heap.objs.size:=λe=>Zp (Zi e);rw[jS];refine Zb ⟨YA YR _,Ye PySem.F.entry_min_loop ?_⟩;rw[Z1 YR _];show wpAny _ A.in1 (seqItems? (.ref s₂.heap.objs.size) >>= _) _ _ _;refine Za (XI hS rfl ?_);show wpAny _ A.in1 (tryCatch (pyNext (.ref I)) _ >>= _) _ _ _;refine Za (Vt (W.item 0 _ _ _ hn (W.frame 0 s₂ _ s₂.toks k5 (Ze _) λb _ o e=>Zc _ e) λv s' hP hst' hm=>?_));have hS':=hm.heap _ _ wB hS;have notIn:∀{b:Addr}{o:Obj},b∉wr->s₂.heap.get? b=some o->b∉s₂.heap.objs.size::wr:=λhb e z=>by
  rcases Zt.mp z with e1|z
  ·exact nS e e1
  ·exact hb z
 show wpAny _ A.in1 (updateSeq s₂.heap.objs.size (λ_=>#[v,v]) >>= _) _ _ _;refine Za (WA hS' rfl ?_);rw[jS];refine Zb ⟨YA YR _,q50 W s₂.heap.objs.size jW bt s₂.heap (λi j vi vj s3 Q' E' kp p1 p2 q'=>hcmp i j vi vj s3 Q' E' (λb o hb e=>kp b o (notIn hb e) e) p1 p2 q') _ 0 _ v _ rfl hn (W.frame _ s' _ s'.toks hst' (Ze _) λb hbf o e=>?_) hP (ZT _ hS' rfl) (λb o hb e=>?_) λv' s'' hP' hm''=>?_⟩
 ·exact (Z0 _ _ (λh=>jW (by rw[h];exact hbf))).trans e
 ·exact (Z0 _ _ (λh=>nS e h.symm)).trans (hm.heap b o (λz=>hb (jP b z)) (Zc _ e))
 ·refine hQ v' s'' hP' (Moved.drop_new (tk:=s₂.toks) (o:=seqObj "list" #[] 0) (VE W.gtrans ((hm.mono jP).then_heap (Ze _) λb o hb e=>?_) hm'') (Ze _));exact (Z0 _ _ (λh=>hb (by rw[<- h];exact ZC))).trans e
end
section
variable {prog:Program}{w:World}{A:Around}{E:Value->Shared->Prop}{s:Shared}{pat:Nat->Bool}
end
end PyProof.Rows
namespace L2
open PySem PySem.Spec PyProof.Rows
theorem q51:∀{us us':List Value},us'.Perm us->∀{xs:List V},Vals xs us->∃xs',Vals xs' us'/\xs'.Perm xs:=by
 intro us us' p
 induction p with
 |nil=>intro xs r;exact⟨xs,r,.refl _⟩
 |cons u p ih=>
  intro xs r;cases r with
  |cons h r=>
   obtain⟨xs',r',p'⟩:=ih r;exact⟨_::xs',.cons h r',p'.cons _⟩
 |swap u v l=>
  intro xs r;cases r with
  |cons h r=>
   cases r with
   |cons h2 r=>exact⟨_::_::_,.cons h2 (.cons h r),List.Perm.swap _ _ _⟩
 |trans p q ihp ihq=>
  intro xs r;obtain⟨x1,r1,p1⟩:=ihq r;obtain⟨x2,r2,p2⟩:=ihp r1;exact⟨x2,r2,p2.trans p1⟩
theorem qN9:∀{xs:List V}{us:List Value}{u:Value},Vals xs us->u∈us->∃x,x∈xs/\RelV x u
 |_,_,u,.nil,h=>by simp at h
 |_,_,u,.cons r rs,h=>by
  rcases Zt.mp h with rfl|z
  ·exact⟨_,by simp,r⟩
  ·obtain⟨x,h1,h2⟩:=qN9 rs z;exact⟨x,by simp[h1],h2⟩
section
variable {X:Cx}
end
end L2
namespace L2
open PySem PySem.Spec PyProof.Rows PySem.W
theorem Inv.keptD {X:Cx}{j8:List (Addr×Obj)}{σ:St}{H:Hp}{s:Shared}{h':Heap}{t':Nat}{d':Drawn}(I:Inv X j8 σ H s) (k:∀b u,s.heap.get? b=some u->h'.get? b=some u):Inv X j8 σ H { s with heap:=h',drawn:=d',toks:=t' }:=
 I.call (ch:=[]) (g':=s.gens) (Un.kept k) (I.hok.kept k) I.bare (λb hb=>nomatch hb)
end L2
namespace L2
open PySem PyProof.Rows
theorem qi1 {α β:Type}{R:α->β->Prop}:∀{us us':List α},us'.Perm us->∀{xs:List β},Paired R us xs->∃xs',Paired R us' xs'/\xs'.Perm xs:=by
 intro us us' p
 induction p with
 |nil=>intro xs r;exact⟨xs,r,.refl _⟩
 |cons u p ih=>
  intro xs r;cases r with
  |cons h r=>
   obtain⟨xs',r',p'⟩:=ih r;exact⟨_::xs',.cons h r',p'.cons _⟩
 |swap u v l=>
  intro xs r;cases r with
  |cons h r=>
   cases r with
   |cons h2 r=>exact⟨_::_::_,.cons h2 (.cons h r),List.Perm.swap _ _ _⟩
 |trans p q ihp ihq=>
  intro xs r;obtain⟨x1,r1,p1⟩:=ihq r;obtain⟨x2,r2,p2⟩:=ihp r1;exact⟨x2,r2,p2.trans p1⟩
theorem qv3 {α β:Type}{R:α->β->Prop}:∀{us:List α}{xs:List β},us.length=xs.length->(∀(i:Nat) u x,us[i]?=some u->xs[i]?=some x->R u x)->Paired R us xs
 |[],[],_,_=>.nil
 |[],_::_,h,_=>by simp at h
 |_::_,[],h,_=>by simp at h
 |u::us,x::xs,h,f=>.cons (f 0 u x rfl rfl) (qv3 (by simpa using h) λi y v hy hv=>f (i+1) y v (by simpa using hy) (by simpa using hv))
theorem qj9 {α β:Type}{R:α->β->Prop}:∀{us:List α}{xs:List β},Paired R us xs->∀(i:Nat) u,us[i]?=some u->∃x,xs[i]?=some x/\R u x
 |_,_,.nil,i,u,h=>by simp at h
 |_,_,.cons h r,0,u,e=>by simp at e;subst e;exact⟨_,rfl,h⟩
 |_,_,.cons h r,i+1,u,e=>by
  obtain⟨x,h1,h2⟩:=qj9 r i u (by simpa using e);exact⟨x,by simpa using h1,h2⟩
end L2
namespace L2
open PySem PySem.Spec PyProof.Rows PySem.W
section
variable {P:Program}{w:World}{H:Hp}
def isL (κ:OKind P w) (H:Hp) (v:V) (l:List (List Int)):Prop:=∀(h:Heap) (u:Value),HOk P w H h->RelV v u->κ.is h u l
theorem qJ9 (i:Int):isL (P:=P) (w:=w) (atO false) H (.int i) [[i]]:=λh u _ r=>by
 obtain⟨t,rfl⟩:=r;exact⟨_,rfl,.int i t⟩
theorem qK0 (x:Str):isL (P:=P) (w:=w) (atO true) H (.str x) [x.cps.toList.map Int.ofNat]:=λh u _ r=>by
 obtain⟨t,rfl⟩:=r;exact⟨_,rfl,.str x t⟩
inductive ItL (H:Hp):List (OKind P w)->List V->List (List Int)->Prop
 |nil:ItL H [] [] []
 |cons {k:OKind P w}{v:V}{l:List (List Int)}{ks:List (OKind P w)}{vs:List V}{ls:List (List Int)}(x:isL k H v l) (r:ItL H ks vs ls):ItL H (k::ks) (v::vs) (l++ls)
theorem ItL.rel {h:Heap}(ok:HOk P w H h):∀{ks:List (OKind P w)}{vs:List V}{ls:List (List Int)}{us:List Value},ItL H ks vs ls->Vals vs us->ItO h ks us ls
 |_,_,_,_,.nil,.nil=>.nil
 |_,_,_,_,.cons x r,.cons h' r'=>.cons (x _ _ ok h') (r.rel ok r')
theorem q52 {ks:List (OKind P w)}{L:Nat}{hL:∀k∈ks,k.lvl<=L}{a:Addr}{xs:List V}{l:List (List Int)}(e:H a=some (.tup xs)) (it:ItL H ks xs l):isL (tpO ks L hL) H (.ref a) l:=λh u ok r=>by
 cases (show u=Value.ref a from r);obtain⟨_,its,rv,o,ho,hc,n,hd⟩:=ok a _ e;exact⟨a,o,_,n,rfl,ho,hc,hd,by simpa using it.rel ok rv⟩
def AscL (κ:OKind P w) (H:Hp) (vs:List V):Prop:=vs.Pairwise λu v=>∀l m,isL κ H u l->isL κ H v m->¬m<l
theorem qO0:∀{xs:List V}{us:List Value}{x:V},Vals xs us->x∈xs->∃u,u∈us/\RelV x u
 |_,_,u,.nil,h=>by simp at h
 |_,_,u,.cons r rs,h=>by
  rcases Zt.mp h with rfl|z
  ·exact⟨_,by simp,r⟩
  ·obtain⟨x,h1,h2⟩:=qO0 rs z;exact⟨x,by simp[h1],h2⟩
theorem q53 {κ:OKind P w}{h:Heap}(ok:HOk P w H h):∀{xs:List V}{us:List Value},Vals xs us->AscO κ h us->AscL κ H xs
 |_,_,.nil,_=>.nil
 |x::xs,u::us,.cons r rs,a=>by
  obtain⟨a1,a2⟩:=Xl.mp a;refine Xl.mpr ⟨λy hy l m tl tm=>?_,q53 ok rs a2⟩;obtain⟨v,hv,rv⟩:=qO0 rs hy;exact a1 v hv l m (tl _ _ ok r) (tm _ _ ok rv)
end
section
variable {X:Cx}
theorem xt7 {κ:OKind X.prog X.w}{k:Nat}(hr:Room k X.A) (hk:κ.lvl<=20):OpR X (compareOp .Lt) (λx y H Q=>∃l m,isL κ H x l/\isL κ H y m/\Q (.bl (decide (l<m))) H):=by
 intro j8 s σ H x y v u Q I rx ry h;obtain⟨l,m,hl,hm,q⟩:=h;have un:=hr.units;exact κ.lt (by lia) (hl _ _ I.hok rx) (hm _ _ I.hok ry) ⟨.bl _,H,I,rfl,q⟩
theorem ltO {P:Program}{w:World}{κ:OKind P w}(hP:X.prog=P) (hw:X.w=w){k:Nat}(hr:Room k X.A) (hk:κ.lvl<=20):OpR X (compareOp .Lt) (λx y H Q=>∃l m,isL κ H x l/\isL κ H y m/\Q (.bl (decide (l<m))) H):=by
 subst hP hw;exact xt7 hr hk
open Classical in
theorem q54 (hc:X.calm=true){κ:OKind X.prog X.w}{k:Nat}(hr:Room k X.A) (hk:κ.lvl<=20):qe3 X (.builtin "min") (λxs H Q=>∃(p:Addr) (vs:List V),xs=[.ref p]/\H p=some (.lst vs)/\vs≠[]/\(∀v∈vs,∃l,isL κ H v l) /\
  ∀v,v∈vs->(∀u∈vs,∀l m,isL κ H v l->isL κ H u m->¬m<l)->Q v H):=by
 intro j8 s σ H xs us Q I r h;obtain⟨p,vs,rfl,hp,jF,ht,q⟩:=h;obtain⟨u,rfl,rx⟩:=qf0 r;cases rx;obtain⟨z,its,n,rv,hl⟩:=I.hok p _ hp;have isl:s.heap.IsList p its.toArray:=⟨_,hl,rfl,_,rfl⟩;have j9:its.length=vs.length:=rv.length.symm;have np:p≠s.heap.objs.size:=Zp (Zi hl);have es:its.toArray.size=vs.length:=by simpa using j9
 have pos:0<vs.length:=Xg.mpr jF
 let key:Nat->List (List Int):=λi=>if e:∃l,isL κ H (vs.getD i .non) l then e.choose else []
 have item:∀(i:Nat) (v:Value),its.toArray[i]?=some v->∃x,vs[i]?=some x/\RelV x v/\isL κ H x (key i):=λi v hv=>by
  have hv':its[i]?=some v:=by simpa using hv
  have hi:i<vs.length:=by rw[<- j9];exact (gS_ hv').1
  obtain⟨w',e1,e2⟩:=rv.get (x:=vs[i]) (i:=i) (by simp[hi]);rw[hv'] at e1;cases e1;have eg:vs.getD i .non=vs[i]:=by simp[List.getD,hi]
  have ex:∃l,isL κ H (vs.getD i .non) l:=by rw[eg];exact ht _ (Ys hi)
  refine⟨vs[i],by simp[hi],e2,?_⟩;show isL κ H vs[i] (if e:∃l,isL κ H (vs.getD i .non) l then e.choose else []);rw[dif_pos ex];have key:∀v,v=vs.getD i .non->isL κ H v ex.choose:=λv e=>by subst e;exact ex.choose_spec
  exact key _ eg.symm
 refine xt6 (Y8 isl ?_);refine⟨s.heap.objs.size,_,_,_,_,_,_,λi j=>decide (key i<key j),rfl,(Vr (A:=X.A.in1) (I.ok.hd hc) s.heap.objs.size p np its.toArray).toS,⟨⟨_,Zf _ rfl,rfl,rfl⟩,isl.at λo e=>Zc _ e⟩,?_,by rw[es];exact pos,?_,?_⟩
 ·intro b hb;rw[ZV];rcases Zt.mp hb with rfl|hb
  ·exact Yi _
  ·have:b=p:=by simpa using hb
   subst this;exact ZR (Zi hl)
 ·intro i j vi vj s' Q' E' kp hi hj hq;obtain⟨x,e1,e2,e3⟩:=item i vi hi;obtain⟨y,f1,f2,f3⟩:=item j vj hj;have k3:∀b o,s.heap.get? b=some o->o.cls=.type "tuple" -> s'.heap.get? b=some o:=λb o e _=>by
   refine kp b o (λz=>?_) (Zc _ e);have:b=s.heap.objs.size:=by simpa using z
   rw[this] at e;exact Yc _ (Zi e)
  have un:=hr.units;exact κ.lt (by show X.A.units+1+κ.lvl<cLine;lia) (κ.keep k3 (e3 _ _ I.hok e2)) (κ.keep k3 (f3 _ _ I.hok f2)) hq
 ·intro v s' hv mv;rw[es] at hv;obtain⟨x,e1,e2,e3⟩:=item _ v hv;refine⟨x,H,qj2 I mv (λb o e hb=>?_),e2,q x (Zr e1) λu hu' l m hl' hm'=>?_⟩
  ·have:b=s.heap.objs.size:=by simpa using hb
   exact Yc _ (by rw[this] at e;exact Zi e)
  ·obtain⟨j,hj,ej⟩:=ZE.mp hu';have hji:j<its.length:=by lia
   obtain⟨y,f1,f2,f3⟩:=item j its[j] (by simp[hji]);have:y=u:=by rw[Zd hj] at f1;rw[<- ZO f1,ej]
   subst this;rw[κ.uniq (hl' _ _ I.hok e2) (e3 _ _ I.hok e2),κ.uniq (hm' _ _ I.hok f2) (f3 _ _ I.hok f2)];exact q49 key _ j (by lia)
end
section
variable {X:Cx}{st:Stmt}{rest:List Stmt}{t u:TS}
end
section
variable {X:Cx}{e:Expr}{te:TE}
end
end L2
namespace Pr
open PySem L2 Qf
section
variable {P:Program}{w:World}{K:PySem.W.Frag}{mg:Str->Option Value}{base:Heap}
theorem scWF:FnScope ["n"] ["n"] (qa4 qM0):=qc7
def spWF:Sp:=λvs H Q _=>∃n:Nat,vs=[.int (n:Nat)]/\n<=12/\Q .non H
theorem xz2 {f fS:Addr}{fd fdS:FuncData}(F:Fun K "want_floor" "want_floor" qM0 f fd) (hS:mg "is_size" = some (.ref fS)) (FS:Fun K "is_size" "is_size" qZ3 fS fdS) (bS:Binds K fdS ["thing"] []) (GS:FnOk P w K mg base CX0 2 fS fdS ["thing"] qZ8) :
  FnOk P w K mg base CX0 3 f fd ["n"] spWF:=by
 refine F.ok scWF (λvs H Q E h=>?_) (λcdv A outer s H vs Q E hr h=>?_)
 ·obtain⟨n,rfl,_⟩:=h
  rfl
 ·obtain⟨n,rfl,hn,q⟩:=h;refine⟨_,qa8 (qd9 (qg1 (qe6 (pcN GS hr hS FS.kp bS (qa0 (pv 0) qa2)))) qf6 qb8),?_⟩;exact⟨_,rfl,n,rfl,hn,⟨_,rfl,iteF q⟩⟩
theorem scWC:FnScope ["n", "row", "column"] ["n", "row", "column"] (qa4 qn4):=qc7
def spWC:Sp:=λvs H Q _=>∃n r c:Nat,vs=[.int (n:Nat),.int (r:Nat),.int (c:Nat)]/\n<=12/\r<2^n/\c<2^n/\Q .non H
theorem xz3 {f fC:Addr}{fd fdC:FuncData}(F:Fun K "want_cell" "want_cell" qn4 f fd) (hC:mg "is_cell" = some (.ref fC)) (FC:Fun K "is_cell" "is_cell" q92 fC fdC) (bC:Binds K fdC ["n", "row", "column"] []) (GC:FnOk P w K mg base CX0 2 fC fdC ["n", "row", "column"] xg4) :
  FnOk P w K mg base CX0 3 f fd ["n", "row", "column"] spWC:=by
 refine F.ok scWC (λvs H Q E h=>?_) (λcdv A outer s H vs Q E hr h=>?_)
 ·obtain⟨n,r,c,rfl,_⟩:=h
  rfl
 ·obtain⟨n,r,c,rfl,hn,h1,h2,q⟩:=h;refine⟨_,qa8 (qd9 (qg1 (qe6 (pcN GC hr hC FC.kp bC (qa0 (pv 0) (qa0 (pv 1) (qa0 (pv 2) qa2)))))) qf6 qb8),?_⟩;refine⟨_,rfl,_,rfl,_,rfl,n,r,c,rfl,hn,?_⟩;rw[Zu (show (0<=(r:Int)/\(r:Int)<((2^n:Nat):Int))/\0<=(c:Int)/\(c:Int)<((2^n:Nat):Int) by lia)];exact⟨_,rfl,iteF q⟩
theorem scBO:FnScope ["n", "address"] ["n", "address"] (qa4 qM3):=qc7
def spBO:Sp:=λvs H Q _=>∃(n:Nat) (ds:List Nat),vs=[.int (n:Nat),.str (txt ds)]/\n<=12/\(∀d∈ds,d<4)/\ds.length<=n /\
 ∀H' p,Same H H'->H' p=some (.tup (vN [rwo n ds,clo n ds,2^(n-ds.length)]))->Q (.ref p) H'
theorem xz4 {f fF fA fB:Addr}{fd fdF fdA fdB:FuncData}(F:Fun K "box_of" "box_of" qM3 f fd) (hF:mg "want_floor" = some (.ref fF)) (FF:Fun K "want_floor" "want_floor" qM0 fF fdF) (bF:Binds K fdF ["n"] []) (GF:FnOk P w K mg base CX0 3 fF fdF ["n"] spWF)
  (hA:mg "want_address" = some (.ref fA)) (FA:Fun K "want_address" "want_address" qM1 fA fdA) (bA:Binds K fdA ["n", "address"] []) (GA:FnOk P w K mg base CX0 3 fA fdA ["n", "address"] q27)
  (hB:mg "box_at" = some (.ref fB)) (FB:Fun K "box_at" "box_at" qM2 fB fdB) (bB:Binds K fdB ["n", "address"] []) (GB:FnOk P w K mg base CX0 2 fB fdB ["n", "address"] qA3):FnOk P w K mg base CX0 4 f fd ["n", "address"] spBO:=by
 refine F.ok scBO (λvs H Q E h=>?_) (λcdv A outer s H vs Q E hr h=>?_)
 ·obtain⟨n,ds,rfl,_⟩:=h
  rfl
 ·obtain⟨n,ds,rfl,hn,h4,hl,q⟩:=h;have k8:Room 2 _:=hr.mono (by decide);refine seqE ⟨_,⟨qe1 (pcN GF hr hF FF.kp bF (qa0 (pv 0) qa2))⟩,?_⟩;refine seqE ⟨_,⟨qe1 (pcN GA hr hA FA.kp bA (qa0 (pv 0) (qa0 (pv 1) qa2)))⟩,?_⟩;refine qf9 ⟨_,⟨qa9 (pcN GB k8 hB FB.kp bB (qa0 (pv 0) (qa0 (pv 1) qa2)))⟩,?_⟩;refine⟨_,rfl,n,rfl,hn,?_⟩;refine⟨_,rfl,_,rfl,n,ds,rfl,hn,h4,hl,λH1 s1=>?_⟩;exact⟨_,rfl,_,rfl,n,ds,rfl,hn,h4,hl,λp hp=>q _ p (s1.trans (qb4 hp)) qa3⟩
abbrev nLO:List Str:=["shape", "top", "rows", "leaves"]
theorem scLO:FnScope nLO ["shape"] (qa4 qn5):=qc7
def spLO:Sp:=λvs H Q _=>∃(t:Addr) (n tp:Nat) (rows:List Row),vs=[.ref t]/\qe2 H t n tp rows/\nlf (T rows tp)<=2000/\∀H' lp,Same H H'->H lp=none->LvL H' lp (lvT (T rows tp))->Q (.ref lp) H'
theorem xt8:("" : Str)=txt []:=by decide +kernel
theorem xn1 {H:Hp}{l:Addr}(h:H l=some (.lst [])):LvL H l []:=⟨[],h,rfl,λi b e h=>by simp at h⟩
theorem xc8 (L:List (List Nat×Bool)):preL [] L=L:=by unfold preL;simp
theorem xz5 {f fW fC fG:Addr}{fd fdW fdC fdG:FuncData}(F:Fun K "leaves_of" "leaves_of" qn5 f fd) (hW:mg "want_shape" = some (.ref fW)) (FW:Fun K "want_shape" "want_shape" qE3 fW fdW) (bW:Binds K fdW ["shape"] []) (GW:FnOk P w K mg base CX0 16 fW fdW ["shape"] qI9)
  (hC:mg "want_coarse" = some (.ref fC)) (FC:Fun K "want_coarse" "want_coarse" qz0 fC fdC) (bC:Binds K fdC ["shape"] []) (GC:FnOk P w K mg base CX0 3 fC fdC ["shape"] spCs)
  (hG:mg "gather_leaves" = some (.ref fG)) (FG:Fun K "gather_leaves" "gather_leaves" qr6 fG fdG) (bG:Binds K fdG nGL4 []) (GG:FnOk P w K mg base CX0 13 fG fdG nGL4 (spGL 12)):FnOk P w K mg base CX0 17 f fd ["shape"] spLO:=by
 refine F.ok scLO (λvs H Q E h=>?_) (λcdv A outer s H vs Q E hr h=>?_)
 ·obtain⟨t,n,tp,rows,rfl,_⟩:=h
  rfl
 ·obtain⟨t,n,tp,rows,rfl,hS,hm,q⟩:=h;have hr3:Room 3 _:=hr.mono (by decide);have hr13:Room 13 _:=hr.mono (by decide);refine seqE ⟨_,⟨qe1 (pcN GW hr hW FW.kp bW (qa0 (pv 0) qa2))⟩,?_⟩;refine seqE ⟨_,⟨qe1 (pcN GC hr3 hC FC.kp bC (qa0 (pv 0) qa2))⟩,?_⟩;refine seqE ⟨_,⟨qi7 (qK7 xe9 (pv 0) (qU6 qa1) qU5) (qi3 rfl (qb1 (pgN 1 scLO.nd) (qb1 (pgN 2 scLO.nd) qe9)))⟩,?_⟩;refine seqE ⟨_,⟨psN 3 scLO.nd (qi4 qa2)⟩,?_⟩;refine seqE ⟨_,⟨qe1 (pcN GG hr13 hG FG.kp bG (qa0 (pv 2) (qa0 (pv 1) (qa0 qw6 (qa0 (pv 3) qa2)))))⟩,?_⟩;refine qf9 ⟨_,⟨qa9 (pv 3)⟩,?_⟩;refine⟨_,rfl,t,n,tp,rows,rfl,hS,λH1 s1=>?_⟩;have wC:=qJ3 hS s1;refine⟨_,rfl,t,n,tp,rows,rfl,wC,hm,λH2 s2=>?_⟩;have hS2:=qJ3 wC s2;obtain⟨⟨rp,ht,hR⟩,cn,hrl⟩:=id hS2;have s02:=s1.trans s2;refine⟨_,rfl,_,rfl,t,_,rfl,SqT.of ht,(λz=>absurd (show HT.sIx 3 0 (some 1)=0 from z.1) (by decide)),λu hu=>?_⟩;refine⟨u,_,rfl,SqT.of qa3,rfl,_,_,rfl,_,_,rfl,rfl,?_⟩;refine (λ(go:∀H3,Same H2 H3->_)=>go _ (qb4 hu)) ?_;intro H3 s3;refine⟨(by show 0<=sizeLine;decide),λl hl=>?_⟩;have s4:=qb4 (o:=.lst []) hl;have hl4:upd H3 l (.lst []) l=some (.lst []):=qa3;have hlH:H l=none:=by
   cases e:H l with
   |none=>rfl
   |some o=>rw[s3 _ _ (s02 _ _ e)] at hl;cases hl
  generalize upd H3 l (.lst [])=H4 at s4 hl4 ⊢;refine⟨_,rfl,_,rfl,_,rfl,rp,l,tp,[],[],rows,?_,hR.mono (s3.trans s4).tups,cn.rok,cn.inn,ZF (qu8 cn) cn.size,xn1 hl4,by decide,?_,λH5 b5 hl5=>?_⟩
  ·rw[<- xt8];rfl
  ·show 0+_<=_;lia
  ·rw[xc8] at hl5;refine⟨_,rfl,q H5 l (λb o e=>b5 b o (s4 _ _ (s3 _ _ (s02 _ _ e))) (qa7 e hlH)) hlH hl5⟩
def spLF:Sp:=λvs H Q _=>∃(b:Addr) (r c A B S:Nat),vs=[.int (r:Nat),.int (c:Nat),.ref b]/\H b=some (.tup (vN [A,B,S]))/\∀H' p q,Same H H' ->
 H' p=some (.tup [.int (best [0,(A:Int)-r,(B:Int)-c,1-(S:Int)-((A:Int)-r),1-(S:Int)-((B:Int)-c)] 4),.ref q]) ->
 H' q=some (.tup [.int (mxI A ((r:Int)-best [0,(A:Int)-r,(B:Int)-c,1-(S:Int)-((A:Int)-r),1-(S:Int)-((B:Int)-c)] 4)),.int (mxI B ((c:Int)-best [0,(A:Int)-r,(B:Int)-c,1-(S:Int)-((A:Int)-r),1-(S:Int)-((B:Int)-c)] 4))])->Q (.ref p) H'
abbrev nLF:List Str:=["row", "column", "box", "first_row", "first_column", "side", "above", "left", "far"]
theorem scLF:FnScope nLF ["row", "column", "box"] (qa4 qn6):=qc7
theorem xz6 {f:Addr}{fd:FuncData}(F:Fun K "least_far" "least_far" qn6 f fd) (B:Blt mg):FnOk P w K mg base CX0 1 f fd ["row", "column", "box"] spLF:=by
 refine F.ok scLF (λvs H Q E h=>?_) (λcdv A outer s H vs Q E hr h=>?_)
 ·obtain⟨b,r,c,x,y,z,rfl,_⟩:=h
  rfl
 ·obtain⟨b,r,c,x,y,z,rfl,hb,q⟩:=h;refine seqE ⟨_,⟨qi7 (pv 2) (qi3 rfl (qb1 (pgN 3 scLF.nd) (qb1 (pgN 4 scLF.nd) (qb1 (pgN 5 scLF.nd) qe9))))⟩,?_⟩;refine seqE ⟨_,⟨psN 6 scLF.nd (qa6 qc0 (pv 3) (pv 0))⟩,?_⟩;refine seqE ⟨_,⟨psN 7 scLF.nd (qa6 qc0 (pv 4) (pv 1))⟩,?_⟩;refine seqE ⟨_,⟨psN 8 scLF.nd (qa5 (q39 rfl) (by rfl) B.max ZN (Ars2.go (.cons qg0 (.cons ⟨pv 6⟩ (.cons ⟨pv 7⟩ (.cons ⟨qa6 qc0 (qa6 qc0 qa1 (pv 5)) (pv 6)⟩ (.cons ⟨qa6 qc0 (qa6 qc0 qa1 (pv 5)) (pv 7)⟩ .nil rfl) rfl) rfl) rfl) rfl)))⟩,?_⟩;refine qf9 ⟨_,⟨qa9 (qd8 (Ars2.go (.cons ⟨pv 8⟩ (.cons ⟨qd8 (Ars2.go (.cons ⟨qa5 (qd2 rfl) (by rfl) B.max ZN (qa0 (pv 3) (qa0 (qa6 qc0 (pv 0) (pv 8)) qa2))⟩ (.cons ⟨qa5 (qd2 rfl) (by rfl) B.max ZN (qa0 (pv 4) (qa0 (qa6 qc0 (pv 1) (pv 8)) qa2))⟩ .nil rfl) rfl))⟩ .nil rfl) rfl)))⟩,?_⟩;refine⟨_,rfl,b,_,rfl,SqT.of hb,rfl,_,_,rfl,_,_,rfl,_,_,rfl,rfl,?_⟩;refine⟨_,rfl,_,rfl,_,_,rfl,rfl,?_⟩;refine⟨_,rfl,_,rfl,_,_,rfl,rfl,?_⟩;refine qj8 (σ':=[some (.int (r:Nat)),some (.int (c:Nat)),some (.ref b),some (.int (x:Nat)),some (.int (y:Nat)),some (.int (z:Nat)),some (.int ((x:Int)-r)),some (.int ((y:Int)-c)),none]) rfl ?_;refine⟨_,rfl,_,rfl,_,rfl,_,_,rfl,rfl,_,rfl,_,_,rfl,rfl,_,rfl,_,_,rfl,rfl,_,rfl,_,_,rfl,rfl,_,_,_,_,_,rfl,?_⟩;generalize best [0,(x:Int)-r,(y:Int)-c,1-(z:Int)-((x:Int)-r),1-(z:Int)-((y:Int)-c)] 4=m at q ⊢;refine qj8 (σ':=[some (.int (r:Nat)),some (.int (c:Nat)),some (.ref b),some (.int (x:Nat)),some (.int (y:Nat)),some (.int (z:Nat)),some (.int ((x:Int)-r)),some (.int ((y:Int)-c)),some (.int m)]) rfl ?_;refine⟨_,rfl,_,rfl,_,rfl,_,rfl,_,_,rfl,rfl,_,_,rfl,_,rfl,_,rfl,_,rfl,_,_,rfl,rfl,_,_,rfl,(by show 2<=sizeLine;decide),λk hk=>⟨(by show 2<=sizeLine;decide),λp hp=>?_⟩⟩;refine q _ p k ((qb4 hk).trans (qb4 hp)) qa3 ?_;rw[qb9 (qa7 qa3 hp),qa3]
  rfl
end
end Pr
namespace L2
open PySem PySem.Spec PyProof.Rows
section
variable {X:Cx}
theorem qR2 {i0:Nat}{x0:Str}{px0 spos:Pos}{x y u:Str}{p1 p2 p3 tpos pos:Pos}{k:Nat}{elt iter c:Expr}{scope:Scope}{wi:TI}{tt:TT}{te:TE}(N:List Str) (sc:Scope) (kX:X.N=N) (k6:X.env.scope=sc) (hc:X.calm=true) (hN:X.N.Nodup) (wW:X.N[i0]?=some x0) (hx0:X.env.scope.names.lookup x0=some .local) (hi:PI X (.Tuple [.Name x p1,.Name y p2,.Name u p3] k tpos) iter wi)
  (ht:∀cl C fp s₀ H₀,PT (qb3 X scope cl C [x,y,u] fp s₀ H₀) c tt) (he:∀cl C fp s₀ H₀,PE (qb3 X scope cl C [x,y,u] fp s₀ H₀) elt te) (hd:[x,y,u].Nodup:=by decide)
  (jD:scope.kind=.function:=by rfl) (jB:scope.names.all (λy=>y.2 != .cell)=true:=by decide +kernel) (jC:scope.names.all (λy=>y.2 != .local||scope.names.lookup y.1==some .local)=true:=by decide +kernel)
  (hx:scope.names.lookup x=some .local:=by rfl) (hy:scope.names.lookup y=some .local:=by rfl) (hu:scope.names.lookup u=some .local:=by rfl) (jG:N.all (λy=>scope.names.lookup y != some .local)=true:=by decide +kernel)
  (jQ:scope.names.all (λp=>p.2 != .free||(sc.names.lookup p.1==some .cell||sc.names.lookup p.1==some .free))=true:=by decide +kernel)
  (hs:∀x,foldedSetIterable iter X.env x=pure x:=by intro _;rfl) (hsw:swapsWith (.ListComp elt [⟨.Tuple [.Name x p1,.Name y p2,.Name u p3] k tpos,iter,[c],0⟩] scope pos) (some (.Name x0 px0)) spos.line X.env=pure true:=by rfl) :
  PS X (.Assign [.Name x0 px0] (.ListComp elt [⟨.Tuple [.Name x p1,.Name y p2,.Name u p3] k tpos,iter,[c],0⟩] scope pos) spos) (tAsg (qn1 3 wi (gTup X.K 3 (qf3 (qd1 0) (qf3 (qd1 1) (qf3 (qd1 2) gNil)))) tt te) (qd1 i0)):=by
 obtain⟨s1,s2,s3,s4⟩:=qh2 kX k6 jB jC jG jQ;exact qL7 (nn:=[x,y,u]) (λenv=>isTrue c env (eval c env)) hc hi (λit acc env=>qy6 elt _ iter c scope pos it acc env) (λcl C fp s₀ H₀=>xg7 hc hN hd s3 hx hy hu) (λy os σ H R ho h=>loc3 ho h) (λcl C fp s₀ H₀ j8 s σ H Q I h=>ht cl C fp s₀ H₀ j8 s σ H Q I h) he jD s1 s2 s3 s4 hs hN wW hx0 hsw
end
end L2
namespace L2
open PySem PySem.Spec PyProof.Rows PySem.W
section
variable {X:Cx}
end
end L2
namespace L2
open PySem
theorem qv4 {J:It}{H:Hp}{n k:Nat}{item:Nat->V->Hp->Prop}{g:TG}{tt:TT}{te:TE}{σ:St}{Fin:Hp->Prop}{D:Addr}(hD:H D=none) (yes:Nat->Bool) (Rel:Nat->V->Hp->Prop) (G:Goes J H n item) (hsz:n<sizeLine)
  (mono:∀i y H1 H2,Tups H1 H2->Rel i y H1->Rel i y H2)
  (step:∀i x H2,i<n->item i x H2->Same H H2->∀os:St,os.length=k->∀(Q1:Hp->Prop) (Q2:VK),(yes i=false->∀H3,Same H2 H3->Q1 H3)->(yes i=true->∀v H3,Same H2 H3->Rel i v H3->Q2 v H3) ->
   g x (os++σ) H2 λσ4 H4=>tt σ4 H4 λb H5=>if b=true then te σ4 H5 Q2 else Q1 H5)
  (fin:∀ys H2,Same H H2->H2 D=some (.lst ys)->ys.length=((List.range n).filter yes).length->(∀(m:Nat) y j,ys[m]?=some y->((List.range n).filter yes)[m]?=some j->Rel j y H2)->Fin H2) :
  ∃W:Nat->Nat->List V->Hp->Prop,(∃m,W 0 m [] (upd H D (.lst []))) /\
   ∀i m xs H2,W i m xs H2->H2 D=some (.lst xs)/\xs.length<sizeLine/\((J.stop i H2/\Fin H2)\/(J.go i H2/\∀y H3,J.yld i H2 y H3->∀os:St,os.length=k ->
    g y (os++σ) H3 λσ4 H4=>tt σ4 H4 λb H5=>if b=true then te σ4 H5 λv H6=>H6 D=some (.lst xs)/\∃m',m'<m/\W (i+1) m' (xs++[v]) (upd H6 D (.lst (xs++[v]))) else ∃m',m'<m/\W (i+1) m' xs H5)):=by
 refine⟨λi m ys H2=>i<=n/\m=n-i/\ys.length=((List.range i).filter yes).length/\H2 D=some (.lst ys)/\Same H H2/\∀(m:Nat) y j,ys[m]?=some y->((List.range i).filter yes)[m]?=some j->Rel j y H2,⟨n,Zv _,rfl,rfl,qa3,qb4 hD,λm y j h=>by simp at h⟩,?_⟩;rintro i m ys H2 ⟨hi,rfl,hl,hd,s2,rel⟩;have j9:ys.length<=i:=by
  rw[hl];exact ZF (X6 _ _) (by simp)
 refine⟨hd,by lia,?_⟩;by_cases he:i=n
 ·subst he;exact .inl ⟨G.st H2 s2,fin ys H2 s2 hd hl rel⟩
 ·refine .inr ⟨G.go i H2 (by lia) s2,λy H3 hy os ho=>?_⟩;obtain⟨s3,it⟩:=G.yl i H2 y H3 (by lia) s2 hy;refine step i y H3 (by lia) it (s2.trans s3) os ho _ _ (λwR H4 s4=>?_) (λhyes v H4 s4 r4=>?_)
  ·have ef:(List.range (i+1)).filter yes=(List.range i).filter yes:=by
    rw[Xe,WD];simp[wR]
   refine⟨n-(i+1),by lia,by lia,rfl,by rw[ef];exact hl,s4 _ _ (s3 _ _ hd),(s2.trans s3).trans s4,λm y j h1 h2=>?_⟩;rw[ef] at h2;exact mono j y H2 H4 (s3.trans s4).tups (rel m y j h1 h2)
  ·have jV:=s4 _ _ (s3 _ _ hd);have ef:(List.range (i+1)).filter yes=(List.range i).filter yes++[i]:=by
    rw[Xe,WD];simp[hyes]
   have tk:Tups H4 (upd H4 D (.lst (ys++[v]))):=λb u e=>by
    have:b≠D:=λz=>by subst z;rw[jV] at e;cases e
    rw[qb9 this];exact e
   refine⟨jV,n-(i+1),by lia,by lia,rfl,by rw[ef,Zz,Zz,hl];rfl,qa3,λb o e=>?_,λm z j h1 h2=>?_⟩
   ·rw[qb9 (qa7 e hD)];exact s4 _ _ (s3 _ _ (s2 _ _ e))
   ·rw[ef] at h2;by_cases hm:m<ys.length
    ·rw[ZD hm] at h1;rw[ZD (by lia)] at h2;exact mono j z H4 _ tk (mono j z H2 H4 (s3.trans s4).tups (rel m z j h1 h2))
    ·have hm2:m=ys.length:=by
      have:=(gS_ h1).1;simp at this;lia
     rw[ZH (by lia),hm2] at h1;rw[ZH (by lia),hm2,hl] at h2;have e1:z=v:=by simpa using h1.symm
     have e2:j=i:=by simpa using h2.symm
     rw[e1,e2];exact mono i v H4 _ tk r4
end L2
namespace Pr
open PySem L2 Qf
def SeenAt (H:Hp) (n r c:Nat) (y:V) (e:List Nat×Bool):Prop:=∃b p q,y=.ref b/\H b=some (.tup [.str (txt e.1),.bl e.2,.ref p])/\H p=some (.tup [.int (lfF n r c e.1),.ref q])/\H q=some (.tup [.int (lfR n r c e.1),.int (lfC n r c e.1)])
theorem SeenAt.tups {H H':Hp}{n r c:Nat}{y:V}{e:List Nat×Bool}(h:SeenAt H n r c y e) (t:Tups H H'):SeenAt H' n r c y e:=by
 obtain⟨b,p,q,h1,h2,h3,h4⟩:=h;exact⟨b,p,q,h1,t _ _ h2,t _ _ h3,t _ _ h4⟩
def SnL (H:Hp) (lp:Addr) (n r c:Nat) (L:List (List Nat×Bool)):Prop:=∃ys:List V,H lp=some (.lst ys)/\ys.length=L.length/\∀(i:Nat) y e,ys[i]?=some y->L[i]?=some e->SeenAt H n r c y e
section
variable {P:Program}{w:World}{K:PySem.W.Frag}{mg:Str->Option Value}{base:Heap}
abbrev nSL:List Str:=["shape", "row", "column", "n"]
theorem scSL:FnScope nSL ["shape", "row", "column"] (qa4 qZ7):=qc7
def spSL:Sp:=λvs H Q _=>∃(t:Addr) (n tp r c:Nat) (rows:List Row),vs=[.ref t,.int (r:Nat),.int (c:Nat)]/\qe2 H t n tp rows/\nlf (T rows tp)<=2000/\r<2^n/\c<2^n/\∀H' lp,Same H H'->SnL H' lp n r c (lvT (T rows tp))->Q (.ref lp) H'
theorem xz7 {f fW fC fL fF fB:Addr}{fd fdW fdC fdL fdF fdB:FuncData}(F:Fun K "seen_leaves" "seen_leaves" qZ7 f fd) (hW:mg "want_shape" = some (.ref fW)) (FW:Fun K "want_shape" "want_shape" qE3 fW fdW) (bW:Binds K fdW ["shape"] []) (GW:FnOk P w K mg base CX0 16 fW fdW ["shape"] qI9)
  (hC:mg "want_cell" = some (.ref fC)) (FC:Fun K "want_cell" "want_cell" qn4 fC fdC) (bC:Binds K fdC ["n", "row", "column"] []) (GC:FnOk P w K mg base CX0 3 fC fdC ["n", "row", "column"] spWC)
  (hL:mg "leaves_of" = some (.ref fL)) (FL:Fun K "leaves_of" "leaves_of" qn5 fL fdL) (bL:Binds K fdL ["shape"] []) (GL:FnOk P w K mg base CX0 17 fL fdL ["shape"] spLO)
  (hF:mg "least_far" = some (.ref fF)) (FF:Fun K "least_far" "least_far" qn6 fF fdF) (bF:Binds K fdF ["row", "column", "box"] []) (GF:FnOk P w K mg base CX0 1 fF fdF ["row", "column", "box"] spLF)
  (hB:mg "box_of" = some (.ref fB)) (FB:Fun K "box_of" "box_of" qM3 fB fdB) (bB:Binds K fdB ["n", "address"] []) (GB:FnOk P w K mg base CX0 4 fB fdB ["n", "address"] spBO):FnOk P w K mg base CX0 18 f fd ["shape", "row", "column"] spSL:=by
 refine F.ok scSL (λvs H Q E h=>?_) (λcdv A outer s H vs Q E hr h=>?_)
 ·obtain⟨t,n,tp,r,c,rows,rfl,_⟩:=h
  rfl
 ·obtain⟨t,n,tp,r,c,rows,rfl,hS,hm,vC,vH,q⟩:=h;have hr16:Room 16 _:=hr.mono (by decide);have hr3:Room 3 _:=hr.mono (by decide);have hr4:Room 4 _:=hr.mono (by decide);have jJ:Room 1 _:=hr.mono (by decide);refine seqE ⟨_,⟨qe1 (pcN GW hr16 hW FW.kp bW (qa0 (pv 0) qa2))⟩,?_⟩;refine seqE ⟨_,⟨psN 3 scSL.nd (pxN qb0 (pv 0) qa1)⟩,?_⟩;refine seqE ⟨_,⟨qe1 (pcN GC hr3 hC FC.kp bC (qa0 (pv 3) (qa0 (pv 1) (qa0 (pv 2) qa2))))⟩,?_⟩;refine qf9 ⟨_,⟨qa9 (qL5 nSL (qa4 qZ7) rfl rfl rfl scSL.nd (ql8 (pcN GL hr hL FL.kp bL (qa0 (pv 0) qa2)))
   (λcl C fp s₀ H₀=>PEb.go ⟨qd8 (Ars2.go (.cons ⟨pv 0⟩ (.cons ⟨pv 1⟩ (.cons ⟨pcN GF jJ hF FF.kp bF (Ars2.go (.cons ⟨pv 3⟩ (.cons ⟨pv 4⟩ (.cons ⟨pcN GB hr4 hB FB.kp bB (qa0 (pv 5) (qa0 (pv 0) qa2))⟩ .nil rfl) rfl) rfl))⟩ .nil rfl) rfl) rfl))⟩))⟩,?_⟩
  refine⟨_,rfl,t,n,tp,rows,rfl,hS,λH1 s1=>?_⟩;have wC:=qJ3 hS s1;obtain⟨⟨rp,ht,hR⟩,cn,hrl⟩:=id wC;refine⟨_,rfl,t,_,0,.int (n:Nat),rfl,rfl,SqT.of ht,rfl,?_⟩;refine⟨_,rfl,_,rfl,_,rfl,n,r,c,rfl,cn.size,vC,vH,?_⟩;refine⟨_,rfl,t,n,tp,rows,rfl,wC,hm,λH2 lp s2 _ hlv=>?_⟩;obtain⟨bs,kP,kH,vQ⟩:=hlv;have had:=qv0 n (T rows tp);refine⟨lp,rfl,⟨_,SqL.of kP⟩,λD hD=>qv4 hD (λ_=>true) (λi y H3=>∃e,(lvT (T rows tp))[i]?=some e/\SeenAt H3 n r c y e) (qk1 (K:=K) kP) ?_ ?_ ?_ ?_⟩
  ·rw[Zh,kH,qj7];exact qu1 (by lia)
  ·rintro i y H3 H4 tp4 ⟨e,h1,h2⟩;exact⟨e,h1,h2.tups tp4⟩
  ·intro i x H3 hi hx s3 os ho Q1 Q2 _ q2;rw[Zg] at hx;obtain⟨b,hb,rfl⟩:=Zj.mp hx;have hil:i<(lvT (T rows tp)).length:=by rw[<- kH];exact (gS_ hb).1
   have he:(lvT (T rows tp))[i]?=some (lvT (T rows tp))[i]:=Zd hil;have jK:=Ys hil;generalize (lvT (T rows tp))[i]=e at he jK;obtain⟨h4,wS⟩:=had e (qu8 cn) jK;have kG:=s3 _ _ (vQ i b e hb he);obtain⟨o1,o2,rfl⟩:=L2.os2 ho
   ·
    refine⟨b,_,rfl,SqT.of kG,rfl,_,_,rfl,_,_,rfl,rfl,?_⟩;refine⟨_,rfl,_,rfl,_,rfl,_,rfl,_,rfl,_,rfl,n,e.1,rfl,cn.size,h4,wS,λH5 pb s5 wE=>?_⟩;refine⟨pb,r,c,rwo n e.1,clo n e.1,2^(n-e.1.length),rfl,wE,λH6 p1 q1 s6 jY hq1=>?_⟩;refine⟨(by show 3<=sizeLine;decide),λk hk=>q2 rfl _ _ ((s5.trans s6).trans (qb4 hk)) ⟨e,he,k,p1,q1,rfl,qa3,qd5 jY hk,qd5 hq1 hk⟩⟩
  ·intro ys H3 s3 hD3 j9 hrel;have ef:(List.range (bs.map V.ref).length).filter (λ_=>true)=List.range (bs.map V.ref).length:=List.filter_eq_self.mpr λ_ _=>rfl;rw[ef] at j9 hrel;have hyl:ys.length=(lvT (T rows tp)).length:=by rw[j9,Y9,Zh,kH]
   refine q H3 D ((s1.trans s2).trans s3) ⟨ys,hD3,hyl,λi y e e1 e2=>?_⟩;have hi:i<(bs.map V.ref).length:=by
    have:=(gS_ e1).1;rw[j9,Y9] at this;exact this
   obtain⟨e',h1,h2⟩:=hrel i y i e1 (XE hi);rw[e2] at h1;cases h1;exact h2
end
end Pr
namespace L2
open PySem PyProof.Rows
def k3 {P:Program}{w:World}:OKind P w:=tpO [atO false,tpO [atO false,atO false] 0 (by simp[atO])] 1 (by simp[atO,tpO])
theorem xh1 {P:Program}{w:World}:(k3 (P:=P) (w:=w)).lvl<=20:=by show 2<=20;decide
theorem q55 {P:Program}{w:World}{H:Hp}{p q:Addr}{x y z:Int}(h1:H p=some (.tup [.int x,.ref q])) (h2:H q=some (.tup [.int y,.int z])):isL (P:=P) (w:=w) k3 H (.ref p) (Qf.key3 x y z):=
 q52 h1 (.cons (qJ9 x) (.cons (q52 h2 (.cons (qJ9 y) (.cons (qJ9 z) .nil))) .nil))
end L2
namespace Qf
def qR3 (n r c:Nat) (L:List (List Nat×Bool)) (k:List (List Int)):List (List Nat):=(L.filter λe=>decide (kF n r c e.1<k)).map (·.1)
theorem qG4 {α β:Type}(L:List α) (f:α->β) (yes:α->Bool) (y:Nat->Bool) (v:Nat->β) (h1:∀i e,L[i]?=some e->y i=yes e) (h2:∀i e,L[i]?=some e->v i=f e):((List.range L.length).filter y).map v=(L.filter yes).map f:=by
 induction L generalizing y v with
 |nil=>rfl
 |cons a L ih=>
  rw[ZW,WQ,YD,YD,h1 0 a rfl];have e:(((List.range L.length).map Nat.succ).filter y).map v=(L.filter yes).map f:=by
   rw[List.filter_map,Yv];exact ih _ _ (λi e h=>h1 (i+1) e h) (λi e h=>h2 (i+1) e h)
  by_cases hy:yes a=true
  ·rw[Zx hy,Zx hy,Zy,Zy,e,h2 0 a rfl]
  ·rw[Zk hy,Zk hy,e]
end Qf
namespace Qf
open Tr L2
def mnI (i j:Int):Int:=if j<i then j else i
theorem qR4 (i j:Int):mnI i j<=i/\mnI i j<=j/\(mnI i j=i\/mnI i j=j):=by
 unfold mnI;split
 ·exact⟨by lia,Wj _,.inr rfl⟩
 ·exact⟨Wj _,by lia,.inl rfl⟩
def ov (a h x s:Int):Int:=mxI 0 (mnI (a+h) (x+s)-mxI a x)
theorem xn2 (a h x s:Int):0<=ov a h x s:=(ql0 _ _).1
theorem xh2 {a h x s:Int}:ov a h x s=0\/∃i,a<=i/\i<a+h/\x<=i/\i<x+s:=by
 unfold ov;obtain⟨h1,h2,h3⟩:=qR4 (a+h) (x+s);obtain⟨g1,g2,g3⟩:=ql0 a x;generalize mnI (a+h) (x+s)=m at *;generalize mxI a x=k at *;obtain⟨_,_,e⟩:=ql0 0 (m-k);by_cases z:m-k<=0
 ·left;rcases e with e|e<;>lia
 ·right;exact⟨k,by lia,by lia,by lia,by lia⟩
theorem xh3 {a h x s i:Int}(h1:a<=i) (h2:i<a+h) (h3:x<=i) (h4:i<x+s):0<ov a h x s:=by
 unfold ov;obtain⟨_,_,k3⟩:=qR4 (a+h) (x+s);obtain⟨_,_,g3⟩:=ql0 a x;generalize mnI (a+h) (x+s)=m at *;generalize mxI a x=k at *;obtain⟨_,e,_⟩:=ql0 0 (m-k);have:k<m:=by rcases k3 with z|z<;>rcases g3 with y|y<;>lia
 lia
theorem xh4 {a h x s:Int}(hs:0<=s):ov a h x (s+s)=ov a h x s+ov a h (x+s) s:=by
 unfold ov;obtain⟨h1,h2,h3⟩:=qR4 (a+h) (x+(s+s));obtain⟨i1,i2,i3⟩:=qR4 (a+h) (x+s);obtain⟨j1,j2,j3⟩:=qR4 (a+h) (x+s+s);obtain⟨g1,g2,g3⟩:=ql0 a x;obtain⟨f1,f2,f3⟩:=ql0 a (x+s);generalize mnI (a+h) (x+(s+s))=m1 at *;generalize mnI (a+h) (x+s)=m2 at *;generalize mnI (a+h) (x+s+s)=m3 at *;generalize mxI a x=k1 at *;generalize mxI a (x+s)=k2 at *;have e3:m3=m1:=by rcases h3 with z|z<;>rcases j3 with y|y<;>lia
 subst e3;obtain⟨a1,a2,a3⟩:=ql0 0 (m3-k1);obtain⟨b1,b2,b3⟩:=ql0 0 (m2-k1);obtain⟨c1,c2,c3⟩:=ql0 0 (m3-k2);generalize mxI 0 (m3-k1)=u at *;generalize mxI 0 (m2-k1)=v at *;generalize mxI 0 (m3-k2)=t at *;clear j1 j2 j3;rcases h3 with z|z
 ·rcases g3 with y|y
  ·rcases i3 with i3|i3<;>rcases f3 with f3|f3<;>lia
  ·rcases i3 with i3|i3<;>rcases f3 with f3|f3<;>lia
 ·rcases g3 with y|y
  ·rcases i3 with i3|i3<;>rcases f3 with f3|f3<;>lia
  ·rcases i3 with i3|i3<;>rcases f3 with f3|f3<;>lia
structure Bx where
 r:Int
 c:Int
 h:Int
 w:Int
def Bx.com (p q:Bx):Int:=ov p.r p.h q.r q.h*ov p.c p.w q.c q.w
def Bx.has (p:Bx) (a b:Int):Prop:=(p.r<=a/\a<p.r+p.h)/\p.c<=b/\b<p.c+p.w
def shr:List Bx->Bx->Int
 |[],_=>0
 |p::l,q=>p.com q+shr l q
theorem xh5 (p q:Bx):0<=p.com q:=Int.mul_nonneg (xn2 ..) (xn2 ..)
theorem xh6 (q:Bx):∀l,0<=shr l q
 |[]=>Wj _
 |p::l=>by
  have:=xh5 p q;have:=xh6 q l;show 0<=p.com q+shr l q;lia
theorem xn3 {p q:Bx}:p.com q=0\/∃a b,p.has a b/\q.has a b:=by
 unfold Bx.com;rcases xh2 (a:=p.r) (h:=p.h) (x:=q.r) (s:=q.h) with z|⟨i,h1,h2,h3,h4⟩
 ·left;rw[z,Int.zero_mul]
 ·rcases xh2 (a:=p.c) (h:=p.w) (x:=q.c) (s:=q.w) with z|⟨j,k1,k2,k3,k4⟩
  ·left;rw[z,Int.mul_zero]
  ·right;exact⟨i,j,⟨⟨h1,h2⟩,k1,k2⟩,⟨h3,h4⟩,k3,k4⟩
theorem xn4 {p q:Bx}{a b:Int}(h:p.has a b) (k:q.has a b):0<p.com q:=Int.mul_pos (xh3 h.1.1 h.1.2 k.1.1 k.1.2) (xh3 h.2.1 h.2.2 k.2.1 k.2.2)
theorem q56 {q:Bx}:∀{l:List Bx},shr l q=0\/∃p∈l,∃a b,p.has a b/\q.has a b
 |[]=>.inl rfl
 |p::l=>by
  rcases xn3 (p:=p) (q:=q) with z|⟨a,b,h⟩
  ·rcases q56 (q:=q) (l:=l) with y|⟨p',hp,h⟩
   ·left;show p.com q+shr l q=0;rw[z,y];rfl
   ·exact .inr ⟨p',by simp[hp],h⟩
  ·exact .inr ⟨p,by simp,a,b,h⟩
theorem q57 {q p:Bx}{a b:Int}(h:p.has a b) (k:q.has a b):∀{l:List Bx},p∈l->0<shr l q
 |p'::l,hm=>by
  have h1:=xh5 p' q;have h2:=xh6 q l;show 0<p'.com q+shr l q;rcases Zt.mp hm with rfl|z
  ·have:=xn4 h k;lia
  ·have:=q57 h k z;lia
theorem xc9 {p:Bx}{x y s:Int}(hs:0<=s):p.com ⟨x,y,s+s,s+s⟩=p.com ⟨x,y,s,s⟩+p.com ⟨x,y+s,s,s⟩+p.com ⟨x+s,y,s,s⟩+p.com ⟨x+s,y+s,s,s⟩:=by
 unfold Bx.com;show ov p.r p.h x (s+s)*ov p.c p.w y (s+s)=ov p.r p.h x s*ov p.c p.w y s+ov p.r p.h x s*ov p.c p.w (y+s) s+ov p.r p.h (x+s) s*ov p.c p.w y s+ov p.r p.h (x+s) s*ov p.c p.w (y+s) s;rw[xh4 hs,xh4 hs,Int.add_mul,Int.mul_add,Int.mul_add];lia
theorem qO1 {x y s:Int}(hs:0<=s):∀l:List Bx,shr l ⟨x,y,s+s,s+s⟩=shr l ⟨x,y,s,s⟩+shr l ⟨x,y+s,s,s⟩+shr l ⟨x+s,y,s,s⟩+shr l ⟨x+s,y+s,s,s⟩
 |[]=>rfl
 |p::l=>by
  show p.com _+shr l _=(p.com _+shr l _)+(p.com _+shr l _)+(p.com _+shr l _)+(p.com _+shr l _);rw[xc9 hs,qO1 hs l];lia
def lfB (n:Nat) (R C:Int) (ad:List Nat):Bx:=⟨R+(cof (· / 2) n ad:Nat),C+(cof (·%2) n ad:Nat),((2^(n-ad.length):Nat):Int),((2^(n-ad.length):Nat):Int)⟩
def sumL (f:List Nat->Int):List (List Nat×Bool)->Int
 |[]=>0
 |e::l=>f e.1+sumL f l
theorem qo4 (f:List Nat->Int):∀l m,sumL f (l++m)=sumL f l+sumL f m
 |[],m=>(Wq _).symm
 |e::l,m=>by
  show f e.1+sumL f (l++m)=f e.1+sumL f l+sumL f m;rw[qo4 f l m,Int.add_assoc]
theorem qo5 (f:List Nat->Int) (x:Nat):∀l,sumL f (l.map λe=>(x::e.1,e.2))=sumL (λad=>f (x::ad)) l
 |[]=>rfl
 |e::l=>by
  show f (x::e.1)+sumL f _=f (x::e.1)+_;rw[qo5 f x l]
theorem xd0 (m:Nat) (R C:Int) (x:Nat) (ad:List Nat):lfB (m+1) R C (x::ad)=lfB m (R+((2^m*(x/2):Nat):Int)) (C+((2^m*(x%2):Nat):Int)) ad:=by
 unfold lfB;show Bx.mk (R+((2^m*(x/2)+cof (· / 2) m ad:Nat):Int)) (C+((2^m*(x%2)+cof (·%2) m ad:Nat):Int)) ((2^(m+1-(ad.length+1)):Nat):Int) ((2^(m+1-(ad.length+1)):Nat):Int)=_;rw[Xf,Xf,<- Int.add_assoc,<- Int.add_assoc,WX]
theorem qR5 (l:List Bx):∀(n:Nat) (t:Tr) (R C:Int),dep t<=n->sumL (λad=>shr l (lfB n R C ad)) (lvT t)=shr l ⟨R,C,((2^n:Nat):Int),((2^n:Nat):Int)⟩:=by
 have plain:∀(b:Bool) (n:Nat) (R C:Int),sumL (λad=>shr l (lfB n R C ad)) [([],b)]=shr l ⟨R,C,((2^n:Nat):Int),((2^n:Nat):Int)⟩:=λb n R C=>by
  show shr l (lfB n R C [])+0=_;unfold lfB;rw[qA4,qA4,Vj];show shr l ⟨R+0,C+0,_,_⟩=_;rw[Vj,Vj]
  rfl
 intro n
 induction n with
 |zero=>
  intro t R C hd;rcases dep0 hd with rfl|rfl
  ·exact plain ..
  ·exact plain ..
 |succ m ih=>
  intro t R C hd;cases t with
  |z=>exact plain ..
  |o=>exact plain ..
  |nd p q s u=>
   have h0:=qq5 (x:=0) (by decide) hd;have h1:=qq5 (x:=1) (by decide) hd;have h2:=qq5 (x:=2) (by decide) hd;have h3:=qq5 (x:=3) (by decide) hd;show sumL _ (_++_++_++_)=_;rw[qo4,qo4,qo4,qo5,qo5,qo5,qo5];simp only[xd0];rw[ih p _ _ h0,ih q _ _ h1,ih s _ _ h2,ih u _ _ h3];have e2:((2^(m+1):Nat):Int)=((2^m:Nat):Int)+((2^m:Nat):Int):=by rw[Yu];lia
   rw[e2,qO1 (WB _)];simp only[Nat.reduceDiv,Nat.reduceMod,Nat.mul_zero,Nat.mul_one,Int.natCast_zero,Vj]
theorem qv5 (f:List Nat->Int) (yes:List Nat×Bool->Bool):∀l:List (List Nat×Bool),(∀e∈l,yes e=false->f e.1=0)->sumL f (l.filter yes)=sumL f l
 |[],_=>rfl
 |e::l,h=>by
  have ih:=qv5 f yes l λx hx=>h x (by simp[hx]);rw[YD];show _=f e.1+sumL f l;cases z:yes e with
  |true=>rw[Zx rfl];show f e.1+sumL f _=_;rw[ih]
  |false=>rw[Zk (by decide),ih,h e (by simp) z,Wq]
def ahd (r c far R C wd:Int):List Bx:=[⟨r-far,c-far,R-r+far,2*far+1⟩,⟨mxI R (r-far+1),c-far+1,r+far-mxI R (r-far+1),2*far-1⟩,⟨R,c-far,1,wd⟩]
theorem q58 {r c R C a b:Nat}{far wd:Int}(hf:far=dst r c R C) (hw:wd=if abI ((R:Int)-r)<far then mnI 1 ((C:Int)-c+far) else (C:Int)-c+far) :
  (∃p∈ahd r c far R C wd,p.has a b)<->kC r c a b<kC r c R C:=by
 unfold kC;rw[q35,<- hf];obtain⟨f1,f2,f3,f4⟩:=dst_le.mp (Int.le_of_eq hf.symm);have fl:¬dst r c R C<=far-1:=by lia
 rw[dst_le] at fl;obtain⟨d1,d2,d3,d4⟩:=dst_le.mp (Wj (dst r c a b));have dl:¬dst r c a b<=dst r c a b-1:=by lia
 rw[dst_le] at dl;generalize dst r c a b=d at *;clear hf;have vU:(wd=C-c+far/\(R=r+far\/R=r-far))\/(wd=0/\(C:Int)=c-far/\(R:Int)<r+far/\(r:Int)-far<R)\/(wd=1/\(C:Int)=c+far/\(R:Int)<r+far/\(r:Int)-far<R):=by
  have ab:abI ((R:Int)-r)<far<->(R:Int)<r+far/\(r:Int)-far<R:=by
   have:=q36 (i:=(R:Int)-r) (f:=far-1);constructor
   ·intro h;have:=this.mp (by lia);lia
   ·intro h;have:=this.mpr (by lia);lia
  by_cases z:abI ((R:Int)-r)<far
  ·rw[Zx z] at hw;have z:=ab.mp z;right;have:(C:Int)=c-far\/(C:Int)=c+far:=by lia
   rcases this with y|y
   ·left;have e:mnI 1 ((C:Int)-c+far)=0:=by rw[y];unfold mnI;rw[Zx (by lia)];lia
    exact⟨by lia,y,z⟩
   ·right;have e:mnI 1 ((C:Int)-c+far)=1:=by rw[y];unfold mnI;rw[Zk (by lia)]
    exact⟨by lia,y,z⟩
  ·rw[Zk z] at hw;have z:¬((R:Int)<r+far/\(r:Int)-far<R):=λy=>z (ab.mpr y);exact .inl ⟨hw,by lia⟩
 clear hw;obtain⟨m1,m2,m3⟩:=ql0 (R:Int) ((r:Int)-far+1);unfold ahd;generalize mxI (R:Int) ((r:Int)-far+1)=M at *;simp only[Zt,XJ,V6,exists_eq_or_imp,exists_eq_left];unfold Bx.has;simp only;constructor
 ·rintro (⟨⟨h1,h2⟩,h3,h4⟩|⟨⟨h1,h2⟩,h3,h4⟩|⟨⟨h1,h2⟩,h3,h4⟩)
  ·clear m1 m2 m3 vU fl;lia
  ·clear m3 vU fl;lia
  ·clear m1 m2 m3;rcases vU with ⟨e,y|y⟩|⟨e,y⟩|⟨e,y⟩<;>lia
 ·rintro (h|⟨h,h2|⟨h2,h3⟩⟩)
  ·by_cases z:(a:Int)<R
   ·left;clear m1 m2 m3 vU fl;lia
   ·right;left;clear vU fl;rcases m3 with e|e<;>lia
  ·left;clear m1 m2 m3 vU fl;lia
  ·right;right;clear m1 m2 m3;rcases vU with ⟨e,y|y⟩|⟨e,y⟩|⟨e,y⟩<;>lia
theorem qR6 {n r c:Nat}{ad:List Nat}{k:List (List Int)}(h4:∀d∈ad,d<4) (hl:ad.length<=n) (hr:r<2^n) (hc:c<2^n):kF n r c ad<k<->∃a b,inB n ad a b/\kC r c a b<k:=by
 obtain⟨⟨a,b,h1,_,_,h2⟩,h3⟩:=xg6 h4 hl hr hc;constructor
 ·intro h;exact⟨a,b,h1,by rw[<- h2];exact h⟩
 ·rintro⟨a',b',h5,h6⟩;exact List.lt_of_le_of_lt (W7.mp (h3 a' b' h5)) h6
theorem inB_has {n:Nat}{ad:List Nat}{a b:Int}:(lfB n 0 0 ad).has a b<->∃a' b':Nat,a=a'/\b=b'/\inB n ad a' b':=by
 unfold lfB Bx.has inB;simp only[Wq];generalize cof (· / 2) n ad=A;generalize cof (·%2) n ad=B;generalize 2^(n-ad.length)=S;constructor
 ·intro h;exact⟨a.toNat,b.toNat,by lia,by lia,by lia,by lia,by lia,by lia⟩
 ·rintro⟨a',b',rfl,rfl,h⟩;lia
theorem qG5 {n r c R C:Nat}{far wd:Int}{ad:List Nat}(hf:far=dst r c R C) (hw:wd=if abI ((R:Int)-r)<far then mnI 1 ((C:Int)-c+far) else (C:Int)-c+far)
  (h4:∀d∈ad,d<4) (hl:ad.length<=n) (hr:r<2^n) (hc:c<2^n):(kF n r c ad<kC r c R C<->shr (ahd r c far R C wd) (lfB n 0 0 ad)≠0):=by
 rw[qR6 h4 hl hr hc];constructor
 ·rintro⟨a,b,h1,h2⟩;obtain⟨p,hp,hh⟩:=(q58 hf hw).mpr h2;have:=q57 hh (inB_has.mpr ⟨a,b,rfl,rfl,h1⟩) hp;lia
 ·intro h;rcases q56 (q:=lfB n 0 0 ad) (l:=ahd r c far R C wd) with z|⟨p,hp,a,b,h1,h2⟩
  ·exact absurd z h
  ·obtain⟨a',b',rfl,rfl,h3⟩:=inB_has.mp h2;exact⟨a',b',h3,(q58 hf hw).mp ⟨p,hp,h1⟩⟩
theorem q59 {n r c R C:Nat}{far wd:Int}{t:Tr}(hd:dep t<=n) (hf:far=dst r c R C) (hw:wd=if abI ((R:Int)-r)<far then mnI 1 ((C:Int)-c+far) else (C:Int)-c+far) (hr:r<2^n) (hc:c<2^n) :
  sumL (λad=>shr (ahd r c far R C wd) (lfB n 0 0 ad)) ((lvT t).filter λe=>decide (kF n r c e.1<kC r c R C))=shr (ahd r c far R C wd) ⟨0,0,((2^n:Nat):Int),((2^n:Nat):Int)⟩:=by
 rw[qv5,qR5 _ n t 0 0 hd];intro e he z;obtain⟨h4,hl⟩:=qv0 n t e hd he;have:=qG5 hf hw h4 hl hr hc;rcases Int.lt_trichotomy (shr (ahd r c far R C wd) (lfB n 0 0 e.1)) 0 with y|y|y
 ·exact absurd (this.mpr (by lia)) (Yj z)
 ·exact y
 ·exact absurd (this.mpr (by lia)) (Yj z)
theorem qo6:∀t:Tr,Red t->(∀e∈lvT t,e.2=false)->t=.z
 |.z,_,_=>rfl
 |.o,_,h=>absurd (h ([],true) (by simp[lvT])) (by decide)
 |.nd a b c d,hr,h=>by
  obtain⟨n1,_,ra,rb,rc,rd⟩:=hr;have key:∀x,x<4->∀e∈lvT (qr x (.nd a b c d)),e.2=false:=λx hx e he=>h (x::e.1,e.2) (lvT_nd.mpr ⟨x,e.1,hx,rfl,he⟩);exact absurd ⟨qo6 a ra (key 0 (by decide)),qo6 b rb (key 1 (by decide)),qo6 c rc (key 2 (by decide)),qo6 d rd (key 3 (by decide))⟩ n1
end Qf
namespace L2
open PySem
theorem q60 {H:Hp}{n k:Nat}{g:TG}{tt:TT}{te:TE}{σ:St}{Fin:Hp->Prop}{D:Addr}(Iv:Nat->List V->Hp->Prop) (hsz:n<sizeLine) (i0:Iv 0 [] (upd H D (.lst []))) (hD:∀i xs H2,Iv i xs H2->H2 D=some (.lst xs)/\xs.length<=i)
  (step:∀i xs H2,i<n->Iv i xs H2->∀os:St,os.length=k->∀(Q1:Hp->Prop) (Q2:VK),(∀H3,Iv (i+1) xs H3->Q1 H3)->(∀v H3,H3 D=some (.lst xs)->Iv (i+1) (xs++[v]) (upd H3 D (.lst (xs++[v])))->Q2 v H3) ->
   g (.int (0+(i:Int))) (os++σ) H2 λσ4 H4=>tt σ4 H4 λb H5=>if b=true then te σ4 H5 Q2 else Q1 H5)
  (fin:∀xs H2,Iv n xs H2->Fin H2) :
  ∃W:Nat->Nat->List V->Hp->Prop,(∃m,W 0 m [] (upd H D (.lst []))) /\
   ∀i m xs H2,W i m xs H2->H2 D=some (.lst xs)/\xs.length<sizeLine/\(((Itr 0 n).stop i H2/\Fin H2)\/((Itr 0 n).go i H2/\∀y H3,(Itr 0 n).yld i H2 y H3->∀os:St,os.length=k ->
    g y (os++σ) H3 λσ4 H4=>tt σ4 H4 λb H5=>if b=true then te σ4 H5 λv H6=>H6 D=some (.lst xs)/\∃m',m'<m/\W (i+1) m' (xs++[v]) (upd H6 D (.lst (xs++[v]))) else ∃m',m'<m/\W (i+1) m' xs H5)):=by
 refine⟨λi m xs H2=>i<=n/\m=n-i/\Iv i xs H2,⟨n,Zv _,rfl,i0⟩,?_⟩;rintro i m xs H2 ⟨hi,rfl,iv⟩;obtain⟨h1,h2⟩:=hD i xs H2 iv;refine⟨h1,by lia,?_⟩;by_cases he:i=n
 ·subst he;exact .inl ⟨Ze i,fin xs H2 iv⟩
 ·refine .inr ⟨show i<n by lia,λy H3 hy os ho=>?_⟩;obtain⟨e1,e2⟩:=hy;rw[e1,e2];exact step i xs H2 (by lia) iv os ho _ _ (λH5 h=>⟨n-(i+1),by lia,by lia,rfl,h⟩) λv H6 h1 h2=>⟨h1,n-(i+1),by lia,by lia,rfl,h2⟩
theorem qO2 {H:Hp}{n:Nat}{te:TE}{σ:St}{Fin:Hp->Prop}{D:Addr}(Iv:Nat->List V->Hp->Prop) (hsz:n<sizeLine) (i0:Iv 0 [] (upd H D (.lst []))) (hD:∀i xs H2,Iv i xs H2->H2 D=some (.lst xs)/\xs.length<=i)
  (step:∀i xs H2,i<n->Iv i xs H2->∀Q2:VK,(∀v H3,H3 D=some (.lst xs)->Iv (i+1) (xs++[v]) (upd H3 D (.lst (xs++[v])))->Q2 v H3)->te (some (.int (0+(i:Int)))::σ) H2 Q2)
  (fin:∀xs H2,Iv n xs H2->Fin H2) :
  ∃W:Nat->Nat->List V->Hp->Prop,(∃m,W 0 m [] (upd H D (.lst []))) /\
   ∀i m xs H2,W i m xs H2->H2 D=some (.lst xs)/\xs.length<sizeLine/\(((Itr 0 n).stop i H2/\Fin H2)\/((Itr 0 n).go i H2/\∀y H3,(Itr 0 n).yld i H2 y H3 ->
    te (some y::σ) H3 λv H4=>H4 D=some (.lst xs)/\∃m',m'<m/\W (i+1) m' (xs++[v]) (upd H4 D (.lst (xs++[v]))))):=by
 refine⟨λi m xs H2=>i<=n/\m=n-i/\Iv i xs H2,⟨n,Zv _,rfl,i0⟩,?_⟩;rintro i m xs H2 ⟨hi,rfl,iv⟩;obtain⟨h1,h2⟩:=hD i xs H2 iv;refine⟨h1,by lia,?_⟩;by_cases he:i=n
 ·subst he;exact .inl ⟨Ze i,fin xs H2 iv⟩
 ·refine .inr ⟨show i<n by lia,λy H3 hy=>?_⟩;obtain⟨e1,e2⟩:=hy;rw[e1,e2];exact step i xs H2 (by lia) iv _ λv H6 h1 h2=>⟨h1,n-(i+1),by lia,by lia,rfl,h2⟩
end L2
namespace Pr
open PySem L2 Qf
structure Blt2 (mg:Str->Option Value):Prop where
 abs:mg "abs" = none
 repr:mg "repr" = none
 str:mg "str" = none
section
variable {P:Program}{w:World}{K:PySem.W.Frag}{mg:Str->Option Value}{base:Heap}
theorem scDigit:FnScope ["_law_pot_here", "_law_many", "_law_digit_here"] ["_law_pot_here", "_law_many"] (qa4 qq2):=qc7
def qm3:Sp:=λvs H Q _=>∃(p:Addr) (n:Nat),vs=[.ref p,.int (n:Nat)]/\PurseAt H p/\0<n/\n<1000000/\∀(d:Nat) (H':Hp),d<n->But p H H'->PurseAt H' p->Q (.int (d:Nat)) H'
theorem qo7 {f:Addr}{fd:FuncData}(F:Fun K "_law_digit" "_law_digit" qq2 f fd):FnOk P w K mg base CX0 1 f fd ["_law_pot_here", "_law_many"] qm3:=by
 refine F.ok scDigit (λvs H Q E h=>?_) (λcdv A outer s H vs Q E hr h=>?_)
 ·obtain⟨p,n,rfl,_⟩:=h
  rfl
 ·obtain⟨p,n,rfl,⟨a,b,hp,ha,hb,vI⟩,hn,hn2,q⟩:=h;refine⟨_,qb5 (qd9 (qb7 q77 (pxN qf1 (pv 0) qa1) qa1 (qb2 _))
    (qb5 (psN 2 scDigit.nd (qa6 qx0 (pxN qf1 (pv 0) qa1) (pv 1)))
    (qb5 (qi7 (qa6 qi9 (pxN qf1 (pv 0) qa1) (pv 1)) (xe4 (pv 0) qa1 qK8))
    (qa8 (qa9 (pv 2))))) qb8)
   (qb5 (qi7 (qa6 qx0 (qa6 qc3 (qa6 qf7 (pxN qf1 (pv 0) qa1) qa1) qa1) qa1) (xe4 (pv 0) qa1 qK8))
   (qa8 (qa9 (qa6 qx0 (qa6 qi9 (pxN qf1 (pv 0) qa1) qa1) (pv 1))))),?_⟩
  have sq:∀{H':Hp}{xs:List V},H' p=some (.lst xs)->SqL K H' p xs:=λh=>SqL.of h;have fin:∀(d x y:Int),0<=d->d<(n:Int)->0<=x->0<=y->y<2^40->Q (.int d) (upd H p (.lst [.int x,.int y])):=λd x y d0 d1 x0 y0 y1=>by
   have:=q d.toNat (upd H p (.lst [.int x,.int y])) (by lia) But.upd ⟨x,y,qa3,x0,y0,y1⟩
   rwa [show ((d.toNat:Nat):Int)=d by lia] at this
  have hn0:(0:Int)<n:=by lia
  refine⟨_,rfl,p,_,0,_,rfl,rfl,sq hp,rfl,_,_,rfl,rfl,_,rfl,?_⟩;refine ite2 (λhc=>?_) (λhc=>?_)
  ·refine⟨_,rfl,p,_,0,_,rfl,rfl,sq hp,rfl,_,rfl,_,_,rfl,rfl,hn0,?_⟩;refine⟨_,rfl,p,_,0,_,rfl,rfl,sq hp,rfl,_,rfl,_,_,rfl,rfl,⟨hn0,by lia⟩,_,rfl,p,_,0,0,rfl,rfl,hp,rfl,?_⟩;refine⟨_,rfl,?_⟩;exact fin _ _ _ (Wy _ (by lia)) (XV _ hn0) (Int.ediv_nonneg ha (by lia)) hb vI
  ·refine⟨_,rfl,p,_,1,_,rfl,rfl,sq hp,rfl,_,_,rfl,rfl,.inl ⟨by lia,by lia⟩,_,_,rfl,rfl,_,_,rfl,rfl,(by show (0:Int)<2147483629;decide),_,rfl,p,_,1,1,rfl,rfl,hp,rfl,?_⟩;have m1:0<=(b*48271+8191)%2147483629/\(b*48271+8191)%2147483629<2147483629:=⟨Wy _ (by decide),XV _ (by decide)⟩;refine⟨_,rfl,p,_,1,_,rfl,rfl,sq qa3,rfl,_,_,rfl,rfl,⟨by decide,by decide⟩,_,rfl,_,_,rfl,rfl,hn0,?_⟩;exact fin _ _ _ (Wy _ (by lia)) (XV _ hn0) ha m1.1 (by lia)
theorem scPot:FnScope ["_law_script", "_law_k", "_law_cell"] ["_law_script", "_law_k"] (qa4 lPot):=qc7
def xt9 (K:PySem.W.Frag):Sp:=λvs H Q _=>∃(a:Addr) (k:Int) (ns:List Int),vs=[.ref a,.int k]/\SqL K H a (ns.map V.int)/\ns.length<=63/\0<=k/\k<=1000/\∀(H':Hp) (p:Addr),Same H H'->H p=none->PurseAt H' p->Q (.ref p) H'
theorem xu0 {f:Addr}{fd:FuncData}(F:Fun K "_law_pot" "_law_pot" lPot f fd) (B:Blt mg) (C:Blt2 mg):FnOk P w K mg base CX0 1 f fd ["_law_script", "_law_k"] (xt9 K):=by
 refine F.ok scPot (λvs H Q E h=>?_) (λcdv A outer s H vs Q E hr h=>?_)
 ·obtain⟨a,k,ns,rfl,_⟩:=h
  rfl
 ·obtain⟨a,k,ns,rfl,hS,hl,h0,h1,q⟩:=h;refine seqE ⟨_,⟨psN 2 scPot.nd qa1⟩,?_⟩;refine seqE ⟨_,⟨qd9 (qb7 qj0 (pv 1) (qa5 qc9 (by rfl) B.len Yy (qa0 (pv 0) qa2)) (qb2 _)) (qa8 (psN 2 scPot.nd (pxN qf1 (pv 0) (pv 1)))) qb8⟩,?_⟩;refine qf9 ⟨_,⟨qa9 (qi4 (Ars2.go (.cons ⟨qa5 (qd2 rfl) (by rfl) B.max ZN (qa0 qa1 (qa0 (qa6 qc0 (qa5 qm6 (by rfl) C.abs Xn (qa0 (pv 2) qa2)) (qa6 xq1 qa1 qa1)) qa2))⟩
    (.cons ⟨qa6 qc3 (qa6 qc3 (qa6 qx0 (qa5 qm6 (by rfl) C.abs Xn (qa0 (pv 2) qa2)) qa1) (qa6 qf7 qa1 (pv 1))) qa1⟩ .nil rfl) rfl)))⟩,?_⟩
  have fin:∀(z:Int) (p:Addr),H p=none->Q (.ref p) (upd H p (.lst [.int (if (if z<0 then -z else z)-10^18>0 then (if z<0 then -z else z)-10^18 else 0),.int ((if z<0 then -z else z)%2147483629+97*k+1)])):=λz p hp=>by
   have m1:0<=(if z<0 then -z else z)%2147483629/\(if z<0 then -z else z)%2147483629<2147483629:=⟨Wy _ (by decide),XV _ (by decide)⟩;refine q _ p (qb4 hp) hp ⟨_,_,qa3,?_,?_,?_⟩
   ·split<;>lia
   ·lia
   ·lia
  refine⟨_,rfl,_,rfl,a,_,rfl,.inl hS,_,_,rfl,rfl,_,rfl,?_⟩;refine ite2 (λhc=>?_) (λhc=>?_)
  ·have hk:k<(ns.length:Int):=by
    have:=ZI hc;simpa using this
   have hkn:k.toNat<ns.length:=by lia
   refine⟨_,rfl,_,rfl,a,_,k,.int (ns[k.toNat]),rfl,rfl,hS,?_,?_⟩
   ·have:=ql9 (xs:=ns.map V.int) (j:=k.toNat) (v:=.int (ns[k.toNat])) (by simp[hkn]);rw[show ((k.toNat:Nat):Int)=k by lia] at this;exact this
   ·refine⟨_,rfl,_,rfl,_,_,rfl,rfl,⟨by decide,by decide,by decide⟩,_,_,rfl,rfl,_,_,rfl,?_⟩;exact⟨_,rfl,_,rfl,_,_,rfl,rfl,(by show (0:Int)<2147483629;decide),_,rfl,_,_,rfl,rfl,.inl ⟨by decide,by decide⟩,_,_,rfl,rfl,_,_,rfl,rfl,(by show 2<=sizeLine;decide),λp hp=>fin _ p hp⟩
  ·refine⟨_,rfl,_,rfl,_,_,rfl,rfl,⟨by decide,by decide,by decide⟩,_,_,rfl,rfl,_,_,rfl,?_⟩;exact⟨_,rfl,_,rfl,_,_,rfl,rfl,(by show (0:Int)<2147483629;decide),_,rfl,_,_,rfl,rfl,.inl ⟨by decide,by decide⟩,_,_,rfl,rfl,_,_,rfl,rfl,(by show 2<=sizeLine;decide),λp hp=>fin _ p hp⟩
end
end Pr
namespace L2
open PySem PySem.Spec PyProof.Rows
theorem xd1 {lo:Int}{n:Nat}{g:TG}{tb:TS}{D:Ends}{σ:St}{H:Hp}(Pv:Nat->St->Hp->Prop) (h0:Pv 0 σ H)
  (hs:∀i σ H,i<n->Pv i σ H->g (.int (lo-i)) σ H λσ2 H2=>tb { D with nx:=Pv (i+1),ct:=Pv (i+1),bk:=D.nx } σ2 H2) (hd:∀σ H,Pv n σ H->D.nx σ H) :
  ∃W:Nat->Nat->St->Hp->Prop,(∃m,W 0 m σ H)/\∀i m σ H,W i m σ H ->
   ((Itd lo n).stop i H/\D.nx σ H)\/((Itd lo n).go i H/\∃N:St->Hp->Prop,(∀σ' H',N σ' H'->∃m',m'<m/\W (i+1) m' σ' H')/\∀x H',(Itd lo n).yld i H x H'->g x σ H' λσ2 H2=>tb { D with nx:=N,ct:=N,bk:=D.nx } σ2 H2):=by
 refine⟨λi m σ H=>m=n-i/\i<=n/\Pv i σ H,⟨n,by simp,Zv _,h0⟩,?_⟩;rintro i m σ H ⟨rfl,hi,p⟩;by_cases jA:i<n
 ·refine .inr ⟨jA,Pv (i+1),λσ' H' p'=>⟨n-(i+1),by lia,rfl,jA,p'⟩,λx H' y=>?_⟩;obtain⟨e,y⟩:=y;subst e y;exact hs i σ _ jA p
 ·have e:i=n:=by lia
  subst e;exact .inl ⟨Ze _,hd σ H p⟩
end L2
namespace Pr
open PySem L2 Qf
theorem xu1 {d:Nat}(h:d<4):atI ("0123" : Str).cps.toList (d:Int)=some (48+d):=by
 match d,h with
 |0,_|1,_|2,_|3,_=>decide +kernel
theorem xd2:("0123" : Str).length<=sizeLine:=by decide +kernel
theorem xn5:("" : Str)=txt []:=by decide +kernel
theorem in23 {d:Nat}(h:d<4):(if (!(Builtin.Str.occurrences "23" ⟨#[48+d]⟩ 0 ("23" : Str).length 1).isEmpty)=true then (1:Int) else 0)=((d/2:Nat):Int):=by
 match d,h with
 |0,_|1,_|2,_|3,_=>decide +kernel
theorem in13 {d:Nat}(h:d<4):(if (!(Builtin.Str.occurrences "13" ⟨#[48+d]⟩ 0 ("13" : Str).length 1).isEmpty)=true then (1:Int) else 0)=((d%2:Nat):Int):=by
 match d,h with
 |0,_|1,_|2,_|3,_=>decide +kernel
theorem xu2 {r c n i:Nat}(h:i<n):(dgp r c 0 n)[i]?=some (qd r c (n-1-i)):=by
 rw[qF4,Zg,XE h];show some (qd r c (0+n-1-i))=_;rw[Vi]
theorem qO3 {t:Tr}{l m:List Nat}(h:(wdn t l).1=.z\/(wdn t l).1=.o):wdn t (l++m)=wdn t l:=by
 rcases qA0 t l m with ⟨h1,h2⟩|⟨_,h2⟩
 ·rw[h2,qF3 h];exact Prod.ext rfl (by show l++[]=_;rw[YT,h1])
 ·exact h2
theorem xd3 {t:Tr}{l:List Nat}{a b c d:Tr}(h:(wdn t l).1=.nd a b c d):(wdn t l).2=l:=by
 rcases qA0 t l [] with ⟨h1,_⟩|⟨h1,_⟩
 ·exact h1
 ·rw[h] at h1;rcases h1 with z|z<;>cases z
section
variable {P:Program}{w:World}{K:PySem.W.Frag}{mg:Str->Option Value}{base:Heap}
abbrev nLf:List Str:=["_law_told", "_law_row", "_law_column", "_law_n", "_law_number_here", "_law_rows", "_law_address", "_law_k", "_law_quarter"]
abbrev nLf3:List Str:=["_law_told", "_law_row", "_law_column"]
theorem scLf:FnScope nLf nLf3 (qa4 q93):=qc7
def spLf:Sp:=λvs H Q _=>∃(t:Addr) (n tp r c:Nat) (rows:List Row),vs=[.ref t,.int (r:Nat),.int (c:Nat)]/\qe2 H t n tp rows/\n<=12 /\
 ∀(H':Hp) (p:Addr) (y:Nat),Same H H'->y<rows.length+2->T rows y=(wdn (T rows tp) (dgp r c 0 n)).1->H' p=some (.tup [.str (txt (wdn (T rows tp) (dgp r c 0 n)).2),.int (y:Nat)])->Q (.ref p) H'
theorem xz8 {f:Addr}{fd:FuncData}(F:Fun K "_law_leaf" "_law_leaf" q93 f fd) (B:Blt mg):FnOk P w K mg base CX0 1 f fd nLf3 spLf:=by
 refine F.ok scLf (λvs H Q E h=>?_) (λcdv A outer s H vs Q E hr h=>?_)
 ·obtain⟨t,n,tp,r,c,rows,rfl,_⟩:=h
  rfl
 ·obtain⟨t,n,tp,r,c,rows,rfl,hS,hn,q⟩:=h;obtain⟨⟨rp,ht,hR⟩,cn,hrl⟩:=id hS;have ok:=cn.rok;refine seqE ⟨_,⟨qi7 (pv 0) (qi3 rfl (qb1 (pgN 3 scLf.nd) (qb1 (pgN 4 scLf.nd) (qb1 (pgN 5 scLf.nd) qe9))))⟩,?_⟩;refine seqE ⟨_,⟨psN 6 scLf.nd qw6⟩,?_⟩;refine seqE ⟨_,⟨ql1 YK rfl (xk3 (by rfl) B.range (qa0 (qa6 qc0 (pv 3) qa1) (qa0 (xq0 xe7 qa1) (qa0 (xq0 xe7 qa1) qa2)))) (pgN 7 scLf.nd)
   (StB.go (.one ⟨qd9 (qb7 q77 (pv 4) qa1 (qb2 _)) (StB.go (.cons ⟨psN 8 scLf.nd (qa6 qc3 (qa6 qf7 qa1 (qa6 qT3 (qa6 xe6 (pv 1) (pv 7)) qa1)) (qa6 qT3 (qa6 xe6 (pv 2) (pv 7)) qa1))⟩
    (.cons ⟨psN 4 scLf.nd (pxN qb0 (PEb.go ⟨pxN qb0 (pv 5) (qa6 qc0 (pv 4) qa1)⟩) (pv 8))⟩
    (.one ⟨psN 6 scLf.nd (qa6 qx2 (pv 6) (PEb.go ⟨pxN xq7 qw6 (pv 8)⟩))⟩)))) qb8⟩))⟩,?_⟩
  refine qf9 ⟨_,⟨qa9 (qd8 (Ars2.go (.cons ⟨pv 6⟩ (.cons ⟨pv 4⟩ .nil rfl) rfl)))⟩,?_⟩;refine⟨_,rfl,t,_,rfl,SqT.of ht,rfl,_,_,rfl,_,_,rfl,_,_,rfl,rfl,?_⟩;refine⟨_,rfl,_,_,rfl,rfl,_,rfl,_,rfl,(n:Int)-1,-1,rfl,⟨by lia,by lia,by lia,by lia⟩,?_⟩;have eN:((n:Int)-1-(-1)).toNat=n:=by lia
  rw[eN];have hDl:(dgp r c 0 n).length=n:=q20 r c 0 n;have hD4:=xg2 r c 0 n;have hDa:∀i,i<n->(dgp r c 0 n)[i]?=some (qd r c (n-1-i)):=λi hi=>xu2 hi;generalize dgp r c 0 n=D at q hDl hD4 hDa;refine xd1 (lo:=(n:Int)-1) (n:=n) (λi σ H2=>H2=H/\∃(y:Nat) (v7 v8:Option V),σ=[some (.ref t),some (.int (r:Nat)),some (.int (c:Nat)),some (.int (n:Nat)),some (.int (y:Nat)),some (.ref rp),some (.str (txt (wdn (T rows tp) (D.take i)).2)),v7,v8]/\y<rows.length+2/\T rows y=(wdn (T rows tp) (D.take i)).1) ?_ ?_ ?_
  ·refine⟨rfl,tp,none,none,?_,cn.inn,?_⟩
   ·rw[Vs,qz9,<- xn5];rfl
   ·rw[Vs,qz9]
  ·rintro i σ H2 hi ⟨rfl,y,v7,v8,rfl,hy,hT⟩;have hd:=hDa i hi;have ek:(n:Int)-1-(i:Int)=((n-1-i:Nat):Int):=by lia
   refine⟨_,rfl,_,_,rfl,rfl,_,rfl,?_⟩;refine ite2 (λhc=>?_) (λhc=>?_)
   ·have y2:¬y<2:=by have:=ZI hc;lia
    obtain⟨pl,a0,a1,a2,a3,rfl,jI⟩:=ql4 ok hy y2;obtain⟨bs,hrp,kH,jE⟩:=id hR;have hpr1:=(gS_ jI).1;have vP:bs[pl]?=some (bs[pl]'(by lia)):=Zd (by lia);have hra:=jE pl _ _ vP jI;generalize bs[pl]'(by lia)=ra at vP hra;have wP:=xy4 r c (n-1-i);have eT:T rows (pl+2)=.nd (T rows a0) (T rows a1) (T rows a2) (T rows a3):=qn8 ok jI;have hw:=xd3 (by rw[<- hT,eT]);obtain⟨w1,w2⟩:=xb3 hd hw (by rw[<- hT,eT]);have jA:(wdn (T rows tp) (D.take i)).2.length<=12:=by rw[hw,XH];lia
    have eq1:(2:Int)*Builtin.bitAnd ((r:Int)/2^((n:Int)-1-(i:Int)).toNat) 1+Builtin.bitAnd ((c:Int)/2^((n:Int)-1-(i:Int)).toNat) 1=((qd r c (n-1-i):Nat):Int):=by
     rw[ek,q24,q24];unfold qd;lia
    generalize hqq:qd r c (n-1-i)=d at wP eq1 hd w1 w2;obtain⟨m,hm⟩:∃m,[a0,a1,a2,a3][d]?=some m:=⟨_,Zd (show d<[a0,a1,a2,a3].length from wP)⟩;refine⟨_,rfl,_,rfl,_,_,rfl,rfl,by lia,_,_,rfl,rfl,_,_,rfl,rfl,.inl ⟨by decide,by decide⟩,_,rfl,_,rfl,_,_,rfl,rfl,by lia,_,_,rfl,rfl,_,_,rfl,rfl,?_⟩;refine⟨_,rfl,_,rfl,_,_,rfl,rfl,rp,_,((pl:Nat):Int),.ref ra,rfl,Yk V.int (by lia),SqT.of hrp,ql9 (by rw[Zg,vP];rfl),_,rfl,ra,_,(d:Int),.int (m:Nat),rfl,Yk V.int eq1,SqT.of hra,qE8 hm,?_⟩;refine⟨_,rfl,_,rfl,_,(d:Int),48+d,rfl,Yk V.int eq1,xd2,xu1 wP,_,_,rfl,rfl,?_,?_⟩
    ·rw[qA1];show _+1<=sizeLine;exact XR (qd3 (by lia))
    ·refine⟨rfl,m,some (.int ((n:Int)-1-(i:Int))),some (.int ((2:Int)*Builtin.bitAnd ((r:Int)/2^((n:Int)-1-(i:Int)).toNat) 1+Builtin.bitAnd ((c:Int)/2^((n:Int)-1-(i:Int)).toNat) 1)),?_,?_,?_⟩
     ·rw[w2,qu9 hd,<- q28,hw];rfl
     ·have:=(ok pl _ jI).2 m (Zr hm);lia
     ·rw[w1,T_qr ok jI wP hm,eT]
   ·have y2:y<2:=by
     have:¬(1:Int)<(y:Int):=λz=>hc (Zu z);lia
    have jI:(wdn (T rows tp) (D.take i)).1=.z\/(wdn (T rows tp) (D.take i)).1=.o:=by
     rw[<- hT];have:y=0\/y=1:=by lia
     rcases this with rfl|rfl
     ·exact .inl (qg5 _)
     ·exact .inr (qp3 _)
    refine⟨rfl,y,some (.int ((n:Int)-1-(i:Int))),v8,?_,hy,?_⟩
    ·rw[qu9 hd,qO3 jI];rfl
    ·rw[qu9 hd,qO3 jI];exact hT
  ·rintro σ H2 ⟨rfl,y,v7,v8,rfl,hy,hT⟩;have e:D.take n=D:=Yq (by lia);rw[e];refine⟨_,rfl,_,rfl,(by show 2<=sizeLine;decide),λp2 jN=>q _ p2 y (qb4 jN) hy (hT.trans (by rw[e])) qa3⟩
abbrev nSq:List Str:=["_law_n", "_law_address", "_law_row", "_law_column", "_law_side", "_law_figure"]
theorem scSq:FnScope nSq ["_law_n", "_law_address"] (qa4 qz1):=qc7
theorem xz9 {f:Addr}{fd:FuncData}(F:Fun K "_law_square" "_law_square" qz1 f fd) (B:Blt mg):FnOk P w K mg base CX0 1 f fd ["_law_n", "_law_address"] qA3:=by
 refine F.ok scSq (λvs H Q E h=>?_) (λcdv A outer s H vs Q E hr h=>?_)
 ·obtain⟨m,ds,rfl,_⟩:=h
  rfl
 ·obtain⟨n,ds,rfl,hn,kD,hl,q⟩:=h;refine seqE ⟨_,⟨psN 2 scSq.nd qa1⟩,?_⟩;refine seqE ⟨_,⟨psN 3 scSq.nd qa1⟩,?_⟩;refine seqE ⟨_,⟨psN 4 scSq.nd (qa6 qf2 qa1 (pv 0))⟩,?_⟩;refine seqE ⟨_,⟨ql1 YK rfl (qY9 (pv 1)) (pgN 5 scSq.nd)
   (StB.go (.cons ⟨psN 4 scSq.nd (qa6 qi9 (pv 4) qa1)⟩
   (.cons ⟨psN 2 scSq.nd (qa6 qc3 (pv 2) (qa6 qf7 (pv 4) (PEb.go ⟨qc6 qs6 (by rfl) B.int YZ (qa0 (qd7 qs4 (pv 5) qw6 (by first|exact qb2 _|rfl|decide)) qa2)⟩)))⟩
   (.one ⟨psN 3 scSq.nd (qa6 qc3 (pv 3) (qa6 qf7 (pv 4) (PEb.go ⟨qc6 qs6 (by rfl) B.int YZ (qa0 (qd7 qs4 (pv 5) qw6 (by first|exact qb2 _|rfl|decide)) qa2)⟩)))⟩))))⟩,?_⟩
  refine qf9 ⟨_,⟨qa9 (qd8 (Ars2.go (.cons ⟨pv 2⟩ (.cons ⟨pv 3⟩ (.cons ⟨pv 4⟩ .nil rfl) rfl) rfl)))⟩,?_⟩;have e1n:(1:Int)*2^((n:Nat):Int).toNat=((2^n:Nat):Int):=by rw[VI,ZB];simp
  refine⟨_,rfl,_,_,rfl,rfl,⟨by lia,by lia,by decide⟩,?_⟩;have c0:∀g:Nat->Nat,cof g n []=0:=λg=>by cases n<;>rfl
  refine⟨_,rfl,txt ds,rfl,q21 (λi σ H2=>H2=H/\∃v,σ=[some (.int (n:Nat)),some (.str (txt ds)),some (.int ((rwo n (ds.take i):Nat):Int)),some (.int ((clo n (ds.take i):Nat):Int)),some (.int ((2^(n-i):Nat):Int)),v]) ⟨rfl,none,?_⟩ ?_ ?_⟩
  ·rw[Vs];show _=[some (V.int (n:Nat)),some (.str (txt ds)),some (.int ((cof (· / 2) n []:Nat):Int)),some (.int ((cof (·%2) n []:Nat):Int)),some (.int ((2^n:Nat):Int)),none];rw[c0,c0,<- e1n]
   rfl
  ·rintro i c σ H2 hc ⟨rfl,v,rfl⟩;obtain⟨d,hd,rfl⟩:=q22 hc;have hi:=(gS_ hd).1;have jV:d<4:=kD d (Zr hd);have h1:rwo n (ds.take (i+1))=rwo n (ds.take i)+2^(n-i-1)*(d/2):=qr8 hd hl;have h2:clo n (ds.take (i+1))=clo n (ds.take i)+2^(n-i-1)*(d%2):=qr8 hd hl;have h3:=qN2 (n:=n) (i:=i) (by lia);have h4:2^(n-i-1)<=4096:=qo1 (by lia);have hb4:-(2^64)<((2^(n-i):Nat):Int)/2/\((2^(n-i):Nat):Int)/2<2^64:=by
    rw[h3];generalize 2^(n-i-1)=x at h4;lia
   refine⟨_,rfl,_,_,rfl,rfl,⟨by decide,by decide⟩,?_⟩;refine⟨_,rfl,_,rfl,_,rfl,_,_,rfl,rfl,.inr ⟨_,rfl,_,_,rfl,rfl,.inl hb4,_,_,rfl,rfl,?_⟩⟩;refine⟨_,rfl,_,rfl,_,rfl,_,_,rfl,rfl,.inr ⟨_,rfl,_,_,rfl,rfl,.inl hb4,_,_,rfl,rfl,?_⟩⟩;refine⟨rfl,some (.str ⟨#[48+d]⟩),?_⟩;rw[h1,h2];have e1:((rwo n (ds.take i):Nat):Int)+((2^(n-i-1):Nat):Int)*((d/2:Nat):Int)=((rwo n (ds.take i)+2^(n-i-1)*(d/2):Nat):Int):=by
    rw[Xf,XZ]
   have e2:((clo n (ds.take i):Nat):Int)+((2^(n-i-1):Nat):Int)*((d%2:Nat):Int)=((clo n (ds.take i)+2^(n-i-1)*(d%2):Nat):Int):=by
    rw[Xf,XZ]
   rw[<- e1,<- e2,show n-(i+1)=n-i-1 from by lia,<- h3,<- in23 jV,<- in13 jV]
   rfl
  ·rintro σ H2 ⟨rfl,v,rfl⟩;refine⟨_,rfl,_,rfl,_,rfl,(by show 3<=sizeLine;decide),λp vD=>?_⟩;have e:ds.take (txt ds).cps.size=ds:=Yq (by simp[txt]);rw[e,qA2];exact q p vD
end
end Pr
namespace L2
open PySem PySem.Spec PyProof.Rows
section
variable {X:Cx}
theorem q61 (hc:X.calm=true):qe3 X (.builtin "max") (λxs H Q=>∃(p:Addr) (ns:List Int),xs=[.ref p]/\H p=some (.tup (ns.map V.int))/\ns≠[]/\Q (.int (best ns (ns.length-1))) H):=by
 intro j8 s σ H xs us Q I r h;obtain⟨p,ns,rfl,hp,jF,q⟩:=h;obtain⟨u,rfl,rx⟩:=qf0 r;cases rx;obtain⟨its,rv,isl',_⟩:=I.tuple (SqT.of hp);have isl:s.heap.IsTuple p its.toArray:=isl';obtain⟨ol,hl,_⟩:=id isl;have j9:its.length=ns.length:=by have:=rv.length;simpa using this.symm
 have np:p≠s.heap.objs.size:=Zp (Zi hl);have es:its.toArray.size=ns.length:=by simpa using j9
 have pos:0<ns.length:=Xg.mpr jF;have item:∀(i:Nat) (v:Value),its.toArray[i]?=some v->∃t,v=.int (ns.getD i 0) t:=λi v hv=>by
  have hv':its[i]?=some v:=by simpa using hv
  have hi:i<ns.length:=by rw[<- j9];exact (gS_ hv').1
  obtain⟨w',e1,t,e2⟩:=rv.get (x:=V.int (ns[i])) (i:=i) (by simp[hi]);rw[hv'] at e1;cases e1;exact⟨t,by rw[e2];simp[List.getD,hi]⟩
 refine call_max_walkS (Y0 isl ?_);refine⟨s.heap.objs.size,_,_,_,_,_,_,λi j=>decide (ns.getD i 0>ns.getD j 0),rfl,(Walks.tuple (A:=X.A.in1) (I.ok.hd hc) s.heap.objs.size p np its.toArray).toS,⟨⟨_,Zf _ rfl,rfl,rfl⟩,isl.at λo e=>Zc _ e⟩,?_,by rw[es];exact pos,?_,?_⟩
 ·intro b hb;rw[ZV];rcases Zt.mp hb with rfl|hb
  ·exact Yi _
  ·have:b=p:=by simpa using hb
   subst this;exact ZR (Zi hl)
 ·intro i j vi vj s' Q' E' hi hj hq;obtain⟨t,rfl⟩:=item i vi hi;obtain⟨t',rfl⟩:=item j vj hj;exact gt_int hq
 ·intro v s' hv mv;rw[es] at hv;obtain⟨t,rfl⟩:=item _ v hv;rw[(qr2 ns (ns.length-1)).1];refine⟨.int _,H,qj2 I mv (λb o e hb=>?_),⟨t,rfl⟩,q⟩;have:b=s.heap.objs.size:=by simpa using hb
  exact Yc _ (by rw[this] at e;exact Zi e)
end
end L2
namespace L2
open PySem
section
variable {X:Cx}
def xA0 (t:TS):TS:=λD σ H=>∃J:St->Hp->Prop,t { D with nx:=J } σ H/\∀σ' H',J σ' H'->D.nx σ' H'
theorem xn6 {st:Stmt}{t:TS}(h:PS X st t):PS X st (xA0 t):=by
 intro j8 s σ H D I hj;obtain⟨J,h1,h2⟩:=hj;refine YF (h j8 s σ H _ I h1) (λf s' hs=>?_) λ_ _ e=>e;cases f with
 |next=>
  obtain⟨σ',H',I',j⟩:=hs;exact⟨σ',H',I',h2 _ _ j⟩
 |brk=>exact hs
 |cont=>exact hs
 |ret u=>exact hs
end
end L2
namespace Qf
theorem xA1 {a h x s:Int}(hs:0<=s):ov a h x s<=s:=by
 unfold ov;obtain⟨h1,h2,h3⟩:=qR4 (a+h) (x+s);obtain⟨g1,g2,g3⟩:=ql0 a x;generalize mnI (a+h) (x+s)=m at *;generalize mxI a x=k at *;obtain⟨_,_,e⟩:=ql0 0 (m-k);rcases e with e|e<;>rw[e]<;>lia
end Qf
namespace Pr
open PySem L2 Qf
def bxV (b:Bx):List V:=[.int b.r,.int b.c,.int b.h,.int b.w]
def BxsL (H:Hp) (l:Addr) (bs:List Bx):Prop:=∃as:List Addr,H l=some (.lst (as.map V.ref))/\as.length=bs.length/\∀(i:Nat) a b,as[i]?=some a->bs[i]?=some b->H a=some (.tup (bxV b))
theorem BxsL.same {H H':Hp}{l:Addr}{bs:List Bx}(h:BxsL H l bs) (s:Same H H'):BxsL H' l bs:=by
 obtain⟨as,h1,h2,h3⟩:=h;exact⟨as,s _ _ h1,h2,λi a b e1 e2=>s _ _ (h3 i a b e1 e2)⟩
section
variable {P:Program}{w:World}{K:PySem.W.Frag}{mg:Str->Option Value}{base:Heap}
abbrev nCm:List Str:=["_law_box_here", "_law_other", "_law_high", "_law_wide"]
theorem scCm:FnScope nCm ["_law_box_here", "_law_other"] (qa4 qz2):=qc7
def spCm:Sp:=λvs H Q _=>∃(p q:Addr) (a b:Bx),vs=[.ref p,.ref q]/\H p=some (.tup (bxV a))/\H q=some (.tup (bxV b))/\0<=b.h/\b.h<=4096/\Q (.int (a.com b)) H
theorem xA2 {f:Addr}{fd:FuncData}(F:Fun K "_law_common" "_law_common" qz2 f fd) (B:Blt mg):FnOk P w K mg base CX0 1 f fd ["_law_box_here", "_law_other"] spCm:=by
 refine F.ok scCm (λvs H Q E h=>?_) (λcdv A outer s H vs Q E hr h=>?_)
 ·obtain⟨p,q,a,b,rfl,_⟩:=h
  rfl
 ·obtain⟨p,q,a,b,rfl,hp,hq,b0,b1,k⟩:=h;refine seqE ⟨_,⟨psN 2 scCm.nd (qa6 qc0
   (PEb.go ⟨qa5 (qe7 rfl) (by rfl) B.min Yh (Ars2.go (.cons ⟨qa6 qc3 (pxN qb0 (pv 0) qa1) (pxN qb0 (pv 0) qa1)⟩ (.cons ⟨qa6 qc3 (pxN qb0 (pv 1) qa1) (pxN qb0 (pv 1) qa1)⟩ .nil rfl) rfl))⟩)
   (PEb.go ⟨qa5 (qd2 rfl) (by rfl) B.max ZN (Ars2.go (.cons ⟨pxN qb0 (pv 0) qa1⟩ (.cons ⟨pxN qb0 (pv 1) qa1⟩ .nil rfl) rfl))⟩))⟩,?_⟩
  refine seqE ⟨_,⟨psN 3 scCm.nd (qa6 qc0
   (PEb.go ⟨qa5 (qe7 rfl) (by rfl) B.min Yh (Ars2.go (.cons ⟨qa6 qc3 (pxN qb0 (pv 0) qa1) (pxN qb0 (pv 0) qa1)⟩ (.cons ⟨qa6 qc3 (pxN qb0 (pv 1) qa1) (pxN qb0 (pv 1) qa1)⟩ .nil rfl) rfl))⟩)
   (PEb.go ⟨qa5 (qd2 rfl) (by rfl) B.max ZN (Ars2.go (.cons ⟨pxN qb0 (pv 0) qa1⟩ (.cons ⟨pxN qb0 (pv 1) qa1⟩ .nil rfl) rfl))⟩))⟩,?_⟩
  refine qf9 ⟨_,⟨qa9 (qa6 qf7 (PEb.go ⟨qa5 (qd2 rfl) (by rfl) B.max ZN (qa0 qa1 (qa0 (pv 2) qa2))⟩) (PEb.go ⟨qa5 (qd2 rfl) (by rfl) B.max ZN (qa0 qa1 (qa0 (pv 3) qa2))⟩))⟩,?_⟩;refine⟨_,rfl,p,_,0,.int a.r,rfl,rfl,SqT.of hp,rfl,_,rfl,p,_,2,.int a.h,rfl,rfl,SqT.of hp,rfl,_,_,rfl,rfl,?_⟩;refine⟨_,rfl,q,_,0,.int b.r,rfl,rfl,SqT.of hq,rfl,_,rfl,q,_,2,.int b.h,rfl,rfl,SqT.of hq,rfl,_,_,rfl,rfl,_,_,rfl,?_⟩;refine⟨_,rfl,p,_,0,.int a.r,rfl,rfl,SqT.of hp,rfl,_,rfl,q,_,0,.int b.r,rfl,rfl,SqT.of hq,rfl,_,_,rfl,_,_,rfl,rfl,?_⟩;refine⟨_,rfl,p,_,1,.int a.c,rfl,rfl,SqT.of hp,rfl,_,rfl,p,_,3,.int a.w,rfl,rfl,SqT.of hp,rfl,_,_,rfl,rfl,?_⟩;refine⟨_,rfl,q,_,1,.int b.c,rfl,rfl,SqT.of hq,rfl,_,rfl,q,_,3,.int b.w,rfl,rfl,SqT.of hq,rfl,_,_,rfl,rfl,_,_,rfl,?_⟩;refine⟨_,rfl,p,_,1,.int a.c,rfl,rfl,SqT.of hp,rfl,_,rfl,q,_,1,.int b.c,rfl,rfl,SqT.of hq,rfl,_,_,rfl,_,_,rfl,rfl,?_⟩;have h1:ov a.r a.h b.r b.h<=b.h:=xA1 b0;have h2:=xn2 a.r a.h b.r b.h;exact⟨_,rfl,_,_,rfl,_,rfl,_,_,rfl,_,_,rfl,rfl,.inl ⟨by show -(2^64)<ov a.r a.h b.r b.h;lia,by show ov a.r a.h b.r b.h<2^64;lia⟩,k⟩
abbrev nSh:List Str:=["_law_ahead_here", "_law_box_here"]
theorem scSh:FnScope nSh nSh (qa4 qE6):=qc7
def spSh:Sp:=λvs H Q _=>∃(l q:Addr) (bs:List Bx) (b:Bx),vs=[.ref l,.ref q]/\BxsL H l bs/\bs.length<=100/\H q=some (.tup (bxV b))/\0<=b.h/\b.h<=4096/\∀H',Same H H'->Q (.int (shr bs b)) H'
theorem q62 (b:Bx):∀bs:List Bx,(bs.map λa=>a.com b).sum=shr bs b
 |[]=>rfl
 |a::bs=>by
  rw[Zy,X4,q62 b bs]
  rfl
theorem xA3 {f fC:Addr}{fd fdC:FuncData}(F:Fun K "_law_share" "_law_share" qE6 f fd) (hsm:mg "sum" = none) (hC:mg "_law_common" = some (.ref fC)) (FC:Fun K "_law_common" "_law_common" qz2 fC fdC) (bC:Binds K fdC ["_law_box_here", "_law_other"] []) (GC:FnOk P w K mg base CX0 1 fC fdC ["_law_box_here", "_law_other"] spCm) :
  FnOk P w K mg base CX0 2 f fd nSh spSh:=by
 refine F.ok scSh (λvs H Q E h=>?_) (λcdv A outer s H vs Q E hr h=>?_)
 ·obtain⟨l,q,bs,b,rfl,_⟩:=h
  rfl
 ·obtain⟨l,q,bs,b,rfl,hl,hn,hq,b0,b1,k⟩:=h;refine qf9 ⟨_,⟨qa9 (qa5 (qF5 rfl) (by rfl) hsm PyProof.Rows.boot_sum (qa0 (qg3 nSh (qa4 qE6) rfl rfl rfl scSh.nd (ql8 (pv 0)) (λcl C fp s₀ H₀=>pcN GC hr hC FC.kp bC (qa0 (pv 0) (qa0 (pv 2) qa2)))) qa2))⟩,?_⟩;obtain⟨as,kU,vR,vB⟩:=hl;refine⟨_,rfl,l,rfl,⟨_,SqL.of kU⟩,λD hD=>qh3 hD (λi y H2=>∃a,bs[i]?=some a/\y=.int (a.com b)) (qk1 (K:=K) kU) (by rw[Zh,vR];exact qu1 (by lia)) (λi y H1 H2 _ _ h=>h) ?_ ?_⟩
  ·intro i x H2 hi hx s2 Q' q';rw[Zg] at hx;obtain⟨a,ha,rfl⟩:=Zj.mp hx;have vG:i<bs.length:=by rw[<- vR];exact (gS_ ha).1
   have hb:=Zd vG;exact⟨_,rfl,_,rfl,a,q,bs[i],b,rfl,s2 _ _ (vB i a _ ha hb),s2 _ _ hq,b0,b1,q' _ _ (Same.refl _) ⟨_,hb,rfl⟩⟩
  ·intro ys H2 s2 kY hyl hyr;have ey:ys=(bs.map λa=>a.com b).map V.int:=by
    refine Xr λi=>?_;rw[Zg,Zg];by_cases hi:i<ys.length
    ·obtain⟨a,h1,h2⟩:=hyr i _ (Zd hi);rw[Zd hi,h1,h2]
     rfl
    ·rw[Yt (by lia),Yt (by rw[Zh] at hyl;lia)]
     rfl
   rw[ey] at kY;refine⟨D,_,rfl,kY,?_⟩;rw[q62];exact k H2 s2
abbrev nAh:List Str:=["_law_row", "_law_column", "_law_far", "_law_place", "_law_above", "_law_first", "_law_amid", "_law_wide"]
abbrev nAh4:List Str:=["_law_row", "_law_column", "_law_far", "_law_place"]
theorem scAh:FnScope nAh nAh4 (qa4 qM6):=qc7
def wdA (r c far R C:Int):Int:=if abI (R-r)<far then mnI 1 (C-c+far) else C-c+far
def spAh:Sp:=λvs H Q _=>∃(p:Addr) (r c far R C:Int),vs=[.int r,.int c,.int far,.ref p]/\H p=some (.tup [.int R,.int C])/\∀H' l,Same H H'->BxsL H' l (ahd r c far R C (wdA r c far R C))->Q (.ref l) H'
theorem xA4 {f:Addr}{fd:FuncData}(F:Fun K "_law_ahead" "_law_ahead" qM6 f fd) (B:Blt mg) (C:Blt2 mg):FnOk P w K mg base CX0 1 f fd nAh4 spAh:=by
 refine F.ok scAh (λvs H Q E h=>?_) (λcdv A outer s H vs Q E hr h=>?_)
 ·obtain⟨p,r,c,far,R,C',rfl,_⟩:=h
  rfl
 ·obtain⟨p,r,c,far,R,C',rfl,hp,q⟩:=h;refine seqE ⟨_,⟨psN 4 scAh.nd (@qd8 _ _ _ _ _ (Ars2.go (.cons ⟨qa6 qc0 (pv 0) (pv 2)⟩ (.cons ⟨qa6 qc0 (pv 1) (pv 2)⟩ (.cons ⟨qa6 qc3 (qa6 qc0 (pxN qb0 (pv 3) qa1) (pv 0)) (pv 2)⟩ (.cons ⟨qa6 qc3 (qa6 qf7 qa1 (pv 2)) qa1⟩ .nil rfl) rfl) rfl) rfl)))⟩,?_⟩;refine seqE ⟨_,⟨psN 5 scAh.nd (qa5 (qd2 rfl) (by rfl) B.max ZN (Ars2.go (.cons ⟨pxN qb0 (pv 3) qa1⟩ (.cons ⟨qa6 qc3 (qa6 qc0 (pv 0) (pv 2)) qa1⟩ .nil rfl) rfl)))⟩,?_⟩;refine seqE ⟨_,⟨psN 6 scAh.nd (@qd8 _ _ _ _ _ (Ars2.go (.cons ⟨pv 5⟩ (.cons ⟨qa6 qc3 (qa6 qc0 (pv 1) (pv 2)) qa1⟩ (.cons ⟨qa6 qc0 (qa6 qc3 (pv 0) (pv 2)) (pv 5)⟩ (.cons ⟨qa6 qc0 (qa6 qf7 qa1 (pv 2)) qa1⟩ .nil rfl) rfl) rfl) rfl)))⟩,?_⟩;refine seqE ⟨_,⟨psN 7 scAh.nd (qa6 qc3 (qa6 qc0 (pxN qb0 (pv 3) qa1) (pv 1)) (pv 2))⟩,?_⟩;refine seqE ⟨_,⟨xn6 (qd9 (qb7 qj0 (PEb.go ⟨qa5 qm6 (by rfl) C.abs Xn (qa0 (qa6 qc0 (pxN qb0 (pv 3) qa1) (pv 0)) qa2)⟩) (pv 2) (qb2 _))
   (StB.go (.one ⟨psN 7 scAh.nd (qa5 (qe7 rfl) (by rfl) B.min Yh (qa0 qa1 (qa0 (pv 7) qa2)))⟩)) qb8)⟩,?_⟩
  refine qf9 ⟨_,⟨qa9 (@qi4 _ _ _ _ (Ars2.go (.cons ⟨pv 4⟩ (.cons ⟨pv 6⟩ (.cons ⟨@qd8 _ _ _ _ _ (Ars2.go (.cons ⟨pxN qb0 (pv 3) qa1⟩ (.cons ⟨qa6 qc0 (pv 1) (pv 2)⟩ (.cons ⟨qa1⟩ (.cons ⟨pv 7⟩ .nil rfl) rfl) rfl) rfl))⟩ .nil rfl) rfl) rfl)))⟩,?_⟩;refine⟨_,rfl,_,rfl,_,_,rfl,rfl,_,rfl,_,rfl,_,_,rfl,rfl,_,rfl,p,_,0,.int R,rfl,rfl,SqT.of hp,rfl,_,rfl,_,_,rfl,rfl,_,rfl,_,_,rfl,rfl,?_⟩;refine⟨_,rfl,_,_,rfl,rfl,.inl ⟨by decide,by decide⟩,_,_,rfl,rfl,(by show 4<=sizeLine;decide),λa1 ha1=>?_⟩;have s1:Same H (upd H a1 (.tup (bxV ⟨r-far,c-far,R-r+far,2*far+1⟩))):=qb4 ha1;have h1:upd H a1 (.tup (bxV ⟨r-far,c-far,R-r+far,2*far+1⟩)) a1=some (.tup (bxV ⟨r-far,c-far,R-r+far,2*far+1⟩)):=qa3;refine (λ(go:∀H1,Same H H1->H1 a1=some (.tup (bxV ⟨r-far,c-far,R-r+far,2*far+1⟩))->_)=>go _ s1 h1) ?_;clear s1 h1;intro H1 s1 h1;refine⟨_,rfl,p,_,0,.int R,rfl,rfl,SqT.of (s1 _ _ hp),rfl,_,rfl,_,rfl,_,_,rfl,rfl,_,_,rfl,rfl,_,_,rfl,?_⟩;refine qj8 (σ':=[some (.int r),some (.int c),some (.int far),some (.ref p),some (.ref a1),some (.int (mxI R (r-far+1))),none,none]) rfl ?_;generalize hM:mxI R (r-far+1)=M;refine⟨_,rfl,_,rfl,_,rfl,_,_,rfl,rfl,_,_,rfl,rfl,_,rfl,_,rfl,_,_,rfl,rfl,_,rfl,_,_,rfl,rfl,?_⟩;refine⟨_,rfl,_,_,rfl,rfl,.inl ⟨by decide,by decide⟩,_,_,rfl,rfl,(by show 4<=sizeLine;decide),λa2 ha2=>?_⟩;refine (λ(go:∀H2,Same H1 H2->H2 a2=some (.tup (bxV ⟨M,c-far+1,r+far-M,2*far-1⟩))->_)=>go _ (qb4 ha2) qa3) ?_;intro H2 s2 h2;have jN:=s2 _ _ (s1 _ _ hp);refine⟨_,rfl,p,_,1,.int C',rfl,rfl,SqT.of jN,rfl,_,rfl,_,_,rfl,rfl,_,rfl,_,_,rfl,rfl,?_⟩;refine qj8 (σ':=[some (.int r),some (.int c),some (.int far),some (.ref p),some (.ref a1),some (.int M),some (.ref a2),some (.int (C'-c+far))]) rfl ?_;refine⟨λσ H3=>H3=H2/\σ=[some (.int r),some (.int c),some (.int far),some (.ref p),some (.ref a1),some (.int M),some (.ref a2),some (.int (wdA r c far R C'))],?_,?_⟩
  ·refine⟨_,rfl,p,_,0,.int R,rfl,rfl,SqT.of jN,rfl,_,rfl,_,_,rfl,rfl,_,rfl,_,rfl,_,_,rfl,rfl,_,rfl,?_⟩;refine ite2 (λhc=>?_) (λhc=>?_)
   ·refine⟨_,rfl,_,_,rfl,rfl,?_⟩;unfold wdA;rw[Zx (show abI (R-r)<far from ZI hc)]
    rfl
   ·refine⟨rfl,?_⟩;unfold wdA;rw[Zk (show ¬abI (R-r)<far from λz=>hc (Zu z))]
  ·rintro σ H3 ⟨rfl,rfl⟩;refine⟨_,rfl,_,rfl,_,rfl,p,_,0,.int R,rfl,rfl,SqT.of jN,rfl,_,rfl,_,rfl,_,_,rfl,rfl,_,rfl,(by show 4<=sizeLine;decide),λa3 ha3=>⟨(by show 3<=sizeLine;decide),λl hl=>?_⟩⟩;have s3:Same H3 (upd (upd H3 a3 (.tup (bxV ⟨R,c-far,1,wdA r c far R C'⟩))) l (.lst [.ref a1,.ref a2,.ref a3])):=(qb4 ha3).trans (qb4 hl);refine q _ l ((s1.trans s2).trans s3) ⟨[a1,a2,a3],qa3,rfl,λi a b e1 e2=>?_⟩;unfold ahd at e2;rw[hM] at e2
   match i,e1,e2 with
   |0,e1,e2=>cases e1;cases e2;exact s3 _ _ (s2 _ _ h1)
   |1,e1,e2=>cases e1;cases e2;exact s3 _ _ h2
   |2,e1,e2=>cases e1;cases e2;exact qd5 qa3 hl
   |i+3,e1,e2=>cases e1
end
end Pr
namespace L2
open PySem PySem.Spec PyProof.Rows PySem.W
section
variable {X:Cx}
def least (ns:List Int):Nat->Int
 |0=>ns.getD 0 0
 |k+1=>if ns.getD (k+1) 0<least ns k then ns.getD (k+1) 0 else least ns k
theorem qG6 (ns:List Int):∀k,ns.getD (argBest (λi j=>decide (ns.getD i 0<ns.getD j 0)) k) 0=least ns k/\argBest (λi j=>decide (ns.getD i 0<ns.getD j 0)) k<=k
 |0=>⟨rfl,Ze _⟩
 |k+1=>by
  obtain⟨h1,h2⟩:=qG6 ns k;unfold argBest least;rw[<- h1];by_cases hc:ns.getD (k+1) 0<ns.getD (argBest (λi j=>decide (ns.getD i 0<ns.getD j 0)) k) 0
  ·rw[Zx (Zu hc),Zx hc];exact⟨rfl,Ze _⟩
  ·rw[Zk (by simpa using hc),Zk hc];exact⟨rfl,VF h2⟩
end
end L2
namespace L2
open PySem PySem.Spec PyProof.Rows
section
variable {X:Cx}
theorem q63 (hc:X.calm=true):qe3 X (.builtin "min") (λxs H Q=>∃(p:Addr) (ns:List Int),xs=[.ref p]/\H p=some (.tup (ns.map V.int))/\ns≠[]/\Q (.int (least ns (ns.length-1))) H):=by
 intro j8 s σ H xs us Q I r h;obtain⟨p,ns,rfl,hp,jF,q⟩:=h;obtain⟨u,rfl,rx⟩:=qf0 r;cases rx;obtain⟨its,rv,isl',_⟩:=I.tuple (SqT.of hp);have isl:s.heap.IsTuple p its.toArray:=isl';obtain⟨ol,hl,_⟩:=id isl;have j9:its.length=ns.length:=by have:=rv.length;simpa using this.symm
 have np:p≠s.heap.objs.size:=Zp (Zi hl);have es:its.toArray.size=ns.length:=by simpa using j9
 have pos:0<ns.length:=Xg.mpr jF;have item:∀(i:Nat) (v:Value),its.toArray[i]?=some v->∃t,v=.int (ns.getD i 0) t:=λi v hv=>by
  have hv':its[i]?=some v:=by simpa using hv
  have hi:i<ns.length:=by rw[<- j9];exact (gS_ hv').1
  obtain⟨w',e1,t,e2⟩:=rv.get (x:=V.int (ns[i])) (i:=i) (by simp[hi]);rw[hv'] at e1;cases e1;exact⟨t,by rw[e2];simp[List.getD,hi]⟩
 refine xt6 (Y0 isl ?_);refine⟨s.heap.objs.size,_,_,_,_,_,_,λi j=>decide (ns.getD i 0<ns.getD j 0),rfl,(Walks.tuple (A:=X.A.in1) (I.ok.hd hc) s.heap.objs.size p np its.toArray).toS,⟨⟨_,Zf _ rfl,rfl,rfl⟩,isl.at λo e=>Zc _ e⟩,?_,by rw[es];exact pos,?_,?_⟩
 ·intro b hb;rw[ZV];rcases Zt.mp hb with rfl|hb
  ·exact Yi _
  ·have:b=p:=by simpa using hb
   subst this;exact ZR (Zi hl)
 ·intro i j vi vj s' Q' E' _ hi hj hq;obtain⟨t,rfl⟩:=item i vi hi;obtain⟨t',rfl⟩:=item j vj hj;exact lt_int hq
 ·intro v s' hv mv;rw[es] at hv;obtain⟨t,rfl⟩:=item _ v hv;rw[(qG6 ns (ns.length-1)).1];refine⟨.int _,H,qj2 I mv (λb o e hb=>?_),⟨t,rfl⟩,q⟩;have:b=s.heap.objs.size:=by simpa using hb
  exact Yc _ (by rw[this] at e;exact Zi e)
end
end L2
namespace Pr
open PySem L2 Qf
section
variable {P:Program}{w:World}{K:PySem.W.Frag}{mg:Str->Option Value}{base:Heap}
abbrev nNe:List Str:=["shape", "row", "column", "leaves", "full_ones", "far", "cell"]
theorem scNe:FnScope nNe ["shape", "row", "column"] (qa4 qk2):=qc7
def spNe:Sp:=λvs H Q _=>∃(t:Addr) (n tp r c:Nat) (rows:List Row),vs=[.ref t,.int (r:Nat),.int (c:Nat)]/\qe2 H t n tp rows/\nlf (T rows tp)<=2000/\r<2^n/\c<2^n /\
 ((∀e∈lvT (T rows tp),e.2=false)->∀H',Same H H'->Q .non H') /\
 ∀e0,e0∈lvT (T rows tp)->e0.2=true->(∀e∈lvT (T rows tp),e.2=true->¬kF n r c e.1<kF n r c e0.1)->∀H' p q l,Same H H'->H l=none->H' p=some (.tup [.int (lfF n r c e0.1),.ref q,.ref l])->H' q=some (.tup [.int (lfR n r c e0.1),.int (lfC n r c e0.1)]) ->
  H' l=some (.lst (vT (qR3 n r c (lvT (T rows tp)) (kF n r c e0.1))))->Q (.ref p) H'
theorem xA5 {f fS:Addr}{fd fdS:FuncData}(F:Fun K "nearest" "nearest" qk2 f fd) (B:Blt mg) (hS:mg "seen_leaves" = some (.ref fS)) (FS:Fun K "seen_leaves" "seen_leaves" qZ7 fS fdS) (bS:Binds K fdS ["shape", "row", "column"] []) (GS:FnOk P w K mg base CX0 18 fS fdS ["shape", "row", "column"] spSL) :
  FnOk P w K mg base CX0 19 f fd ["shape", "row", "column"] spNe:=by
 refine F.ok scNe (λvs H Q E h=>?_) (λcdv A outer s H vs Q E hr h=>?_)
 ·obtain⟨t,n,tp,r,c,rows,rfl,_⟩:=h
  rfl
 ·obtain⟨t,n,tp,r,c,rows,rfl,y6,hm,vC,vH,q0,q⟩:=h;have un:=hr.units;refine seqE ⟨_,⟨psN 3 scNe.nd (pcN GS hr hS FS.kp bS (qa0 (pv 0) (qa0 (pv 1) (qa0 (pv 2) qa2))))⟩,?_⟩;refine seqE ⟨_,⟨qR2 (i0:=4) nNe (qa4 qk2) rfl rfl rfl scNe.nd rfl rfl (ql8 (pv 3)) (λcl C fp s₀ H₀=>qe6 (pv 1)) (λcl C fp s₀ H₀=>pv 2)⟩,?_⟩;refine seqE ⟨_,⟨qd9 (qg1 (q78 (pv 4) (λ_=>rfl))) (StB.go (.one ⟨qa9 xe2⟩)) qb8⟩,?_⟩;refine seqE ⟨_,⟨qi7 (qa5 (q54 rfl (κ:=k3) hr xh1) (by rfl) B.min Yh (qa0 (pv 4) qa2)) (qi3 rfl (qb1 (pgN 5 scNe.nd) (qb1 (pgN 6 scNe.nd) qe9)))⟩,?_⟩;refine qf9 ⟨_,⟨qa9 (qd8 (Ars2.go (.cons ⟨pv 5⟩ (.cons ⟨pv 6⟩ (.cons ⟨qR0 nNe (qa4 qk2) rfl rfl rfl scNe.nd (ql8 (pv 3)) (λcl C fp s₀ H₀=>qb7 (ltO (κ:=k3 (P:=P) (w:=w)) rfl rfl hr xh1) (pv 2) (PEb.go ⟨qd8 (qa0 (pv 8) (qa0 (pv 9) qa2))⟩) (qb2 _)) (λcl C fp s₀ H₀=>pv 0)⟩ .nil rfl) rfl) rfl)))⟩,?_⟩;refine⟨_,rfl,_,rfl,_,rfl,t,n,tp,r,c,rows,rfl,y6,hm,vC,vH,λH1 lp s1 hsn=>?_⟩;obtain⟨ys,kP,hyl,hye⟩:=hsn;have hL2:(lvT (T rows tp)).length<=2000:=by rw[qj7];exact hm
  generalize lvT (T rows tp)=L at *;have at_:∀i y,ys[i]?=some y->∃e,L[i]?=some e/\e∈L/\SeenAt H1 n r c y e:=λi y hy=>by
   have hi:i<L.length:=by rw[<- hyl];exact (gS_ hy).1
   exact⟨L[i],Zd hi,Ys hi,hye i y _ hy (Zd hi)⟩
  refine⟨_,rfl,lp,rfl,⟨_,SqL.of kP⟩,λD hD=>qv4 hD (λi=>(L.getD i ([],false)).2) (λi v H3=>∃e p q,L[i]?=some e/\v=.ref p/\H3 p=some (.tup [.int (lfF n r c e.1),.ref q])/\H3 q=some (.tup [.int (lfR n r c e.1),.int (lfC n r c e.1)])) (qk1 (K:=K) kP) (qu1 (by lia)) ?_ ?_ ?_⟩
  ·rintro i y H3 H4 t4 ⟨e,p,q,h1,h2,h3,h4⟩;exact⟨e,p,q,h1,h2,t4 _ _ h3,t4 _ _ h4⟩
  ·intro i x H3 hi hx s3 os ho Q1 Q2 q1 q2;obtain⟨e,he,_,b,p,q',rfl,hb,hp,hq⟩:=at_ i x hx
   have ee:L.getD i ([],false)=e:=by rw[ZA,he];rfl
   rw[ee] at q1 q2;obtain⟨o1,o2,o3,rfl⟩:=L2.os3 ho
   ·
    refine⟨b,_,rfl,SqT.of (s3 _ _ hb),rfl,_,_,rfl,_,_,rfl,_,_,rfl,rfl,?_⟩;refine⟨_,rfl,e.2,rfl,?_⟩;refine ite2 (λhc=>?_) (λhc=>?_)
    ·exact⟨_,rfl,q2 hc _ _ (Same.refl _) ⟨e,p,q',he,rfl,s3 _ _ hp,s3 _ _ hq⟩⟩
    ·exact q1 (by simpa using hc) _ (Same.refl _)
  ·intro zs H2 s2 kY hzl hzr;have full:∀(m:Nat) (v:V),zs[m]?=some v->∃e p q,e∈L/\e.2=true/\v=.ref p/\H2 p=some (.tup [.int (lfF n r c e.1),.ref q])/\H2 q=some (.tup [.int (lfR n r c e.1),.int (lfC n r c e.1)]):=λm v hv=>by
    have vL:m<((List.range ys.length).filter λi=>(L.getD i ([],false)).2).length:=by rw[<- hzl];exact (gS_ hv).1
    have hj:=Zd vL;have hjm:=Ys vL;generalize ((List.range ys.length).filter λi=>(L.getD i ([],false)).2)[m]=j at hj hjm;obtain⟨e,p,q,h1,h2,h3,h4⟩:=hzr m v j hv hj;have kZ:=(YI.mp hjm).2;have ee:L.getD j ([],false)=e:=by rw[ZA,h1];rfl
    rw[ee] at kZ;exact⟨e,p,q,Zr h1,kZ,h2,h3,h4⟩
   have back:∀e∈L,e.2=true->∃v,v∈zs/\isL (P:=P) (w:=w) k3 H2 v (kF n r c e.1):=λe he h2=>by
    obtain⟨i,hi,rfl⟩:=ZE.mp he;have hji:i∈(List.range ys.length).filter λi=>(L.getD i ([],false)).2:=YI.mpr ⟨Yw.mpr (by lia),by simpa [List.getD,hi] using h2⟩;obtain⟨m,vL,hme⟩:=ZE.mp hji;have hmz:m<zs.length:=by rw[hzl];exact vL
    obtain⟨e',p,q,h1,h3,h4,h5⟩:=hzr m zs[m] i (Zd hmz) (by rw[Zd vL,hme]);rw[Zd hi] at h1;cases h1;exact⟨zs[m],Ys hmz,by rw[h3];exact q55 h4 h5⟩
   obtain⟨k0,wT⟩:∃k,k=!zs.isEmpty:=⟨_,rfl⟩;refine⟨_,rfl,k0,.inl ⟨_,SqL.of kY,wT⟩,?_⟩;cases k0 with
   |false=>
    have hz:zs=[]:=by simpa using wT
    subst hz;refine q0 (λe he=>?_) H2 (s1.trans s2);cases h2:e.2 with
    |false=>rfl
    |true=>
     obtain⟨v,hv,_⟩:=back e he h2;cases hv
   |true=>
    have hz:zs≠[]:=by rintro rfl;cases wT
    refine⟨_,rfl,D,zs,rfl,kY,hz,λv hv=>?_,λv hv hmin=>?_⟩
    ·obtain⟨m,hm',rfl⟩:=ZE.mp hv;obtain⟨e,p,q',_,_,h3,h4,h5⟩:=full m _ (Zd hm');exact⟨_,by rw[h3];exact q55 h4 h5⟩
    ·obtain⟨m,hm',rfl⟩:=ZE.mp hv;obtain⟨e0,p,q',wI,wX,h3,h4,h5⟩:=full m _ (Zd hm');rw[h3] at hmin ⊢;have least:∀e∈L,e.2=true->¬kF n r c e.1<kF n r c e0.1:=λe he h2=>by
      obtain⟨u,hu,hk⟩:=back e he h2;exact hmin u hu _ _ (q55 h4 h5) hk
     have q:=q e0 wI wX least;refine⟨p,_,rfl,SqT.of h4,rfl,_,_,rfl,_,_,rfl,rfl,?_⟩;refine qj8 (σ':=[some (.ref t),some (.int (r:Nat)),some (.int (c:Nat)),some (.ref lp),some (.ref D),some (.int (lfF n r c e0.1)),some (.ref q')]) rfl ?_;have hlp2:=s2 _ _ kP;refine⟨_,rfl,_,rfl,_,rfl,lp,rfl,⟨_,SqL.of hlp2⟩,λD2 hDn2=>qp0 hDn2 (λi=>decide (kF n r c (L.getD i ([],false)).1<kF n r c e0.1)) (λi=>.str (txt (L.getD i ([],false)).1)) (qk1 (K:=K) hlp2) (qu1 (by lia)) ?_ ?_⟩
     ·intro i x H3 hi hx s3 os ho Q1 Q2 q1 q2;obtain⟨e,he,_,b,p3,q3,rfl,hb3,k9,hq3⟩:=at_ i x hx
      have ee:L.getD i ([],false)=e:=by rw[ZA,he];rfl
      rw[ee] at q1 q2;have s23:=s2.trans s3;obtain⟨o1,o2,o3,rfl⟩:=L2.os3 ho
      ·
       refine⟨b,_,rfl,SqT.of (s23 _ _ hb3),rfl,_,_,rfl,_,_,rfl,_,_,rfl,rfl,?_⟩;refine⟨_,rfl,_,rfl,_,rfl,(by show 2<=sizeLine;decide),λk hk=>⟨_,_,q55 (qd5 (s23 _ _ k9) hk) (qd5 (s23 _ _ hq3) hk),q55 qa3 (qd5 (s3 _ _ h5) hk),_,rfl,?_⟩⟩;refine ite2 (λhc=>?_) (λhc=>?_)
       ·exact⟨_,rfl,q2 hc _ (qb4 hk)⟩
       ·exact q1 (Yg.mpr hc) _ (qb4 hk)
     ·intro H3 s3 hD3;have hDH:H D2=none:=by
       cases e:H D2 with
       |none=>rfl
       |some o=>rw[s2 _ _ (s1 _ _ e)] at hDn2;cases hDn2
      refine⟨(by show 3<=sizeLine;decide),λk hk=>q _ k q' D2 (((s1.trans s2).trans s3).trans (qb4 hk)) hDH qa3 (qd5 (s3 _ _ h5) hk) (qd5 ?_ hk)⟩;rw[hD3,hyl];unfold qR3 vT;rw[Yv];congr 2;exact qG4 L _ _ _ _ (λi e he=>by rw[ZA,he];rfl) (λi e he=>by rw[ZA,he];rfl)
end
end Pr
namespace Qf
open L2
end Qf
namespace Pr
open PySem L2 Qf
theorem txtK (a:List Nat):(txt a).cps.toList.map Int.ofNat=a.map λx:Nat=>((48+x:Nat):Int):=by
 unfold txt;rw[Yv]
 rfl
theorem q64:∀{a b:List Nat},(a.map λx:Nat=>((48+x:Nat):Int))<(b.map λx:Nat=>((48+x:Nat):Int))<->a<b
 |[],[]=>by simp
 |[],_::_=>by simp
 |_::_,[]=>by simp
 |x::a,y::b=>by
  rw[Zy,Zy,ZU,ZU,q64];constructor
  ·rintro (h|⟨h1,h2⟩)
   ·exact .inl (by lia)
   ·exact .inr ⟨by lia,h2⟩
  ·rintro (h|⟨h1,h2⟩)
   ·exact .inl (by lia)
   ·exact .inr ⟨by lia,h2⟩
theorem xu3 {a b:List Int}:[a]<[b]<->a<b:=by rw[ZU];simp
end Pr
namespace L2
open PySem PySem.Spec PyProof.Rows PySem.W
theorem slot_seti_next:Slot "set_iterator" "__next__" "set_iterator.__next__":=
 .of (owner:= "set_iterator") (n:= "__next__") (by rw[typeLookup_type,W0];kernel_rfl) (by decide +kernel) (by decide +kernel) (by decide +kernel) (by first|exact .inl (by decide +kernel)|exact .inr (by decide +kernel)) (by rw[Vu];kernel_rfl)
theorem qk0:entryFor table "set_iterator.__next__" = some Builtin.«set_iterator.__next__»:=entryFor_of_tree (by kernel_rfl)
theorem ql5 (a:Value):argsOk "set_iterator.__next__" ⟨[a],[]⟩:=by unfold argsOk;kernel_rfl
theorem ql6:Slot "set_iterator" "__iter__" "set_iterator.__iter__":=
 .of (owner:= "set_iterator") (n:= "__iter__") (by rw[typeLookup_type,W0];kernel_rfl) (by decide +kernel) (by decide +kernel) (by decide +kernel) (by first|exact .inl (by decide +kernel)|exact .inr (by decide +kernel)) (by rw[Vu];kernel_rfl)
theorem qw4 (a:Value):argsOk "set_iterator.__iter__" ⟨[a],[]⟩:=by unfold argsOk;kernel_rfl
theorem qw5:entryFor table "set.__iter__" = some Builtin.«frozenset.__iter__»:=entryFor_alias (id':= "frozenset.__iter__") (by kernel_rfl) rfl (by decide +kernel) (by kernel_rfl)
theorem qv6:entryFor table "set_iterator.__iter__" = some Builtin.«dict_keyiterator.__iter__»:=entryFor_alias (id':= "dict_keyiterator.__iter__") (by kernel_rfl) rfl (by decide +kernel) (by kernel_rfl)
theorem qp7 {α:Type}:∀{l:List α}{i:Nat}(h:i<l.length),(l[i]::l.eraseIdx i).Perm l
 |x::l,0,_=>.refl _
 |x::l,i+1,h=>by
  have h':i<l.length:=by simpa using h
  show (l[i]::x::l.eraseIdx i).Perm (x::l);exact (List.Perm.swap _ _ _).trans ((qp7 h').cons _)
theorem slot_set_len':Slot "set" "__len__" "set.__len__":=
 .of (owner:= "set") (n:= "__len__") (by rw[typeLookup_type,W0];kernel_rfl) (by decide +kernel) (by decide +kernel) (by decide +kernel) (by first|exact .inl (by decide +kernel)|exact .inr (by decide +kernel)) (by rw[Vu];kernel_rfl)
theorem qG7 {α:Type}(next:Nat->Nat):∀(fuel k:Nat) (left:List α) (out:Array α),left.length=fuel->(pickOrder.go next fuel k left out).toList.Perm (out.toList++left)
 |0,k,left,out,h=>by
  have:left=[]:=WI.mp h;subst this;unfold pickOrder.go;rw[YT]
 |fuel+1,k,left,out,h=>by
  unfold pickOrder.go;have jA:next k%left.length<left.length:=XU _ (by lia)
  rw[Zd jA];dsimp only;refine (qG7 next fuel (k+1) (left.eraseIdx (next k%left.length)) (out.push left[next k%left.length]) (by rw[Vv jA];lia)).trans ?_;rw[Xa,Yo];refine WY _ ?_;exact (qp7 jA)
theorem ql7 {α:Type}(next:Nat->Nat) (xs:Array α):(pickOrder next xs).toList.Perm xs.toList:=by
 unfold pickOrder;have:=qG7 next xs.size 0 xs.toList #[] (by simp)
 simpa using this
section
variable {prog:Program}{w:World}{A:Around}{E:Value->Shared->Prop}{s:Shared}
theorem qG8 {src:Source}{n:Nat}{Q:Nat->Shared->Prop}(hn:0<n) (h:∀i d,i<n->Q i { s with drawn:=d }):wpAny (model prog w) A (choose src n) Q E s:=λΓ p _=>by
 show Sem.wp _ _ (.choose src n .pure) _ _ _ _;rw[Sem.wp_choose];exact⟨by lia,h _ _ (XU _ hn)⟩
theorem qG9 {α:Type}:∀(n:Nat) (xs:List α) (s:Shared) (Q:List α->Shared->Prop),xs.length=n->(∀ys d,ys.Perm xs->Q ys { s with drawn:=d })->wpAny (model prog w) A (drawOrder n xs) Q E s
 |0,xs,s,Q,hl,h=>by
  have:xs=[]:=WI.mp hl;subst this;exact Zb (h [] s.drawn (.refl _))
 |n+1,[],s,Q,hl,h=>by simp at hl
 |n+1,x::xs,s,Q,hl,h=>by
  show wpAny _ _ (choose .order (x::xs).length >>= _) _ _ _;refine Za (qG8 (by simp) λi d hi=>?_);rw[Zd hi];refine Za (qG9 n ((x::xs).eraseIdx i) _ _ (by rw[Vv hi];simpa using hl) λys d' hy=>?_);exact Zb (h _ _ ((hy.cons _).trans (qp7 hi)))
def SetB (h:Heap) (a:Addr) (es:Array (Int×Value)) (ep:Nat) (t:SetTable):Prop:=∃o,h.get? a=some o/\o.ExactSet/\o.data=.set es ep t
theorem SetB.stay {h h':Heap}{a:Addr}{es:Array (Int×Value)}{ep:Nat}{t:SetTable}(x:SetB h a es ep t) (k:∀o,h.get? a=some o->h'.get? a=some o):SetB h' a es ep t:=let ⟨o,ho,r⟩:=x;⟨o,k o ho,r⟩
theorem SetB.ty {s:Shared}{a:Addr}{es:Array (Int×Value)}{ep:Nat}{t:SetTable}(x:SetB s.heap a es ep t):s.TypeIs (.ref a) "set":=let ⟨o,ho,hc,_⟩:=x;⟨o,ho,hc.1⟩
theorem SetB.lt {h:Heap}{a:Addr}{es:Array (Int×Value)}{ep:Nat}{t:SetTable}(x:SetB h a es ep t):a<h.objs.size:=let ⟨_,ho,_⟩:=x;Zi ho
def IsSetI (h:Heap) (it:Addr) (first:Value) (i:Nat) (a:Addr) (n ep:Nat):Prop:=∃o,h.get? it=some o/\o.cls=.type "set_iterator" /\ o.data=.fields #[first,.int i 0,.ref a,.int n 0,.int ep 0]
theorem IsSetI.ty {s:Shared}{it:Addr}{first:Value}{i:Nat}{a:Addr}{n ep:Nat}(x:IsSetI s.heap it first i a n ep):s.TypeIs (.ref it) "set_iterator":=let ⟨o,ho,hc,_⟩:=x;⟨o,ho,hc⟩
inductive Md (w:World) (a:Addr) (es:Array (Int×Value)) (ep:Nat) (t:SetTable):(Heap->Prop)->(Nat->Value)->List Value->Prop
 |text (b:w.params.followText "set-order" = true):Md w a es ep t (λ_=>True) (λ_=>.int 0 0) ((pickOrder (w.params.setOrder a ep) es).toList.map (·.2))
 |plain (b:w.params.followText "set-order" = false) (nd:(!t.plain&&decide (es.size>1))=false) (led:t.led=true) (sl:Nat->Nat) (s0:sl 0=0) (bl:∀i,i<=es.size->SetTable.below t.place (sl i)=i) (sn:∀i j,t.place[i]?=some j->sl (i+1)=j+1):Md w a es ep t (λ_=>True) (λi=>.int (sl i) 0) (es.toList.map (·.2))
 |draw (b:w.params.followText "set-order" = false) (tp:Addr) (ps:List Nat) (pp:ps.Perm (List.range es.size)):Md w a es ep t (λh=>h.IsTuple tp (ps.map λ(i:Nat)=>Value.int i 0).toArray) (λ_=>.ref tp) (ps.map λi=>(es.getD i (0,.none)).2)
variable {it a:Addr}{es:Array (Int×Value)}{ep i:Nat}{t:SetTable}{OK:Heap->Prop}{fst:Nat->Value}{ord:List Value}
theorem q65 {Q:Option Value->Shared->Prop}(m:Md w a es ep t OK fst ord) (st:IsSetI s.heap it (fst i) i a es.size ep) (x:SetB s.heap a es ep t) (hf:t.fits es.size=true) (ok:OK s.heap){v:Value}(hi:ord[i]?=some v)
  (q:∀h',IsSetI h' it (fst (i+1)) (i+1) a es.size ep->Heap.SameBut it s.heap h'->Q (some v) { s with heap:=h' }):wpAny (model prog w) A (pyNext (.ref it)) Q E s:=by
 obtain⟨o,ho,hc,hd⟩:=id st;obtain⟨oa,kN,hca,kE⟩:=id x;unfold pyNext;refine Za (Xv (Z2 (name:=Str.ofString "__next__") st.ty slot_seti_next (Z3 slot_seti_next st.ty qk0 ?_ (ql5 _))));refine Za (Zb (Za (Wh ho hd ?_)));show wpAny _ _ (setEntries a >>= _) _ _ s;refine Za (Ve kN kE hf ?_);rw[Zk (by simp)];refine Za (Zb ?_);have fin1:∀{E':Value->Shared->Prop}(s':Shared) (o':Obj) (f:Value),s'.heap.get? it=some o'->o'.cls=.type "set_iterator" -> o'.data=.fields #[f,.int i 0,.ref a,.int es.size 0,.int ep 0]->f=fst (i+1)->Heap.SameBut it s.heap s'.heap->s'={ s with heap:=s'.heap } ->
   wpAny (model prog w) A.in1 (setField (.ref it) 1 (rawInt ((i:Int)+1)) >>= λ_=>ret v) (λfin s'=>∃v,fin=Fin.done (Flow.ret v)/\wpAny (model prog w) A (pure (some v)) Q E s') E' s':=λs' o' f ho' hc' hd' ef sb es'=>by
  refine Za (Xk ho' hd' (by simp) (Zb ⟨v,rfl,Zb ?_⟩));rw[es'];refine q _ ⟨_,ZT _ ho' (Xm (Yp hd' _)),(WL ..).trans hc',?_⟩ (sb.trans (Z8 ..));rw[Yp hd',ef];simp[rawInt]
 have fin2:∀{E':Value->Shared->Prop}(nx:Nat),Value.int nx 0=fst (i+1)->wpAny (model prog w) A.in1 (setField (.ref it) 0 (rawInt nx) >>= λ_=>setField (.ref it) 1 (rawInt ((i:Int)+1)) >>= λ_=>ret v) (λfin s'=>∃v,fin=Fin.done (Flow.ret v)/\wpAny (model prog w) A (pure (some v)) Q E s') E' s:=λnx e=>by
  refine Za (Xk ho hd (by simp) ?_);exact fin1 { s with heap:=s.heap.update it (Obj.mapFields (·.setIfInBounds 0 (rawInt nx))) } _ (.int nx 0) (ZT _ ho (Xm (Yp hd _))) ((WL ..).trans hc) (by rw[Yp hd];simp[rawInt]) e (Z8 ..) rfl
 cases m with
 |text b=>
  show wpAny _ _ (setNext a 0 ((i:Nat):Int).toNat ((ep:Nat):Int).toNat >>= _) _ _ s;rw[ZB,ZB];unfold setNext;refine Za (Za (ZY kN kE hf ?_));dsimp only;unfold setsByText;refine Za (Za (YE (Zb ?_)));refine ZM (λ_=>?_) (λh=>absurd b h);rw[Zk (by simp)];unfold setWalk;refine Za (Za (ZY kN kE hf ?_));dsimp only;unfold setsByText;refine Za (Za (YE (Zb ?_)));refine ZM (λ_=>?_) (λh=>absurd b h);refine Za (YE (Zb (Zb ?_)));have hi':((pickOrder (w.params.setOrder a ep) es).toList.map (·.2))[i]?=some v:=hi;rw[Zg,Yl] at hi';obtain⟨e,he,rfl⟩:=Zj.mp hi';show wpAny _ _ (match Option.map (λe=>(e.2,0)) (pickOrder (w.params.setOrder a ep) es)[i]? with|some (x,next)=>_|none=>_) _ _ s;rw[he];exact fin2 0 rfl
 |plain b nd led sl s0 bl sn=>
  show wpAny _ _ (setNext a ((sl i:Nat):Int).toNat ((i:Nat):Int).toNat ((ep:Nat):Int).toNat >>= _) _ _ s;rw[ZB,ZB,ZB];unfold setNext;refine Za (Za (ZY kN kE hf ?_));dsimp only;unfold setsByText;refine Za (Za (YE (Zb ?_)));refine ZM (λh=>absurd (show w.params.followText "set-order" = true from h) (by rw[b];exact Zs)) (λ_=>?_);refine ZM (λh=>absurd (show (!t.plain&&decide (es.size>1))=true from h) (by rw[nd];exact Zs)) (λ_=>?_);have hi':(es.toList.map (·.2))[i]?=some v:=hi;rw[Zg,Yl] at hi';obtain⟨e,he,rfl⟩:=Zj.mp hi';have hil:=(Wd.mp he).1;have wQ:t.place.size=es.size:=by
   have:=hf;unfold SetTable.fits at this;simp at this;exact this.1
  obtain⟨j,hj⟩:∃j,t.place[i]?=some j:=⟨_,YX (by lia)⟩;refine Za ?_;refine ZM (λh=>?_) (λ_=>Zb (Zb ?_))
  ·have h':(!t.led&&!es.isEmpty)=true:=h;rw[led] at h';cases h'
  ·rw[bl i (by lia),he,hj];exact fin2 (j+1) (by show Value.int _ 0=Value.int _ 0;rw[sn i j hj])
 |draw b tp ps pp=>
  obtain⟨ot,hot,hct,nt,hdt⟩:=id ok;show wpAny _ _ (seqItems? (.ref tp) >>= _) _ _ s;refine Za (XI hot hdt ?_);have hi':(ps.map λi=>(es.getD i (0,.none)).2)[i]?=some v:=hi;rw[Zg] at hi';obtain⟨k,hk,rfl⟩:=Zj.mp hi';have hkn:k<es.size:=Yw.mp (pp.mem_iff.mp (Zr hk));have ek:(ps.map λ(i:Nat)=>Value.int i 0).toArray[((i:Nat):Int).toNat]?=some (.int k 0):=by rw[ZB,List.getElem?_toArray,Zg,hk];rfl
  have ex:es[k]?=some (es.getD k (0,.none)):=by rw[YX hkn];simp[Array.getD,hkn]
  dsimp only;rw[ek];show wpAny _ _ (setNextDrawn a ((k:Nat):Int).toNat ((ep:Nat):Int).toNat >>= _) _ _ s;rw[ZB,ZB];unfold setNextDrawn;refine Za (Za (ZY kN kE hf ?_));dsimp only;rw[Zk (by simp)];rw[ex];refine Zb ?_;exact fin1 s o (.ref tp) ho hc hd rfl (X8 _ _) rfl
theorem xd4 {Q:Option Value->Shared->Prop}(hh:A.handled=none) (m:Md w a es ep t OK fst ord) (st:IsSetI s.heap it (fst es.size) es.size a es.size ep) (x:SetB s.heap a es ep t) (hf:t.fits es.size=true) (ok:OK s.heap)
  (q:∀h',Heap.ExtBut it s.heap h'->Q none { s with heap:=h' }):wpAny (model prog w) A (pyNext (.ref it)) Q E s:=by
 obtain⟨o,ho,hc,hd⟩:=id st;obtain⟨oa,kN,hca,kE⟩:=id x;unfold pyNext;refine Za (Xv (Z2 (name:=Str.ofString "__next__") st.ty slot_seti_next (Z3 slot_seti_next st.ty qk0 ?_ (ql5 _))));refine Za (Zb (Za (Wh ho hd ?_)));show wpAny _ _ (setEntries a >>= _) _ _ s;refine Za (Ve kN kE hf ?_);rw[Zk (by simp)];refine Za (Zb ?_);have fin:∀(s':Shared) (o':Obj) (xs:Array Value),s'.heap.get? it=some o'->o'.data=.fields xs->xs.size=5->Heap.SameBut it s.heap s'.heap->s'={ s with heap:=s'.heap } ->
   wpAny (model prog w) A.in1 (setField (.ref it) 2 .none >>= λ_=>newExc (.type "StopIteration") [] >>= λe=>raiseNew e) (λfin s'=>∃v,fin=Fin.done (Flow.ret v)/\wpAny (model prog w) A (pure (some v)) Q E s') (λe s'=>wpAny (model prog w) A (isInstance e (.type "StopIteration") >>= λb=>if b=true then pure none else throw e) Q E s') s':=λs' o' xs ho' hd' hx sb es'=>by
  refine Za (Xk ho' hd' (by lia) ?_);refine Za ?_;simp only[newExc,newTuple];refine Za (ZK ?_ (by size_fits));refine Za (m:=firstArgMember _ _) (WG (a:=Value.none) (by first|rfl|(simp only[firstArgMember];rfl)) (ZK ?_ (by size_fits)));simp only[raiseNew];refine Za (wpAny_handled ?_);rw[show A.in1.handled=none by exact hh];refine Za (Zb (wpAny_throw ?_));refine Za (XM (T:= "StopIteration") (b:=true) ⟨_,Zf _ rfl,rfl⟩ isSubtype_stop ?_);rw[es'];exact Zb (q _ (((sb.trans (Z8 ..)).extBut.push _).push _))
 cases m with
 |text b=>
  show wpAny _ _ (setNext a 0 ((es.size:Nat):Int).toNat ((ep:Nat):Int).toNat >>= _) _ _ s;rw[ZB,ZB];unfold setNext;refine Za (Za (ZY kN kE hf ?_));dsimp only;unfold setsByText;refine Za (Za (YE (Zb ?_)));refine ZM (λ_=>?_) (λh=>absurd b h);rw[Zk (by simp)];unfold setWalk;refine Za (Za (ZY kN kE hf ?_));dsimp only;unfold setsByText;refine Za (Za (YE (Zb ?_)));refine ZM (λ_=>?_) (λh=>absurd b h);refine Za (YE (Zb (Zb ?_)));have hn:(pickOrder (w.params.setOrder a ep) es)[es.size]?=none:=by
   rw[Vw];have:=(ql7 (w.params.setOrder a ep) es).length_eq;simp at this;lia
  show wpAny _ _ (match Option.map (λe=>(e.2,0)) (pickOrder (w.params.setOrder a ep) es)[es.size]? with|some (x,next)=>_|none=>_) _ _ s;rw[hn];exact fin s o _ ho hd rfl (X8 _ _) rfl
 |plain b nd led sl s0 bl sn=>
  show wpAny _ _ (setNext a ((sl es.size:Nat):Int).toNat ((es.size:Nat):Int).toNat ((ep:Nat):Int).toNat >>= _) _ _ s;rw[ZB,ZB,ZB];unfold setNext;refine Za (Za (ZY kN kE hf ?_));dsimp only;unfold setsByText;refine Za (Za (YE (Zb ?_)));refine ZM (λh=>absurd (show w.params.followText "set-order" = true from h) (by rw[b];exact Zs)) (λ_=>?_);refine ZM (λh=>absurd (show (!t.plain&&decide (es.size>1))=true from h) (by rw[nd];exact Zs)) (λ_=>?_);have hn:es[es.size]?=none:=WP (Ze _);refine Za ?_;refine ZM (λh=>?_) (λ_=>Zb (Zb ?_))
  ·have h':(!t.led&&!es.isEmpty)=true:=h;rw[led] at h';cases h'
  ·rw[bl es.size (Ze _),hn];exact fin s o _ ho hd rfl (X8 _ _) rfl
 |draw b tp ps pp=>
  obtain⟨ot,hot,hct,nt,hdt⟩:=id ok;show wpAny _ _ (seqItems? (.ref tp) >>= _) _ _ s;refine Za (XI hot hdt ?_);have jI:ps.length=es.size:=by rw[pp.length_eq,Y9]
  have ek:(ps.map λ(i:Nat)=>Value.int i 0).toArray[((es.size:Nat):Int).toNat]?=none:=by rw[ZB,Vw];simp;lia
  dsimp only;rw[ek];show wpAny _ _ (setField (.ref it) 0 (rawInt 0) >>= _) _ _ s;refine Za (Xk ho hd (by simp) ?_);exact fin { s with heap:=s.heap.update it (Obj.mapFields (·.setIfInBounds 0 (rawInt 0))) } _ _ (ZT _ ho (Xm (Yp hd _))) (Yp hd _) (by simp) (Z8 ..) rfl
end
end L2
namespace SetT
open PySem
def Rise (xs:Array Nat):Prop:=∀i j (hi:i<xs.size) (hj:j<xs.size),i<j->xs[i]<xs[j]
theorem qB0 {xs:Array Nat}(hr:Rise xs) (j:Nat):∀(f lo hi:Nat),hi-lo<=f->lo<=hi->hi<=xs.size->(∀k (h:k<xs.size),k<lo->xs[k]<j)->(∀k (h:k<xs.size),hi<=k->j<=xs[k]) ->
  SetTable.below.go xs j f lo hi<=xs.size/\(∀k (h:k<xs.size),k<SetTable.below.go xs j f lo hi->xs[k]<j)/\(∀k (h:k<xs.size),SetTable.below.go xs j f lo hi<=k->j<=xs[k])
 |0,lo,hi,hf,hl,hs,h1,h2=>by
  have e:lo=hi:=by lia
  subst e;exact⟨hs,h1,h2⟩
 |f+1,lo,hi,hf,hl,hs,h1,h2=>by
  unfold SetTable.below.go;by_cases hc:lo<hi
  ·rw[Zx hc];have hm:(lo+hi)/2<xs.size:=by lia
   have em:xs.getD ((lo+hi)/2) j=xs[(lo+hi)/2]:=by simp[Array.getD,hm]
   simp only;rw[em];by_cases hx:xs[(lo+hi)/2]<j
   ·rw[Zx hx];refine qB0 hr j f _ hi (by lia) (by lia) hs (λk h hk=>?_) h2;by_cases ek:k=(lo+hi)/2
    ·subst ek;exact hx
    ·exact Vh (hr k _ h hm (by lia)) hx
   ·rw[Zk hx];refine qB0 hr j f lo _ (by lia) (by lia) (by lia) h1 (λk h hk=>?_);by_cases ek:k=(lo+hi)/2
    ·subst ek;lia
    ·have:=hr _ k hm h (by lia);lia
  ·rw[Zk hc];have e:lo=hi:=by lia
   subst e;exact⟨hs,h1,h2⟩
theorem below_is {xs:Array Nat}(hr:Rise xs) (j:Nat):SetTable.below xs j<=xs.size/\(∀k (h:k<xs.size),k<SetTable.below xs j->xs[k]<j)/\(∀k (h:k<xs.size),SetTable.below xs j<=k->j<=xs[k]):=
 qB0 hr j xs.size 0 xs.size (by lia) (Zv _) (Ze _) (λk h hk=>absurd hk (Xp _)) (λk h hk=>absurd h (by lia))
end SetT
namespace L2
open PySem PySem.Spec PyProof.Rows PySem.W
section
variable {prog:Program}{w:World}{A:Around}{E:Value->Shared->Prop}{s:Shared}{it a:Addr}{es:Array (Int×Value)}{ep:Nat}{t:SetTable}{OK:Heap->Prop}{fst:Nat->Value}{ord:List Value}
theorem qR7 (hh:A.handled=none) (m:Md w a es ep t OK fst ord) (wG:ord.length=es.size) (hf:t.fits es.size=true) (jF:a≠it) (fpO:List Addr) (hni:it∉fpO) (kO:∀h h':Heap,OK h->(∀b∈fpO,∀o,h.get? b=some o->h'.get? b=some o)->OK h') :
  Walks prog w A it (it::a::fpO) [it] es.size (λi v=>ord[i]?=some v) (λi h=>IsSetI h it (fst i) i a es.size ep/\SetB h a es ep t/\OK h) where
 sub:=λb hb=>by simp at hb;simp[hb]
 frame:=λ_ _ _ st k=>⟨(let ⟨o,ho,r⟩:=st.1;⟨o,k it (by simp) o ho,r⟩),st.2.1.stay λo e=>k a (by simp) o e,kO _ _ st.2.2 λb hb o e=>k b (by simp[hb]) o e⟩
 item:=λi s Q E hi st q=>by
  have hv:ord[i]?=some (ord[i]'(by lia)):=Zd (by lia);refine q65 m st.1 st.2.1 hf st.2.2 hv λh' st' sb=>q _ h' s.toks hv ⟨st',st.2.1.stay λo e=>sb.extBut a o jF e,kO _ _ st.2.2 λb hb o e=>sb.extBut b o (λz=>hni (by rw[<- z];exact hb)) e⟩ λb o hb e=>sb.extBut b o (λh=>hb (by simp[h])) e
 done:=λs Q E st q=>xd4 hh m st.1 st.2.1 hf st.2.2 λh' eb=>q h' s.toks λb o hb e=>eb b o (λh=>hb (by simp[h])) e
 self:=λ_ _ _ _ st q=>by
  refine VH st.1.ty ql6 (Z3 ql6 st.1.ty qv6 ?_ (qw4 _));show wpAny _ _ (ret (.ref it)) _ _ _;exact Zb ⟨_,rfl, "set_iterator",_,st.1.ty,slot_seti_next.lookup,q⟩
theorem xd5 {Q:Bool->Shared->Prop}(hT:s.TypeIs (.ref a) "set") (h:Q false s):wpAny (model prog w) A (Builtin.List.listLengthHint (.ref a)) Q E s:=by
 unfold Builtin.List.listLengthHint;refine Za (wpAny_specialOf hT slot_set_len'.lookup ?_);generalize hid:("set.__len__" : String)=id0
 wp_delta
 rw[show splitId id0=some ("set", "__len__") from by subst hid;decide +kernel];subst hid;refine Za (XM (T:= "set") (b:=true) hT (by rw[Vu];kernel_rfl) ?_);refine ZM (λvB=>absurd vB (by decide)) (λ_=>?_);refine ZM (λ_=>?_) (λvB=>absurd (by decide +kernel) vB);refine Za (Vf hT ?_);exact Zb h
structure Itd_ (prog:Program) (w:World) (A:Around) (a:Addr) (es:Array (Int×Value)) (ep:Nat) (t:SetTable) (s s':Shared) (it:Addr) (vs:List Value):Prop where
 perm:vs.Perm (es.toList.map (·.2))
 new:s.heap.objs.size<=it
 keep:∀b o,s.heap.get? b=some o->s'.heap.get? b=some o
 same:∃d,s'={ s with heap:=s'.heap,drawn:=d }
 wk:∃fpO St,it∉fpO/\(∀b∈fpO,s.heap.objs.size<=b/\b<s'.heap.objs.size)/\it<s'.heap.objs.size/\Walks prog w A it (it::a::fpO) [it] es.size (λi v=>vs[i]?=some v) St/\St 0 s'.heap
theorem set_iter {Q:Value->Shared->Prop}{A':Around}(hh:A'.handled=none) (x:SetB s.heap a es ep t) (hf:t.fits es.size=true) (hn:es.size<=sizeLine) (hl:t.led=!w.params.followText "set-order") (hr:(!t.plain&&decide (es.size>1))=true\/SetT.Rise t.place)
  (q:∀it vs s',Itd_ prog w A' a es ep t s s' it vs->Q (.ref it) s'):wpAny (model prog w) A (pyIter (.ref a)) Q E s:=by
 obtain⟨o,ho,hc,hd⟩:=id x;have vR:=x.lt;refine VH x.ty PySem.F.slot_set_iter (Z3 PySem.F.slot_set_iter x.ty qw5 ?_ (PySem.F.args_set_iter_1 _));refine Za (Zb ?_);show wpAny _ _ (Builtin.Frozenset.sizeOf a >>= _) _ _ _;unfold Builtin.Frozenset.sizeOf;refine Za (Za (Ve ho hd hf (Zb ?_)));unfold setDrawn setsByText;refine Za (Za (ZY ho hd hf ?_));dsimp only;refine Za (Za (YE (Zb (Zb ?_))));have last:∀(s1:Shared) (first:Value) (OK:Heap->Prop) (fst:Nat->Value) (ord:List Value) (fpO:List Addr) (d:Drawn),s1={ s with heap:=s1.heap,drawn:=d }->(∀b o,s.heap.get? b=some o->s1.heap.get? b=some o)->s.heap.objs.size<=s1.heap.objs.size->Md w a es ep t OK fst ord->fst 0=first->OK s1.heap->ord.Perm (es.toList.map (·.2))->(∀b∈fpO,s.heap.objs.size<=b/\b<s1.heap.objs.size)->(∀h h':Heap,OK h->(∀b∈fpO,∀o,h.get? b=some o->h'.get? b=some o)->OK h') ->
   wpAny (model prog w) A.in1 (setEpoch a >>= λe=>newFields "set_iterator" [first,rawInt 0,.ref a,rawInt es.size,rawInt e] >>= λv=>ret v) (λfin s'=>∃v,fin=.done (.ret v)/\∃T u,s'.TypeIs v T/\typeLookup (.type T) "__next__" = pure (some u)/\Q v s') E s1:=λs1 first OK fst ord fpO d e1 k1 z1 m ef ok op fp0 kO=>by
  have vF:=k1 _ _ ho;refine Za (wpAny_setEpoch_of vF hd hf ?_);refine Za (ZK (Zb ⟨_,rfl, "set_iterator",_,⟨_,Zf _ rfl,rfl⟩,slot_seti_next.lookup,?_⟩));have wG:ord.length=es.size:=by rw[op.length_eq,Zh,ZJ]
  refine q s1.heap.objs.size ord _ ⟨op,z1,λb o e=>Zc _ (k1 b o e),⟨d,by rw[e1]⟩,fpO,_,λz=>Yc _ (fp0 _ z).2,λb hb=>⟨(fp0 b hb).1,by rw[ZV];exact ZR (fp0 b hb).2⟩,by rw[ZV];exact Yi _,qR7 hh m wG hf (Zp (ZP vR z1)) fpO (λz=>Yc _ (fp0 _ z).2) kO,?_⟩;exact⟨⟨_,Zf _ rfl,rfl,by rw[ef];simp[rawInt]⟩,⟨o,Zc _ vF,hc,hd⟩,kO _ _ ok λb _ o e=>Zc _ e⟩
 by_cases hb:w.params.followText "set-order" = true
 ·refine ZM (λh=>?_) (λ_=>?_)
  ·have h':(!w.params.followText "set-order" && (!t.plain&&decide (es.size>1)))=true:=h;rw[hb] at h';cases h'
  ·refine Za (Zb ?_);exact last s (.int 0 0) _ _ _ [] s.drawn rfl (λ_ _ e=>e) (Ze _) (.text hb) rfl trivial ((ql7 _ _).map _) (λb hb=>nomatch hb) (λ_ _ _ _=>trivial)
 ·have hb':w.params.followText "set-order" = false:=Yg.mpr hb;have led:t.led=true:=by rw[hl,hb'];rfl
  refine ZM (λh=>?_) (λh=>?_)
  ·refine Za (qG9 es.size (List.range es.size) _ _ (by simp) λps d hp=>Za ?_);have jI:ps.length=es.size:=by rw[hp.length_eq,Y9]
   refine wpAny_newTuple ?_ (by rw[Zh];lia);have hT:(s.heap.push (seqObj "tuple" (ps.map λ(i:Nat)=>Value.int i 0).toArray 0)).get? s.heap.objs.size=some (seqObj "tuple" (ps.map λ(i:Nat)=>Value.int i 0).toArray 0):=Zf _ rfl;have er:((List.range es.size).map λi=>(es.getD i (0,.none)).2)=es.toList.map (·.2):=by
    refine List.ext_getElem (by simp) λi h1 h2=>?_;have hi:i<es.size:=by simpa using h1
    simp[Array.getD,hi]
   have op:(ps.map λi=>(es.getD i (0,.none)).2).Perm (es.toList.map (·.2)):=by rw[<- er];exact hp.map _
   exact last { s with heap:=s.heap.push (seqObj "tuple" (ps.map λ(i:Nat)=>Value.int i 0).toArray 0),drawn:=d } (.ref s.heap.objs.size) _ _ _ [s.heap.objs.size] d rfl (λb o e=>Zc _ e) (by rw[ZV];exact Wf _) (.draw hb' s.heap.objs.size ps hp) rfl ⟨_,hT,rfl,0,rfl⟩ op
    (λb hb=>by rw[XX.mp hb,ZV];exact⟨Ze _,Yi _⟩) (λh h' ⟨o,ho,r⟩ k=>⟨o,k _ (by simp) o ho,r⟩)
  ·refine Za (Zb ?_);have nd:(!t.plain&&decide (es.size>1))=false:=by
    have h':¬(!w.params.followText "set-order" && (!t.plain&&decide (es.size>1)))=true:=h;rw[hb'] at h';simpa using h'
   have ri:SetT.Rise t.place:=by
    rcases hr with z|z
    ·rw[nd] at z;cases z
    ·exact z
   have wQ:t.place.size=es.size:=by
    have:=hf;unfold SetTable.fits at this;simp at this;exact this.1
   refine last s (.int 0 0) _ _ _ [] s.drawn rfl (λ_ _ e=>e) (Ze _) (.plain hb' nd led (λi=>if i=0 then 0 else t.place.getD (i-1) 0+1) rfl (λi hi=>?_) (λi j hj=>?_)) rfl trivial (List.Perm.refl _) (λb hb=>nomatch hb) (λ_ _ _ _=>trivial)
   ·obtain⟨b0,b1,b2⟩:=SetT.below_is ri (if i=0 then 0 else t.place.getD (i-1) 0+1);generalize SetTable.below t.place (if i=0 then 0 else t.place.getD (i-1) 0+1)=B at b0 b1 b2;by_cases h0:i=0
    ·subst h0;rw[Zx rfl] at b1;by_cases hB:B=0
     ·exact hB
     ·exact absurd (b1 0 (by lia) (by lia)) (Xp _)
    ·rw[Zk h0] at b1 b2;have hi1:i-1<t.place.size:=by lia
     have eg:t.place.getD (i-1) 0=t.place[i-1]:=by simp[Array.getD,hi1]
     rw[eg] at b1 b2;rcases VG B i with z|z|z
     ·have:=b2 (i-1) hi1 (by lia);lia
     ·exact z
     ·have vZ:i<t.place.size:=by lia
      have q1:=b1 i vZ z;have q2:=ri (i-1) i hi1 vZ (by lia);lia
   ·show (if i+1=0 then 0 else t.place.getD (i+1-1) 0+1)=j+1;rw[Zk (by lia),Nat.add_sub_cancel];obtain⟨h1,h2⟩:=Wd.mp hj;simp[Array.getD,h1,h2]
theorem qK1 {Q:List Value->Shared->Prop}(hh:A.handled=none) (x:SetB s.heap a es ep t) (hf:t.fits es.size=true) (hn:es.size<=sizeLine) (hl:t.led=!w.params.followText "set-order") (hr:(!t.plain&&decide (es.size>1))=true\/SetT.Rise t.place)
  (hQ:∀vs h' tk d,vs.Perm (es.toList.map (·.2))->(∀b o,s.heap.get? b=some o->h'.get? b=some o)->Q vs { s with heap:=h',drawn:=d,toks:=tk }):wpAny (model prog w) A (collect (.ref a)) Q E s:=by
 have jA:=x.lt;unfold collect;refine Za (Vq (Ye PySem.F.entry_proto_collect ?_));rw[Z1 PySem.F.plain_proto_collect _];show wpAny _ A.in1 (newList [] >>= λl=>again (.builtin "list.__iadd__" ⟨[l,.ref a],[]⟩)) _ _ s;refine Za (ZK ?_);refine Zb ⟨YA PySem.F.plain_list_iadd _,Ye PySem.F.entry_list_iadd ?_⟩;rw[Z1 PySem.F.plain_list_iadd _];have hS:(s.heap.push (seqObj "list" #[] 0)).get? s.heap.objs.size=some (seqObj "list" #[] 0):=Zf _ rfl;show wpAny _ A.in1 (Builtin.List.listExtendWith (.ref s.heap.objs.size) (.ref a) (.ref s.heap.objs.size)) _ _ { s with heap:=s.heap.push (seqObj "list" #[] 0) };have x1:SetB (s.heap.push (seqObj "list" #[] 0)) a es ep t:=x.stay λo e=>Zc _ e;unfold Builtin.List.listExtendWith;refine Za (Vf (T:= "set") (s:={ s with heap:=s.heap.push (seqObj "list" #[] 0) }) x1.ty ?_);have h1:Builtin.List.listSameRef (.ref s.heap.objs.size) (.ref a)=false:=by simp[Builtin.List.listSameRef,XS jA]
 simp only[h1,show (Value.type "set" == Value.type "list")=false by decide,show (Value.type "set" == Value.type "tuple")=false by decide,Bool.or_false,Zq,ZZ];refine Za (set_iter (A':=A.in1) (s:={ s with heap:=s.heap.push (seqObj "list" #[] 0) }) hh x1 hf hn hl hr λit vs s1 I=>?_);obtain⟨op,nw,kp,⟨d,e1⟩,fpO,St,hni,hfo,hil,W,st⟩:=I;have hz:(s.heap.push (seqObj "list" #[] 0)).objs.size=s.heap.objs.size+1:=ZV ..;have nw':s.heap.objs.size+1<=it:=by rw[<- hz];exact nw
 have jW:s.heap.objs.size∉it::a::fpO:=by
  intro z;rcases Zt.mp z with z|z
  ·exact absurd z (Zp nw')
  ·rcases Zt.mp z with z|z
   ·exact absurd z (XS jA)
   ·have:=(hfo _ z).1;rw[hz] at this;exact absurd this (Nat.not_le.mpr (Yi _))
 have x2:SetB s1.heap a es ep t:=x1.stay λo e=>kp _ _ e;have wC:=kp _ _ hS;have key:∀(h:Heap) (c₁ tk:Nat),St 0 h->(∀b o,b≠s.heap.objs.size->s1.heap.get? b=some o->h.get? b=some o)->h.get? s.heap.objs.size=some (seqObj "list" #[] c₁) ->
   codeAny (model prog w) A (.builtin "list.extend.loop" ⟨[.ref s.heap.objs.size,.ref it,.ref s.heap.objs.size],[]⟩) (wants (λv s'=>wpAny (model prog w) A (match v with|.ref a=>(do let ob <- load a;match ob.data with|.seq xs _=>pure xs.toList|_=>unsupported "internal:collect")|_=>unsupported "internal:collect") Q E s') E) { s with heap:=h,drawn:=d,toks:=tk }:=by
  intro h c₁ tk k5 hk hSl;refine codeAny_extend_loopS W.toS hn s.heap.objs.size jW (.ref s.heap.objs.size) es.size 0 _ #[] c₁ rfl (Zv _) k5 hSl (ItemsOf.nil _) λs' acc' c' hm hS' jH=>?_;rw[Moved.eq_with hm];show wpAny _ A (load s.heap.objs.size >>= _) _ _ _;refine Za (wpAny_load hS' ?_);have ev:acc'.toList=vs:=by
   have hvl:vs.length=es.size:=by rw[op.length_eq,Zh,ZJ]
   refine Xr λi=>?_;rw[Yl];by_cases hi:i<acc'.size
   ·have:=jH.2 i acc'[i] (YX hi);rw[YX hi,this]
   ·rw[WP (by lia),Yt (by rw[hvl,<- jH.1];lia)]
  refine Zb ?_;show Q acc'.toList _;rw[ev];refine hQ vs s'.heap s'.toks d op λb o e=>?_;have hb:=Zi e;have e2:s1.heap.get? b=some o:=kp _ _ (Zc _ e);refine hm.heap b o (λz=>?_) (hk b o (Zp hb) e2);rcases Zt.mp z with z|z
  ·exact Zp hb z
  ·exact Zp (ZP (ZR hb) nw') (XX.mp z)
 rw[e1];refine Za (ZX (xd5 (s:={ s with heap:=s1.heap,drawn:=d }) x2.ty ?_));refine ZM (λ_=>?_) (λ_=>Zb ⟨YA Vz _,key _ 0 _ st (λb o _ e=>e) wC⟩);refine Za (Xd ?_);refine Za ?_;show wpAny _ _ (updateSeq s.heap.objs.size (·.push .none) >>= λ_=>updateSeq s.heap.objs.size (·.pop)) _ _ _;refine Za (WA wC rfl ?_);have hS2:=ZT (Obj.mapSeq (·.push Value.none)) wC rfl;refine WA (hz:=by seq_fits) hS2 rfl ?_;have hS3:=ZT (Obj.mapSeq (·.pop)) hS2 rfl;refine Zb ⟨YA Vz _,key _ _ _ ?_ (λb o hb e=>?_) hS3⟩
 ·refine W.frame 0 _ _ st λb hb o e=>?_;have hbS:b≠s.heap.objs.size:=λh=>jW (h▸hb);exact (Z0 _ _ (XC hbS)).trans ((Z0 _ _ (XC hbS)).trans e)
 ·exact (Z0 _ _ (XC hb)).trans ((Z0 _ _ (XC hb)).trans e)
end
theorem xn7 (t:SetTable) (es:Array (Int×Value)) (h:Int) (x:Value):(layNew t es h x).2.1.led=t.led:=by
 unfold layNew;split
 ·show (SetTable.orStandIn _ _).led=t.led;unfold SetTable.orStandIn;split<;>rfl
 ·rfl
theorem qK2 (t:SetTable) (es:Array (Int×Value)) (n:Nat):(relayAll t es n).2.1.led=t.led/\((relayAll t es n).2.1.plain=true->t.plain=true):=by
 unfold relayAll;split
 ·rename_i t' order e;dsimp only;split
  ·have:t'.led=t.led/\t'.plain=t.plain:=by
    unfold SetTable.relaid SetTable.laid at e;cases ho:SetTable.layClean (SetTable.sizeAbove n-1) (es.map (·.1)) with
    |none=>rw[ho] at e;cases e
    |some owner=>
     rw[ho] at e;have e:=ZO e;injection e with e1 _
     rw[<- e1];exact⟨rfl,rfl⟩
   exact⟨this.1,λz=>by rw[<- this.2];exact z⟩
  ·exact⟨rfl,λz=>nomatch z⟩
 ·exact⟨rfl,λz=>nomatch z⟩
section
variable {prog:Program}{w:World}{K:Type}[DecidableEq K] (knd:KeyKind prog w K)
def EntK (e:Int×Value) (k:K):Prop:=knd.is k e.2=true/\e.1=knd.hash k/\e.2.scannable=true
def TxS (h:Heap) (a:Addr) (ks:List K):Prop:=∃es ep t,SetB h a es ep t/\t.fits es.size=true/\t.led=(!w.params.followText "set-order")/\(t.plain=true->es.size=0)/\es.size<scanBound/\∃ks',Paired (EntK knd) es.toList ks'/\ks'.Nodup/\∀k,k∈ks'<->k∈ks
variable {knd}
variable {A:Around}{E:Value->Shared->Prop}{s:Shared}
theorem TxS.stay {h h':Heap}{a:Addr}{ks:List K}(x:TxS knd h a ks) (k:∀o,h.get? a=some o->h'.get? a=some o):TxS knd h' a ks:=by
 obtain⟨es,ep,t,b,r⟩:=x;exact⟨es,ep,t,b.stay k,r⟩
theorem TxS.congr {h:Heap}{a:Addr}{ks ks2:List K}(x:TxS knd h a ks) (e:∀k,k∈ks<->k∈ks2):TxS knd h a ks2:=by
 obtain⟨es,ep,t,b,h1,h2,h3,h4,ks',h5,h6,h7⟩:=x;exact⟨es,ep,t,b,h1,h2,h3,h4,ks',h5,h6,λk=>(h7 k).trans (e k)⟩
theorem xn8 {h:Heap}{a:Addr}(e:h.get? a=some (SetT.newS (!w.params.followText "set-order"))):TxS knd h a []:=
 ⟨#[],0,_,⟨_,e,⟨rfl,rfl,rfl⟩,rfl⟩,rfl,rfl,λ_=>rfl,by decide,[],.nil,Vo,λ_=>Iff.rfl⟩
theorem q66 {l:List (Int×Value)}{ks:List K}(p:Paired (EntK knd) l ks):ElemsOf knd l:=λe he=>by
 obtain⟨i,hi,rfl⟩:=ZE.mp he;obtain⟨k,_,h1,h2,h3⟩:=qj9 p i _ (Zd hi);exact⟨⟨k,h1,h2⟩,h3⟩
theorem qv7 {α β:Type}{R:α->β->Prop}{x:α}{y:β}(h:R x y):∀{l:List α}{m:List β},Paired R l m->Paired R (l++[x]) (m++[y])
 |_,_,.nil=>.cons h .nil
 |_,_,.cons a r=>.cons a (qv7 h r)
theorem xn9 {a:Addr}{ks:List K}{k:K}{x:Value}{Q:Bool->Shared->Prop}(kJ:knd.is k x=true) (k6:x.scannable=true) (jI:plainKind x=false) (hS:TxS knd s.heap a ks) (hroom:ks.length+1<scanBound)
  (h:∀b h',Heap.SameBut a s.heap h'->TxS knd h' a (k::ks)->Q b { s with heap:=h' }):wpAny (model prog w) A (setAddHashed a x (knd.hash k)) Q E s:=by
 obtain⟨es,ep,t,⟨o,ho,v0,hd⟩,hf,kI,vD,hb,ks',hp,vX,jK⟩:=hS;have kQ:=q66 hp;have j9:es.size=ks'.length:=by have:=Y2 hp;simpa using this
 have wS:ks'.length<=ks.length:=by
  have:∀(l m:List K),l.Nodup->(∀k,k∈l->k∈m)->l.length<=m.length:=λl=>by
   induction l with
   |nil=>intro m _ _;exact Zv _
   |cons y l ih=>
    intro m nd sub;obtain⟨n1,n2⟩:=YJ.mp nd;have hy:=sub y (by simp);have:=ih (m.erase y) n2 λz hz=>(List.mem_erase_of_ne (λe=>n1 (by rw[<- e];exact hz))).mpr (sub z (by simp[hz]));rw[List.length_erase_of_mem hy] at this;have:=List.length_pos_of_mem hy;rw[ZW];lia
  exact this _ _ vX λk hk=>(jK k).mp hk
 have hb1:es.size+1<scanBound:=by lia
 unfold setAddHashed setAddHashedIn;refine ZX (Za (ZY ho hd hf ?_));dsimp only;rw[byScan_of k6 hb kQ];simp only[↓reduceIte];unfold setAddByScan;refine Za ?_;refine Za (Xd ?_);refine Za (wpAny_setScan_of kJ ho hd hf kQ ?_);cases hr:List.findIdx? (λe=>knd.is k e.2) es.toList with
 |some j=>
  dsimp only;obtain⟨hj,hpj,_⟩:=List.findIdx?_eq_some_iff_getElem.mp hr;obtain⟨k1,e1,e2,_⟩:=qj9 hp j _ (Zd hj);have ek:k1=k:=knd.inj _ _ _ e2 hpj;subst ek;have jU:k1∈ks':=Zr e1;refine Zb (Zb ?_);have e:s={ s with heap:=s.heap }:=by cases s;rfl
  rw[e];exact h _ s.heap (X8 a s.heap) ⟨es,ep,t,⟨o,ho,v0,hd⟩,hf,kI,vD,hb,ks',hp,vX,λk'=>⟨λz=>Zl _ ((jK k').mp z),λz=>(Zt.mp z).elim (λe=>by rw[e];exact jU) (λz=>(jK k').mpr z)⟩⟩
 |none=>
  dsimp only;have hni:k∉ks':=λhk=>by
   obtain⟨i,hi,ei⟩:=ZE.mp hk;have hie:i<es.toList.length:=by rw[ZJ,j9];exact hi
   obtain⟨k1,e1,e2,_⟩:=qj9 hp i _ (Zd hie);rw[Zd hi,ei] at e1;cases e1;have:=List.findIdx?_eq_none_iff.mp hr _ (Ys hie);rw[e2] at this;cases this
  have hgw:∀(b:Bool){s₁:Shared}{Q':Unit->Shared->Prop},Q' () s₁->wpAny (model prog w) A (match b with|true=>rule "set.scan.the-table-gave-way" | false=>pure ()) Q' E s₁:=λb s₁ Q' hq=>by cases b<;>first|exact Zb hq|exact Xd hq
  have hperm:=layNew_perm t es (knd.hash k) x;have hfits:=layNew_fits t es (knd.hash k) x;have kU:=xn7 t es (knd.hash k) x;generalize hL:layNew t es (knd.hash k) x=L at hperm hfits kU ⊢;obtain⟨es1,t1,wasDummy,gave⟩:=L;dsimp only at hperm hfits kU ⊢;rw[Xa] at hperm;obtain⟨ks1,p1,kp⟩:=qi1 hperm (qv7 (show EntK knd (knd.hash k,x) k from ⟨kJ,rfl,k6⟩) hp);have nd1:ks1.Nodup:=kp.nodup_iff.mpr (X7.mpr ⟨vX,by simp,λu hu v hv e=>hni (by rw[XX.mp hv] at e;rw[<- e];exact hu)⟩);have mem1:∀k',k'∈ks1<->k'∈k::ks:=λk'=>by
   rw[kp.mem_iff,Z5,XX,Zt,jK,or_comm]
  have hsz1:es1.size<scanBound:=by
   have:=hperm.length_eq;rw[ZJ,Zz,ZJ] at this;simp at this;lia
  refine Za (hgw _ ?_);have tail:∀(t2:SetTable),t2.fits es1.size=true->t2.led=t.led->t2.plain=false->wpAny (model prog w) A (do
    storeSet a es1 t2
    if (!wasDummy&&t2.tooFull)=true then do
      (match (relayAll t2 es1 (SetTable.grown es1.size)).2.2 with|true=>rule "set.scan.the-table-gave-way" | false=>pure ())
      storeSet a (relayAll t2 es1 (SetTable.grown es1.size)).1 (relayAll t2 es1 (SetTable.grown es1.size)).2.1
      pure (some true)
     else pure (some true)) (λr s'=>wpAny (model prog w) A (match r with|some added=>pure added|none=>setAddHashedIn a x (knd.hash k) 99999) Q E s') E s:=λt2 hf2 jM jN=>by
   refine Za (WK ho hd ?_ (VM hsz1));have vF:(s.heap.update a (Obj.putSet es1 t2)).get? a=some { o with data:=.set es1 (ep+1) t2 }:=by
    have:=ZT (Obj.putSet es1 t2) ho (by rw[VR es1 t2 hd];rfl);rw[VR es1 t2 hd] at this;exact this
   have hsb1:=Z8 s.heap a (Obj.putSet es1 t2);refine ZM (λ_=>?_) (λ_=>?_)
   ·have hq:=relayAll_perm t2 es1 (SetTable.grown es1.size);have jQ:=relayAll_fits t2 es1 (SetTable.grown es1.size);obtain⟨g1,g2⟩:=qK2 t2 es1 (SetTable.grown es1.size);generalize relayAll t2 es1 (SetTable.grown es1.size)=Rl at hq jQ g1 g2 ⊢;obtain⟨es2,t3,gave2⟩:=Rl;dsimp only at hq jQ g1 g2 ⊢;obtain⟨ks2,p2,kp2⟩:=qi1 hq p1;have hsz2:es2.size=es1.size:=by have:=hq.length_eq;simpa using this
    refine Za (hgw _ ?_);refine Za (WK vF rfl ?_ (VM (by lia)));have ho2:((s.heap.update a (Obj.putSet es1 t2)).update a (Obj.putSet es2 t3)).get? a=some { o with data:=.set es2 (ep+1+1) t3 }:=by
     have:=ZT (Obj.putSet es2 t3) vF (by rw[VR es2 t3 rfl];rfl);rw[VR es2 t3 rfl] at this;exact this
    refine Zb (Zb (h _ _ (hsb1.trans (Z8 _ a _)) ⟨es2,_,t3,⟨_,ho2,v0,rfl⟩,jQ,(by rw[g1,jM];exact kI),λz=>?_,by lia,ks2,p2,kp2.nodup_iff.mpr nd1,λk'=>kp2.mem_iff.trans (mem1 k')⟩));have:=g2 z;rw[jN] at this;cases this
   ·exact Zb (Zb (h _ _ hsb1 ⟨es1,_,t2,⟨_,vF,v0,rfl⟩,hf2,(by rw[jM];exact kI),(λz=>by rw[jN] at z;cases z),hsz1,ks1,p1,nd1,mem1⟩))
  cases hpl1:t1.plain with
  |true=>
   rw[Zx rfl];rw[hashByValue_scannable 8 k6,jI];refine Za (Zb ?_);rw[Zk Zs];exact tail _ (SetTable.fits_plain_off hfits) kU rfl
  |false=>
   rw[Zk Zs];refine Za (Zb ?_);rw[Zx rfl];exact tail _ hfits kU hpl1
end
section
variable {prog:Program}{w:World}{A:Around}{E:Value->Shared->Prop}{s:Shared}
theorem xo0 (a:Value){Q₁:Value->Shared->Prop}(h:Q₁ (.ref s.heap.objs.size) { s with heap:=s.heap.push (SetT.newS (!w.params.followText "set-order")) }) :
  codeAny (model prog w) A (.call (.builtin "set.__new__") ⟨[.type "set",a],[]⟩) (wants Q₁ E) s:=by
 refine W8 ?_;show wpAny _ A.in1 (do checkBuiltinCall "set.__new__" ⟨[.type "set",a],[]⟩;again (.builtin "set.__new__" ⟨[.type "set",a],[]⟩)) _ _ s;refine Za (WG (PySem.F.newCall_set_1 a) (Zb ⟨YA PySem.F.plain_set_new _,Ye PySem.F.entry_set_new ?_⟩));rw[Z1 PySem.F.plain_set_new _];unfold Builtin.«set.__new__» Builtin.Frozenset.newClass;have jP:=sub_set_self;obtain⟨hp,g,d,tk,os⟩:=s;dsimp only
 wp_walk
 refine YE (Zb ?_);dsimp only;simp only[newObj];refine Za (wpAny_alloc (Zb ?_));exact Zb h
end
section
variable {prog:Program}{w:World}{A:Around}{R:Result->Shared->Prop}{I:Addr}{fp wr:List Addr}{G:Array GenState->Array GenState->Prop}{n:Nat}{P:Nat->Value->Prop}{St:Nat->Shared->Prop}
theorem xo1 (W:WalksS prog w A.in1 I fp wr G n P St) (S:Addr) (jW:S∉fp) (val:Nat->Str) (hval:∀i v,P i v->∃t,v=.str (val i) t) (hb:n+1<scanBound) :
  ∀(k i:Nat) (s:Shared),n-i=k->i<=n->St i s->TxS (strKind prog w) s.heap S ((List.range i).map val) ->
   (∀s',Moved (S::wr) G s s'->TxS (strKind prog w) s'.heap S ((List.range n).map val)->R (.ok (.ret .none)) s')->codeAny (model prog w) A (.builtin "set.update.loop" ⟨[.ref S,.ref I],[]⟩) R s:=by
 have wB:S∉wr:=λh=>jW (W.sub _ h);have jP:∀b∈wr,b∈S::wr:=λb hb=>Zl _ hb;intro k
 induction k with
 |zero=>
  intro i s hk hi k5 hS hR;have jU:i=n:=by lia
  subst jU;refine Ye YG ?_;rw[Z1 Z9 _];show wpAny _ A.in1 (pyNext (.ref I) >>= _) _ _ s;refine Za (W.done s _ _ k5 λs' hm=>?_);show wpAny _ A.in1 (ret Value.none) _ _ s';exact Zb (hR s' (hm.mono jP) (hS.stay λo e=>hm.heap S _ wB e))
 |succ k ih=>
  intro i s hk hi k5 hS hR;have jA:i<n:=by lia
  refine Ye YG ?_;rw[Z1 Z9 _];show wpAny _ A.in1 (pyNext (.ref I) >>= _) _ _ s;refine Za (W.item i s _ _ jA k5 λv s' hP hst' hm=>?_);obtain⟨t,rfl⟩:=hval i v hP;have hS':=hS.stay λo e=>hm.heap S _ wB e;show wpAny _ A.in1 (holding [Value.str (val i) t] (setAdd S (.str (val i) t)) >>= _) _ _ s';refine Za (ZX ?_);unfold setAdd;refine ZX ?_;have hk:(strKind prog w).is (val i) (.str (val i) t)=true:=strKind_is _ _ _ _;refine Za ((strKind prog w).pyHash (k:=val i) hk ?_);refine xn9 (s:={ s' with toks:=s'.toks+1 }) hk rfl rfl hS' (by rw[Zh,Y9];lia) λb h' wD hS2=>?_;have hSi:TxS (strKind prog w) h' S ((List.range (i+1)).map val):=hS2.congr λx=>by
   rw[Xe,Z7,Z5,Zt];show _<->_\/x∈[val i];rw[XX,or_comm]
  refine Zb ⟨YA Z9 _,ih (i+1) _ (by lia) jA (W.frame _ s' _ _ hst' (Wf _) λb hb o e=>?_) hSi λs'' hm'' hS''=>?_⟩
  ·rw[wD.2 b (λh:b=S=>jW (by rw[<- h];exact hb))];exact e
  ·refine hR s'' (VE W.gtrans ((hm.mono jP).then_heap (Wf _) λb o hb e=>?_) hm'') hS'';rw[wD.2 b (λh:b=S=>hb (by rw[h];exact ZC))];exact e
end
section
variable {prog:Program}{w:World}{A:Around}{E:Value->Shared->Prop}{s:Shared}
theorem q67 {l:Addr}{items:Array Value}{val:Nat->Str}{Q:Value->Shared->Prop}(hh:A.handled=none) (hl:s.heap.IsList l items)
  (hi:∀(i:Nat) (v:Value),items[i]?=some v->∃t,v=.str (val i) t) (hb:items.size+1<scanBound)
  (h:∀(h':Heap) (tk:Nat),TxS (strKind prog w) h' s.heap.objs.size ((List.range items.size).map val)->(∀b o,b<s.heap.objs.size->s.heap.get? b=some o->h'.get? b=some o)->Q (.ref s.heap.objs.size) { s with heap:=h',toks:=tk }) :
  wpAny (model prog w) A (call (.type "set") [.ref l]) Q E s:=by
 obtain⟨c,tl,hmro⟩:=PySem.F.called_set.mro;have made0:=PySem.F.called_set.made;have sub0:=PySem.F.called_set.sub;refine wpAny_call (W8 ?_);show wpAny _ _ (callAny (.type "set") _) _ _ _;refine Zb ⟨Vp _ (by decide +kernel),Ye PySem.F.entry_type_call ?_⟩;rw[Around.under_plain (weight_type_call_type "set" [.ref l] []) rfl];have f1:=PySem.F.called_set.notType;have f2:=PySem.F.called_set.canCreate;have f3:=PySem.F.typeCall_set_1 (.ref l)
 repeat (any_goals first|assumption|wp_step)
 refine Wm (xo0 (.ref l) (E:=E) (Q₁:=λobj s₁=>obj=.ref s.heap.objs.size/\s₁={ s with heap:=s.heap.push (SetT.newS (!w.params.followText "set-order")) }) ⟨rfl,rfl⟩) λr s₁ hr=>?_;generalize kI:(!w.params.followText "set-order")=led at hr;cases r with
 |error e=>exact hr
 |ok fl=>
  cases fl with
  |ret obj=>
   obtain⟨rfl,rfl⟩:=hr;have hS:(s.heap.push (SetT.newS led)).get? s.heap.objs.size=some (SetT.newS led):=Zf _ rfl;have hT:Shared.TypeIs { s with heap:=s.heap.push (SetT.newS led) } (.ref s.heap.objs.size) "set":=⟨_,hS,rfl⟩;have i1:=PySem.F.called_set.init.lookup;have i2:=PySem.F.called_set.init.bind (.ref s.heap.objs.size)
   repeat (any_goals first|assumption|wp_step)
   refine Wm (We (R:=wants (λr s₂=>r=.none/\∃h' tk,s₂={ s with heap:=h',toks:=tk }/\TxS (strKind prog w) h' s.heap.objs.size ((List.range items.size).map val) /\
     (∀b o,b<s.heap.objs.size->s.heap.get? b=some o->h'.get? b=some o)) E) PySem.F.called_set.init.plain PySem.F.entry_set_init (check_set_init_1 hT ?_)) λr₂ s₂ hr₂=>?_
   ·obtain⟨ol,wG,hcl,nl,hdl⟩:=id hl;obtain⟨ocls,odict,odata,oslots⟩:=ol;simp only at hcl hdl;subst hcl;subst hdl;have hol':(s.heap.push (SetT.newS led)).get? l=some { cls:=.type "list",dict:=odict,data:=.seq items nl,slots:=oslots }:=Zc _ wG;have st1:=PySem.F.sub_list_set;have st2:=PySem.F.sub_list_frozenset;have ned:(Value.type "list" == Value.type "dict")=false:=by decide
    have kU:(s.heap.push (SetT.newS led)).IsList l items:=⟨_,hol',rfl,nl,rfl⟩;unfold Builtin.«set.__init__» noKeywords Builtin.Frozenset.updateFrom;generalize hPI:pyIter=PI
    wp_walk
    subst hPI;refine Y8 kU ?_;refine Za (Vq ?_);have hlS:l<s.heap.objs.size:=Zi wG;have hsz:(s.heap.push (SetT.newS led)).objs.size=s.heap.objs.size+1:=ZV _ _;have hneI:l≠(s.heap.push (SetT.newS led)).objs.size:=by rw[hsz];exact Zp (ZR hlS)
    have jW:s.heap.objs.size∉[(s.heap.push (SetT.newS led)).objs.size,l]:=by
     rw[hsz];simp only[Zt,XJ,V6,not_or];exact⟨Zp (Yi _),XS hlS⟩
    refine xo1 ((Vr (by simp[hh]) _ l hneI items).toS) s.heap.objs.size jW val hi hb (items.size-0) 0 _ (by lia) (Zv _)
     ⟨⟨_,Zf _ rfl,rfl,rfl⟩,kU.push _⟩ (xn8 (by rw[kI];exact Zc _ hS)) λs' mv fin=>?_
    obtain⟨h',g',d',tk',os'⟩:=s';have eg:g'=s.gens:=mv.gens;have ed:d'=s.drawn:=mv.drawn;have eo:os'=s.os:=mv.os;subst eg;subst ed;subst eo;show wpAny _ _ _ _ _ _;refine Zb ?_;show wpAny _ _ (ret Value.none) _ _ _;refine Zb ⟨rfl,h',tk',rfl,fin,λb o jA e=>?_⟩;exact mv.heap b o (by rw[hsz];simp only[Zt,XJ,V6,not_or];exact⟨Zp jA,Zp (ZR jA)⟩) (Zc _ (Zc _ e))
   ·cases r₂ with
    |error e=>exact hr₂
    |ok fl₂=>
     cases fl₂ with
     |ret r=>
      obtain⟨rfl,h',tk,rfl,fin,kp⟩:=hr₂
      repeat (any_goals first|assumption|wp_step)
      exact h _ _ fin kp
     |_=>exact hr₂.elim
  |_=>exact hr.elim
end
section
variable {X:Cx}
def TxH (P:Program) (w:World) (r:Addr) (L:List Str):HO:=.ext λh=>TxS (strKind P w) h r L
theorem qR8 (hc:X.calm=true):qe3 X (.type "set") (λxs H Q=>∃(p:Addr) (L:List Str),xs=[.ref p]/\H p=some (.lst (L.map V.str))/\L.length+1<scanBound/\∀r,H r=none->Q (.ref r) (upd H r (TxH X.prog X.w r L))):=by
 intro j8 s σ H xs us Q I rv h;obtain⟨p,L,rfl,hp,hsz,q⟩:=h;obtain⟨u,rfl,ru⟩:=qf0 rv;cases ru;obtain⟨hz,its,n,r2,ho⟩:=I.hok p _ hp;have jM:its.length=L.length:=by have:=r2.length;simpa using this.symm
 refine q67 (items:=its.toArray) (val:=λi=>L.getD i "") (I.ok.hd hc) ⟨_,ho,rfl,n,rfl⟩ (λi v hv=>?_) (by rw[ZG,jM];exact hsz) λh' tk fin kp=>?_
 ·have hv':its[i]?=some v:=by simpa using hv
  have hi:i<L.length:=by rw[<- jM];exact (gS_ hv').1
  obtain⟨w',e1,t,e2⟩:=r2.get (i:=i) (x:=V.str L[i]) (by simp[hi]);rw[hv'] at e1;cases e1;exact⟨t,by rw[e2];simp[List.getD,hi]⟩
 ·have eL:(List.range its.toArray.size).map (λi=>L.getD i "")=L:=by
   refine List.ext_getElem (by simp[jM]) λi h1 h2=>?_;simp[List.getD,h2]
  rw[eL] at fin;obtain⟨es,ep,t,⟨o,hoo,_⟩,_⟩:=id fin;exact⟨.ref s.heap.objs.size,_,I.laid (a:=s.heap.objs.size) (o:=TxH X.prog X.w s.heap.objs.size L) (t':=tk) (λb o e=>kp b o (Zi e) e) (Ze _) ⟨fin,⟨o,hoo⟩,λh1 h2 φ k=>φ.stay k⟩,rfl,q _ (I.hok.fresh (Ze _))⟩
theorem qB1 (hc:X.calm=true){k:Nat}(hr:Room k X.A):qe3 X (.builtin "sorted") (λxs H Q=>∃(r:Addr) (L:List Str),xs=[.ref r]/\H r=some (TxH X.prog X.w r L) /\
  ∀q us (ls:List Str),H q=none->us=ls.map V.str->ls.Nodup->(∀x,x∈ls<->x∈L)->AscL (P:=X.prog) (w:=X.w) (atO true) H us->Q (.ref q) (upd H q (.lst us))):=by
 intro j8 s σ H xs us Q I rv h;obtain⟨r,L,rfl,hr0,q⟩:=h;obtain⟨u,rfl,ru⟩:=qf0 rv;cases ru;obtain⟨fin,_,_⟩:=(show ObjOk X.prog X.w H s.heap r (TxH X.prog X.w r L) from I.hok r _ hr0);obtain⟨es,ep,t,b,hf,kI,vD,wD,ks,hp,vX,jK⟩:=(show TxS (strKind X.prog X.w) s.heap r L from fin);have un:=hr.units;have hz:=VM wD;have wQ:t.place.size=es.size:=by
  have:=hf;unfold SetTable.fits at this;simp at this;exact this.1
 have hrise:(!t.plain&&decide (es.size>1))=true\/SetT.Rise t.place:=by
  by_cases h1:es.size>1
  ·left;have:t.plain=false:=by
    cases z:t.plain with
    |false=>rfl
    |true=>have:=vD z;lia
   rw[this,Zu h1];rfl
  ·right;intro i j hi hj jX;lia
 have key:∀vs:List Value,vs.Perm (es.toList.map (·.2))->∃ls:List Str,Vals (ls.map V.str) vs/\ls.Perm ks:=λvs hv=>by
  have pr:Paired (λ(v:Value) (x:Str)=>∃t,v=.str x t) (es.toList.map (·.2)) ks:=by
   refine qv3 (by rw[Zh];exact Y2 hp) λi v x h1 h2=>?_;rw[Zg] at h1;obtain⟨e,he,rfl⟩:=Zj.mp h1;obtain⟨k1,e1,e2,_⟩:=qj9 hp i e he;rw[h2] at e1;cases e1;exact Value.isStrOf_shape e2
  obtain⟨ls,p1,p2⟩:=qi1 hv pr;refine⟨ls,?_,p2⟩;clear hv p2
  induction p1 with
  |nil=>exact .nil
  |cons h _ ih=>exact .cons h ih
 refine xc7 (xz0 true) (by show _+3+0<cLine;lia) (Pv:=λvs=>∃ls:List Str,Vals (ls.map V.str) vs/\ls.Perm ks) (λvs ⟨ls,rv,pl⟩=>⟨λv hv=>?_,?_⟩) (λQ' k'=>qK1 (I.ok.hd hc) b hf hz kI hrise λvs h' tk d hv kp=>k' vs h' tk d (key vs hv) kp) λvs out h1 h2 tk d c ⟨ls,rv,pl⟩ k1 k2 he o1 o2=>?_
 ·obtain⟨x,hx,rx⟩:=qN9 rv hv;obtain⟨y,_,rfl⟩:=Ym.mp hx;exact⟨_,qK0 (P:=X.prog) (w:=X.w) y _ _ I.hok rx⟩
 ·have h1:=rv.length;rw[Zh,pl.length_eq] at h1;have h2:=Y2 hp;simp at h2;lia
 ·obtain⟨xs',r',p'⟩:=q51 o1 rv;have prs:Paired (λ(v:V) (x:Str)=>v=.str x) (ls.map V.str) ls:=qv3 (by rw[Zh]) λi v x h1 h2=>by
   rw[Zg,h2] at h1;exact (ZO h1).symm
  obtain⟨ls2,q1,q2⟩:=qi1 p' prs;have ex:xs'=ls2.map V.str:=by
   clear r' p' q2
   induction q1 with
   |nil=>rfl
   |cons h _ ih=>rw[h,ih];rfl
  have I1:=I.keptD (t':=tk) (d':=d) k1;refine⟨.ref _,_,I1.laid (a:=h1.objs.size) (o:=.lst xs') (t':=tk) (λb o z=>k2 b o z) (Ze _) ⟨?_,out.toList,c,r',by simpa using he⟩,rfl,q _ xs' ls2 (I1.hok.fresh (Ze _)) ex ((q2.trans pl).nodup_iff.mpr vX) (λx=>(q2.trans pl).mem_iff.trans (jK x)) (q53 I.hok r' o2)⟩;have h3:=p'.length_eq;rw[Zh,pl.length_eq] at h3;have h2:=Y2 hp;simp at h2;lia
end
end L2
namespace Pr
open PySem L2 Qf
theorem qO4:∀{ls:List Str},(∀x∈ls,∃a,x=txt a)->∃lds:List (List Nat),ls=lds.map txt
 |[],_=>⟨[],rfl⟩
 |x::ls,h=>by
  obtain⟨a,rfl⟩:=h x (by simp);obtain⟨lds,rfl⟩:=qO4 (ls:=ls) λy hy=>h y (by simp[hy]);exact⟨a::lds,rfl⟩
theorem qR9 {P:Program}{w:World}{H:Hp}{us:List V}{ls:List Str}{ads:List (List Nat)}(ha:ads.Pairwise (·<·)) (e:us=ls.map V.str) (nd:ls.Nodup) (hm:∀x,x∈ls<->x∈ads.map txt) (as:AscL (P:=P) (w:=w) (PyProof.Rows.atO true) H us):us=vT ads:=by
 obtain⟨bds,rfl⟩:=qO4 (ls:=ls) λx hx=>by
  obtain⟨a,_,e⟩:=Ym.mp ((hm x).mp hx);exact⟨a,e.symm⟩
 have e2:us=vT bds:=by rw[e];unfold vT;rw[Yv];rfl
 rw[e2];congr 1;have nd2:bds.Nodup:=by
  rw[Vx] at nd ⊢;rw[VJ] at nd;exact VL (λ{u v} z e=>z (by rw[e])) nd
 refine xg5 ?_ ha λx=>?_
 ·rw[e2] at as;unfold AscL vT at as;rw[VJ] at as;refine List.Pairwise.imp₂ (λa b h1 h2=>?_) as (Vx.mp nd2);have h3:=h1 _ _ (qK0 _) (qK0 _);rw[xu3,txtK,txtK,q64] at h3;by_cases z:a<b
  ·exact z
  ·exact absurd (List.le_antisymm (W7.mp h3) (W7.mp z)) h2
 ·have h1:∀l:List (List Nat),x∈l<->txt x∈l.map txt:=λl=>⟨λh=>Ym.mpr ⟨x,h,rfl⟩,λh=>by
   obtain⟨y,hy,e⟩:=Ym.mp h;rw[<- xl9 e];exact hy⟩
  rw[h1,hm,<- h1]
theorem xu4 (L:List (List Nat)):vT L=(L.map txt).map V.str:=by unfold vT;rw[Yv];rfl
def dTx (L:List (List Nat)):List PyData:=L.map λe=>PyData.str (txt e)
theorem qB2 {H:Hp}:∀L:List (List Nat),DatasAt H (vT L) (dTx L)
 |[]=>.nil
 |e::L=>.cons (.str _) (qB2 L)
theorem xu5 {e:List Nat}(he:∀d∈e,d<4):PyData.strOk (txt e)=true:=by
 unfold PyData.strOk;simp only[txt,List.all_toArray,List.all_map,YN];intro d hd;have:=he d hd
 match d,this with
 |0,_|1,_|2,_|3,_=>decide +kernel
theorem xh7:∀L:List (List Nat),(∀e∈L,∀d∈e,d<4)->PyData.canLayAll0 (dTx L)=true
 |[],_=>rfl
 |e::L,h=>by
  show (PyData.canLay0 (.str (txt e))&&PyData.canLayAll0 (dTx L))=true;rw[xh7 L (λx hx=>h x (Zl _ hx)),Bool.and_true];exact xu5 (h e (by simp))
theorem qO5:∀L:List (List Nat),PyData.depthAll (dTx L)=0
 |[]=>rfl
 |e::L=>by
  show max (PyData.depth (.str (txt e))) (PyData.depthAll (dTx L))=0;rw[qO5 L]
  rfl
theorem qB3 {H H':Hp}{t n tp:Nat}{rows:List Row}(h:qe2 H t n tp rows) (k:Tups H H'):qe2 H' t n tp rows:=let ⟨⟨p,a,b⟩,c,d⟩:=h;⟨⟨p,k _ _ a,b.mono k⟩,c,d⟩
theorem T_pl {rows:List Row}{y:Nat}{b:Bool}(ok:qd4 rows) (hy:y<rows.length+2) (h:T rows y=plT b):y=if b then 1 else 0:=by
 by_cases y2:y<2
 ·have:y=0\/y=1:=by lia
  rcases this with rfl|rfl
  ·rw[qg5] at h;cases b with|true=>cases h|false=>rfl
  ·rw[qp3] at h;cases b with|true=>rfl|false=>cases h
 ·obtain⟨pl,a0,a1,a2,a3,rfl,jI⟩:=ql4 ok hy y2;rw[qn8 ok jI] at h;cases b<;>cases h
section
variable {P:Program}{w:World}{K:PySem.W.Frag}{mg:Str->Option Value}{base:Heap}
abbrev nRt:List Str:=["_law_told", "_law_row", "_law_column", "_law_some", "_law_side", "_law_far", "_law_place", "_law_leaves", "_law_ahead_here", "_law_many", "_law_leaf_here", "_law_first", "_law_left", "_law_wide", "_law_share_here"]
abbrev nRt4:List Str:=["_law_told", "_law_row", "_law_column", "_law_some"]
theorem scRt:FnScope nRt nRt4 (qa4 qM7):=qc7
def spRt:Sp:=λvs H Q _=>∃(t:Addr) (n tp r c:Nat) (rows:List Row) (x:V),vs=[.ref t,.int (r:Nat),.int (c:Nat),x]/\qe2 H t n tp rows/\nlf (T rows tp)<=2000/\r<2^n/\c<2^n /\
 ((x=.non/\∀e∈lvT (T rows tp),e.2=false)\/∃e0 p q l,x=.ref p/\e0∈lvT (T rows tp)/\e0.2=true/\(∀e∈lvT (T rows tp),e.2=true->¬kF n r c e.1<kF n r c e0.1)/\H p=some (.tup [.int (lfF n r c e0.1),.ref q,.ref l])/\H q=some (.tup [.int (lfR n r c e0.1),.int (lfC n r c e0.1)]) /\
  H l=some (.lst (vT (qR3 n r c (lvT (T rows tp)) (kF n r c e0.1)))))/\∀H',Same H H'->Q (.bl true) H'
theorem xA6 {f fL fA fS fH:Addr}{fd fdL fdA fdS fdH:FuncData}(F:Fun K "_law_right" "_law_right" qM7 f fd) (B:Blt mg) (C:Blt2 mg) (hso:mg "sorted" = none)
  (hL:mg "_law_leaf" = some (.ref fL)) (FL:Fun K "_law_leaf" "_law_leaf" q93 fL fdL) (bL:Binds K fdL nLf3 []) (GL:FnOk P w K mg base CX0 1 fL fdL nLf3 spLf)
  (hA:mg "_law_ahead" = some (.ref fA)) (FA:Fun K "_law_ahead" "_law_ahead" qM6 fA fdA) (bA:Binds K fdA nAh4 []) (GA:FnOk P w K mg base CX0 1 fA fdA nAh4 spAh)
  (hS:mg "_law_square" = some (.ref fS)) (FS:Fun K "_law_square" "_law_square" qz1 fS fdS) (bS:Binds K fdS ["_law_n", "_law_address"] []) (GS:FnOk P w K mg base CX0 1 fS fdS ["_law_n", "_law_address"] qA3)
  (hH:mg "_law_share" = some (.ref fH)) (FH:Fun K "_law_share" "_law_share" qE6 fH fdH) (bH:Binds K fdH nSh []) (GH:FnOk P w K mg base CX0 2 fH fdH nSh spSh) :
  FnOk P w K mg base CX0 3 f fd nRt4 spRt:=by
 refine F.ok scRt (λvs H Q E h=>?_) (λcdv A outer s H vs Q E hr h=>?_)
 ·obtain⟨t,n,tp,r,c,rows,x,rfl,_⟩:=h
  rfl
 ·obtain⟨t,n,tp,r,c,rows,x,rfl,y6,vW,vC,vH,hx,q⟩:=h;have jJ:Room 1 _:=hr.mono (by decide);have k8:Room 2 _:=hr.mono (by decide);refine seqE ⟨_,⟨psN 4 scRt.nd (qa6 qf2 qa1 (pxN qb0 (pv 0) qa1))⟩,?_⟩;refine seqE ⟨_,⟨qd9 (qb7 qB8 (pxN qb0 (pv 0) qa1) qa1 (qb2 _)) (StB.go (.one ⟨qa9 (qd7 xq2 (pv 3) xe2 (qb2 _))⟩)) qb8⟩,?_⟩;refine seqE ⟨_,⟨qd9 (PW.pt (qk9 (qg1 (qe6 (PEb.go ⟨qa5 qg2 (by rfl) B.isi Z6 (Ars2.go (.cons ⟨pv 3⟩ (.cons ⟨qi6 (v:=.ty "tuple") (by rfl) B.tuple Yn rfl⟩ .nil rfl) rfl))⟩))) (qk9 (qb7 qT8 (PEb.go ⟨qa5 qc9 (by rfl) B.len Yy (qa0 (pv 3) qa2)⟩) qa1 (qb2 _)) (qg9 (qg1 (qe6 (PEb.go ⟨qa5 qg2 (by rfl) B.isi Z6 (Ars2.go (.cons ⟨pxN qb0 (pv 3) qa1⟩ (.cons ⟨qi6 (v:=.ty "list") (by rfl) B.list WN rfl⟩ .nil rfl) rfl))⟩))))))) (qa8 (qa9 qm4)) qb8⟩,?_⟩;refine seqE ⟨_,⟨qi7 (pv 3) (qi3 rfl (qb1 (pgN 5 scRt.nd) (qb1 (pgN 6 scRt.nd) (qb1 (pgN 7 scRt.nd) qe9))))⟩,?_⟩;refine seqE ⟨_,⟨qd9 (PW.pt (qk9 (qb7 qT8 (PEb.go ⟨qa5 (qd2 rfl) (by rfl) B.max ZN (Ars2.go (.cons ⟨qa5 qm6 (by rfl) C.abs Xn (qa0 (qa6 qc0 (pxN qb0 (pv 6) qa1) (pv 1)) qa2)⟩ (.cons ⟨qa5 qm6 (by rfl) C.abs Xn (qa0 (qa6 qc0 (pxN qb0 (pv 6) qa1) (pv 2)) qa2)⟩ .nil rfl) rfl))⟩) (pv 5) (qb2 _))
   (qk9 (qb7 qj0 (PEb.go ⟨qa5 (q63 rfl) (by rfl) B.min Yh (qa0 (pv 6) qa2)⟩) qa1 (qb2 _)) (qg9 (qb7 xw4 (PEb.go ⟨qa5 (q61 rfl) (by rfl) B.max ZN (qa0 (pv 6) qa2)⟩) (pv 4) (qb2 _)))))) (qa8 (qa9 qm4)) qb8⟩,?_⟩
  refine seqE ⟨_,⟨qd9 (PW.pt (qk9 (qb7 qT8 (PEb.go ⟨pxN qb0 (PEb.go ⟨pcN GL jJ hL FL.kp bL (Ars2.go (.cons ⟨pv 0⟩ (.cons ⟨pxN qb0 (pv 6) qa1⟩ (.cons ⟨pxN qb0 (pv 6) qa1⟩ .nil rfl) rfl) rfl))⟩) qa1⟩) qa1 (qb2 _))
   (qg9 (qb7 (qL2 hr) (pv 7) (PEb.go ⟨qa5 (qB1 rfl hr) (by rfl) hso PyProof.Rows.boot_sorted (Ars2.go (.cons ⟨qc6 (qR8 rfl) (by rfl) B.set PyProof.Rows.boot_set (qa0 (pv 7) qa2)⟩ .nil rfl))⟩) (qb2 _))))) (qa8 (qa9 qm4)) qb8⟩,?_⟩
  refine seqE ⟨_,⟨psN 8 scRt.nd (pcN GA jJ hA FA.kp bA (qa0 (pv 1) (qa0 (pv 2) (qa0 (pv 5) (qa0 (pv 6) qa2)))))⟩,?_⟩;refine seqE ⟨_,⟨psN 9 scRt.nd qa1⟩,?_⟩;refine seqE ⟨_,⟨ql1 YK rfl (ql8 (pv 7)) (pgN 10 scRt.nd)
   (StB.go (.cons ⟨qi7 (PEb.go ⟨pcN GS jJ hS FS.kp bS (Ars2.go (.cons ⟨pxN qb0 (pv 0) qa1⟩ (.cons ⟨pv 10⟩ .nil rfl) rfl))⟩) (qi3 rfl (qb1 (pgN 11 scRt.nd) (qb1 (pgN 12 scRt.nd) (qb1 (pgN 13 scRt.nd) qe9))))⟩
   (.cons ⟨psN 14 scRt.nd (PEb.go ⟨pcN GH k8 hH FH.kp bH (Ars2.go (.cons ⟨pv 8⟩ (.cons ⟨qd8 (Ars2.go (.cons ⟨pv 11⟩ (.cons ⟨pv 12⟩ (.cons ⟨pv 13⟩ (.cons ⟨pv 13⟩ .nil rfl) rfl) rfl) rfl))⟩ .nil rfl) rfl))⟩)⟩
   (.cons ⟨qd9 (PW.pt (qk9 (qb7 (qL2 hr) (PEb.go ⟨pcN GL jJ hL FL.kp bL (Ars2.go (.cons ⟨pv 0⟩ (.cons ⟨pv 11⟩ (.cons ⟨pv 12⟩ .nil rfl) rfl) rfl))⟩) (PEb.go ⟨qd8 (Ars2.go (.cons ⟨pv 10⟩ (.cons ⟨qa1⟩ .nil rfl) rfl))⟩) (qb2 _)) (qg9 (qb7 qB8 (pv 14) qa1 (qb2 _))))) (qa8 (qa9 qm4)) qb8⟩
   (.one ⟨psN 9 scRt.nd (qa6 qc3 (pv 9) (pv 14))⟩)))))⟩,?_⟩
  refine qf9 ⟨_,⟨qa9 (qd7 qB8 (pv 9) (PEb.go ⟨pcN GH k8 hH FH.kp bH (Ars2.go (.cons ⟨pv 8⟩ (.cons ⟨qd8 (Ars2.go (.cons ⟨qa1⟩ (.cons ⟨qa1⟩ (.cons ⟨pv 4⟩ (.cons ⟨pv 4⟩ .nil rfl) rfl) rfl) rfl))⟩ .nil rfl) rfl))⟩) (qb2 _))⟩,?_⟩;obtain⟨⟨rp,ht,hR⟩,cn,hrl⟩:=id y6;have hn:=cn.size;have hdT:Tr.dep (T rows tp)<=n:=qu8 cn;have e1n:(1:Int)*2^((n:Nat):Int).toNat=((2^n:Nat):Int):=by rw[VI,ZB];simp
  have hSp:0<2^n:=YW (by decide);have hSm:=qo1 hn;refine⟨_,rfl,t,_,0,.int (n:Nat),rfl,rfl,SqT.of ht,rfl,_,_,rfl,rfl,⟨by lia,by lia,by decide⟩,?_⟩;refine qj8 (σ':=[some (.ref t),some (.int (r:Nat)),some (.int (c:Nat)),some x,some (.int ((2^n:Nat):Int)),none,none,none,none,none,none,none,none,none,none]) (Yk (λz:Int=>[some (V.ref t),some (V.int (r:Nat)),some (V.int (c:Nat)),some x,some (V.int z),none,none,none,none,none,none,none,none,none,none]) e1n) ?_;refine⟨_,rfl,t,_,1,.int (tp:Nat),rfl,rfl,SqT.of ht,rfl,rfl,_,rfl,?_⟩;rcases hx with ⟨rfl,hx⟩|⟨e0,p,pq,l,rfl,wI,wX,hm0,hp,hq,hl⟩
  ·have hz:=qo6 _ (q18 cn) hx;have:=T_pl (b:=false) cn.rok cn.inn hz;rw[show tp=0 from this];refine iteT ?_;exact⟨_,rfl,rfl,q H (Same.refl _)⟩
  ·have htp:tp≠0:=λz=>by
    subst z;rw[qg5] at wI;have:e0=([],false):=by simpa [lvT] using wI
    rw[this] at wX;cases wX
   obtain⟨h04,h0l⟩:=qv0 n _ _ hdT wI;obtain⟨⟨R,D,hRD,hRn,kR,hkF⟩,_⟩:=xg6 h04 h0l vC vH;obtain⟨k1,k2,k3⟩:=xb6 hkF;rw[k1] at hp;rw[k2,k3] at hq;rw[hkF] at hm0 hl;have htd:decide (V.int ((tp:Nat):Int)=V.int 0)=false:=Zn λz=>by
    have:=V.int.inj z;lia
   rw[htd];refine iteF ?_;refine⟨_,rfl,_,_,_,_,true,rfl,rfl,.inl (.tup hp),rfl,_,rfl,iteF ?_⟩;refine⟨_,rfl,p,_,rfl,.inr (SqT.of hp),rfl,_,rfl,iteF ?_⟩;refine⟨_,rfl,p,_,2,.ref l,rfl,rfl,SqT.of hp,rfl,_,_,_,_,true,rfl,rfl,.inl (.lst hl),rfl,_,rfl,iteF ?_⟩;refine⟨_,rfl,p,_,rfl,SqT.of hp,rfl,_,_,rfl,_,_,rfl,_,_,rfl,rfl,?_⟩;refine qj8 (σ':=[some (.ref t),some (.int (r:Nat)),some (.int (c:Nat)),some (.ref p),some (.int ((2^n:Nat):Int)),some (.int (dst r c R D)),some (.ref pq),some (.ref l),none,none,none,none,none,none,none]) rfl ?_;have hmx:(!decide (V.int (mxI (abI ((R:Int)-r)) (abI ((D:Int)-c)))=V.int (dst r c R D)))=false:=by
    rw[Zu (show V.int (mxI (abI ((R:Int)-r)) (abI ((D:Int)-c)))=V.int (dst r c R D) from rfl)]
    rfl
   refine⟨_,rfl,pq,_,0,.int R,rfl,rfl,SqT.of hq,rfl,_,rfl,_,_,rfl,rfl,_,rfl,_,rfl,pq,_,1,.int D,rfl,rfl,SqT.of hq,rfl,_,rfl,_,_,rfl,rfl,_,rfl,_,_,rfl,_,rfl,rfl,_,rfl,?_⟩;refine (λ(go:(if (!decide (V.int (mxI (abI ((R:Int)-r)) (abI ((D:Int)-c)))=V.int (dst r c R D)))=true then _ else _))=>go) ?_;rw[hmx];refine iteF ?_;have hmn:decide (least [(R:Int),(D:Int)] 1<0)=false:=Zn λz=>by
    have e:least [(R:Int),(D:Int)] 1=if (D:Int)<R then (D:Int) else R:=rfl
    rw[e] at z;split at z<;>lia
   refine⟨_,rfl,pq,[(R:Int),(D:Int)],rfl,hq,by simp,_,_,rfl,rfl,_,rfl,?_⟩;refine (λ(go:(if decide (least [(R:Int),(D:Int)] 1<0)=true then _ else _))=>go) ?_;rw[hmn];refine iteF ?_;have hbs:decide (((2^n:Nat):Int)<=best [(R:Int),(D:Int)] 1)=false:=Zn λz=>by
    have e:best [(R:Int),(D:Int)] 1=if (D:Int)>R then (D:Int) else R:=rfl
    rw[e] at z;split at z<;>lia
   refine⟨_,rfl,pq,[(R:Int),(D:Int)],rfl,hq,by simp,_,rfl,_,_,rfl,rfl,_,rfl,?_⟩;refine (λ(go:(if decide (((2^n:Nat):Int)<=best [(R:Int),(D:Int)] 1)=true then _ else _))=>go) ?_;rw[hbs];refine iteF ?_;refine⟨_,rfl,_,rfl,pq,_,0,.int R,rfl,rfl,SqT.of hq,rfl,_,rfl,pq,_,1,.int D,rfl,rfl,SqT.of hq,rfl,t,n,tp,R,D,rows,rfl,y6,hn,λH1 p1 y s1 hy hT jY=>?_⟩;have hy1:y=1:=by
    have h1:=(q34 (b:=e0.2) hdT hRn kR wI hRD).2;rw[h1,wX] at hT;exact T_pl (b:=true) cn.rok hy hT
   subst hy1;refine⟨p1,_,1,.int ((1:Nat):Int),rfl,rfl,SqT.of jY,rfl,rfl,_,rfl,?_⟩;refine iteF ?_;have hadm:∀x,x∈qR3 n r c (lvT (T rows tp)) (kC r c R D)->∃e∈lvT (T rows tp),e.1=x/\kF n r c x<kC r c R D:=λx hx=>by
    obtain⟨e,he,rfl⟩:=Ym.mp hx;obtain⟨h1,h2⟩:=YI.mp he;exact⟨e,h1,rfl,ZI h2⟩
   have hasc:(qR3 n r c (lvT (T rows tp)) (kC r c R D)).Pairwise (·<·):=List.Pairwise.sublist (List.Sublist.map _ List.filter_sublist) (qv1 _);obtain⟨Lx,hLx⟩:∃Lx,Lx=(lvT (T rows tp)).filter λe=>decide (kF n r c e.1<kC r c R D):=⟨_,rfl⟩;have hfw:qR3 n r c (lvT (T rows tp)) (kC r c R D)=Lx.map (·.1):=by rw[hLx];rfl
   have hwd:wdA r c (dst r c R D) R D=if abI ((R:Int)-r)<dst r c R D then mnI 1 ((D:Int)-c+dst r c R D) else (D:Int)-c+dst r c R D:=rfl
   have jL:=q59 hdT rfl hwd vC vH;rw[<- hLx] at jL;have hsi:∀ad,(∀d∈ad,d<4)->ad.length<=n->(kF n r c ad<kC r c R D<->_):=λad h4 hl=>qG5 rfl hwd h4 hl vC vH;generalize wL:ahd r c (dst r c R D) R D (wdA r c (dst r c R D) R D)=bs at jL hsi;have kH:bs.length<=100:=by rw[<- wL];show 3<=100;decide
   rw[hfw] at hl hadm hasc;have j9:(Lx.map (·.1)).length<=2000:=by
    rw[Zh,hLx];exact ZF (X6 _ _) (by rw[qj7];exact vW)
   have h44:∀x∈Lx.map (·.1),∀d∈x,d<4:=λx hx=>by
    obtain⟨e,h1,rfl,_⟩:=hadm x hx;exact (qv0 n _ e hdT h1).1
   have evt:=xu4 (Lx.map (·.1));refine⟨_,rfl,_,rfl,l,(Lx.map (·.1)).map txt,rfl,by rw[<- evt];exact s1 _ _ hl,by rw[Zh];exact Y1 (Nat.succ_le_succ j9) (by decide),λr2 k8=>⟨r2,_,rfl,qa3,λq5 us ls hq5 hus vX jK has=>?_⟩⟩;have hus2:us=vT (Lx.map (·.1)):=qR9 hasc hus vX jK has;subst hus2;have s5:Same H (upd (upd H1 r2 (TxH P w r2 ((Lx.map (·.1)).map txt))) q5 (.lst (vT (Lx.map (·.1))))):=(s1.trans (qb4 k8)).trans (qb4 hq5);have hlay:(PyData.list (dTx (Lx.map (·.1)))).canLay0=true:=xh7 _ h44;refine⟨_,_,.lst (s5 _ _ hl) (qB2 _),.lst qa3 (qB2 _),hlay,hlay,?_,_,rfl,?_⟩
   ·show PyData.depthAll (dTx (Lx.map (·.1)))+1<=60;rw[qO5];decide
   rw[PySem.SeqAt.eqv_refl _ hlay];refine iteF ?_;refine (λ(go:∀H2,Same H H2->_)=>go _ s5) ?_;clear s5;intro H2 s5;refine⟨_,rfl,_,rfl,_,rfl,_,rfl,pq,r,c,dst r c R D,R,D,rfl,s5 _ _ hq,λH3 la s3 hla=>?_⟩;rw[wL] at hla;have s03:Same H H3:=s5.trans s3;refine⟨_,rfl,l,rfl,⟨_,SqL.of (s03 _ _ hl)⟩,q76 (K:=K) (xs:=vT (Lx.map (·.1))) (λi σ H4=>Same H3 H4/\∃v10 v11 v12 v13 v14,σ=[some (.ref t),some (.int (r:Nat)),some (.int (c:Nat)),some (.ref p),some (.int ((2^n:Nat):Int)),some (.int (dst r c R D)),some (.ref pq),some (.ref l),some (.ref la),some (.int (sumL (λad=>shr bs (lfB n 0 0 ad)) (Lx.take i))),v10,v11,v12,v13,v14]) ⟨Same.refl _,none,none,none,none,none,rfl⟩ (λi σ H4 _ ⟨s4,_⟩=>SqL.of (s4 _ _ (s03 _ _ hl))) ?_ ?_⟩
   ·rintro i x σ H4 hx ⟨s4,v10,v11,v12,v13,v14,rfl⟩;unfold vT at hx;rw[Zg,Zg] at hx;obtain⟨ad,had,rfl⟩:=Zj.mp hx;obtain⟨e,he,rfl⟩:=Zj.mp had;have etk:Lx.take (i+1)=Lx.take i++[e]:=by rw[List.take_succ,he];rfl
    obtain⟨e',he',hee,jA⟩:=hadm e.1 (Ym.mpr ⟨e,Zr he,rfl⟩);rw[hLx] at he;obtain⟨kQ,_⟩:=YI.mp (Zr he);obtain⟨h4,hel2⟩:=qv0 n _ e hdT kQ;have hef:e.2=false:=by
     cases z:e.2 with
     |false=>rfl
     |true=>exact absurd jA (hm0 e kQ z)
    have jF:=(hsi e.1 h4 hel2).mp jA;have c1:rwo n e.1+2^(n-e.1.length)<=2^n:=qy1 qJ5 h4 hel2;have c2:clo n e.1+2^(n-e.1.length)<=2^n:=qy1 q32 h4 hel2;have hs0:0<2^(n-e.1.length):=YW (by decide);have hs1:=qo1 (n:=n-e.1.length) (by lia);have s04:=s03.trans s4;refine⟨_,rfl,t,_,0,.int (n:Nat),rfl,rfl,SqT.of (s04 _ _ ht),rfl,_,rfl,n,e.1,rfl,hn,h4,hel2,λpb wE=>?_⟩;refine⟨pb,_,rfl,SqT.of qa3,rfl,_,_,rfl,_,_,rfl,_,_,rfl,rfl,?_⟩;have s5':=s04.trans (qb4 (o:=.tup (vN [rwo n e.1,clo n e.1,2^(n-e.1.length)])) wE);have s35:=s4.trans (qb4 (o:=.tup (vN [rwo n e.1,clo n e.1,2^(n-e.1.length)])) wE);generalize upd H4 pb (.tup (vN [rwo n e.1,clo n e.1,2^(n-e.1.length)]))=H5 at s5' s35 ⊢;refine qj8 (σ':=[some (.ref t),some (.int (r:Nat)),some (.int (c:Nat)),some (.ref p),some (.int ((2^n:Nat):Int)),some (.int (dst r c R D)),some (.ref pq),some (.ref l),some (.ref la),some (.int (sumL (λad=>shr bs (lfB n 0 0 ad)) (Lx.take i))),some (.str (txt e.1)),some (.int ((rwo n e.1:Nat):Int)),some (.int ((clo n e.1:Nat):Int)),some (.int ((2^(n-e.1.length):Nat):Int)),v14]) rfl ?_;have elf:lfB n 0 0 e.1=⟨(rwo n e.1:Nat),(clo n e.1:Nat),((2^(n-e.1.length):Nat):Int),((2^(n-e.1.length):Nat):Int)⟩:=by unfold lfB;rw[Wq,Wq]
    refine⟨_,rfl,_,rfl,_,rfl,_,rfl,_,rfl,(by show 4<=sizeLine;decide),λk hk=>⟨la,k,bs,lfB n 0 0 e.1,rfl,hla.same (s35.trans (qb4 hk)),kH,by rw[qa3,elf];rfl,?_,?_,λH6 s6=>?_⟩⟩
    ·rw[elf];show (0:Int)<=((2^(n-e.1.length):Nat):Int);lia
    ·rw[elf];show ((2^(n-e.1.length):Nat):Int)<=4096;lia
    have s36:Same H3 H6:=(s35.trans (qb4 hk)).trans s6;have s06:Same H H6:=s03.trans s36;refine⟨_,rfl,_,rfl,_,rfl,t,n,tp,rwo n e.1,clo n e.1,rows,rfl,qB3 y6 s06.tups,hn,λH7 p7 y s7 hy hT wF=>?_⟩;obtain⟨l1,l2⟩:=q34 (r:=rwo n e.1) (c:=clo n e.1) (b:=e.2) hdT (by lia) (by lia) kQ ⟨Ze _,Nat.lt_add_of_pos_right hs0,Ze _,Nat.lt_add_of_pos_right hs0⟩;rw[l2,hef] at hT;have hy0:y=0:=T_pl (b:=false) cn.rok hy hT;subst hy0;rw[show (wdn (T rows tp) (dgp (rwo n e.1) (clo n e.1) 0 n)).2=e.1 from l1] at wF;have kS:(PyData.tuple [.str (txt e.1),.int ((0:Nat):Int)]).canLay0=true:=by
     show (PyData.strOk (txt e.1)&&true)=true;rw[xu5 h4]
     rfl
    refine⟨_,rfl,(by show 2<=sizeLine;decide),λk2 hk2=>⟨_,_,.tup (qd5 wF hk2) (.cons (.str _) (.cons (.int _) .nil)),.tup qa3 (.cons (.str _) (.cons (.int _) .nil)),kS,kS,by show 1<=60;decide,_,rfl,?_⟩⟩;rw[show PyData.eqv (.tuple [.str (txt e.1),.int ((0:Nat):Int)]) (.tuple [.str (txt e.1),.int 0])=true from PySem.SeqAt.eqv_refl _ kS];refine iteF ?_;refine⟨_,rfl,rfl,_,rfl,?_⟩;have hz:decide (V.int (shr bs (lfB n 0 0 e.1))=V.int 0)=false:=Zn λz=>jF (V.int.inj z);rw[hz];refine iteF ?_;refine⟨_,rfl,_,rfl,_,_,rfl,rfl,(s36.trans s7).trans (qb4 hk2),some (.str (txt e.1)),some (.int ((rwo n e.1:Nat):Int)),some (.int ((clo n e.1:Nat):Int)),some (.int ((2^(n-e.1.length):Nat):Int)),some (.int (shr bs (lfB n 0 0 e.1))),?_⟩;rw[etk,qo4];show _=[some (V.ref t),some (.int (r:Nat)),some (.int (c:Nat)),some (.ref p),some (.int ((2^n:Nat):Int)),some (.int (dst r c R D)),some (.ref pq),some (.ref l),some (.ref la),some (.int (_+(shr bs (lfB n 0 0 e.1)+0))),some (.str (txt e.1)),some (.int ((rwo n e.1:Nat):Int)),some (.int ((clo n e.1:Nat):Int)),some (.int ((2^(n-e.1.length):Nat):Int)),some (.int (shr bs (lfB n 0 0 e.1)))];rw[Vj]
    rfl
   ·rintro σ H4 ⟨s4,v10,v11,v12,v13,v14,rfl⟩;have el:Lx.take (vT (Lx.map (·.1))).length=Lx:=by unfold vT;rw[Zh,Zh,Wp]
    rw[el,jL];refine⟨_,rfl,_,rfl,_,rfl,_,rfl,(by show 4<=sizeLine;decide),λk hk=>⟨la,k,bs,⟨0,0,((2^n:Nat):Int),((2^n:Nat):Int)⟩,rfl,hla.same (s4.trans (qb4 hk)),kH,qa3,?_,?_,λH6 s6=>?_⟩⟩
    ·show (0:Int)<=((2^n:Nat):Int);lia
    ·show ((2^n:Nat):Int)<=4096;lia
    refine⟨rfl,?_⟩;rw[Zu rfl];exact q H6 (((s03.trans s4).trans (qb4 hk)).trans s6)
end
end Pr
namespace Qf
def qK3 (n:Nat) (b:Row):Prop:=∃r c h w,b=[r,c,h,w]/\1<=h/\1<=w/\r+h<=2^n/\c+w<=2^n
def xo2 (b:Row):Prop:=∃r c h w,b=[r,c,h,w]/\((h<=9/\w<=9)\/∃s i j,h=2^s/\w=2^s/\r=i*2^s/\c=j*2^s)
def xd6 (n:Nat) (bs:List Row):Prop:=(∀b∈bs,qK3 n b)/\((n<4/\bs.length<=64)\/(bs.length<=5/\∀b∈bs,xo2 b))
theorem qv8 (k:Nat):(1:Int)*2^((k:Int)).toNat=((2^k:Nat):Int):=by
 rw[ZB,VI];push_cast;rfl
theorem qk8 {n:Nat}(h:n<=12):2^n<=4096/\0<2^n:=⟨by
 have:=Wi (n:=2) (by decide) h;simpa using this,YW (by decide)⟩
end Qf
namespace Pr
open PySem L2 Qf
section
variable {P:Program}{w:World}{K:PySem.W.Frag}{mg:Str->Option Value}{base:Heap}
theorem scBox:FnScope ["_law_pot_here", "_law_n", "_law_most", "_law_side", "_law_size", "_law_row", "_law_column", "_law_high", "_law_wide"] ["_law_pot_here", "_law_n", "_law_most"] (qa4 lBox):=qc7
def xo3:Sp:=λvs H Q _=>∃(p:Addr) (n:Nat),vs=[.ref p,.int (n:Nat),.int 9]/\PurseAt H p/\n<=12 /\
 ∀(H':Hp) (t:Addr) (b:Row),But p H H'->PurseAt H' p->H' t=some (.tup (vN b))->qK3 n b->xo2 b->Q (.ref t) H'
theorem xu6 {f fD:Addr}{fd fdD:FuncData}(F:Fun K "_law_box" "_law_box" lBox f fd) (B:Blt mg) (hD:mg "_law_digit" = some (.ref fD)) (FD:Fun K "_law_digit" "_law_digit" qq2 fD fdD) (bD:Binds K fdD ["_law_pot_here", "_law_many"] []) :
  FnOk P w K mg base CX0 2 f fd ["_law_pot_here", "_law_n", "_law_most"] xo3:=by
 have GD:FnOk P w K mg base CX0 1 fD fdD ["_law_pot_here", "_law_many"] qm3:=qo7 FD;refine F.ok scBox (λvs H Q E h=>?_) (λcdv A outer s H vs Q E hr h=>?_)
 ·obtain⟨p,n,rfl,_⟩:=h
  rfl
 ·obtain⟨p,n,rfl,hp,hn,q⟩:=h;refine seqE ⟨_,⟨psN 3 scBox.nd (qa6 qf2 qa1 (pv 1))⟩,?_⟩;refine seqE ⟨_,⟨qd9 (qb7 qB8 (pcN GD hr hD FD.kp bD (qa0 (pv 0) (qa0 qa1 qa2))) qa1 (qb2 _))
   (StB.go (.cons ⟨psN 4 scBox.nd (pcN GD hr hD FD.kp bD (qa0 (pv 0) (qa0 (qa6 qc3 (pv 1) qa1) qa2)))⟩
    (.cons ⟨psN 5 scBox.nd (qa6 qf7 (pcN GD hr hD FD.kp bD (qa0 (pv 0) (qa0 (qa6 qf2 qa1 (qa6 qc0 (pv 1) (pv 4))) qa2))) (qa6 qf2 qa1 (pv 4)))⟩
    (.cons ⟨psN 6 scBox.nd (qa6 qf7 (pcN GD hr hD FD.kp bD (qa0 (pv 0) (qa0 (qa6 qf2 qa1 (qa6 qc0 (pv 1) (pv 4))) qa2))) (qa6 qf2 qa1 (pv 4)))⟩
    (.one ⟨qa9 (qd8 (Ars2.go (.cons ⟨pv 5⟩ (.cons ⟨pv 6⟩ (.cons ⟨qa6 qf2 qa1 (pv 4)⟩ (.cons ⟨qa6 qf2 qa1 (pv 4)⟩ .nil rfl) rfl) rfl) rfl)))⟩))))) qb8⟩,?_⟩
  refine seqE ⟨_,⟨psN 5 scBox.nd (pcN GD hr hD FD.kp bD (qa0 (pv 0) (qa0 (pv 3) qa2)))⟩,?_⟩;refine seqE ⟨_,⟨psN 6 scBox.nd (pcN GD hr hD FD.kp bD (qa0 (pv 0) (qa0 (pv 3) qa2)))⟩,?_⟩;refine seqE ⟨_,⟨psN 7 scBox.nd (qa6 qc3 qa1 (pcN GD hr hD FD.kp bD (qa0 (pv 0) (qa0 (qa5 (qe7 rfl) (by rfl) B.min Yh (qa0 (pv 2) (qa0 (qa6 qc0 (pv 3) (pv 5)) qa2))) qa2))))⟩,?_⟩;refine seqE ⟨_,⟨psN 8 scBox.nd (qa6 qc3 qa1 (pcN GD hr hD FD.kp bD (qa0 (pv 0) (qa0 (qa5 (qe7 rfl) (by rfl) B.min Yh (qa0 (pv 2) (qa0 (qa6 qc0 (pv 3) (pv 6)) qa2))) qa2))))⟩,?_⟩;refine qf9 ⟨_,⟨qa9 (qd8 (Ars2.go (.cons ⟨pv 5⟩ (.cons ⟨pv 6⟩ (.cons ⟨pv 7⟩ (.cons ⟨pv 8⟩ .nil rfl) rfl) rfl) rfl)))⟩,?_⟩;obtain⟨p1,p2⟩:=qk8 hn;refine⟨_,rfl,_,_,rfl,rfl,⟨by lia,by lia,by decide⟩,?_⟩;refine⟨_,rfl,p,2,rfl,hp,by decide,by decide,λd H1 hd b1 jY=>⟨rfl,_,rfl,?_⟩⟩;refine ite2 (λhc=>?_) (λhc=>?_)
  ·refine⟨_,rfl,_,rfl,_,_,rfl,rfl,p,n+1,rfl,jY,by lia,by lia,λz H2 hz b2 jN=>?_⟩;have hzn:z<=n:=by lia
   obtain⟨s1,s2⟩:=qk8 (ZF hzn hn);obtain⟨m1,m2⟩:=qk8 (ZF (Nat.sub_le n z) hn);have em:(1:Int)*2^((n:Int)-(z:Int)).toNat=((2^(n-z):Nat):Int):=by
    rw[<- qv8 (n-z)];congr 3;lia
   have ez:=qv8 z;have hsplit:2^(n-z)*2^z=2^n:=by rw[<- W6];congr 1;lia
   refine⟨_,rfl,_,rfl,_,rfl,_,_,rfl,rfl,_,_,rfl,rfl,⟨by lia,by lia,by decide⟩,p,2^(n-z),Yk (λx=>[V.ref p,V.int x]) em,jN,m2,by lia,λi H3 hi b3 k9=>?_⟩;refine⟨_,rfl,_,_,rfl,rfl,⟨by lia,by lia,by decide⟩,_,_,rfl,rfl,.inl ⟨by lia,by lia⟩,?_⟩;refine⟨_,rfl,_,rfl,_,rfl,_,_,rfl,rfl,_,_,rfl,rfl,⟨by lia,by lia,by decide⟩,p,2^(n-z),Yk (λx=>[V.ref p,V.int x]) em,k9,m2,by lia,λj H4 hj b4 kM=>?_⟩;refine⟨_,rfl,_,_,rfl,rfl,⟨by lia,by lia,by decide⟩,_,_,rfl,rfl,.inl ⟨by lia,by lia⟩,?_⟩;refine⟨_,rfl,_,rfl,_,rfl,_,_,rfl,rfl,⟨by lia,by lia,by decide⟩,_,rfl,_,_,rfl,rfl,⟨by lia,by lia,by decide⟩,(by show 4<=sizeLine;decide),λt ht=>?_⟩;have bnd:∀i,i<2^(n-z)->i*2^z+2^z<=2^n:=λi hi=>by
    rw[<- hsplit,<- Xu];exact Y7 _ hi
   refine q _ t [i*2^z,j*2^z,2^z,2^z] ((((b1.trans b2).trans b3).trans b4).trans (But.of (qb4 ht))) (kM.same (qb4 ht)) ?_ ⟨_,_,_,_,rfl,s2,s2,bnd i hi,bnd j hj⟩ ⟨_,_,_,_,rfl,.inr ⟨z,i,j,rfl,rfl,rfl,rfl⟩⟩;rw[qa3];show some (HO.tup [V.int ((i:Int)*(1*2^((z:Int)).toNat)),V.int ((j:Int)*(1*2^((z:Int)).toNat)),V.int (1*2^((z:Int)).toNat),V.int (1*2^((z:Int)).toNat)])=some (HO.tup [V.int ((i*2^z:Nat):Int),V.int ((j*2^z:Nat):Int),V.int ((2^z:Nat):Int),V.int ((2^z:Nat):Int)]);rw[ez];push_cast
   rfl
  ·have es:=qv8 n;have hside:[V.ref p,V.int ((1:Int)*2^((n:Int)).toNat)]=[V.ref p,V.int ((2^n:Nat):Int)]:=by rw[es]
   refine⟨_,rfl,_,rfl,p,2^n,hside,jY,p2,by lia,λr H2 k8 b2 jN=>?_⟩;refine⟨_,rfl,_,rfl,p,2^n,hside,jN,p2,by lia,λc H3 hc3 b3 k9=>?_⟩;have emin:∀r:Nat,r<2^n->[V.ref p,V.int (if (1:Int)*2^((n:Int)).toNat-(r:Int)<9 then (1:Int)*2^((n:Int)).toNat-(r:Int) else 9)]=[V.ref p,V.int ((min 9 (2^n-r):Nat):Int)]:=λr hr=>by
    rw[es];congr 3;split<;>lia
   refine⟨_,rfl,_,rfl,_,rfl,_,rfl,_,_,rfl,rfl,_,_,rfl,p,min 9 (2^n-r),emin r k8,k9,by lia,by lia,λh H4 hh b4 kM=>?_⟩;refine⟨_,_,rfl,rfl,?_⟩;refine⟨_,rfl,_,rfl,_,rfl,_,rfl,_,_,rfl,rfl,_,_,rfl,p,min 9 (2^n-c),emin c hc3,kM,by lia,by lia,λw' H5 hw b5 hp5=>?_⟩;refine⟨_,_,rfl,rfl,?_⟩;refine⟨_,rfl,_,rfl,_,rfl,_,rfl,(by show 4<=sizeLine;decide),λt ht=>?_⟩;refine q _ t [r,c,1+h,1+w'] (((((b1.trans b2).trans b3).trans b4).trans b5).trans (But.of (qb4 ht))) (hp5.same (qb4 ht)) ?_ ⟨_,_,_,_,rfl,by lia,by lia,by lia,by lia⟩ ⟨_,_,_,_,rfl,.inl ⟨by lia,by lia⟩⟩;rw[qa3]
   rfl
end
structure Grow (p D:Addr) (H:Hp) (ok:Row->Prop) (i:Nat) (xs:List V) (H2:Hp):Prop where
 but:But p H H2
 pot:PurseAt H2 p
 at_:H2 D=some (.lst xs)
 len:xs.length<=i
 its:∃(cs:List Addr) (bs:List Row),xs=cs.map V.ref/\cs.length=bs.length/\(∀b∈bs,ok b)/\∀(j:Nat) c b,cs[j]?=some c->bs[j]?=some b->H2 c=some (.tup (vN b))
theorem Grow.start {p D:Addr}{H:Hp}{ok:Row->Prop}(hp:PurseAt H p) (hD:H D=none):Grow p D H ok 0 [] (upd H D (.lst [])):=
 ⟨But.of (qb4 hD),hp.same (qb4 hD),qa3,Ze _,[],[],rfl,rfl,λb hb=>(nomatch hb),λj c b e=>by simp at e⟩
theorem Grow.kept {p D:Addr}{H H2 H3:Hp}{ok:Row->Prop}{i:Nat}{xs:List V}(g:Grow p D H ok i xs H2) (npD:p≠D) (b:But p H2 H3) (hp:PurseAt H3 p):Grow p D H ok (i+1) xs H3:=by
 obtain⟨b2,p2,a2,l2,cs,bs,e,hl,hok,hr⟩:=g;refine⟨b2.trans b,hp,b _ _ a2 (XC npD),by lia,cs,bs,e,hl,hok,λj c r e1 e2=>?_⟩;have:=hr j c r e1 e2;refine b _ _ this λz=>?_;obtain⟨x,y,e3,_⟩:=p2;rw[z,e3] at this;cases this
theorem Grow.more {p D t:Addr}{H H2 H3:Hp}{ok:Row->Prop}{i:Nat}{xs:List V}{r:Row}(g:Grow p D H ok i xs H2) (kR:H D=none) (npD:p≠D) (b:But p H2 H3) (hp:PurseAt H3 p) (ht:H3 t=some (.tup (vN r))) (hr:ok r) :
  H3 D=some (.lst xs)/\Grow p D H ok (i+1) (xs++[.ref t]) (upd H3 D (.lst (xs++[.ref t]))):=by
 have k:=g.kept npD b hp;obtain⟨b2,p2,a2,l2,cs,bs,rfl,hl,hok,hrr⟩:=k;have l1:=g.len;refine⟨a2,λc o e n=>?_,?_,qa3,by rw[Zz];show (cs.map V.ref).length+1<=_;lia,cs++[t],bs++[r],xa8 cs t,by rw[Zz,Zz,hl];rfl,?_,?_⟩
 ·rw[qb9 (qa7 e kR)];exact b2 c o e n
 ·obtain⟨x,y,e,rr⟩:=hp;exact⟨x,y,by rw[qb9 npD];exact e,rr⟩
 ·intro z hz;rcases Z5.mp hz with hz|hz
  ·exact hok z hz
  ·have:z=r:=by simpa using hz
   rw[this];exact hr
 ·intro j c q e1 e2;have nD:∀{c:Addr}{u:List V},H3 c=some (.tup u)->c≠D:=λ{c u} e z=>by rw[z,a2] at e;cases e
  by_cases hj:j<cs.length
  ·rw[ZD hj] at e1;rw[ZD (by lia)] at e2;have:=hrr j c q e1 e2;rw[qb9 (nD this)];exact this
  ·rw[ZH (by lia)] at e1;rw[ZH (by lia)] at e2;have hj0:j-cs.length=0:=by
    have:=(gS_ e1).1;simp at this;lia
   rw[hj0] at e1;rw[<- hl,hj0] at e2;have ec:c=t:=by simpa using e1.symm
   have eq:q=r:=by simpa using e2.symm
   rw[ec,eq,qb9 (nD ht)];exact ht
theorem Grow.rows {p D:Addr}{H H2:Hp}{ok:Row->Prop}{i:Nat}{xs:List V}(g:Grow p D H ok i xs H2):∃bs:List Row,RowsL H2 D bs/\(∀b∈bs,ok b)/\bs.length<=i:=by
 obtain⟨_,_,a2,l2,cs,bs,rfl,hl,hok,hr⟩:=g;exact⟨bs,⟨cs,a2,hl,hr⟩,hok,by rw[Zh] at l2;lia⟩
section
variable {P:Program}{w:World}{K:PySem.W.Frag}{mg:Str->Option Value}{base:Heap}
abbrev xh8:List Str:=["_law_pot_here", "_law_n", "_law_side"]
theorem scCells:FnScope xh8 ["_law_pot_here", "_law_n"] (qa4 qE4):=qc7
def q68:Sp:=λvs H Q _=>∃(p:Addr) (n:Nat),vs=[.ref p,.int (n:Nat)]/\PurseAt H p/\n<4 /\
 ∀(H':Hp) (l:Addr) (bs:List Row),But p H H'->PurseAt H' p->H l=none->RowsL H' l bs->(∀b∈bs,qK3 n b)->bs.length<=64->Q (.ref l) H'
theorem xd7 {f fD:Addr}{fd fdD:FuncData}(F:Fun K "_law_cells" "_law_cells" qE4 f fd) (B:Blt mg) (hD:mg "_law_digit" = some (.ref fD)) (FD:Fun K "_law_digit" "_law_digit" qq2 fD fdD) (bD:Binds K fdD ["_law_pot_here", "_law_many"] []) :
  FnOk P w K mg base CX0 2 f fd ["_law_pot_here", "_law_n"] q68:=by
 have GD:FnOk P w K mg base CX0 1 fD fdD ["_law_pot_here", "_law_many"] qm3:=qo7 FD;refine F.ok scCells (λvs H Q E h=>?_) (λcdv A outer s H vs Q E hr h=>?_)
 ·obtain⟨p,n,rfl,_⟩:=h
  rfl
 ·obtain⟨p,n,rfl,hp,hn,q⟩:=h;refine seqE ⟨_,⟨psN 2 scCells.nd (qa6 qf2 qa1 (pv 1))⟩,?_⟩;refine qf9 ⟨_,⟨qa9 (qD8 xh8 (qa4 qE4) rfl rfl rfl scCells.nd (qi8 (by rfl) B.range (qa0 (qa6 qf7 (pv 2) (pv 2)) qa2))
   (λcl C fp s₀ H₀=>qb7 qB8 (pcN GD hr hD FD.kp bD (qa0 (pv 1) (qa0 qa1 qa2))) qa1 (qb2 _))
   (λcl C fp s₀ H₀=>PEb.go ⟨qd8 (Ars2.go (.cons ⟨qa6 qi9 (pv 0) (pv 3)⟩ (.cons ⟨qa6 qx0 (pv 0) (pv 3)⟩ (.cons ⟨qa1⟩ (.cons ⟨qa1⟩ .nil rfl) rfl) rfl) rfl))⟩))⟩,?_⟩
  obtain⟨p1,p2⟩:=qk8 (show n<=12 by lia);have p8:2^n<=8:=by
   have:=Wi (n:=2) (by decide) (show n<=3 by lia);simpa using this
  have es:=qv8 n;refine⟨_,rfl,_,_,rfl,rfl,⟨by lia,by lia,by decide⟩,?_⟩;have hsz:(2^n*2^n:Nat)<=64:=by
   have:=Nat.mul_le_mul p8 p8;lia
  have esq:((1:Int)*2^((n:Int)).toNat)*(1*2^((n:Int)).toNat)=((2^n*2^n:Nat):Int):=by rw[es];push_cast;rfl
  have etn:(((1:Int)*2^((n:Int)).toNat)*(1*2^((n:Int)).toNat)).toNat=2^n*2^n:=by rw[esq,ZB]
  refine⟨_,rfl,_,rfl,_,_,rfl,rfl,.inl ⟨by lia,by lia⟩,_,rfl,by lia,by lia,λD kR=>?_⟩;have npD:p≠D:=by obtain⟨a,b,e,_⟩:=hp;exact qa7 e kR
  refine q60 (Grow p D H (qK3 n)) (by rw[etn];exact qd3 (by lia)) (Grow.start hp kR) (λi xs H2 g=>⟨g.at_,g.len⟩) ?_ ?_
  ·intro i xs H2 hi g os ho Q1 Q2 q1 q2;rw[etn] at hi;obtain⟨o1,rfl⟩:=L2.os1 ho
   ·
    refine⟨_,rfl,p,2,rfl,g.pot,by decide,by decide,λd H3 hd b3 k9=>⟨rfl,_,rfl,?_⟩⟩;refine ite2 (λ_=>?_) (λ_=>q1 H3 (g.kept npD b3 k9));refine⟨_,rfl,_,rfl,_,_,rfl,rfl,⟨by lia,by lia⟩,_,rfl,_,rfl,_,_,rfl,rfl,(by show (0:Int)<1*2^((n:Int)).toNat;lia),(by show 4<=sizeLine;decide),λt ht=>?_⟩;have wL:qK3 n [i/2^n,i%2^n,1,1]:=by
     refine⟨_,_,_,_,rfl,Ze _,Ze _,?_,?_⟩
     ·exact (Nat.div_lt_iff_lt_mul p2).mpr hi
     ·exact XU _ p2
    have e4:HO.tup [V.int ((0+(i:Int))/(1*2^((n:Int)).toNat)),V.int ((0+(i:Int))%(1*2^((n:Int)).toNat)),V.int 1,V.int 1]=HO.tup (vN [i/2^n,i%2^n,1,1]):=by
     rw[es,Wq];show HO.tup [V.int ((i:Int)/((2^n:Nat):Int)),V.int ((i:Int)%((2^n:Nat):Int)),V.int 1,V.int 1]=HO.tup [V.int ((i/2^n:Nat):Int),V.int ((i%2^n:Nat):Int),V.int 1,V.int 1];rw[VS,VT]
    show Q2 (.ref t) (upd H3 t (HO.tup [V.int ((0+(i:Int))/(1*2^((n:Int)).toNat)),V.int ((0+(i:Int))%(1*2^((n:Int)).toNat)),V.int 1,V.int 1]));rw[e4];have m:=g.more (t:=t) (r:=[i/2^n,i%2^n,1,1]) kR npD (b3.trans (But.of (qb4 ht))) (k9.same (qb4 ht)) qa3 wL;exact q2 _ _ m.1 m.2
  ·intro xs H2 g;obtain⟨bs,h1,h2,h3⟩:=g.rows;exact q H2 D bs g.but g.pot kR h1 h2 (by rw[etn] at h3;lia)
abbrev xh9:List Str:=["_law_pot_here", "_law_n"]
theorem scBoxes:FnScope xh9 ["_law_pot_here", "_law_n"] (qa4 qE5):=qc7
def q69:Sp:=λvs H Q _=>∃(p:Addr) (n:Nat),vs=[.ref p,.int (n:Nat)]/\PurseAt H p/\n<=12 /\
 ∀(H':Hp) (l:Addr) (bs:List Row),But p H H'->PurseAt H' p->H l=none->RowsL H' l bs->xd6 n bs->Q (.ref l) H'
theorem xd8 {f fD fC fB:Addr}{fd fdD fdC fdB:FuncData}(F:Fun K "_law_boxes" "_law_boxes" qE5 f fd) (B:Blt mg) (hD:mg "_law_digit" = some (.ref fD)) (FD:Fun K "_law_digit" "_law_digit" qq2 fD fdD) (bD:Binds K fdD ["_law_pot_here", "_law_many"] [])
  (hC:mg "_law_cells" = some (.ref fC)) (FC:Fun K "_law_cells" "_law_cells" qE4 fC fdC) (bC:Binds K fdC ["_law_pot_here", "_law_n"] [])
  (hB:mg "_law_box" = some (.ref fB)) (FB:Fun K "_law_box" "_law_box" lBox fB fdB) (bB:Binds K fdB ["_law_pot_here", "_law_n", "_law_most"] []) :
  FnOk P w K mg base CX0 3 f fd ["_law_pot_here", "_law_n"] q69:=by
 have GD:FnOk P w K mg base CX0 1 fD fdD ["_law_pot_here", "_law_many"] qm3:=qo7 FD;have GC:FnOk P w K mg base CX0 2 fC fdC ["_law_pot_here", "_law_n"] q68:=xd7 FC B hD FD bD;have GB:FnOk P w K mg base CX0 2 fB fdB ["_law_pot_here", "_law_n", "_law_most"] xo3:=xu6 FB B hD FD bD;refine F.ok scBoxes (λvs H Q E h=>?_) (λcdv A outer s H vs Q E hr h=>?_)
 ·obtain⟨p,n,rfl,_⟩:=h
  rfl
 ·obtain⟨p,n,rfl,hp,hn,q⟩:=h;have jJ:Room 1 _:=hr.mono (by decide);refine seqE ⟨_,⟨qd9 (PW.pt (xe3 (qb7 qj0 (pv 1) qa1 (qb2 _)) (qT0 (qb7 qB8 (pcN GD jJ hD FD.kp bD (qa0 (pv 0) (qa0 qa1 qa2))) qa1 (qb2 _)))))
   (qa8 (qa9 (pcN GC hr hC FC.kp bC (qa0 (pv 0) (qa0 (pv 1) qa2))))) qb8⟩,?_⟩
  refine qf9 ⟨_,⟨qa9 (qg3 xh9 (qa4 qE5) rfl rfl rfl scBoxes.nd (qi8 (by rfl) B.range (qa0 (pcN GD jJ hD FD.kp bD (qa0 (pv 0) (qa0 qa1 qa2))) qa2))
   (λcl C fp s₀ H₀=>pcN GB hr hB FB.kp bB (qa0 (pv 1) (qa0 (pv 2) (qa0 qa1 qa2)))))⟩,?_⟩
  have rest:∀H1,But p H H1->PurseAt H1 p->q83 (xp9 (qC0 (q79 qm3 [] E0 (qC0 (tVar 0) (qC0 (tC (.int 6)) tNil))) tNil)) (q79 xo3 [] E0 (qC0 (tVar 1) (qC0 (tVar 2) (qC0 (tC (.int 9)) tNil)))) [some (.ref p),some (.int (n:Nat))] H1 Q:=λH1 b1 jY=>by
   refine⟨_,rfl,p,6,rfl,jY,by decide,by decide,λd H2 hd b2 jN=>⟨_,rfl,by lia,by lia,λD kR=>?_⟩⟩;have npD:p≠D:=by obtain⟨a,b,e,_⟩:=jN;exact qa7 e kR
   have hDH:H D=none:=by
    cases e:H D with
    |none=>rfl
    |some o=>rw[(b1.trans b2) _ _ e (XC npD)] at kR;cases kR
   refine qO2 (Grow p D H2 (λb=>qK3 n b/\xo2 b)) (by rw[ZB];exact qd3 (by lia)) (Grow.start jN kR) (λi xs H2 g=>⟨g.at_,g.len⟩) ?_ ?_
   ·intro i xs H3 hi g Q2 q2;refine⟨_,rfl,_,rfl,p,n,rfl,g.pot,hn,λH4 t b b4 kM ht h1 h2=>?_⟩;have m:=g.more (t:=t) (r:=b) kR npD b4 kM ht ⟨h1,h2⟩;exact q2 _ _ m.1 m.2
   ·intro xs H3 g;obtain⟨bs,h1,h2,h3⟩:=g.rows;rw[ZB] at h3;exact q H3 D bs ((b1.trans b2).trans g.but) g.pot hDH h1 ⟨λb hb=>(h2 b hb).1,.inr ⟨by lia,λb hb=>(h2 b hb).2⟩⟩
  refine⟨_,rfl,_,_,rfl,rfl,_,rfl,?_⟩;refine ite2 (λhc=>?_) (λhc=>?_)
  ·have n4:n<4:=by have:=ZI hc;lia
   refine⟨_,rfl,p,2,rfl,hp,by decide,by decide,λd H1 hd b1 jY=>⟨rfl,_,rfl,?_⟩⟩;refine ite2 (λ_=>?_) (λ_=>rest H1 b1 jY);refine⟨_,rfl,_,rfl,p,n,rfl,jY,n4,λH2 l bs b2 jN hl hR hb j9=>q H2 l bs (b1.trans b2) jN ?_ hR ⟨hb,.inl ⟨n4,j9⟩⟩⟩;cases e:H l with
   |none=>rfl
   |some o=>
    have nlp:l≠p:=by obtain⟨a,b,e2,_⟩:=jY;exact (qa7 e2 hl).symm
    rw[b1 _ _ e nlp] at hl;cases hl
  ·exact iteF (rest H (But.refl p H) hp)
end
theorem qs1 (v M:Int) (h:0<=M):0<=(if M<(if 0>v then 0 else v) then M else (if 0>v then 0 else v))/\(if M<(if 0>v then 0 else v) then M else (if 0>v then 0 else v))<=M:=by
 split<;>split at *<;>lia
section
variable {P:Program}{w:World}{K:PySem.W.Frag}{mg:Str->Option Value}{base:Heap}
abbrev nNr:List Str:=["_law_pot_here", "_law_boxes_here", "_law_n", "_law_row", "_law_column", "_law_box_here"]
abbrev nNr3:List Str:=["_law_pot_here", "_law_boxes_here", "_law_n"]
theorem scNr:FnScope nNr nNr3 (qa4 q94):=qc7
def spNr:Sp:=λvs H Q _=>∃(p bp:Addr) (n:Nat) (boxes:List Row),vs=[.ref p,.ref bp,.int (n:Nat)]/\PurseAt H p/\RowsL H bp boxes/\bp≠p/\(∀b∈boxes,qK3 n b)/\boxes.length<=900/\n<=12 /\
 ∀(H':Hp) (q:Addr) (r c:Nat),But p H H'->PurseAt H' p->r<2^n->c<2^n->H' q=some (.tup (vN [r,c]))->Q (.ref q) H'
theorem xA7 {f fD:Addr}{fd fdD:FuncData}(F:Fun K "_law_near_box" "_law_near_box" q94 f fd) (B:Blt mg) (hD:mg "_law_digit" = some (.ref fD)) (FD:Fun K "_law_digit" "_law_digit" qq2 fD fdD) (bD:Binds K fdD ["_law_pot_here", "_law_many"] []) :
  FnOk P w K mg base CX0 2 f fd nNr3 spNr:=by
 have GD:FnOk P w K mg base CX0 1 fD fdD ["_law_pot_here", "_law_many"] qm3:=qo7 FD;refine F.ok scNr (λvs H Q E h=>?_) (λcdv A outer s H vs Q E hr h=>?_)
 ·obtain⟨p,bp,n,boxes,rfl,_⟩:=h
  rfl
 ·obtain⟨p,bp,n,boxes,rfl,hp,hR,vP,jU,kH,hn,q⟩:=h;refine seqE ⟨_,⟨psN 3 scNr.nd (PEb.go ⟨pcN GD hr hD FD.kp bD (qa0 (pv 0) (qa0 (qa6 qf2 qa1 (pv 2)) qa2))⟩)⟩,?_⟩;refine seqE ⟨_,⟨psN 4 scNr.nd (PEb.go ⟨pcN GD hr hD FD.kp bD (qa0 (pv 0) (qa0 (qa6 qf2 qa1 (pv 2)) qa2))⟩)⟩,?_⟩;refine seqE ⟨_,⟨qd9 (PW.pt (xe3 (qb7 (qL2 hr) (pv 1) (qi4 qa2) (qb2 _)) (qT0 (qb7 q77 (PEb.go ⟨pcN GD hr hD FD.kp bD (qa0 (pv 0) (qa0 qa1 qa2))⟩) qa1 (qb2 _)))))
   (StB.go (.cons ⟨psN 5 scNr.nd (PEb.go ⟨pxN qf1 (pv 1) (PEb.go ⟨pcN GD hr hD FD.kp bD (Ars2.go (.cons ⟨pv 0⟩ (.cons ⟨qa5 qc9 (by rfl) B.len Yy (qa0 (pv 1) qa2)⟩ .nil rfl) rfl))⟩)⟩)⟩
   (.cons ⟨psN 3 scNr.nd (PEb.go ⟨qa5 (qe7 rfl) (by rfl) B.min Yh (Ars2.go (.cons ⟨qa5 (qd2 rfl) (by rfl) B.max ZN (Ars2.go (.cons ⟨qa6 qc0 (PEb.go ⟨qa6 qc3 (PEb.go ⟨pxN qb0 (pv 5) qa1⟩) (PEb.go ⟨pxN qf1 (PEb.go ⟨qi4 (Ars2.go (.cons ⟨qa1⟩ (.cons ⟨pxN qb0 (pv 5) qa1⟩ .nil rfl) rfl))⟩) (PEb.go ⟨pcN GD hr hD FD.kp bD (qa0 (pv 0) (qa0 qa1 qa2))⟩)⟩)⟩) (PEb.go ⟨pcN GD hr hD FD.kp bD (qa0 (pv 0) (qa0 qa1 qa2))⟩)⟩ (.cons ⟨qa1⟩ .nil rfl) rfl))⟩ (.cons ⟨qa6 qc0 (qa6 qf2 qa1 (pv 2)) qa1⟩ .nil rfl) rfl))⟩)⟩
   (.one ⟨psN 4 scNr.nd (PEb.go ⟨qa5 (qe7 rfl) (by rfl) B.min Yh (Ars2.go (.cons ⟨qa5 (qd2 rfl) (by rfl) B.max ZN (Ars2.go (.cons ⟨qa6 qc0 (PEb.go ⟨qa6 qc3 (PEb.go ⟨pxN qb0 (pv 5) qa1⟩) (PEb.go ⟨pxN qf1 (PEb.go ⟨qi4 (Ars2.go (.cons ⟨qa1⟩ (.cons ⟨pxN qb0 (pv 5) qa1⟩ .nil rfl) rfl))⟩) (PEb.go ⟨pcN GD hr hD FD.kp bD (qa0 (pv 0) (qa0 qa1 qa2))⟩)⟩)⟩) (PEb.go ⟨pcN GD hr hD FD.kp bD (qa0 (pv 0) (qa0 qa1 qa2))⟩)⟩ (.cons ⟨qa1⟩ .nil rfl) rfl))⟩ (.cons ⟨qa6 qc0 (qa6 qf2 qa1 (pv 2)) qa1⟩ .nil rfl) rfl))⟩)⟩)))) qb8⟩,?_⟩
  refine qf9 ⟨_,⟨qa9 (qd8 (Ars2.go (.cons ⟨pv 3⟩ (.cons ⟨pv 4⟩ .nil rfl) rfl)))⟩,?_⟩;have h2n:=qo1 hn;have h2p:0<2^n:=YW (by decide);have e1n:(1:Int)*2^((n:Nat):Int).toNat=((2^n:Nat):Int):=by rw[VI,ZB];simp
  have eD:∀p:Addr,[V.ref p,V.int ((1:Int)*2^((n:Nat):Int).toNat)]=[V.ref p,V.int ((2^n:Nat):Int)]:=λp=>by rw[e1n]
  have hpt:∀{H1 H2:Hp},PurseAt H1 p->But p H1 H2->Tups H1 H2:=λ{H1 H2} h b=>by
   obtain⟨x,y,h1,_⟩:=h;exact b.tups h1 (λu z=>by cases z)
  have wQ:∀{H1 H2:Hp},PurseAt H1 p->Same H1 H2->PurseAt H2 p:=λ{H1 H2} h s=>by
   obtain⟨x,y,h1,h2⟩:=h;exact⟨x,y,s _ _ h1,h2⟩
  have hpr:∀{H1 H2:Hp},RowsL H1 bp boxes->PurseAt H1 p->But p H1 H2->RowsL H2 bp boxes:=λ{H1 H2} hR h b=>by
   obtain⟨x,y,h1,_⟩:=h;exact hR.but b vP h1 (λu z=>by cases z)
  have fin:∀(H':Hp) (r c:Int) (q':Addr),But p H H'->PurseAt H' p->0<=r->r<=((2^n:Nat):Int)-1->0<=c->c<=((2^n:Nat):Int)-1->H' q'=none->Q (.ref q') (upd H' q' (.tup [.int r,.int c])):=λH' r c q' b hp' r0 r1 c0 c1 hq=>by
   refine q _ q' r.toNat c.toNat (b.trans (But.of (qb4 hq))) (wQ hp' (qb4 hq)) (by lia) (by lia) ?_;rw[qa3];show some (HO.tup [.int r,.int c])=some (HO.tup [.int (r.toNat:Int),.int (c.toNat:Int)]);rw[show ((r.toNat:Nat):Int)=r by lia,show ((c.toNat:Nat):Int)=c by lia]
  refine⟨_,rfl,_,rfl,_,_,rfl,rfl,⟨by lia,by lia,by decide⟩,p,2^n,eD p,hp,h2p,by lia,λr H1 jJ b1 jY=>?_⟩;refine⟨_,rfl,_,rfl,_,_,rfl,rfl,⟨by lia,by lia,by decide⟩,p,2^n,eD p,jY,h2p,by lia,λc H2 hc2 b2 jN=>?_⟩;have B2:=b1.trans b2;have hR2:=hpr (hpr hR hp b1) jY b2;refine⟨_,rfl,(by show 0<=sizeLine;decide),λl hl=>?_⟩;have B3:But p H (upd H2 l (.lst [])):=B2.trans (But.of (qb4 hl));have k9:=wQ jN (qb4 (o:=.lst []) hl);have vS:=hR2.same (qb4 (o:=.lst []) hl);have hl3:upd H2 l (.lst []) l=some (.lst []):=qa3;generalize upd H2 l (.lst [])=H3 at B3 k9 vS hl3 ⊢;refine⟨_,_,qk4 vS,.lst hl3 .nil,qo0 _,rfl,qi0 _,_,rfl,?_⟩;rw[qJ2];cases boxes with
  |nil=>exact iteF (iteF ⟨_,rfl,_,rfl,(by show 2<=sizeLine;decide),λq' hq=>fin H3 _ _ q' B3 k9 (by lia) (by lia) (by lia) (by lia) hq⟩)
  |cons b0 bs0=>
   refine iteT ?_;refine⟨_,rfl,p,4,rfl,k9,by decide,by decide,λd4 H4 jV b4 kM=>?_⟩;refine⟨_,_,rfl,rfl,_,rfl,?_⟩;have B4:=B3.trans b4;refine ite2 (λhc=>?_) (λhc=>⟨_,rfl,_,rfl,(by show 2<=sizeLine;decide),λq' hq=>fin H4 _ _ q' B4 kM (by lia) (by lia) (by lia) (by lia) hq⟩);have hR4:=hpr vS k9 b4;obtain⟨as,ha,vR,jE⟩:=id hR4;refine⟨_,rfl,_,rfl,_,rfl,bp,_,rfl,.inl (SqL.of ha),p,(as.map V.ref).length,rfl,kM,?_,?_,λj H5 hj b5 hp5=>?_⟩
   ·rw[Zh,vR];exact VZ _
   ·rw[Zh,vR];exact Y1 kH (by decide)
   ·rw[Zh] at hj;have haj:as[j]?=some as[j]:=Zd hj;have wY:(b0::bs0)[j]?=some ((b0::bs0)[j]'(by rw[<- vR];exact hj)):=Zd _;have kG:=jE j _ _ haj wY;obtain⟨x0,x1,x2,x3,eb,_⟩:=jU _ (Zr wY);rw[eb] at kG;generalize as[j]=ba at haj kG;have t5:=hpt kM b5;have hbt5:=t5 _ _ kG;have B5:=B4.trans b5;have ha5:=b5 _ _ ha vP;refine⟨bp,_,(j:Int),.ref ba,rfl,rfl,SqL.of ha5,ql9 (by rw[Zg,haj];rfl),?_⟩;refine⟨_,rfl,ba,_,0,_,rfl,rfl,SqT.of hbt5,rfl,_,rfl,ba,_,2,_,rfl,rfl,SqT.of hbt5,rfl,(by show 2<=sizeLine;decide),λl6 hl6=>?_⟩;have B6:=B5.trans (But.of (qb4 (o:=.lst [.int 0,.int (x2:Nat)]) hl6));have vV:=wQ hp5 (qb4 (o:=.lst [.int 0,.int (x2:Nat)]) hl6);have hb6:=qd5 (u:=.lst [.int 0,.int (x2:Nat)]) hbt5 hl6;have hl6':upd H5 l6 (.lst [.int 0,.int (x2:Nat)]) l6=some (.lst [.int 0,.int (x2:Nat)]):=qa3;have nl6:l6≠p:=λz=>by
     obtain⟨u,v,h1,_⟩:=hp5;rw[z] at hl6;rw[hl6] at h1;cases h1
    generalize upd H5 l6 (.lst [.int 0,.int (x2:Nat)])=H6 at B6 vV hb6 hl6' ⊢;have two:∀(d x:Nat),d<2->atI [V.int 0,V.int (x:Nat)] (d:Int)=some (.int (if d=0 then 0 else (x:Int))):=λd x h=>by
     match d,h with
     |0,_=>rfl
     |1,_=>rfl
    refine⟨_,rfl,p,2,rfl,vV,by decide,by decide,λd7 H7 w5 b7 wF=>?_⟩;refine⟨l6,_,(d7:Int),_,rfl,rfl,SqL.of (b7 _ _ hl6' nl6),two d7 x2 w5,_,_,rfl,rfl,?_⟩;refine⟨_,rfl,p,2,rfl,wF,by decide,by decide,λd8 H8 hd8 b8 hp8=>?_⟩;refine⟨_,_,rfl,rfl,_,_,rfl,_,rfl,_,_,rfl,rfl,⟨by lia,by lia,by decide⟩,_,_,rfl,rfl,_,_,rfl,?_⟩;have t7:=hpt vV b7;have t8:=hpt wF b8;have hb8:=t8 _ _ (t7 _ _ hb6);have B8:=(B6.trans b7).trans b8;rw[e1n];generalize hz1:(((x0:Nat):Int)+(if d7=0 then 0 else (x2:Int))-((d8:Nat):Int))=z1;refine⟨_,rfl,ba,_,1,_,rfl,rfl,SqT.of hb8,rfl,_,rfl,ba,_,3,_,rfl,rfl,SqT.of hb8,rfl,(by show 2<=sizeLine;decide),λl9 hl9=>?_⟩;have B9:=B8.trans (But.of (qb4 (o:=.lst [.int 0,.int (x3:Nat)]) hl9));have hp9:=wQ hp8 (qb4 (o:=.lst [.int 0,.int (x3:Nat)]) hl9);have hl9':upd H8 l9 (.lst [.int 0,.int (x3:Nat)]) l9=some (.lst [.int 0,.int (x3:Nat)]):=qa3;have nl9:l9≠p:=λz=>by
     obtain⟨u,v,h1,_⟩:=hp8;rw[z] at hl9;rw[hl9] at h1;cases h1
    generalize upd H8 l9 (.lst [.int 0,.int (x3:Nat)])=H9 at B9 hp9 hl9' ⊢;refine⟨_,rfl,p,2,rfl,hp9,by decide,by decide,λda Ha kE ba' hpa=>?_⟩;refine⟨l9,_,(da:Int),_,rfl,rfl,SqL.of (ba' _ _ hl9' nl9),two da x3 kE,_,_,rfl,rfl,?_⟩;refine⟨_,rfl,p,2,rfl,hpa,by decide,by decide,λdb Hb vA bb wE=>?_⟩;refine⟨_,_,rfl,rfl,_,_,rfl,_,rfl,_,_,rfl,rfl,⟨by lia,by lia,by decide⟩,_,_,rfl,rfl,_,_,rfl,?_⟩;rw[e1n];have hM:(0:Int)<=((2^n:Nat):Int)-1:=by lia
    refine⟨_,rfl,_,rfl,(by show 2<=sizeLine;decide),λq' hq=>fin Hb _ _ q' ((B9.trans ba').trans bb) wE (qs1 _ _ hM).1 (qs1 _ _ hM).2 (qs1 _ _ hM).1 (qs1 _ _ hM).2 hq⟩
end
end Pr
namespace Qf
open Tr
def qi5 (r c s:Nat) (b:Row):Bool:=decide (b.getD 0 0<r+s/\r<b.getD 0 0+b.getD 2 0/\c<b.getD 1 0+b.getD 3 0/\b.getD 1 0<c+s)
def hasB (r c s:Nat) (b:Row):Bool:=decide (b.getD 0 0<=r/\r+s<=b.getD 0 0+b.getD 2 0/\b.getD 1 0<=c/\c+s<=b.getD 1 0+b.getD 3 0)
def mk (a b c d:Tr):Tr:=if a=z/\b=z/\c=z/\d=z then z else if a=o/\b=o/\c=o/\d=o then o else .nd a b c d
def met (boxes:List Row) (r c s:Nat):List Row:=boxes.filter (qi5 r c s)
def bt:Nat->List Row->Nat->Nat->Tr
 |0,boxes,r,c=>if met boxes r c 1=[] then z else if (met boxes r c 1).any (hasB r c 1) then o else z
 |k+1,boxes,r,c=>if met boxes r c (2^(k+1))=[] then z else if (met boxes r c (2^(k+1))).any (hasB r c (2^(k+1))) then o else
   mk (bt k (met boxes r c (2^(k+1))) r c) (bt k (met boxes r c (2^(k+1))) r (c+2^k)) (bt k (met boxes r c (2^(k+1))) (r+2^k) c) (bt k (met boxes r c (2^(k+1))) (r+2^k) (c+2^k))
theorem xu7 {a b c d:Tr}(ha:Red a) (hb:Red b) (hc:Red c) (hd:Red d):Red (mk a b c d):=by
 unfold mk;split
 ·trivial
 ·split
  ·trivial
  ·exact⟨by assumption,by assumption,ha,hb,hc,hd⟩
theorem qH0:∀(k:Nat) (boxes:List Row) (r c:Nat),Red (bt k boxes r c)
 |0,boxes,r,c=>by
  unfold bt;split
  ·trivial
  ·split<;>trivial
 |k+1,boxes,r,c=>by
  unfold bt;split
  ·trivial
  ·split
   ·trivial
   ·exact xu7 (qH0 k _ _ _) (qH0 k _ _ _) (qH0 k _ _ _) (qH0 k _ _ _)
theorem xu8 {a b c d:Tr}{k:Nat}(ha:dep a<=k) (hb:dep b<=k) (hc:dep c<=k) (hd:dep d<=k):dep (mk a b c d)<=k+1:=by
 unfold mk;split
 ·show 0<=_;lia
 ·split
  ·show 0<=_;lia
  ·show 1+mx [dep a,dep b,dep c,dep d]<=k+1;have:=xs1 (l:=[dep a,dep b,dep c,dep d]) (b:=k) (by
    intro x hx;have:x=dep a\/x=dep b\/x=dep c\/x=dep d:=by simpa using hx
    rcases this with rfl|rfl|rfl|rfl<;>assumption)
   lia
theorem qH1:∀(k:Nat) (boxes:List Row) (r c:Nat),dep (bt k boxes r c)<=k
 |0,boxes,r,c=>by
  unfold bt;split
  ·exact Ze 0
  ·split<;>exact Ze 0
 |k+1,boxes,r,c=>by
  unfold bt;split
  ·exact Zv _
  ·split
   ·exact Zv _
   ·exact xu8 (qH1 k _ _ _) (qH1 k _ _ _) (qH1 k _ _ _) (qH1 k _ _ _)
def nds:Tr->Nat
 |.nd a b c d=>1+nds a+nds b+nds c+nds d
 |_=>0
theorem qp8:∀(t:Tr) (e:List Tr),(post t e).length<=e.length+nds t
 |.z,e=>Ze _
 |.o,e=>Ze _
 |.nd a b c d,e=>by
  unfold post;split
  ·exact Yr _ _
  ·have h1:=qp8 a e;have h2:=qp8 b (post a e);have h3:=qp8 c (post b (post a e));have h4:=qp8 d (post c (post b (post a e)));rw[Zz];show _+1<=e.length+(1+nds a+nds b+nds c+nds d);lia
theorem xi0 (a b c d:Tr):nds (mk a b c d)<=1+nds a+nds b+nds c+nds d:=by
 unfold mk;split
 ·exact Zv _
 ·split
  ·exact Zv _
  ·exact Ze _
def cnt (b:Row):Nat->Nat->Nat->Nat
 |0,_,_=>0
 |k+1,r,c=>if qi5 r c (2^(k+1)) b=true/\hasB r c (2^(k+1)) b=false then 1+cnt b k r c+cnt b k r (c+2^k)+cnt b k (r+2^k) c+cnt b k (r+2^k) (c+2^k) else 0
def cnts (boxes:List Row) (k r c:Nat):Nat:=(boxes.map λb=>cnt b k r c).sum
theorem qK4 {p:Row->Bool}(boxes:List Row) (k r c:Nat):cnts (boxes.filter p) k r c<=cnts boxes k r c:=by
 induction boxes with
 |nil=>exact Ze _
 |cons b bs ih=>
  unfold cnts at ih ⊢;rw[YD];split
  ·simp only[Zy,X4];lia
  ·simp only[Zy,X4];lia
theorem qS0 {boxes:List Row}{k r c:Nat}(hm:∀b∈boxes,qi5 r c (2^(k+1)) b=true/\hasB r c (2^(k+1)) b=false) :
  cnts boxes (k+1) r c=boxes.length+cnts boxes k r c+cnts boxes k r (c+2^k)+cnts boxes k (r+2^k) c+cnts boxes k (r+2^k) (c+2^k):=by
 induction boxes with
 |nil=>rfl
 |cons b bs ih=>
  have h1:=ih λx hx=>hm x (Zl _ hx);have e:cnt b (k+1) r c=1+cnt b k r c+cnt b k r (c+2^k)+cnt b k (r+2^k) c+cnt b k (r+2^k) (c+2^k):=by
   show (if _ then _ else _)=_;rw[Zx (hm b ZC)]
  unfold cnts at h1 ⊢;simp only[Zy,X4,ZW,e,h1];lia
theorem qH2:∀(k:Nat) (boxes:List Row) (r c:Nat),nds (bt k boxes r c)<=cnts boxes k r c
 |0,boxes,r,c=>by
  unfold bt;split
  ·exact Zv _
  ·split<;>exact Zv _
 |k+1,boxes,r,c=>by
  unfold bt;split
  ·exact Zv _
  ·rename_i jF;split
   ·exact Zv _
   ·rename_i hany;refine ZF (xi0 _ _ _ _) ?_;have h1:=qH2 k (met boxes r c (2^(k+1))) r c;have h2:=qH2 k (met boxes r c (2^(k+1))) r (c+2^k);have h3:=qH2 k (met boxes r c (2^(k+1))) (r+2^k) c;have h4:=qH2 k (met boxes r c (2^(k+1))) (r+2^k) (c+2^k);have h5:cnts (met boxes r c (2^(k+1))) (k+1) r c<=cnts boxes (k+1) r c:=qK4 _ _ _ _;have hm:∀b∈met boxes r c (2^(k+1)),qi5 r c (2^(k+1)) b=true/\hasB r c (2^(k+1)) b=false:=λb hb=>by
     refine⟨(YI.mp hb).2,?_⟩;cases hh:hasB r c (2^(k+1)) b with
     |false=>rfl
     |true=>exact absurd (Wo.mpr ⟨b,hb,hh⟩) hany
    rw[qS0 hm] at h5;have hl:0<(met boxes r c (2^(k+1))).length:=Xg.mpr jF;lia
def sz:Nat->Nat
 |0=>0
 |k+1=>4*sz k+1
theorem qS1:∀(k:Nat) (boxes:List Row) (r c:Nat),nds (bt k boxes r c)<=sz k
 |0,boxes,r,c=>by
  unfold bt;split
  ·exact Zv _
  ·split<;>exact Zv _
 |k+1,boxes,r,c=>by
  unfold bt;split
  ·exact Zv _
  ·split
   ·exact Zv _
   ·refine ZF (xi0 _ _ _ _) ?_;have h1:=qS1 k (met boxes r c (2^(k+1))) r c;have h2:=qS1 k (met boxes r c (2^(k+1))) r (c+2^k);have h3:=qS1 k (met boxes r c (2^(k+1))) (r+2^k) c;have h4:=qS1 k (met boxes r c (2^(k+1))) (r+2^k) (c+2^k);show _<=4*sz k+1;lia
def lin (a h j:Nat):Nat->Nat->Nat
 |0,x=>0
 |k+1,x=>if j=k+1 then (if a<x+2^(k+1)/\x<a+h then 1 else 0) else lin a h j k x+lin a h j k (x+2^k)
def squ (a h c w:Nat):Nat->Nat->Nat->Nat->Nat
 |0,_,_,_=>0
 |j+1,k,x,y=>squ a h c w j k x y+lin a h (j+1) k x*lin c w (j+1) k y
theorem qH3 (a h c w:Nat):∀(j k x y:Nat),j<=k->squ a h c w j (k+1) x y=squ a h c w j k x y+squ a h c w j k x (y+2^k)+squ a h c w j k (x+2^k) y+squ a h c w j k (x+2^k) (y+2^k)
 |0,k,x,y,_=>rfl
 |j+1,k,x,y,hj=>by
  have ih:=qH3 a h c w j k x y (by lia);have e1:∀a h x,lin a h (j+1) (k+1) x=lin a h (j+1) k x+lin a h (j+1) k (x+2^k):=λa h x=>by
   show (if j+1=k+1 then _ else _)=_;rw[Zk (by lia)]
  show squ a h c w j (k+1) x y+lin a h (j+1) (k+1) x*lin c w (j+1) (k+1) y=_;rw[ih,e1,e1];show _=(squ a h c w j k x y+lin a h (j+1) k x*lin c w (j+1) k y)+(squ a h c w j k x (y+2^k)+lin a h (j+1) k x*lin c w (j+1) k (y+2^k))+(squ a h c w j k (x+2^k) y+lin a h (j+1) k (x+2^k)*lin c w (j+1) k y)+(squ a h c w j k (x+2^k) (y+2^k)+lin a h (j+1) k (x+2^k)*lin c w (j+1) k (y+2^k));generalize lin a h (j+1) k x=p,lin a h (j+1) k (x+2^k)=p',lin c w (j+1) k y=q,lin c w (j+1) k (y+2^k)=q';rw[VC,Wb,Wb];lia
theorem qv9 (a c h w:Nat):∀(k x y:Nat),cnt [a,c,h,w] k x y<=squ a h c w k k x y
 |0,x,y=>Ze _
 |k+1,x,y=>by
  show (if qi5 x y (2^(k+1)) [a,c,h,w]=true/\_ then _ else _)<=squ a h c w k (k+1) x y+lin a h (k+1) (k+1) x*lin c w (k+1) (k+1) y;split
  ·rename_i hm;have m:a<x+2^(k+1)/\x<a+h/\y<c+w/\c<y+2^(k+1):=ZI hm.1;have e1:lin a h (k+1) (k+1) x=1:=by
    show (if k+1=k+1 then (if _ then 1 else 0) else _)=1;rw[Zx rfl,Zx ⟨m.1,m.2.1⟩]
   have e2:lin c w (k+1) (k+1) y=1:=by
    show (if k+1=k+1 then (if _ then 1 else 0) else _)=1;rw[Zx rfl,Zx ⟨m.2.2.2,m.2.2.1⟩]
   rw[qH3 a h c w k k x y (Ze _),e1,e2];have h1:=qv9 a c h w k x y;have h2:=qv9 a c h w k x (y+2^k);have h3:=qv9 a c h w k (x+2^k) y;have h4:=qv9 a c h w k (x+2^k) (y+2^k);lia
  ·exact Zv _
theorem mm {l1 l2 u p t A:Nat}(h1:l1<=min (u+p) t-max u A) (h2:l2<=min (u+p+p) t-max (u+p) A):l1+l2<=min (u+(p+p)) t-max u A:=by
 rw[<- Nat.add_assoc];by_cases a:t<=u+p
 ·rw[Nat.min_eq_right a] at h1;rw[Nat.min_eq_right (ZF a (Yr _ _))] at h2 ⊢;have:=Nat.le_max_left (u+p) A;lia
 ·rw[Nat.min_eq_left (VV a)] at h1;have m1:u+p<=min (u+p+p) t:=Nat.le_min.mpr ⟨Yr _ _,VV a⟩;by_cases b:A<=u+p
  ·rw[Nat.max_eq_left b] at h2;have m2:max u A<=u+p:=Nat.max_le.mpr ⟨Yr _ _,b⟩;lia
  ·have b':=VV b;rw[Nat.max_eq_right b'] at h2;rw[Nat.max_eq_right (ZF (Yr _ _) b')] at h1 ⊢;lia
theorem qB4 (a h j:Nat) (hh:1<=h):∀(i u:Nat),lin a h (j+1) (j+1+i) (u*2^(j+1))<=min (u+2^i) ((a+h-1)/2^(j+1)+1)-max u (a/2^(j+1))
 |0,u=>by
  have hp:0<2^(j+1):=YW (by decide);show (if j+1=j+1 then (if _ then 1 else 0) else _)<=_;rw[Zx rfl];split
  ·rename_i m;have h1:a/2^(j+1)<=u:=by
    have:a/2^(j+1)<u+1:=(Nat.div_lt_iff_lt_mul hp).mpr (by rw[Xu];exact m.1);lia
   have h2:u<=(a+h-1)/2^(j+1):=(Nat.le_div_iff_mul_le hp).mpr (by lia);rw[Nat.pow_zero];lia
  ·exact Zv _
 |i+1,u=>by
  have e:lin a h (j+1) (j+1+(i+1)) (u*2^(j+1))=lin a h (j+1) (j+1+i) (u*2^(j+1))+lin a h (j+1) (j+1+i) (u*2^(j+1)+2^(j+1+i)):=by
   show (if j+1=j+1+i+1 then _ else _)=_;rw[Zk (by lia)]
   rfl
  have e2:u*2^(j+1)+2^(j+1+i)=(u+2^i)*2^(j+1):=by rw[VC,W6 2 (j+1) i,XT (2^i)]
  have h1:=qB4 a h j hh i u;have h2:=qB4 a h j hh i (u+2^i);have e3:2^(i+1)=2^i+2^i:=by rw[Yu];lia
  rw[e,e2,e3];exact mm h1 h2
def lim:Nat->Nat
 |1=>6
 |2=>4
 |3=>3
 |_=>2
theorem q70 {a h k j:Nat}(hh:1<=h) (h9:h<=9) (hj:j+1<=k):lin a h (j+1) k 0<=lim (j+1):=by
 obtain⟨i,rfl⟩:∃i,k=j+1+i:=⟨k-(j+1),by lia⟩;have h1:=qB4 a h j hh i 0;rw[Nat.zero_mul] at h1;have hp:0<2^(j+1):=YW (by decide);have h2:(a+h-1)/2^(j+1)<=a/2^(j+1)+8/2^(j+1)+1:=by
  have:=Nat.add_div (a:=a) (b:=8) hp;have h3:(a+h-1)/2^(j+1)<=(a+8)/2^(j+1):=Nat.div_le_div_right (by lia);split at this<;>lia
 have h4:8/2^(j+1)+2<=lim (j+1):=by
  match j with
  |0=>decide
  |1=>decide
  |2=>decide
  |j+3=>
   have:2^(j+3+1)>=16:=by
    have:=Wi (n:=2) (by decide) (show 4<=j+3+1 by lia);simpa using this
   rw[Nat.div_eq_of_lt (by lia)];exact Ze 2
 lia
def lims:Nat->Nat
 |0=>0
 |j+1=>lims j+lim (j+1)*lim (j+1)
theorem qO6 {a h c w k:Nat}(h1:1<=h) (h2:h<=9) (w1:1<=w) (w2:w<=9):∀j,j<=k->squ a h c w j k 0 0<=lims j
 |0,_=>Ze _
 |j+1,hj=>Nat.add_le_add (qO6 h1 h2 w1 w2 j (by lia)) (Nat.mul_le_mul (q70 h1 h2 hj) (q70 w1 w2 hj))
theorem qH4:∀{j k:Nat},j<=k->lims j<=lims k
 |j,0,h=>by rw[show j=0 by lia];exact Ze _
 |j,k+1,h=>by
  by_cases e:j=k+1
  ·rw[e];exact Ze _
  ·exact ZF (qH4 (show j<=k by lia)) (Yr _ _)
theorem qh6 (s i j:Nat):∀(k u v:Nat),cnt [i*2^s,j*2^s,2^s,2^s] k (u*2^k) (v*2^k)<=k
 |0,u,v=>Ze _
 |k+1,u,v=>by
  show (if qi5 (u*2^(k+1)) (v*2^(k+1)) (2^(k+1)) [i*2^s,j*2^s,2^s,2^s]=true/\hasB (u*2^(k+1)) (v*2^(k+1)) (2^(k+1)) [i*2^s,j*2^s,2^s,2^s]=false then _ else _)<=_;split
  ·rename_i hm;have m:i*2^s<u*2^(k+1)+2^(k+1)/\u*2^(k+1)<i*2^s+2^s/\v*2^(k+1)<j*2^s+2^s/\j*2^s<v*2^(k+1)+2^(k+1):=ZI hm.1;have nh:¬(i*2^s<=u*2^(k+1)/\u*2^(k+1)+2^(k+1)<=i*2^s+2^s/\j*2^s<=v*2^(k+1)/\v*2^(k+1)+2^(k+1)<=j*2^s+2^s):=Yj hm.2;have mul_up:∀{x y m:Nat},0<m->x*m<y*m+m->x*m<=y*m:=λ{x y m} hm h=>by
    have:x<y+1:=Vy (a:=m) (by rw[Xu];exact h);exact Y7 _ (by lia)
   have hk:s<=k:=by
    by_cases z:s<=k
    ·exact z
    ·exfalso;apply nh;obtain⟨d,rfl⟩:∃d,s=k+1+d:=⟨s-(k+1),by lia⟩;have hp:0<2^(k+1):=YW (by decide);have ep:2^(k+1+d)=2^d*2^(k+1):=by rw[W6,XT]
     have e:∀i,i*2^(k+1+d)=i*2^d*2^(k+1):=λi=>by rw[ep,Y3]
     have e':∀i,i*2^(k+1+d)+2^(k+1+d)=(i*2^d+2^d)*2^(k+1):=λi=>by rw[VC,<- ep,<- e]
     have low:∀u i,i*2^(k+1+d)<u*2^(k+1)+2^(k+1)->i*2^(k+1+d)<=u*2^(k+1):=λu i h=>by
      rw[e] at h ⊢;exact mul_up hp h
     have up:∀u i,u*2^(k+1)<i*2^(k+1+d)+2^(k+1+d)->u*2^(k+1)+2^(k+1)<=i*2^(k+1+d)+2^(k+1+d):=λu i h=>by
      rw[e'] at h ⊢;rw[<- Xu];exact Y7 _ (Vy h)
     exact⟨low u i m.1,up u i m.2.1,low v j m.2.2.2,up v j m.2.2.1⟩
   obtain⟨d,rfl⟩:∃d,k=s+d:=⟨k-s,by lia⟩;have hp:0<2^s:=YW (by decide);have es:2^(s+d)=2^d*2^s:=by rw[W6,XT]
   have ek:∀u,u*2^(s+d+1)=(2*u)*2^(s+d):=λu=>by rw[Yu,XT (2^(s+d)) 2,<- Y3,XT u 2]
   have ek2:∀u,u*2^(s+d+1)+2^(s+d)=(2*u+1)*2^(s+d):=λu=>by rw[ek];exact (Xu _ _).symm
   have half:∀u i,i*2^s+2^s<=(2*u+1)*2^(s+d)\/(2*u+1)*2^(s+d)<=i*2^s:=λu i=>by
    rw[es,<- Y3,<- Xu];rcases Nat.lt_or_ge i ((2*u+1)*2^d) with z|z
    ·exact .inl (Y7 _ z)
    ·exact .inr (Y7 _ z)
   have q0:∀x y,¬(x<i*2^s+2^s)\/¬(i*2^s<x+2^(s+d))\/¬(y<j*2^s+2^s)\/¬(j*2^s<y+2^(s+d))->cnt [i*2^s,j*2^s,2^s,2^s] (s+d) x y=0:=λx y hn=>by
    cases hsd:s+d with
    |zero=>rfl
    |succ k'=>
     rw[hsd] at hn;show (if qi5 x y (2^(k'+1)) [i*2^s,j*2^s,2^s,2^s]=true/\_ then _ else _)=0;rw[Zk];rintro⟨h1,_⟩;have m:i*2^s<x+2^(k'+1)/\x<i*2^s+2^s/\y<j*2^s+2^s/\j*2^s<y+2^(k'+1):=ZI h1;rcases hn with z|z|z|z
     ·exact z m.2.1
     ·exact z m.1
     ·exact z m.2.2.1
     ·exact z m.2.2.2
   have c1:=qh6 s i j (s+d) (2*u) (2*v);have c2:=qh6 s i j (s+d) (2*u) (2*v+1);have c3:=qh6 s i j (s+d) (2*u+1) (2*v);have c4:=qh6 s i j (s+d) (2*u+1) (2*v+1);rw[ek2,ek2,ek,ek];have st:∀u:Nat,(2*u)*2^(s+d)+2^(s+d)=(2*u+1)*2^(s+d):=λu=>(Xu _ _).symm;rcases half u i with hu|hu
   ·have z3:=q0 ((2*u+1)*2^(s+d)) ((2*v)*2^(s+d)) (.inl (by lia));have z4:=q0 ((2*u+1)*2^(s+d)) ((2*v+1)*2^(s+d)) (.inl (by lia));rcases half v j with hv|hv
    ·have z2:=q0 ((2*u)*2^(s+d)) ((2*v+1)*2^(s+d)) (.inr (.inr (.inl (by lia))));lia
    ·have z1:=q0 ((2*u)*2^(s+d)) ((2*v)*2^(s+d)) (.inr (.inr (.inr (by rw[st];lia))));lia
   ·have z1:=q0 ((2*u)*2^(s+d)) ((2*v)*2^(s+d)) (.inr (.inl (by rw[st];lia)));have z2:=q0 ((2*u)*2^(s+d)) ((2*v+1)*2^(s+d)) (.inr (.inl (by rw[st];lia)));rcases half v j with hv|hv
    ·have z4:=q0 ((2*u+1)*2^(s+d)) ((2*v+1)*2^(s+d)) (.inr (.inr (.inl (by lia))));lia
    ·have z3:=q0 ((2*u+1)*2^(s+d)) ((2*v)*2^(s+d)) (.inr (.inr (.inr (by rw[st];lia))));lia
  ·exact Zv _
theorem qH5 {n:Nat}{bs:List Row}(hn:n<=12) (h:xd6 n bs):nds (bt n bs 0 0)<=485:=by
 rcases h.2 with ⟨h4,_⟩|⟨h5,hs⟩
 ·refine ZF (qS1 n bs 0 0) ?_
  match n,h4 with
  |0,_|1,_|2,_|3,_=>decide
 ·refine ZF (qH2 n bs 0 0) ?_;have each:∀b∈bs,cnt b n 0 0<=97:=λb hb=>by
   obtain⟨r,c,hh,w,rfl,h1,w1,_⟩:=h.1 b hb;obtain⟨r',c',hh',w',e,sm⟩:=hs _ hb;simp only[YV,V7] at e;obtain⟨rfl,rfl,rfl,rfl⟩:=e;rcases sm with ⟨h9,w9⟩|⟨s,i,j,rfl,rfl,rfl,rfl⟩
   ·refine ZF (qv9 r c hh w n 0 0) (ZF (qO6 h1 h9 w1 w9 n (Ze _)) (ZF (qH4 hn) (by decide)))
   ·have:=qh6 s i j n 0 0;rw[Nat.zero_mul] at this;lia
  unfold cnts;have gen:∀l:List Row,(∀b∈l,cnt b n 0 0<=97)->(l.map λb=>cnt b n 0 0).sum<=l.length*97:=λl hl=>by
   induction l with
   |nil=>exact Zv _
   |cons b l ih=>
    have h1:=hl b ZC;have h2:=ih λx hx=>hl x (Zl _ hx);rw[Zy,X4,ZW,Xu];lia
  have:=gen bs each;lia
theorem kp0 {t0 t1 t2 t3:Tr}{L L4:List Tr}(e4:L4=post t3 (post t2 (post t1 (post t0 L)))) (z:[0,0,0,0]=[name L4 t0,name L4 t1,name L4 t2,name L4 t3].map λx:Nat=>(x:Int)):L4=L/\mk t0 t1 t2 t3=.z/\name L4 t0=0:=by
 simp only[Zy,VX,YV,V7] at z;have g0:=qe8 (L:=L4) (t:=t0) (by lia);have g1:=qe8 (L:=L4) (t:=t1) (by lia);have g2:=qe8 (L:=L4) (t:=t2) (by lia);have g3:=qe8 (L:=L4) (t:=t3) (by lia);subst g0 g1 g2 g3;exact⟨e4,rfl,rfl⟩
theorem kp1 {t0 t1 t2 t3:Tr}{L L4:List Tr}(e4:L4=post t3 (post t2 (post t1 (post t0 L)))) (z:[1,1,1,1]=[name L4 t0,name L4 t1,name L4 t2,name L4 t3].map λx:Nat=>(x:Int)):L4=L/\mk t0 t1 t2 t3=.o/\name L4 t0=1:=by
 simp only[Zy,VX,YV,V7] at z;have g0:=qg6 (L:=L4) (t:=t0) (by lia);have g1:=qg6 (L:=L4) (t:=t1) (by lia);have g2:=qg6 (L:=L4) (t:=t2) (by lia);have g3:=qg6 (L:=L4) (t:=t3) (by lia);subst g0 g1 g2 g3;exact⟨e4,rfl,rfl⟩
theorem kpn {t0 t1 t2 t3:Tr}{L4:List Tr}(hc:¬(decide ([0,0,0,0]=[name L4 t0,name L4 t1,name L4 t2,name L4 t3].map λx:Nat=>(x:Int))||decide ([1,1,1,1]=[name L4 t0,name L4 t1,name L4 t2,name L4 t3].map λx:Nat=>(x:Int)))=true):mk t0 t1 t2 t3=.nd t0 t1 t2 t3:=by
 unfold mk;rw[Zk,Zk]
 ·rintro⟨rfl,rfl,rfl,rfl⟩;exact hc (by rw[W9];exact .inr (Zu rfl))
 ·rintro⟨rfl,rfl,rfl,rfl⟩;exact hc (by rw[W9];exact .inl (Zu rfl))
theorem kpi {t0 t1 t2 t3:Tr}{L L4:List Tr}(hO:Ord L) (e4:L4=post t3 (post t2 (post t1 (post t0 L)))) (wZ:Tr.nd t0 t1 t2 t3∈L4):Tr.nd t0 t1 t2 t3∈L/\L4=L:=by
 have wM:Tr.nd t0 t1 t2 t3∈L:=by
  by_cases zz:Tr.nd t0 t1 t2 t3∈L
  ·exact zz
  ·exact absurd (e4▸wZ) (Tr.not_below zz)
 obtain⟨i,hi,ei⟩:=ZE.mp wM;have kin:=λs hs=>(Tr.kid_in hO (i:=i) (t:=.nd t0 t1 t2 t3) (by rw[Zd hi,ei]) (s:=s) hs).1;exact⟨wM,by rw[e4,qu7 (kin t0 (by simp[Tr.kids])),qu7 (kin t1 (by simp[Tr.kids])),qu7 (kin t2 (by simp[Tr.kids])),qu7 (kin t3 (by simp[Tr.kids]))]⟩
theorem kpx {t0 t1 t2 t3:Tr}{L L4:List Tr}(e4:L4=post t3 (post t2 (post t1 (post t0 L)))) (wZ:Tr.nd t0 t1 t2 t3∉L4):post (.nd t0 t1 t2 t3) L=L4++[.nd t0 t1 t2 t3]:=by
 have wM:Tr.nd t0 t1 t2 t3∉L:=λz=>wZ (by
  rw[e4];obtain⟨s1,h1⟩:=Tr.post_ext t0 L;obtain⟨s2,h2⟩:=Tr.post_ext t1 (Tr.post t0 L);obtain⟨s3,h3⟩:=Tr.post_ext t2 (Tr.post t1 (Tr.post t0 L));obtain⟨s4,h4⟩:=Tr.post_ext t3 (Tr.post t2 (Tr.post t1 (Tr.post t0 L)));rw[h4,h3,h2,h1];simp[z])
 rw[e4];show (if Tr.nd t0 t1 t2 t3∈L then L else _)=_;rw[Zk wM]
end Qf
namespace Pr
open PySem L2 Qf
theorem xu9 {t0 t1 t2 t3:Tr}{L4:List Tr}(O4:Tr.Ord L4) (hk:∀s∈Tr.kids (.nd t0 t1 t2 t3),Tr.In L4 s) (hm:¬[Tr.name L4 t0,Tr.name L4 t1,Tr.name L4 t2,Tr.name L4 t3]∈Tr.rowsOf L4) :
  putK (tK (Tr.rowsOf L4)) (keyN [Tr.name L4 t0,Tr.name L4 t1,Tr.name L4 t2,Tr.name L4 t3]) (.int (((tK (Tr.rowsOf L4)).length:Int)+2))=tK (Tr.rowsOf (L4++[.nd t0 t1 t2 t3])):=by
 have er:=qy0 O4 hk;rw[show (Tr.kids (.nd t0 t1 t2 t3)).map (Tr.name L4)=[Tr.name L4 t0,Tr.name L4 t1,Tr.name L4 t2,Tr.name L4 t3] from rfl] at er;have jA:(tK (Tr.rowsOf L4)).length=L4.length:=by unfold tK;rw[qr7,Tr.rowsOf_len]
 have h1:=xa7 (key:=keyN) (k:=2) (λa b=>qz7) hm;rw[er,jA];unfold tK;rw[<- h1,Tr.rowsOf_len];congr 2;lia
end Pr
namespace Qf
open Tr
theorem qO7 {m:Row->Bool}:∀(bs:List Nat) (rs:List Row),bs.length=rs.length ->
  ((List.range bs.length).filter (λi=>m (rs.getD i []))).map (λi=>bs.getD i 0)=((bs.zip rs).filter (λq=>m q.2)).map Prod.fst
 |[],[],_=>rfl
 |b::bs,r::rs,h=>by
  have ih:=qO7 (m:=m) bs rs (by simpa using h);rw[ZW,WQ,YD,WF,YD,List.filter_map];have e1:((λi=>m ((r::rs).getD i []))∘Nat.succ)=λi=>m (rs.getD i []):=by funext i;rfl
  have e2:((λi=>(b::bs).getD i 0)∘Nat.succ)=λi=>bs.getD i 0:=by funext i;rfl
  rw[e1];show List.map _ (if m r=true then _ else _)=List.map _ (if m r=true then _ else _);split
  ·rw[Zy,Yv,e2,ih,Zy];rfl
  ·rw[Yv,e2,ih]
theorem qB5 {m:Row->Bool}:∀(bs:List Nat) (rs:List Row),bs.length=rs.length->((bs.zip rs).filter (λq=>m q.2)).map Prod.snd=rs.filter m
 |[],[],_=>rfl
 |b::bs,r::rs,h=>by
  have ih:=qB5 (m:=m) bs rs (by simpa using h);rw[WF,YD,YD];show List.map _ (if m r=true then _ else _)=_;split
  ·rw[Zy,ih]
  ·exact ih
end Qf
namespace Pr
open PySem L2 Qf
theorem RowsL.filter {H H':Hp}{p D:Addr}{rs:List Row}{bs:List Addr}(m:Row->Bool) (hl:bs.length=rs.length) (hr:∀(i:Nat) b r,bs[i]?=some b->rs[i]?=some r->H b=some (.tup (vN r))) (s:Same H H')
  (hD:H' D=some (.lst (((List.range bs.length).filter (λi=>m (rs.getD i []))).map (λi=>V.ref (bs.getD i 0))))):RowsL H' D (rs.filter m):=by
 have e:((List.range bs.length).filter (λi=>m (rs.getD i []))).map (λi=>V.ref (bs.getD i 0))=(((bs.zip rs).filter (λq=>m q.2)).map Prod.fst).map V.ref:=by
  rw[<- qO7 bs rs hl,Yv];rfl
 rw[e] at hD;refine⟨_,hD,by rw[<- qB5 bs rs hl,Zh,Zh],λi b r e1 e2=>?_⟩;rw[<- qB5 bs rs hl] at e2;rw[Zg] at e1 e2;obtain⟨q,hq,rfl⟩:=Zj.mp e1;rw[hq] at e2;have e3:q.2=r:=by simpa using e2
 have hm:=(YI.mp (Zr hq)).1;obtain⟨j,hj,ej⟩:=ZE.mp hm;rw[List.length_zip] at hj;have ez:(bs.zip rs)[j]?=some q:=by rw[Zd (by rw[List.length_zip];exact hj),ej]
 rw[List.getElem?_zip_eq_some] at ez;rw[<- e3];exact s _ _ (hr j q.1 q.2 ez.1 ez.2)
section
variable {P:Program}{w:World}{K:PySem.W.Frag}{mg:Str->Option Value}{base:Heap}
abbrev qo8:List Str:=["_law_box_here", "_law_row", "_law_column", "_law_side"]
theorem xo4:FnScope qo8 qo8 (qa4 qx6):=qc7
theorem xA8:FnScope qo8 qo8 (qa4 lHas):=qc7
def qB6 (m:Nat->Nat->Nat->Row->Bool):Sp:=λvs H Q _=>∃(b:Addr) (bx:Row) (r c s:Nat),vs=[.ref b,.int (r:Nat),.int (c:Nat),.int (s:Nat)]/\H b=some (.tup (vN bx))/\bx.length=4/\Q (.bl (m r c s bx)) H
theorem xd9 {f:Addr}{fd:FuncData}(F:Fun K "_law_meets" "_law_meets" qx6 f fd):FnOk P w K mg base CX0 1 f fd qo8 (qB6 qi5):=by
 refine F.ok xo4 (λvs H Q E h=>?_) (λcdv A outer s H vs Q E hr h=>?_)
 ·obtain⟨b,bx,r,c,s,rfl,_⟩:=h
  rfl
 ·obtain⟨b,bx,r,c,s,rfl,hb,h4,q⟩:=h;obtain⟨x,y,h',w',rfl⟩:=qp2 h4;refine seqE ⟨_,⟨qd9 (qk9 (qb7 qs3 (qa6 qc3 (pv 1) (pv 3)) (pxN qb0 (pv 0) qa1) (qb2 _))
   (qg9 (qb7 qs3 (qa6 qc3 (pxN qb0 (pv 0) qa1) (pxN qb0 (pv 0) qa1)) (pv 1) (qb2 _)))).pt (qa8 (qa9 qm4)) qb8⟩,?_⟩
  refine qf9 ⟨_,⟨qa9 (qi2 (qd7 qj0 (pv 2) (qa6 qc3 (pxN qb0 (pv 0) qa1) (pxN qb0 (pv 0) qa1)) (qb2 _)) (qm5 (qd7 qj0 (pxN qb0 (pv 0) qa1) (qa6 qc3 (pv 2) (pv 3)) (qb2 _))))⟩,?_⟩;have em:qi5 r c s [x,y,h',w']=decide (x<r+s/\r<x+h'/\c<y+w'/\y<c+s):=rfl;rw[em] at q;refine⟨_,rfl,_,rfl,_,_,rfl,rfl,_,rfl,b,_,0,.int (x:Nat),rfl,rfl,SqT.of hb,rfl,_,_,rfl,rfl,_,rfl,?_⟩;refine ite2 (λhc=>?_) (λhc=>?_)
  ·have:=ZI hc;rw[Zn (by lia)] at q;exact iteT q
  ·have h1:=Yj (Yg.mpr hc);refine⟨_,rfl,b,_,0,.int (x:Nat),rfl,rfl,SqT.of hb,rfl,_,rfl,b,_,2,.int (h':Nat),rfl,rfl,SqT.of hb,rfl,_,_,rfl,rfl,_,rfl,_,_,rfl,rfl,_,rfl,?_⟩;refine ite2 (λhc=>?_) (λhc=>?_)
   ·have:=ZI hc;rw[Zn (by lia)] at q;exact q
   ·have h2:=Yj (Yg.mpr hc);refine⟨_,rfl,_,rfl,b,_,1,.int (y:Nat),rfl,rfl,SqT.of hb,rfl,_,rfl,b,_,3,.int (w':Nat),rfl,rfl,SqT.of hb,rfl,_,_,rfl,rfl,_,_,rfl,rfl,_,rfl,?_⟩;refine ite2 (λhc=>?_) (λhc=>?_)
    ·have h3:=ZI hc;refine⟨_,rfl,b,_,1,.int (y:Nat),rfl,rfl,SqT.of hb,rfl,_,rfl,_,rfl,_,_,rfl,rfl,_,_,rfl,rfl,?_⟩;have e:decide ((y:Int)<(c:Int)+(s:Int))=decide (x<r+s/\r<x+h'/\c<y+w'/\y<c+s):=by
      congr 1;exact propext ⟨λz=>⟨by lia,by lia,by lia,by lia⟩,λz=>by lia⟩
     show Q (.bl (decide ((y:Int)<(c:Int)+(s:Int)))) H;rw[e];exact q
    ·have h3:=Yj (Yg.mpr hc);rw[Zn (by lia)] at q;exact q
theorem xv0 {f:Addr}{fd:FuncData}(F:Fun K "_law_has" "_law_has" lHas f fd):FnOk P w K mg base CX0 1 f fd qo8 (qB6 hasB):=by
 refine F.ok xA8 (λvs H Q E h=>?_) (λcdv A outer s H vs Q E hr h=>?_)
 ·obtain⟨b,bx,r,c,s,rfl,_⟩:=h
  rfl
 ·obtain⟨b,bx,r,c,s,rfl,hb,h4,q⟩:=h;obtain⟨x,y,h',w',rfl⟩:=qp2 h4;refine seqE ⟨_,⟨qd9 (qk9 (qb7 qj0 (pv 1) (pxN qb0 (pv 0) qa1) (qb2 _))
   (qg9 (qb7 qj0 (qa6 qc3 (pxN qb0 (pv 0) qa1) (pxN qb0 (pv 0) qa1)) (qa6 qc3 (pv 1) (pv 3)) (qb2 _)))).pt (qa8 (qa9 qm4)) qb8⟩,?_⟩
  refine qf9 ⟨_,⟨qa9 (qi2 (qd7 qs3 (pxN qb0 (pv 0) qa1) (pv 2) (qb2 _)) (qm5 (qd7 qs3 (qa6 qc3 (pv 2) (pv 3)) (qa6 qc3 (pxN qb0 (pv 0) qa1) (pxN qb0 (pv 0) qa1)) (qb2 _))))⟩,?_⟩;have em:hasB r c s [x,y,h',w']=decide (x<=r/\r+s<=x+h'/\y<=c/\c+s<=y+w'):=rfl;rw[em] at q;refine⟨_,rfl,_,rfl,b,_,0,.int (x:Nat),rfl,rfl,SqT.of hb,rfl,_,_,rfl,rfl,_,rfl,?_⟩;refine ite2 (λhc=>?_) (λhc=>?_)
  ·have:=ZI hc;rw[Zn (by lia)] at q;exact iteT q
  ·have h1:=Yj (Yg.mpr hc);refine⟨_,rfl,b,_,0,.int (x:Nat),rfl,rfl,SqT.of hb,rfl,_,rfl,b,_,2,.int (h':Nat),rfl,rfl,SqT.of hb,rfl,_,_,rfl,rfl,_,rfl,_,rfl,_,_,rfl,rfl,_,_,rfl,rfl,_,rfl,?_⟩;refine ite2 (λhc=>?_) (λhc=>?_)
   ·have:=ZI hc;rw[Zn (by lia)] at q;exact q
   ·have h2:=Yj (Yg.mpr hc);refine⟨_,rfl,b,_,1,.int (y:Nat),rfl,rfl,SqT.of hb,rfl,_,rfl,_,_,rfl,rfl,_,rfl,?_⟩;refine ite2 (λhc=>?_) (λhc=>?_)
    ·have h3:=ZI hc;refine⟨_,rfl,_,rfl,_,_,rfl,rfl,_,rfl,b,_,1,.int (y:Nat),rfl,rfl,SqT.of hb,rfl,_,rfl,b,_,3,.int (w':Nat),rfl,rfl,SqT.of hb,rfl,_,_,rfl,rfl,_,_,rfl,rfl,?_⟩;have e:decide ((c:Int)+(s:Int)<=(y:Int)+(w':Int))=decide (x<=r/\r+s<=x+h'/\y<=c/\c+s<=y+w'):=by
      congr 1;exact propext ⟨λz=>⟨by lia,by lia,by lia,by lia⟩,λz=>by lia⟩
     show Q (.bl (decide ((c:Int)+(s:Int)<=(y:Int)+(w':Int)))) H;rw[e];exact q
    ·have h3:=Yj (Yg.mpr hc);rw[Zn (by lia)] at q;exact q
end
end Pr
namespace Qf
open Tr
def qt (k:Nat) (m:List Row) (r c i:Nat):Tr:=bt k m (r+2^k*(i/2)) (c+2^k*(i%2))
def qL (k:Nat) (m:List Row) (r c:Nat) (L:List Tr):Nat->List Tr
 |0=>L
 |i+1=>post (qt k m r c i) (qL k m r c L i)
theorem qH6 {k:Nat}{m:List Row}{r c:Nat}{L:List Tr}(h:Ord L):∀i,Ord (qL k m r c L i)
 |0=>h
 |i+1=>(post_ord _ _ (qH6 h i)).1
theorem qS2 {k:Nat}{m:List Row}{r c:Nat}{L:List Tr}(h:Ord L){j:Nat}:∀i,j<i->In (qL k m r c L i) (qt k m r c j)
 |i+1,hj=>by
  by_cases e:j=i
  ·rw[e];exact (post_ord _ _ (qH6 h i)).2
  ·exact (qS2 h i (by lia)).post _
theorem xo5 {k:Nat}{m:List Row}{r c:Nat}{L:List Tr}(h:Ord L){i:Nat}{t:Tr}(ht:In (qL k m r c L i) t):name (qL k m r c L (i+1)) t=name (qL k m r c L i) t:=by
 obtain⟨s,e⟩:=post_ext (qt k m r c i) (qL k m r c L i);show name (post _ _) t=_;rw[e];exact name_app ht (qH6 h i)
theorem q71 {k:Nat}{m:List Row}{r c:Nat}{L:List Tr}:∀i,(qL k m r c L i).length<=L.length+i*sz k
 |0=>by show L.length<=_;lia
 |i+1=>by
  have h1:=q71 (k:=k) (m:=m) (r:=r) (c:=c) (L:=L) i;have h2:=qp8 (qt k m r c i) (qL k m r c L i);have h3:=qS1 k m (r+2^k*(i/2)) (c+2^k*(i%2));show (post _ _).length<=_;rw[Xu];unfold qt at h2;unfold qt;lia
def names (k:Nat) (m:List Row) (r c:Nat) (L:List Tr) (i:Nat):List Nat:=(List.range i).map λj=>name (qL k m r c L i) (qt k m r c j)
theorem qS3 {k:Nat}{m:List Row}{r c:Nat}{L:List Tr}(h:Ord L) (i:Nat):names k m r c L (i+1)=names k m r c L i++[name (post (qt k m r c i) (qL k m r c L i)) (qt k m r c i)]:=by
 unfold names;rw[Xe,Z7];congr 1;exact Xh λj hj=>xo5 h (qS2 h i (Yw.mp hj))
theorem xA9 (k:Nat) (boxes:List Row) (r c:Nat) (h1:met boxes r c (2^(k+1))≠[]) (h2:(met boxes r c (2^(k+1))).any (hasB r c (2^(k+1)))=false) :
  bt (k+1) boxes r c=mk (qt k (met boxes r c (2^(k+1))) r c 0) (qt k (met boxes r c (2^(k+1))) r c 1) (qt k (met boxes r c (2^(k+1))) r c 2) (qt k (met boxes r c (2^(k+1))) r c 3):=by
 unfold bt;rw[Zk h1,Zk (by rw[h2];decide)];unfold qt;simp
theorem xo6 {boxes:List Row}{r c s:Nat}:(met boxes r c s).length<=boxes.length:=X6 _ _
theorem xo7 {boxes:List Row}{r c:Nat}(h:met boxes r c 1≠[]):(met boxes r c 1).any (hasB r c 1)=true:=by
 obtain⟨b,hb⟩:=List.exists_mem_of_ne_nil _ h;refine Wo.mpr ⟨b,hb,?_⟩;have m:b.getD 0 0<r+1/\r<b.getD 0 0+b.getD 2 0/\c<b.getD 1 0+b.getD 3 0/\b.getD 1 0<c+1:=ZI (YI.mp hb).2;exact Zu ⟨by lia,by lia,by lia,by lia⟩
theorem xv1:∀{k n:Nat},k<=n->sz k<=sz n
 |k,0,h=>by rw[show k=0 by lia];exact Ze _
 |k,n+1,h=>by
  by_cases e:k=n+1
  ·rw[e];exact Ze _
  ·have:=xv1 (show k<=n by lia);show _<=4*sz n+1;lia
end Qf
namespace L2
open PySem
theorem q72 {H:Hp}{n:Nat}{te:TE}{σ:St}{Fin:Hp->Prop}{D:Addr}(Iv:Nat->List V->Hp->Prop) (hsz:n<sizeLine) (i0:Iv 0 [] (upd H D (.lst []))) (hD:∀i xs H2,Iv i xs H2->H2 D=some (.lst xs)/\xs.length<=i)
  (step:∀i xs H2,i<n->Iv i xs H2->∀Q2:VK,(∀v H3,H3 D=some (.lst xs)->Iv (i+1) (xs++[v]) (upd H3 D (.lst (xs++[v])))->Q2 v H3)->te (some (.int (0+(i:Int)))::σ) H2 Q2)
  (fin:∀xs H2,Iv n xs H2->Fin H2) :
  ∃W:Nat->Nat->List V->Hp->Prop,(∃m,W 0 m [] (upd H D (.lst []))) /\
   ∀i m xs H2,W i m xs H2->H2 D=some (.lst xs)/\xs.length<sizeLine/\(((Itr 0 n).stop i H2/\Fin H2)\/((Itr 0 n).go i H2/\∀y H3,(Itr 0 n).yld i H2 y H3->∀os:St,os.length=1 ->
    qd1 0 y (os++σ) H3 λσ4 H4=>qP8 σ4 H4 λb H5=>if b=true then te σ4 H5 λv H6=>H6 D=some (.lst xs)/\∃m',m'<m/\W (i+1) m' (xs++[v]) (upd H6 D (.lst (xs++[v]))) else ∃m',m'<m/\W (i+1) m' xs H5)):=by
 obtain⟨W,w0,w⟩:=qO2 (te:=te) (σ:=σ) Iv hsz i0 hD step fin;refine⟨W,w0,λi m xs H2 h=>?_⟩;obtain⟨h1,h2,h3⟩:=w i m xs H2 h;refine⟨h1,h2,h3.imp id λ⟨g,y⟩=>⟨g,λx H3 hx os ho=>?_⟩⟩;obtain⟨o,rfl⟩:=L2.os1 ho
 ·
  show (if (true:Bool)=true then te (some x::σ) H3 (λv H6=>H6 D=some (.lst xs)/\∃m',m'<m/\W (i+1) m' (xs++[v]) (upd H6 D (.lst (xs++[v])))) else ∃m',m'<m/\W (i+1) m' xs H3);rw[Zx rfl];exact y x H3 hx
end L2
namespace Qf
theorem xo8:∀{k:Nat}{boxes:List Row}{r c:Nat},met boxes r c (2^k)=[]->bt k boxes r c=.z
 |0,_,_,_,h=>Zx h
 |_+1,_,_,_,h=>Zx h
theorem xo9:∀{k:Nat}{boxes:List Row}{r c:Nat},met boxes r c (2^k)≠[]->(met boxes r c (2^k)).any (hasB r c (2^k))=true->bt k boxes r c=.o
 |0,_,_,_,h,g=>(Zk h).trans (Zx g)
 |_+1,_,_,_,h,g=>(Zk h).trans (Zx g)
end Qf
namespace Pr
open PySem L2 Qf
section
variable {P:Program}{w:World}{K:PySem.W.Frag}{mg:Str->Option Value}{base:Heap}
abbrev qH7:List Str:=["_law_rows", "_law_boxes_here", "_law_row", "_law_column", "_law_side"]
abbrev nNum:List Str:=["_law_rows", "_law_boxes_here", "_law_row", "_law_column", "_law_side", "_law_met", "_law_half", "_law_quarters"]
theorem scNum:FnScope nNum qH7 (qa4 qj4):=qc7
def xe0 (k:Nat):Sp:=λvs H Q _=>∃(e bp:Addr) (boxes:List Row) (r c:Nat) (L:List Tr),vs=[.ref e,.ref bp,.int (r:Nat),.int (c:Nat),.int ((2^k:Nat):Int)]/\RowsL H bp boxes/\(∀b∈boxes,b.length=4)/\boxes.length<=900/\bp≠e/\Tr.Ord L /\
 H e=some (.dT (tK (Tr.rowsOf L)))/\L.length+sz k<=6000000/\∀H',But e H H'->H' e=some (.dT (tK (Tr.rowsOf (Tr.post (bt k boxes r c) L))))->Q (.int (Tr.name (Tr.post (bt k boxes r c) L) (bt k boxes r c):Nat)) H'
theorem q73 {f fM fH:Addr}{fd fdM fdH:FuncData}(F:Fun K "_law_number" "_law_number" qj4 f fd) (B:Blt mg) (hN:mg "_law_number" = some (.ref f)) (bN:Binds K fd qH7 [])
  (hM:mg "_law_meets" = some (.ref fM)) (FM:Fun K "_law_meets" "_law_meets" qx6 fM fdM) (bM:Binds K fdM qo8 [])
  (hH:mg "_law_has" = some (.ref fH)) (FH:Fun K "_law_has" "_law_has" lHas fH fdH) (bH:Binds K fdH qo8 []){m:Nat}(hk:m<=12){sp':Sp}(GI:FnOk P w K mg base CX0 (m+1) f fd qH7 sp') (vK:∀j,m=j+1->sp'=xe0 j):FnOk P w K mg base CX0 (m+2) f fd qH7 (xe0 m):=by
 have GM:FnOk P w K mg base CX0 1 fM fdM qo8 (qB6 qi5):=xd9 FM;have GH:FnOk P w K mg base CX0 1 fH fdH qo8 (qB6 hasB):=xv0 FH;refine F.ok scNum (λvs H Q E h=>?_) (λcdv A outer s H vs Q E hr h=>?_)
 ·obtain⟨e,bp,boxes,r,c,L,rfl,_⟩:=h
  rfl
 ·obtain⟨e,bp,boxes,r,c,L,rfl,hB,h4,kH,vQ,hO,he,hLs,q⟩:=h;have jJ:Room 1 _:=hr.mono (by lia);have hu:A.units+3+1<cLine:=by
   have h2:A.units+3+16*(m+1)+200<cLine:=hr.un;lia
  refine seqE ⟨_,⟨psN 5 scNum.nd (qD8 nNum (qa4 qj4) rfl rfl rfl scNum.nd (ql8 (pv 1))
   (λcl C fp s₀ H₀=>qe6 (pcN GM jJ hM FM.kp bM (qa0 (pv 0) (qa0 (pv 3) (qa0 (pv 4) (qa0 (pv 5) qa2)))))) (λcl C fp s₀ H₀=>pv 0))⟩,?_⟩
  refine seqE ⟨_,⟨qd9 (PW.pt (qk9 (qb7 (qX3 hr) (pv 5) (qi4 qa2) (qb2 _)) (qg9 (qe6 (qa5 (qE0 rfl) (by rfl) B.any PyProof.Rows.boot_any (qa0 (qg3 nNum (qa4 qj4) rfl rfl rfl scNum.nd (ql8 (pv 5))
   (λcl C fp s₀ H₀=>pcN GH jJ hH FH.kp bH (qa0 (pv 0) (qa0 (pv 3) (qa0 (pv 4) (qa0 (pv 5) qa2)))))) qa2))))))
   (qa8 (qa9 (qc6 qs6 (by rfl) B.int YZ (qa0 (qd7 (qL2 hr) (pv 5) (qi4 qa2) (qb2 _)) qa2)))) qb8⟩,?_⟩
  refine seqE ⟨_,⟨psN 6 scNum.nd (qa6 qi9 (pv 4) qa1)⟩,?_⟩;refine seqE ⟨_,⟨xk2 (i0:=7) nNum (qa4 qj4) rfl rfl rfl scNum.nd rfl rfl (qi8 (by rfl) B.range (qa0 qa1 qa2)) (λcl C fp s₀ H₀=>PEb.go ⟨pcN GI hr hN F.kp bN (Ars2.go (.cons ⟨pv 1⟩ (.cons ⟨pv 6⟩
   (.cons ⟨qa6 qc3 (pv 3) (qa6 qf7 (pv 7) (qa6 qi9 (pv 0) qa1))⟩ (.cons ⟨qa6 qc3 (pv 4) (qa6 qf7 (pv 7) (qa6 qx0 (pv 0) qa1))⟩ (.cons ⟨pv 7⟩ .nil rfl) rfl) rfl) rfl) rfl))⟩)⟩,?_⟩
  refine seqE ⟨_,⟨qd9 (qb7 (xt0 hr) (pv 7) (PEb.go ⟨qd8 (Ars2.go (.cons ⟨qi4 (Ars2.go (.cons qg0 (.cons qg0 (.cons qg0 (.cons qg0 .nil rfl) rfl) rfl) rfl))⟩ (.cons ⟨qi4 (Ars2.go (.cons qg0 (.cons qg0 (.cons qg0 (.cons qg0 .nil rfl) rfl) rfl) rfl))⟩ .nil rfl) rfl))⟩) (by first|rfl|decide|with_unfolding_all rfl))
   (qa8 (qa9 (pxN qf1 (pv 7) qa1))) qb8⟩,?_⟩
  refine seqE ⟨_,⟨qd9 (qS9 (qV7 hu (qc6 (tupO K rfl) (by rfl) B.tuple Yn (qa0 (pv 7) qa2)) (pv 0)))
   (qa8 (qV8 hu (pv 0) (qc6 (tupO K rfl) (by rfl) B.tuple Yn (qa0 (pv 7) qa2)) (qa6 qc3 (qa5 q12 (by rfl) B.len Yy (qa0 (pv 0) qa2)) qa1) (by rfl))) qb8⟩,?_⟩
  refine qf9 ⟨_,⟨qa9 (xj3 hu (pv 0) (qc6 (tupO K rfl) (by rfl) B.tuple Yn (qa0 (pv 7) qa2)) (λ_ _=>rfl))⟩,?_⟩;obtain⟨bs,hb,j9,jE⟩:=id hB;have jT:(bs.map V.ref).length=bs.length:=Zh ..;refine⟨_,rfl,bp,rfl,⟨_,SqL.of hb⟩,λD hD=>qp0 hD (λi=>qi5 r c (2^m) (boxes.getD i [])) (λi=>.ref (bs.getD i 0)) (qk1 (K:=K) hb) (by rw[jT];exact qd3 (by lia)) ?_ ?_⟩
  ·intro j x H2 hj hx s2 os ho Q1 Q2 q1 q2;rw[Zg] at hx;obtain⟨b,wY,rfl⟩:=Zj.mp hx;have kZ:j<boxes.length:=by rw[jT] at hj;lia
   have hg:boxes[j]?=some (boxes.getD j []):=by rw[ZA,Zd kZ];rfl
   have eb:bs.getD j 0=b:=by rw[ZA,wY];rfl
   rw[eb] at q2;obtain⟨o1,rfl⟩:=L2.os1 ho
   ·
    refine⟨_,rfl,_,rfl,_,rfl,_,rfl,b,boxes.getD j [],r,c,2^m,rfl,s2 _ _ (jE j b _ wY hg),h4 _ (Zr hg),_,rfl,?_⟩;refine ite2 (λhc=>⟨_,rfl,q2 hc H2 (Same.refl _)⟩) (λhc=>q1 (Yg.mpr hc) H2 (Same.refl _))
  ·intro H2 s2 kY;rw[jT] at kY;have hRm:RowsL H2 D (met boxes r c (2^m)):=RowsL.filter (p:=bp) (qi5 r c (2^m)) j9 jE s2 kY;have vL:(met boxes r c (2^m)).length<=900:=ZF xo6 kH;have hm4:∀b∈met boxes r c (2^m),b.length=4:=λb hb=>h4 b (YI.mp hb).1;have vM:=s2 _ _ he;have nDe:D≠e:=(qa7 he hD).symm;have etree:bt m boxes r c=bt m boxes r c:=rfl;refine⟨_,rfl,(by show 0<=sizeLine;decide),λl hl=>?_⟩;refine⟨_,_,qk4 (hRm.same (qb4 hl)),.lst qa3 .nil,qo0 _,rfl,qi0 _,_,rfl,?_⟩;rw[qJ2];have S3:Same H (upd H2 l (.lst [])):=s2.trans (qb4 hl);have vS:=hRm.same (qb4 (o:=.lst []) hl);have he3:=qd5 (u:=.lst []) vM hl;generalize upd H2 l (.lst [])=H3 at S3 vS he3;cases hmt:met boxes r c (2^m) with
   |nil=>
    have hT:bt m boxes r c=.z:=xo8 hmt;rw[hT] at q;rw[hmt] at vS;refine iteT (iteT ?_);refine⟨_,rfl,(by show 0<=sizeLine;decide),λl2 jM=>?_⟩;refine⟨_,_,qk4 (vS.same (qb4 jM)),.lst qa3 .nil,qo0 _,rfl,qi0 _,.inr ⟨_,rfl,?_⟩⟩;exact q _ (But.of (S3.trans (qb4 jM))) (qd5 he3 jM)
   |cons b0 ml=>
    have jF:met boxes r c (2^m)≠[]:=by rw[hmt];exact λz=>nomatch z
    rw[<- hmt];clear hmt;have hie:(met boxes r c (2^m)).isEmpty=false:=by
     cases hq:met boxes r c (2^m) with
     |nil=>exact absurd hq jF
     |cons _ _=>rfl
    rw[hie];refine iteF ?_;obtain⟨ms,hms,hmsl,hmrow⟩:=id vS;have hml2:(ms.map V.ref).length=(met boxes r c (2^m)).length:=by rw[Zh,hmsl]
    refine⟨_,rfl,D,rfl,⟨_,SqL.of hms⟩,λD2 hDD=>qh3 hDD (λi y _=>y=.bl (hasB r c (2^m) ((met boxes r c (2^m)).getD i []))) (qk1 (K:=K) hms) (by rw[hml2];exact qd3 (by lia)) (λ_ _ _ _ _ _ h=>h) ?_ ?_⟩
    ·intro j x H4 hj hx s4 Q' hq;rw[Zg] at hx;obtain⟨b,wY,rfl⟩:=Zj.mp hx;have kZ:j<(met boxes r c (2^m)).length:=by rw[hml2] at hj;exact hj
     have hg:(met boxes r c (2^m))[j]?=some ((met boxes r c (2^m)).getD j []):=by rw[ZA,Zd kZ];rfl
     exact⟨_,rfl,_,rfl,_,rfl,_,rfl,b,_,r,c,2^m,rfl,s4 _ _ (hmrow j b _ wY hg),hm4 _ (Zr hg),hq _ _ (Same.refl _) rfl⟩
    ·intro ys H4 s4 jV kS vJ;have ey:ys=((met boxes r c (2^m)).map (hasB r c (2^m))).map V.bl:=by
      refine qk3 (by rw[kS,hml2,Zh,Zh]) λj x hx=>?_;have kZ:j<(met boxes r c (2^m)).length:=by
       have:=(gS_ hx).1;rw[kS,hml2] at this;exact this
      rw[vJ j x hx,Zg,Zg,Zd kZ,ZA,Zd kZ]
      rfl
     subst ey;refine⟨D2,_,rfl,jV,_,rfl,?_⟩;have eany:((met boxes r c (2^m)).map (hasB r c (2^m))).any id=(met boxes r c (2^m)).any (hasB r c (2^m)):=by rw[List.any_map];rfl
     rw[eany];have S4:=S3.trans s4;have hR4:=vS.same s4;have he4:=s4 _ _ he3;cases hh:(met boxes r c (2^m)).any (hasB r c (2^m)) with
     |true=>
      have hT:bt m boxes r c=.o:=xo9 jF hh;rw[hT] at q;refine iteT ?_;refine⟨_,rfl,(by show 0<=sizeLine;decide),λl2 jM=>?_⟩;refine⟨_,_,qk4 (hR4.same (qb4 jM)),.lst qa3 .nil,qo0 _,rfl,qi0 _,.inr ⟨_,rfl,?_⟩⟩;rw[qJ2,hie];exact q _ (But.of (S4.trans (qb4 jM))) (qd5 he4 jM)
     |false=>
      obtain⟨k,rfl⟩:∃k,m=k+1:=by
       rcases m with _|k
       ·simp only[Nat.pow_zero] at jF hh;rw[xo7 jF] at hh;cases hh
       ·exact⟨k,rfl⟩
      cases vK k rfl;refine iteF ?_;have hT:=xA9 k boxes r c jF hh;obtain⟨p1,p2⟩:=qk8 (show k<=12 by lia);obtain⟨p3,p4⟩:=qk8 hk;have ehalf:(((2^(k+1):Nat):Int))/2=((2^k:Nat):Int):=by
       rw[Yu];lia
      clear hie hms hmsl hmrow hml2 jV kS vJ eany hRm vS kY S3 s4 jT;generalize met boxes r c (2^(k+1))=m at hT hR4 vL hm4 jF hh;refine⟨_,rfl,_,_,rfl,rfl,⟨by decide,by decide⟩,?_⟩;refine⟨_,rfl,by decide,by decide,λD4 hD4=>?_⟩;have nD4e:D4≠e:=(qa7 he4 hD4).symm;refine q72 (λi xs H5=>But e H4 H5/\H5 D4=some (.lst xs)/\xs=vN (names k m r c L i)/\H5 e=some (.dT (tK (Tr.rowsOf (qL k m r c L i))))) (by decide) ⟨But.of (qb4 hD4),qa3,rfl,qd5 he4 hD4⟩ (λi xs H5 h=>⟨h.2.1,by rw[h.2.2.1,ql3];simp[names]⟩) ?_ ?_
      ·rintro i xs H5 hi ⟨b5,wK,rfl,he5⟩ Q2 q2;have wV:i<4:=hi;have veq:[V.ref e,V.ref D,V.int ((r:Int)+((2^(k+1):Nat):Int)/2*((0+(i:Int))/2)),V.int ((c:Int)+((2^(k+1):Nat):Int)/2*((0+(i:Int))%2)),V.int (((2^(k+1):Nat):Int)/2)]=[V.ref e,V.ref D,V.int ((r+2^k*(i/2):Nat):Int),V.int ((c+2^k*(i%2):Nat):Int),V.int ((2^k:Nat):Int)]:=by
        rw[ehalf,Wq,Xf,XZ,VS,Xf,XZ,VT]
        rfl
       refine⟨_,rfl,_,rfl,_,rfl,_,rfl,_,rfl,_,_,rfl,rfl,⟨by decide,by decide⟩,_,_,rfl,rfl,.inl ⟨by lia,by lia⟩,_,_,rfl,rfl,_,rfl,_,rfl,_,rfl,_,_,rfl,rfl,(by show (0:Int)<2;decide),_,_,rfl,rfl,.inl ⟨by lia,by lia⟩,_,_,rfl,rfl,_,rfl,
        e,D,m,r+2^k*(i/2),c+2^k*(i%2),qL k m r c L i,veq,hR4.but b5 nDe he4 (λu z=>by cases z),hm4,vL,nDe,qH6 hO i,he5,?_,λH6 b6 he6=>?_⟩
       ·have h1:=q71 (k:=k) (m:=m) (r:=r) (c:=c) (L:=L) i;have h2:sz (k+1)=4*sz k+1:=rfl;have h3:i*sz k<=3*sz k:=Y7 _ (by lia);lia
       ·refine q2 _ _ (b6 _ _ wK nD4e) ⟨?_,qa3,?_,?_⟩
        ·intro b o z nb;rw[qb9 (qa7 z hD4)];exact b6 _ _ (b5 _ _ z nb) nb
        ·rw[qS3 hO];unfold vN;rw[Z7]
         rfl
        ·rw[qb9 (XC nD4e)];exact he6
      ·rintro xs H5 ⟨b5,wK,rfl,he5⟩;have wK:H5 D4=some (.lst (vN (names k m r c L 4))):=wK;have he5:H5 e=some (.dT (tK (Tr.rowsOf (qL k m r c L 4)))):=he5;have O4:=qH6 (k:=k) (m:=m) (r:=r) (c:=c) hO 4;have in0:=qS2 (k:=k) (m:=m) (r:=r) (c:=c) hO (j:=0) 4 (by decide);have in1:=qS2 (k:=k) (m:=m) (r:=r) (c:=c) hO (j:=1) 4 (by decide);have in2:=qS2 (k:=k) (m:=m) (r:=r) (c:=c) hO (j:=2) 4 (by decide);have in3:=qS2 (k:=k) (m:=m) (r:=r) (c:=c) hO (j:=3) 4 (by decide);have hl4:=q71 (k:=k) (m:=m) (r:=r) (c:=c) (L:=L) 4;have hs4:sz (k+1)=4*sz k+1:=rfl;have e4:qL k m r c L 4=Tr.post (qt k m r c 3) (Tr.post (qt k m r c 2) (Tr.post (qt k m r c 1) (Tr.post (qt k m r c 0) L))):=rfl;have en:names k m r c L 4=[Tr.name (qL k m r c L 4) (qt k m r c 0),Tr.name (qL k m r c L 4) (qt k m r c 1),Tr.name (qL k m r c L 4) (qt k m r c 2),Tr.name (qL k m r c L 4) (qt k m r c 3)]:=rfl;rw[en] at wK;rw[hT] at q;generalize qL k m r c L 4=L4 at he5 O4 in0 in1 in2 in3 hl4 e4 wK;generalize qt k m r c 0=t0,qt k m r c 1=t1,qt k m r c 2=t2,qt k m r c 3=t3 at in0 in1 in2 in3 e4 wK q;have B5:But e H H5:=(But.of S4).trans b5;refine⟨_,rfl,(by show 4<=sizeLine;decide),λa ha=>⟨(by show 4<=sizeLine;decide),λb hb'=>⟨(by show 2<=sizeLine;decide),λt ht=>?_⟩⟩⟩;have S6:Same H5 (upd (upd (upd H5 a (.lst [.int 0,.int 0,.int 0,.int 0])) b (.lst [.int 1,.int 1,.int 1,.int 1])) t (.tup [.ref a,.ref b])):=((qb4 ha).trans (qb4 hb')).trans (qb4 ht);have da:DataAt (upd (upd (upd H5 a (.lst [.int 0,.int 0,.int 0,.int 0])) b (.lst [.int 1,.int 1,.int 1,.int 1])) t (.tup [.ref a,.ref b])) (.ref a) (dL [0,0,0,0]):=.lst (qd5 (qd5 qa3 hb') ht) (DatasAt.ints [0,0,0,0]);have db:DataAt (upd (upd (upd H5 a (.lst [.int 0,.int 0,.int 0,.int 0])) b (.lst [.int 1,.int 1,.int 1,.int 1])) t (.tup [.ref a,.ref b])) (.ref b) (dL [1,1,1,1]):=.lst (qd5 qa3 ht) (DatasAt.ints [1,1,1,1]);have wJ:=S6 _ _ wK;have he6:=S6 _ _ he5;have ht6:upd (upd (upd H5 a (.lst [.int 0,.int 0,.int 0,.int 0])) b (.lst [.int 1,.int 1,.int 1,.int 1])) t (.tup [.ref a,.ref b]) t=some (.tup [.ref a,.ref b]):=qa3;generalize upd (upd (upd H5 a (.lst [.int 0,.int 0,.int 0,.int 0])) b (.lst [.int 1,.int 1,.int 1,.int 1])) t (.tup [.ref a,.ref b])=H6 at S6 da db wJ he6 ht6 ⊢;refine⟨t,[.ref a,.ref b],[dL [0,0,0,0],dL [1,1,1,1]],dL ([Tr.name L4 t0,Tr.name L4 t1,Tr.name L4 t2,Tr.name L4 t3].map λx:Nat=>(x:Int)),rfl,ht6,.cons da (.cons db .nil),.lst (wJ.trans (Yk (λz=>some (HO.lst z)) (qq3 _))) (DatasAt.ints _),qL3 _,(by simp[PyData.canLayAll0,qL3]),ZF (qN0 _) (by decide),?_⟩;rw[X1,X1,List.any_nil,qX5,qX5,Bool.or_false];have B6:But e H H6:=B5.trans (But.of S6);refine⟨_,rfl,?_⟩;have hk:∀s∈Tr.kids (.nd t0 t1 t2 t3),Tr.In L4 s:=λs hs=>by
        have:s=t0\/s=t1\/s=t2\/s=t3:=by simpa [Tr.kids] using hs
        rcases this with rfl|rfl|rfl|rfl<;>assumption
       refine ite2 (λhc=>?_) (λhc=>?_)
       ·rcases W9 _ _▸hc with z|z
        ·obtain⟨eL,em,e0⟩:=kp0 e4 (ZI z);rw[em] at q;have q':=q H6 B6 (show H6 e=some (.dT (tK (Tr.rowsOf L))) from eL▸he6);exact⟨_,rfl,D4,_,0,.int (Tr.name L4 t0:Nat),rfl,rfl,SqL.of wJ,rfl,by rw[e0];exact q'⟩
        ·obtain⟨eL,em,e0⟩:=kp1 e4 (ZI z);rw[em] at q;have q':=q H6 B6 (show H6 e=some (.dT (tK (Tr.rowsOf L))) from eL▸he6);exact⟨_,rfl,D4,_,0,.int (Tr.name L4 t0:Nat),rfl,rfl,SqL.of wJ,rfl,by rw[e0];exact q'⟩
       ·have hmk:=kpn hc;rw[hmk] at q;have hrow4:(Tr.kids (.nd t0 t1 t2 t3)).map (Tr.name L4)=[Tr.name L4 t0,Tr.name L4 t1,Tr.name L4 t2,Tr.name L4 t3]:=rfl;have jK:=xl4 O4 hk;rw[hrow4] at jK;refine⟨_,rfl,D4,_,rfl,.inl ⟨SqL.of wJ,λu hu=>?_⟩⟩;have S7:=qb4 (o:=.tup (vN [Tr.name L4 t0,Tr.name L4 t1,Tr.name L4 t2,Tr.name L4 t3])) hu;have he7:=S7 _ _ he6;have hu7:upd H6 u (.tup (vN [Tr.name L4 t0,Tr.name L4 t1,Tr.name L4 t2,Tr.name L4 t3])) u=some (.tup ((keyN [Tr.name L4 t0,Tr.name L4 t1,Tr.name L4 t2,Tr.name L4 t3]).map kV)):=by rw[qa3,qu6]
        have w5:=S7 _ _ wJ;have B7:=B6.trans (But.of (e:=e) S7);generalize upd H6 u (.tup (vN [Tr.name L4 t0,Tr.name L4 t1,Tr.name L4 t2,Tr.name L4 t3]))=H7 at S7 he7 hu7 w5 B7 ⊢;refine⟨_,rfl,e,_,rfl,DGet.t he7 hu7,_,rfl,?_⟩;rw[xf9];by_cases hm:[Tr.name L4 t0,Tr.name L4 t1,Tr.name L4 t2,Tr.name L4 t3]∈Tr.rowsOf L4
        ·rw[Zx hm];refine iteF ?_;have wZ:=jK.mp hm;obtain⟨wM,eL⟩:=kpi hO e4 wZ;rw[qu7 (.inr (.inr wM))] at q;rw[<- eL] at q wM;refine⟨_,rfl,_,rfl,D4,_,rfl,.inl ⟨SqL.of w5,λu2 wO=>⟨e,_,rfl,xg0 O4 wM (qd5 he7 wO) qa3,?_⟩⟩⟩;exact q _ (B7.trans (But.of (qb4 wO))) (qd5 he7 wO)
        ·rw[Zk hm];refine iteT ?_;have wZ:Tr.nd t0 t1 t2 t3∉L4:=λz=>hm (jK.mpr z);have ep:=kpx e4 wZ;have O5:=(Tr.post_ord (.nd t0 t1 t2 t3) L hO).1;rw[ep] at q O5;have er:=qy0 O4 hk;rw[hrow4] at er;have jA:(tK (Tr.rowsOf L4)).length=L4.length:=by unfold tK;rw[qr7,Tr.rowsOf_len]
         have hli:L4.length+1<=6000000:=by lia
         refine⟨_,rfl,e,_,rfl,he7,_,_,rfl,rfl,_,rfl,_,rfl,D4,_,rfl,.inl ⟨SqL.of w5,λu2 wO=>?_⟩⟩;have he8:=qd5 (u:=.tup (vN [Tr.name L4 t0,Tr.name L4 t1,Tr.name L4 t2,Tr.name L4 t3])) he7 wO;refine⟨e,_,rfl,DPut.t he8 (by rw[qa3,qu6]) (by rw[jA];exact Y1 (show L4.length<=6000000 by lia) (by decide)),?_⟩;have eput:=xu9 O4 hk hm;rw[eput];have hd8:upd (upd H7 u2 (.tup (vN [Tr.name L4 t0,Tr.name L4 t1,Tr.name L4 t2,Tr.name L4 t3]))) e (.dT (tK (Tr.rowsOf (L4++[.nd t0 t1 t2 t3])))) D4=some (.lst (vN [Tr.name L4 t0,Tr.name L4 t1,Tr.name L4 t2,Tr.name L4 t3])):=by
          rw[qb9 nD4e];exact qd5 w5 wO
         have he9:upd (upd H7 u2 (.tup (vN [Tr.name L4 t0,Tr.name L4 t1,Tr.name L4 t2,Tr.name L4 t3]))) e (.dT (tK (Tr.rowsOf (L4++[.nd t0 t1 t2 t3])))) e=some (.dT (tK (Tr.rowsOf (L4++[.nd t0 t1 t2 t3])))):=qa3;have B8:But e H (upd (upd H7 u2 (.tup (vN [Tr.name L4 t0,Tr.name L4 t1,Tr.name L4 t2,Tr.name L4 t3]))) e (.dT (tK (Tr.rowsOf (L4++[.nd t0 t1 t2 t3]))))):=(B7.trans (But.of (qb4 wO))).trans But.upd;generalize upd (upd H7 u2 (.tup (vN [Tr.name L4 t0,Tr.name L4 t1,Tr.name L4 t2,Tr.name L4 t3]))) e (.dT (tK (Tr.rowsOf (L4++[.nd t0 t1 t2 t3]))))=H8 at hd8 he9 B8 ⊢;have enm:∀s,Tr.In L4 s->Tr.name (L4++[.nd t0 t1 t2 t3]) s=Tr.name L4 s:=λs hs=>Tr.name_app hs O4;refine⟨_,rfl,_,rfl,D4,_,rfl,.inl ⟨SqL.of hd8,λu3 hu3=>⟨e,_,rfl,xg0 (a:=t0) (b:=t1) (c:=t2) (d:=t3) O5 (by simp) (qd5 he9 hu3) (by rw[qa3,enm t0 in0,enm t1 in1,enm t2 in2,enm t3 in3]),?_⟩⟩⟩;exact q _ (B8.trans (But.of (qb4 hu3))) (qd5 he9 hu3)
theorem xi1 {f fM fH:Addr}{fd fdM fdH:FuncData}(F:Fun K "_law_number" "_law_number" qj4 f fd) (B:Blt mg) (hN:mg "_law_number" = some (.ref f)) (bN:Binds K fd qH7 [])
  (hM:mg "_law_meets" = some (.ref fM)) (FM:Fun K "_law_meets" "_law_meets" qx6 fM fdM) (bM:Binds K fdM qo8 [])
  (hH:mg "_law_has" = some (.ref fH)) (FH:Fun K "_law_has" "_law_has" lHas fH fdH) (bH:Binds K fdH qo8 []):∀k,k<=12->FnOk P w K mg base CX0 (k+2) f fd qH7 (xe0 k)
 |0,h=>q73 F B hN bN hM FM bM hH FH bH h (sp':=λ_ _ _ _=>False) ⟨λ_ _ _ _ h=>h.elim,λ_ _ _ _ _ _ _ _ _ _ _ _ _ h=>h.elim⟩ (λj e=>nomatch e)
 |k+1,h=>q73 F B hN bN hM FM bM hH FH bH h (xi1 F B hN bN hM FM bM hH FH bH k (by lia)) (λj e=>by cases e;rfl)
end
def bTop (n:Nat) (boxes:List Row):Nat:=Tr.name (Tr.post (bt n boxes 0 0) []) (bt n boxes 0 0)
def qp9 (n:Nat) (boxes:List Row):List Row:=Tr.rowsOf (Tr.post (bt n boxes 0 0) [])
theorem xp0 {n:Nat}{boxes:List Row}(hn:n<=12):Canon n (bTop n boxes) (qp9 n boxes):=qQ5 hn (qH0 n boxes 0 0) (qH1 n boxes 0 0)
theorem xB0 {n:Nat}{boxes:List Row}(hn:n<=12) (h:xd6 n boxes):(qp9 n boxes).length<=485:=by
 unfold qp9;rw[Tr.rowsOf_len];have h1:=qp8 (bt n boxes 0 0) [];have h2:=qH5 hn h;simp at h1;lia
theorem b_T {n:Nat}{boxes:List Row}:T (qp9 n boxes) (bTop n boxes)=bt n boxes 0 0:=by
 obtain⟨ho,hi⟩:=Tr.post_ord (bt n boxes 0 0) [] Tr.ord_nil;exact qu5 ho _ hi
section
variable {P:Program}{w:World}{K:PySem.W.Frag}{mg:Str->Option Value}{base:Heap}
abbrev nBSh:List Str:=["_law_n", "_law_boxes_here", "_law_rows", "_law_top"]
theorem scBSh:FnScope nBSh ["_law_n", "_law_boxes_here"] (qa4 qM5):=qc7
def xv2:Sp:=λvs H Q _=>∃(bp:Addr) (n:Nat) (boxes:List Row),vs=[.int (n:Nat),.ref bp]/\RowsL H bp boxes/\xd6 n boxes/\n<=12/\∀(H':Hp) (t:Addr),Same H H'->qe2 H' t n (bTop n boxes) (qp9 n boxes)->Q (.ref t) H'
theorem xv3 {f fN fM fH:Addr}{fd fdN fdM fdH:FuncData}(F:Fun K "_law_shape" "_law_shape" qM5 f fd) (B:Blt mg) (hN:mg "_law_number" = some (.ref fN)) (FN:Fun K "_law_number" "_law_number" qj4 fN fdN) (bN:Binds K fdN qH7 [])
  (hM:mg "_law_meets" = some (.ref fM)) (FM:Fun K "_law_meets" "_law_meets" qx6 fM fdM) (bM:Binds K fdM qo8 [])
  (hH:mg "_law_has" = some (.ref fH)) (FH:Fun K "_law_has" "_law_has" lHas fH fdH) (bH:Binds K fdH qo8 []):FnOk P w K mg base CX0 15 f fd ["_law_n", "_law_boxes_here"] xv2:=by
 have GN:∀k,k<=12->FnOk P w K mg base CX0 (k+2) fN fdN qH7 (xe0 k):=xi1 FN B hN bN hM FM bM hH FH bH;refine F.ok scBSh (λvs H Q E h=>?_) (λcdv A outer s H vs Q E hr h=>?_)
 ·obtain⟨bp,n,boxes,rfl,_⟩:=h
  rfl
 ·obtain⟨bp,n,boxes,rfl,hR,wN,hn,q⟩:=h;have hrN:Room (n+2) _:=hr.mono (by lia);refine seqE ⟨_,⟨psN 2 scBSh.nd q85⟩,?_⟩;refine seqE ⟨_,⟨psN 3 scBSh.nd (qU2 (GN n hn) hrN (by rfl) hN FN.kp bN .nil xq9 (Ars2.go (.cons ⟨pv 2⟩ (.cons ⟨pv 1⟩ (.cons qg0 (.cons qg0 (.cons ⟨qa6 qf2 qa1 (pv 0)⟩ .nil rfl) rfl) rfl) rfl) rfl)))⟩,?_⟩;refine qf9 ⟨_,⟨qa9 (qd8 (Ars2.go (.cons ⟨pv 0⟩ (.cons ⟨pv 3⟩ (.cons ⟨qc6 (qF2 rfl) (by rfl) B.tuple Yn (qa0 (pv 2) qa2)⟩ .nil rfl) rfl) rfl)))⟩,?_⟩;intro e he;have nbe:bp≠e:=by obtain⟨bs,hb,_⟩:=hR;exact qa7 hb he
  have h4:∀b∈boxes,b.length=4:=λb hb=>by
   obtain⟨r,c,h,w',rfl,_⟩:=wN.1 b hb
   rfl
  have kH:boxes.length<=900:=by
   rcases wN.2 with ⟨_,h⟩|⟨h,_⟩<;>lia
  have hsz:sz n<=6000000:=ZF (xv1 hn) (by decide);have veq:[V.ref e,V.ref bp,V.int 0,V.int 0,V.int (1*2^((n:Int)).toNat)]=[V.ref e,V.ref bp,V.int ((0:Nat):Int),V.int ((0:Nat):Int),V.int ((2^n:Nat):Int)]:=by rw[qv8];rfl
  refine⟨_,rfl,_,rfl,_,rfl,_,_,rfl,rfl,⟨by lia,by lia,by decide⟩,e,bp,boxes,0,0,[],veq,hR.same (qb4 he),h4,kH,nbe,Tr.ord_nil,qa3,by simpa using hsz,λH1 b1 he1=>?_⟩;have S1:Same H H1:=λb o z=>b1 _ _ (qd5 z he) (qa7 z he);refine⟨_,rfl,_,rfl,_,rfl,e,_,rfl,he1,λl bs hl hbl2 hbs=>⟨(by show 3<=sizeLine;decide),λt ht=>?_⟩⟩;refine q _ t ((S1.trans (qb4 hl)).trans (qb4 ht)) ⟨⟨l,qa3,bs,qd5 qa3 ht,?_,?_⟩,xp0 hn,?_⟩
  ·rw[hbl2];unfold tK;rw[qr7]
   rfl
  ·intro i b r e1 e2;have hi:=(gS_ e2).1;have jA:(tK (qp9 n boxes)).length=(qp9 n boxes).length:=by unfold tK;rw[qr7]
   have hkv:(tK (qp9 n boxes))[i]?=some ((tK (qp9 n boxes))[i]'(by lia)):=Zd (by lia);have hk1:((tK (qp9 n boxes))[i]'(by lia)).1=keyN r:=by
    have h0:=hkv;unfold tK tabl at h0;rw[Zg] at h0;obtain⟨p,hp,ep⟩:=Zj.mp h0;rw[List.getElem?_zipIdx] at hp;obtain⟨r',hr',rfl⟩:=Zj.mp hp;rw[e2] at hr';cases hr';exact (Yk Prod.fst ep).symm
   have:=hbs i b _ e1 hkv;rw[hk1,qu6] at this;exact qd5 (qd5 this hl) ht
  ·exact ZF (xB0 hn wN) (by decide)
end
end Pr
namespace Qf
open Tr
theorem qw0:∀t:Tr,nlf t=3*nds t+1
 |.z=>rfl
 |.o=>rfl
 |.nd a b c d=>by
  show nlf a+nlf b+nlf c+nlf d=3*(1+nds a+nds b+nds c+nds d)+1;rw[qw0 a,qw0 b,qw0 c,qw0 d];lia
end Qf
namespace Pr
open PySem L2 Qf
section
variable {P:Program}{w:World}{K:PySem.W.Frag}{mg:Str->Option Value}{base:Heap}
abbrev nLaw:List Str:=["_law_script", "_law_k", "_law_pot_here", "_law_n", "_law_boxes_here", "_law_told", "_law_turn", "_law_row", "_law_column"]
theorem scLaw:FnScope nLaw ["_law_script"] (qa4 lLaw):=qc7
def xe1 (K:PySem.W.Frag):Sp:=λvs H Q _=>∃(a:Addr) (ns:List Int),vs=[.ref a]/\SqL K H a (ns.map V.int)/\ns.length<=63/\∀H',Q (.bl true) H'
theorem xv4 {f fP fD fX fT fA fU fB:Addr}{fd fdP fdD fdX fdT fdA fdU fdB:FuncData}(F:Fun K "law" "law" lLaw f fd) (B:Blt mg) (C:Blt2 mg)
  (hP:mg "_law_pot" = some (.ref fP)) (FP:Fun K "_law_pot" "_law_pot" lPot fP fdP) (bP:Binds K fdP ["_law_script", "_law_k"] [])
  (hD:mg "_law_digit" = some (.ref fD)) (FD:Fun K "_law_digit" "_law_digit" qq2 fD fdD) (bD:Binds K fdD ["_law_pot_here", "_law_many"] [])
  (hX:mg "_law_boxes" = some (.ref fX)) (FX:Fun K "_law_boxes" "_law_boxes" qE5 fX fdX) (bX:Binds K fdX ["_law_pot_here", "_law_n"] []) (GX:FnOk P w K mg base CX0 3 fX fdX ["_law_pot_here", "_law_n"] q69)
  (hT:mg "_law_shape" = some (.ref fT)) (FT:Fun K "_law_shape" "_law_shape" qM5 fT fdT) (bT:Binds K fdT ["_law_n", "_law_boxes_here"] []) (GT:FnOk P w K mg base CX0 15 fT fdT ["_law_n", "_law_boxes_here"] xv2)
  (hA:mg "_law_near_box" = some (.ref fA)) (FA:Fun K "_law_near_box" "_law_near_box" q94 fA fdA) (bA:Binds K fdA nNr3 []) (GA:FnOk P w K mg base CX0 2 fA fdA nNr3 spNr)
  (hU:mg "_law_right" = some (.ref fU)) (FU:Fun K "_law_right" "_law_right" qM7 fU fdU) (bU:Binds K fdU nRt4 []) (GU:FnOk P w K mg base CX0 3 fU fdU nRt4 spRt)
  (hB:mg "nearest" = some (.ref fB)) (FB:Fun K "nearest" "nearest" qk2 fB fdB) (bB:Binds K fdB ["shape", "row", "column"] []) (GB:FnOk P w K mg base CX0 19 fB fdB ["shape", "row", "column"] spNe) :
  FnOk P w K mg base CX0 20 f fd ["_law_script"] (xe1 K):=by
 have GP:FnOk P w K mg base CX0 1 fP fdP ["_law_script", "_law_k"] (xt9 K):=xu0 FP B C;have GD:FnOk P w K mg base CX0 1 fD fdD ["_law_pot_here", "_law_many"] qm3:=qo7 FD;refine F.ok scLaw (λvs H Q E h=>?_) (λcdv A outer s H vs Q E hr h=>?_)
 ·obtain⟨a,ns,rfl,_⟩:=h
  rfl
 ·obtain⟨a,ns,rfl,hSq,j9,q⟩:=h;have jJ:Room 1 _:=hr.mono (by decide);have k8:Room 2 _:=hr.mono (by decide);have hr3:Room 3 _:=hr.mono (by decide);have hr15:Room 15 _:=hr.mono (by decide);refine seqE ⟨_,⟨ql1 YK rfl (qi8 (by rfl) B.range (qa0 (qa5 (qd2 rfl) (by rfl) B.max ZN (qa0 qa1 (qa0 (qa5 (qe7 rfl) (by rfl) B.min Yh (qa0 (qa5 qc9 (by rfl) B.len Yy (qa0 (pv 0) qa2)) (qa0 qa1 qa2))) qa2))) qa2)) (pgN 1 scLaw.nd)
    (StB.go (.cons ⟨psN 2 scLaw.nd (pcN GP jJ hP FP.kp bP (qa0 (pv 0) (qa0 (pv 1) qa2)))⟩
    (.cons ⟨psN 3 scLaw.nd (qa6 qc3 qa1 (PEb.go ⟨pcN GD jJ hD FD.kp bD (qa0 (pv 2) (qa0 qa1 qa2))⟩))⟩
    (.cons ⟨psN 4 scLaw.nd (pcN GX hr3 hX FX.kp bX (qa0 (pv 2) (qa0 (pv 3) qa2)))⟩
    (.cons ⟨psN 5 scLaw.nd (pcN GT hr15 hT FT.kp bT (qa0 (pv 3) (qa0 (pv 4) qa2)))⟩
    (.one ⟨ql1 YK rfl (qi8 (by rfl) B.range (qa0 qa1 qa2)) (pgN 6 scLaw.nd)
     (StB.go (.cons ⟨qi7 (PEb.go ⟨pcN GA k8 hA FA.kp bA (qa0 (pv 2) (qa0 (pv 4) (qa0 (pv 3) qa2)))⟩) (qi3 rfl (qb1 (pgN 7 scLaw.nd) (qb1 (pgN 8 scLaw.nd) qe9)))⟩
     (.one ⟨qd9 (qg1 (qe6 (PEb.go ⟨pcN GU hr3 hU FU.kp bU (Ars2.go (.cons ⟨pv 5⟩ (.cons ⟨pv 7⟩ (.cons ⟨pv 8⟩ (.cons ⟨pcN GB hr hB FB.kp bB (qa0 (pv 5) (qa0 (pv 7) (qa0 (pv 8) qa2)))⟩ .nil rfl) rfl) rfl) rfl))⟩))) (qa8 (qa9 qm4)) qb8⟩)))⟩))))))⟩,?_⟩
  refine qf9 ⟨_,⟨qa9 qm4⟩,?_⟩;refine⟨_,rfl,a,_,rfl,.inl hSq,_,_,rfl,_,_,rfl,_,rfl,?_,?_,qB7 (λi σ H2=>(i:Int)<=3/\Same H H2/\∃v1 v2 v3 v4 v5 v6 v7 v8,σ=[some (.ref a),v1,v2,v3,v4,v5,v6,v7,v8]) ⟨by decide,Same.refl _,none,none,none,none,none,none,none,none,rfl⟩ ?_ ?_⟩
  ·split<;>(try split)<;>lia
  ·split<;>(try split)<;>lia
  ·rintro i σ H2 hi ⟨i1,s2,v1,v2,v3,v4,v5,v6,v7,v8,rfl⟩;have hi':(i:Int)<3:=by
    revert hi;split<;>(try split)<;>lia
   refine⟨_,rfl,_,rfl,a,_,ns,rfl,s2.seq hSq,j9,by lia,by lia,λH3 p s3 vD k9=>?_⟩;refine⟨_,rfl,p,9,rfl,k9,by decide,by decide,λd H4 hd b4 kM=>?_⟩;refine⟨_,_,rfl,rfl,?_⟩;obtain⟨n,jF⟩:∃n,n=4+d:=⟨_,rfl⟩;refine qj8 (σ':=[some (.ref a),some (.int (0+(i:Int))),some (.ref p),some (.int (n:Nat)),v4,v5,v6,v7,v8]) (Yk (λz:Int=>[some (V.ref a),some (V.int (0+(i:Int))),some (V.ref p),some (V.int z),v4,v5,v6,v7,v8]) (show (4:Int)+(d:Int)=(n:Int) by lia)) ?_;refine⟨_,rfl,_,rfl,p,n,rfl,kM,by lia,λH5 l boxes b5 hp5 hl hRb wN=>?_⟩;have kP:l≠p:=λz=>by
    obtain⟨x,y,h1,_⟩:=kM;rw[z,h1] at hl;cases hl
   have kH:boxes.length<=900:=by rcases wN.2 with ⟨_,h⟩|⟨h,_⟩<;>lia
   refine⟨_,rfl,_,rfl,l,n,boxes,rfl,hRb,wN,by lia,λH6 t s6 sh6=>?_⟩;have hfew:=qH5 (by lia) wN;have eT:T (qp9 n boxes) (bTop n boxes)=bt n boxes 0 0:=b_T;have vW:nlf (T (qp9 n boxes) (bTop n boxes))<=2000:=by rw[eT,qw0];lia
   generalize bTop n boxes=tp,qp9 n boxes=rows at sh6 eT vW;have vV:=hp5.same s6;have hR6:=hRb.same s6;have B6:But p H2 H6:=λb o e nb=>s6 _ _ (b5 _ _ (b4 _ _ (s3 _ _ e) nb) nb);refine⟨5,rfl,by decide,by decide,qB7 (lo:=0) (n:=5) (λj σ H7=>But p H6 H7/\PurseAt H7 p/\∃v6 v7 v8,σ=[some (.ref a),some (.int (0+(i:Int))),some (.ref p),some (.int (n:Nat)),some (.ref l),some (.ref t),v6,v7,v8]) ⟨But.refl _ _,vV,v6,v7,v8,rfl⟩ ?_ ?_⟩
   ·rintro j σ H7 hj ⟨b7,wF,w6,w7,w8,rfl⟩;have tups:∀{Ha Hb:Hp},PurseAt Ha p->But p Ha Hb->Tups Ha Hb:=λ{Ha Hb} h b=>by
     obtain⟨x,y,h1,_⟩:=h;exact b.tups h1 (λu z=>by cases z)
    have hR7:RowsL H7 l boxes:=by
     obtain⟨x,y,h1,_⟩:=vV;exact hR6.but b7 kP h1 (λu z=>by cases z)
    refine⟨_,rfl,_,rfl,_,rfl,p,l,n,boxes,rfl,wF,hR7,kP,wN.1,kH,by lia,λH8 q8 r c b8 hp8 vC vH hq8=>?_⟩;refine⟨q8,_,rfl,SqT.of hq8,rfl,_,_,rfl,_,_,rfl,rfl,?_⟩;refine qj8 (σ':=[some (.ref a),some (.int (0+(i:Int))),some (.ref p),some (.int (n:Nat)),some (.ref l),some (.ref t),some (.int (0+(j:Int))),some (.int (r:Nat)),some (.int (c:Nat))]) rfl ?_;have b68:But p H6 H8:=b7.trans b8;have sh8:qe2 H8 t n tp rows:=⟨sh6.1.mono (tups vV b68),sh6.2⟩;refine⟨_,rfl,_,rfl,_,rfl,_,rfl,_,rfl,_,rfl,t,n,tp,r,c,rows,rfl,sh8,vW,vC,vH,λwR Hb sb=>?_,λe0 wI wX hm0 Hb pb qb lb sb jT wE hqb hlb2=>?_⟩
    ·refine⟨t,n,tp,r,c,rows,_,rfl,qB3 sh8 sb.tups,vW,vC,vH,.inl ⟨rfl,wR⟩,λHc sc=>⟨_,rfl,iteF ?_⟩⟩;have s8c:Same H8 Hc:=sb.trans sc;exact⟨b68.trans (But.of s8c),hp8.same s8c,_,_,_,rfl⟩
    ·refine⟨t,n,tp,r,c,rows,_,rfl,qB3 sh8 sb.tups,vW,vC,vH,.inr ⟨e0,pb,qb,lb,rfl,wI,wX,hm0,wE,hqb,hlb2⟩,λHc sc=>⟨_,rfl,iteF ?_⟩⟩;have s8c:Same H8 Hc:=sb.trans sc;exact⟨b68.trans (But.of s8c),hp8.same s8c,_,_,_,rfl⟩
   ·rintro σ H7 ⟨b7,wF,w6,w7,w8,rfl⟩;refine⟨by lia,λb o e=>?_,_,_,_,_,_,_,_,_,rfl⟩;have e2:=s2 b o e;have nb:b≠p:=qa7 e2 vD;exact b7 _ _ (B6 _ _ e2 nb) nb
  ·rintro σ H2 ⟨_,s2,v1,v2,v3,v4,v5,v6,v7,v8,rfl⟩;exact q H2
end
def qc8 (K:PySem.W.Frag) (x:Str) (st:Stmt):Prop:=∃(f:Addr) (fd:FuncData),PySem.W.nsIn K mainGlobals x=some (some (.ref f))/\Fun K x x st f fd
theorem d_mk {K:PySem.W.Frag}{x:Str}{st:Stmt}{f:Addr}{od an:Option Addr}{sl:Array (Option Value)}{oc kV dc pm cd ct:Value}(a:PySem.W.nsIn K mainGlobals x=some (some (.ref f)))
  (l:K.lookup f=some ⟨oc,od,.func (PySem.W.fnOf x x (qh7 st) (qg7 st) (qa4 st) .none kV dc pm an cd ct),sl⟩) (c:PySem.W.codeIn K cd x=true) (k:PySem.W.keepIn K (.ref f)=true):qc8 K x st:=⟨f,_,a,xf0 l c k⟩
def qc1 (K:PySem.W.Frag) (x:Str):Prop:=PySem.W.nsIn K mainGlobals x=some none
theorem us1 {α:Type}{P:List α->Prop}(h:∀a:α,P [a]):∀us:List α,us.length=1->P us
 |[a],_=>h a
theorem us2 {α:Type}{P:List α->Prop}(h:∀a b:α,P [a,b]):∀us:List α,us.length=2->P us
 |[a,b],_=>h a b
theorem us3 {α:Type}{P:List α->Prop}(h:∀a b c:α,P [a,b,c]):∀us:List α,us.length=3->P us
 |[a,b,c],_=>h a b c
theorem us4 {α:Type}{P:List α->Prop}(h:∀a b c d:α,P [a,b,c,d]):∀us:List α,us.length=4->P us
 |[a,b,c,d],_=>h a b c d
theorem us5 {α:Type}{P:List α->Prop}(h:∀a b c d e:α,P [a,b,c,d,e]):∀us:List α,us.length=5->P us
 |[a,b,c,d,e],_=>h a b c d e
theorem xv5 {l:PySem.W.OpenLaw}{w:World}{K:PySem.W.Frag}{h:Heap}{mg:Str->Option Value}{fa fL:Addr}(X:K.In h) (G:h.Ns mainGlobals mg) (hfa:mg "law" = some (.ref fa)){odL anL:Option Addr}{slL:Array (Option Value)}{ocL kVL dcL pmL cdL ctL:Value}{t0 t1 t2 t3:Tok}
  (aL:PySem.W.nsIn K mainGlobals "law" = some (some (.ref fL))) (lL:K.lookup fL=some ⟨ocL,odL,.func (PySem.W.fnOf "law" "law" (qh7 lLaw) (qg7 lLaw) (qa4 lLaw) .none kVL dcL pmL anL cdL ctL),slL⟩) (cL:PySem.W.codeIn K cdL "law" = true) (kL:PySem.W.keepIn K (.ref fL)=true)
  (g0:PySem.W.nsIn K mainGlobals "FIRST" = some (some (.int 2 t0))) (g1:PySem.W.nsIn K mainGlobals "FULL" = some (some (.int 1 t1))) (g2:PySem.W.nsIn K mainGlobals "GREATEST_SIZE" = some (some (.int 12 t2))) (g3:PySem.W.nsIn K mainGlobals "MOST_LEAVES" = some (some (.int 2000 t3)))
  (d0:qc8 K "is_whole" qx5) (d1:qc8 K "is_plain" qL9) (d2:qc8 K "depths_of" qZ2) (d3:qc8 K "end_rows" sEnd) (d4:qc8 K "places_as_ended" qy9) (d5:qc8 K "is_size" qZ3) (d6:qc8 K "is_number" qt8) (d7:qc8 K "is_row" sRow) (d8:qc8 K "are_rows" qZ6) (d9:qc8 K "is_telling" qr5) (d10:qc8 K "is_shape" qE2) (d11:qc8 K "want_shape" qE3) (d12:qc8 K "is_address" qZ4) (d13:qc8 K "is_cell" q92) (d14:qc8 K "want_floor" qM0) (d15:qc8 K "want_address" qM1) (d16:qc8 K "want_cell" qn4) (d17:qc8 K "side_of" qZ5) (d18:qc8 K "box_at" qM2) (d19:qc8 K "box_of" qM3) (d20:qc8 K "count_leaves" qt9) (d21:qc8 K "gather_leaves" qr6) (d22:qc8 K "want_leaves" qM4) (d23:qc8 K "want_coarse" qz0) (d24:qc8 K "leaves_of" qn5) (d25:qc8 K "least_far" qn6) (d26:qc8 K "seen_leaves" qZ7) (d27:qc8 K "nearest" qk2) (d28:qc8 K "_law_pot" lPot) (d29:qc8 K "_law_digit" qq2) (d30:qc8 K "_law_cells" qE4) (d31:qc8 K "_law_box" lBox) (d32:qc8 K "_law_boxes" qE5) (d33:qc8 K "_law_meets" qx6) (d34:qc8 K "_law_has" lHas) (d35:qc8 K "_law_number" qj4) (d36:qc8 K "_law_shape" qM5) (d37:qc8 K "_law_leaf" q93) (d38:qc8 K "_law_near_box" q94) (d39:qc8 K "_law_square" qz1) (d40:qc8 K "_law_common" qz2) (d41:qc8 K "_law_ahead" qM6) (d42:qc8 K "_law_share" qE6) (d43:qc8 K "_law_right" qM7)
  (z0:qc1 K "isinstance") (z1:qc1 K "int") (z2:qc1 K "bool") (z3:qc1 K "tuple") (z4:qc1 K "list") (z5:qc1 K "set") (z6:qc1 K "len") (z7:qc1 K "all") (z8:qc1 K "any") (z9:qc1 K "enumerate") (z10:qc1 K "range") (z11:qc1 K "max") (z12:qc1 K "min") (z13:qc1 K "abs") (z14:qc1 K "repr") (z15:qc1 K "str") (z16:qc1 K "sum") (z17:qc1 K "sorted") :
  ∃fd:FuncData,(∀(s:Shared) (v:Value),BindsTo s fd ⟨[v],[]⟩ [("_law_script",v)])/\∀base:Heap,K.In base->base.Ns mainGlobals mg->FnOk l.prog w K mg base CX0 20 fa fd ["_law_script"] (xe1 K):=by
 have e:=hfa.symm.trans (Zo X G aL);cases e;have nn:∀{x:Str},qc1 K x->mg x=none:=λz=>PySem.W.mg_none_of X G z;have B:Blt mg:=⟨nn z0,nn z1,nn z2,nn z3,nn z4,nn z5,nn z6,nn z7,nn z8,nn z9,nn z10,nn z11,nn z12⟩;have C:Blt2 mg:=⟨nn z13,nn z14,nn z15⟩;have T:Cst mg:=⟨⟨t0,Zo X G g0⟩,⟨t1,Zo X G g1⟩,⟨t2,Zo X G g2⟩⟩;have FL:=xf0 (st:=lLaw) lL cL kL;obtain⟨f0,fd0,a0,F0⟩:=d0;have h0:=Zo X G a0;have b0:=F0.binds (ps:=["thing"]) λ_ _ _ _ _ _=>us1 λ_=>rfl;obtain⟨f1,fd1,a1,F1⟩:=d1;have h1:=Zo X G a1;have b1:=F1.binds (ps:=["row"]) λ_ _ _ _ _ _=>us1 λ_=>rfl;obtain⟨f2,fd2,a2,F2⟩:=d2;have h2:=Zo X G a2;have b2:=F2.binds (ps:=["rows"]) λ_ _ _ _ _ _=>us1 λ_=>rfl;obtain⟨f3,fd3,a3,F3⟩:=d3;have h3:=Zo X G a3;have b3:=F3.binds (ps:=["rows", "number", "ended"]) λ_ _ _ _ _ _=>us3 λ_ _ _=>rfl;obtain⟨f4,fd4,a4,F4⟩:=d4;have h4:=Zo X G a4;have b4:=F4.binds (ps:=["rows", "top"]) λ_ _ _ _ _ _=>us2 λ_ _=>rfl;obtain⟨f5,fd5,a5,F5⟩:=d5;have h5:=Zo X G a5;have b5:=F5.binds (ps:=["thing"]) λ_ _ _ _ _ _=>us1 λ_=>rfl;obtain⟨f6,fd6,a6,F6⟩:=d6;have h6:=Zo X G a6;have b6:=F6.binds (ps:=["thing", "many"]) λ_ _ _ _ _ _=>us2 λ_ _=>rfl;obtain⟨f7,fd7,a7,F7⟩:=d7;have h7:=Zo X G a7;have b7:=F7.binds (ps:=["thing", "before"]) λ_ _ _ _ _ _=>us2 λ_ _=>rfl;obtain⟨f8,fd8,a8,F8⟩:=d8;have h8:=Zo X G a8;have b8:=F8.binds (ps:=["thing"]) λ_ _ _ _ _ _=>us1 λ_=>rfl;obtain⟨f9,fd9,a9,F9⟩:=d9;have h9:=Zo X G a9;have b9:=F9.binds (ps:=["thing"]) λ_ _ _ _ _ _=>us1 λ_=>rfl;obtain⟨f10,fd10,a10,F10⟩:=d10;have h10:=Zo X G a10;have b10:=F10.binds (ps:=["thing"]) λ_ _ _ _ _ _=>us1 λ_=>rfl;obtain⟨f11,fd11,a11,F11⟩:=d11;have h11:=Zo X G a11;have b11:=F11.binds (ps:=["shape"]) λ_ _ _ _ _ _=>us1 λ_=>rfl;obtain⟨f12,fd12,a12,F12⟩:=d12;have h12:=Zo X G a12;have b12:=F12.binds (ps:=["n", "thing"]) λ_ _ _ _ _ _=>us2 λ_ _=>rfl;obtain⟨f13,fd13,a13,F13⟩:=d13;have h13:=Zo X G a13;have b13:=F13.binds (ps:=["n", "row", "column"]) λ_ _ _ _ _ _=>us3 λ_ _ _=>rfl;obtain⟨f14,fd14,a14,F14⟩:=d14;have h14:=Zo X G a14;have b14:=F14.binds (ps:=["n"]) λ_ _ _ _ _ _=>us1 λ_=>rfl;obtain⟨f15,fd15,a15,F15⟩:=d15;have h15:=Zo X G a15;have b15:=F15.binds (ps:=["n", "address"]) λ_ _ _ _ _ _=>us2 λ_ _=>rfl;obtain⟨f16,fd16,a16,F16⟩:=d16;have h16:=Zo X G a16;have b16:=F16.binds (ps:=["n", "row", "column"]) λ_ _ _ _ _ _=>us3 λ_ _ _=>rfl;obtain⟨f17,fd17,a17,F17⟩:=d17;have h17:=Zo X G a17;have b17:=F17.binds (ps:=["n"]) λ_ _ _ _ _ _=>us1 λ_=>rfl;obtain⟨f18,fd18,a18,F18⟩:=d18;have h18:=Zo X G a18;have b18:=F18.binds (ps:=["n", "address"]) λ_ _ _ _ _ _=>us2 λ_ _=>rfl;obtain⟨f19,fd19,a19,F19⟩:=d19;have h19:=Zo X G a19;have b19:=F19.binds (ps:=["n", "address"]) λ_ _ _ _ _ _=>us2 λ_ _=>rfl;obtain⟨f20,fd20,a20,F20⟩:=d20;have h20:=Zo X G a20;have b20:=F20.binds (ps:=["top", "rows"]) λ_ _ _ _ _ _=>us2 λ_ _=>rfl;obtain⟨f21,fd21,a21,F21⟩:=d21;have h21:=Zo X G a21;have b21:=F21.binds (ps:=["rows", "number", "address", "leaves"]) λ_ _ _ _ _ _=>us4 λ_ _ _ _=>rfl;obtain⟨f22,fd22,a22,F22⟩:=d22;have h22:=Zo X G a22;have b22:=F22.binds (ps:=["shape", "most"]) λ_ _ _ _ _ _=>us2 λ_ _=>rfl;obtain⟨f23,fd23,a23,F23⟩:=d23;have h23:=Zo X G a23;have b23:=F23.binds (ps:=["shape"]) λ_ _ _ _ _ _=>us1 λ_=>rfl;obtain⟨f24,fd24,a24,F24⟩:=d24;have h24:=Zo X G a24;have b24:=F24.binds (ps:=["shape"]) λ_ _ _ _ _ _=>us1 λ_=>rfl;obtain⟨f25,fd25,a25,F25⟩:=d25;have h25:=Zo X G a25;have b25:=F25.binds (ps:=["row", "column", "box"]) λ_ _ _ _ _ _=>us3 λ_ _ _=>rfl;obtain⟨f26,fd26,a26,F26⟩:=d26;have h26:=Zo X G a26;have b26:=F26.binds (ps:=["shape", "row", "column"]) λ_ _ _ _ _ _=>us3 λ_ _ _=>rfl;obtain⟨f27,fd27,a27,F27⟩:=d27;have h27:=Zo X G a27;have b27:=F27.binds (ps:=["shape", "row", "column"]) λ_ _ _ _ _ _=>us3 λ_ _ _=>rfl;obtain⟨f28,fd28,a28,F28⟩:=d28;have h28:=Zo X G a28;have b28:=F28.binds (ps:=["_law_script", "_law_k"]) λ_ _ _ _ _ _=>us2 λ_ _=>rfl;obtain⟨f29,fd29,a29,F29⟩:=d29;have h29:=Zo X G a29;have b29:=F29.binds (ps:=["_law_pot_here", "_law_many"]) λ_ _ _ _ _ _=>us2 λ_ _=>rfl;obtain⟨f30,fd30,a30,F30⟩:=d30;have h30:=Zo X G a30;have b30:=F30.binds (ps:=["_law_pot_here", "_law_n"]) λ_ _ _ _ _ _=>us2 λ_ _=>rfl;obtain⟨f31,fd31,a31,F31⟩:=d31;have h31:=Zo X G a31;have b31:=F31.binds (ps:=["_law_pot_here", "_law_n", "_law_most"]) λ_ _ _ _ _ _=>us3 λ_ _ _=>rfl;obtain⟨f32,fd32,a32,F32⟩:=d32;have h32:=Zo X G a32;have b32:=F32.binds (ps:=["_law_pot_here", "_law_n"]) λ_ _ _ _ _ _=>us2 λ_ _=>rfl;obtain⟨f33,fd33,a33,F33⟩:=d33;have h33:=Zo X G a33;have b33:=F33.binds (ps:=["_law_box_here", "_law_row", "_law_column", "_law_side"]) λ_ _ _ _ _ _=>us4 λ_ _ _ _=>rfl;obtain⟨f34,fd34,a34,F34⟩:=d34;have h34:=Zo X G a34;have b34:=F34.binds (ps:=["_law_box_here", "_law_row", "_law_column", "_law_side"]) λ_ _ _ _ _ _=>us4 λ_ _ _ _=>rfl;obtain⟨f35,fd35,a35,F35⟩:=d35;have h35:=Zo X G a35;have b35:=F35.binds (ps:=["_law_rows", "_law_boxes_here", "_law_row", "_law_column", "_law_side"]) λ_ _ _ _ _ _=>us5 λ_ _ _ _ _=>rfl;obtain⟨f36,fd36,a36,F36⟩:=d36;have h36:=Zo X G a36;have b36:=F36.binds (ps:=["_law_n", "_law_boxes_here"]) λ_ _ _ _ _ _=>us2 λ_ _=>rfl;obtain⟨f37,fd37,a37,F37⟩:=d37;have h37:=Zo X G a37;have b37:=F37.binds (ps:=["_law_told", "_law_row", "_law_column"]) λ_ _ _ _ _ _=>us3 λ_ _ _=>rfl;obtain⟨f38,fd38,a38,F38⟩:=d38;have h38:=Zo X G a38;have b38:=F38.binds (ps:=["_law_pot_here", "_law_boxes_here", "_law_n"]) λ_ _ _ _ _ _=>us3 λ_ _ _=>rfl;obtain⟨f39,fd39,a39,F39⟩:=d39;have h39:=Zo X G a39;have b39:=F39.binds (ps:=["_law_n", "_law_address"]) λ_ _ _ _ _ _=>us2 λ_ _=>rfl;obtain⟨f40,fd40,a40,F40⟩:=d40;have h40:=Zo X G a40;have b40:=F40.binds (ps:=["_law_box_here", "_law_other"]) λ_ _ _ _ _ _=>us2 λ_ _=>rfl;obtain⟨f41,fd41,a41,F41⟩:=d41;have h41:=Zo X G a41;have b41:=F41.binds (ps:=["_law_row", "_law_column", "_law_far", "_law_place"]) λ_ _ _ _ _ _=>us4 λ_ _ _ _=>rfl;obtain⟨f42,fd42,a42,F42⟩:=d42;have h42:=Zo X G a42;have b42:=F42.binds (ps:=["_law_ahead_here", "_law_box_here"]) λ_ _ _ _ _ _=>us2 λ_ _=>rfl;obtain⟨f43,fd43,a43,F43⟩:=d43;have h43:=Zo X G a43;have b43:=F43.binds (ps:=["_law_told", "_law_row", "_law_column", "_law_some"]) λ_ _ _ _ _ _=>us4 λ_ _ _ _=>rfl;refine⟨PySem.W.fnOf "law" "law" (qh7 lLaw) (qg7 lLaw) (qa4 lLaw) .none kVL dcL pmL anL cdL ctL,λs v=>.of_eq rfl,λbase _ _=>?_⟩;have gSize:FnOk l.prog w K mg base CX0 2 _ _ _ _:=xk6 F5 B T h0 F0 b0;have gNum:FnOk l.prog w K mg base CX0 2 _ _ _ _:=qZ9 F6 B T h0 F0 b0;have gPl:∀d,FnOk l.prog w K mg base CX0 (d+2) _ _ _ (qz6 d):=λd=>q04 F4 B T h3 F3 b3 d;have gRow:FnOk l.prog w K mg base CX0 3 _ _ _ _:=xs9 F7 B h6 F6 b6 gNum;have gRows:FnOk l.prog w K mg base CX0 4 _ _ _ _:=xl2 F8 B h7 F7 b7 gRow;have gTell:FnOk l.prog w K mg base CX0 5 _ _ _ _:=qQ6 F9 B h5 F5 b5 gSize h8 F8 b8 gRows h6 F6 b6 gNum h2 F2 b2;have gShape:FnOk l.prog w K mg base CX0 15 _ _ _ _:=xa0 F10 B T h9 F9 b9 gTell h1 F1 b1 h4 F4 b4 gPl;have gWant:FnOk l.prog w K mg base CX0 16 _ _ _ _:=xa1 F11 h10 F10 b10 gShape;have hsm:mg "sum" = none:=nn z16;have hso:mg "sorted" = none:=nn z17;have hmo:∃t,mg "MOST_LEAVES" = some (.int 2000 t):=⟨t3,Zo X G g3⟩;have gAd:FnOk l.prog w K mg base CX0 2 _ _ _ _:=xl6 F12 B C.str;have gWA:FnOk l.prog w K mg base CX0 3 _ _ _ _:=xb1 F15 h12 F12 b12 gAd;have gCl:FnOk l.prog w K mg base CX0 2 _ _ _ _:=xl8 F13 B h0 F0 b0 h17 F17 b17;have gBA:FnOk l.prog w K mg base CX0 2 _ _ _ _:=xb2 F18 B h17 F17 b17;have gWF:FnOk l.prog w K mg base CX0 3 _ _ _ _:=xz2 F14 h5 F5 b5 gSize;have gWC:FnOk l.prog w K mg base CX0 3 _ _ _ _:=xz3 F16 h13 F13 b13 gCl;have gBO:FnOk l.prog w K mg base CX0 4 _ _ _ _:=xz4 F19 h14 F14 b14 gWF h15 F15 b15 gWA h18 F18 b18 gBA;have gGL:FnOk l.prog w K mg base CX0 13 _ _ _ (spGL 12):=xy9 F21 T C.str B.enum T.full h21 b21 12;have gCo:FnOk l.prog w K mg base CX0 1 _ _ _ _:=xy5 F20 hsm;have gWL:FnOk l.prog w K mg base CX0 2 _ _ _ _:=xy6 F22 h20 F20 b20 gCo;have gCs:FnOk l.prog w K mg base CX0 3 _ _ _ _:=xy7 F23 hmo h22 F22 b22 gWL;have gLO:FnOk l.prog w K mg base CX0 17 _ _ _ _:=xz5 F24 h11 F11 b11 gWant h23 F23 b23 gCs h21 F21 b21 gGL;have gLF:FnOk l.prog w K mg base CX0 1 _ _ _ _:=xz6 F25 B;have gSL:FnOk l.prog w K mg base CX0 18 _ _ _ _:=xz7 F26 h11 F11 b11 gWant h16 F16 b16 gWC h24 F24 b24 gLO h25 F25 b25 gLF h19 F19 b19 gBO;have gNe:FnOk l.prog w K mg base CX0 19 _ _ _ _:=xA5 F27 B h26 F26 b26 gSL;have gBx:FnOk l.prog w K mg base CX0 3 _ _ _ _:=xd8 F32 B h29 F29 b29 h30 F30 b30 h31 F31 b31;have gBS:FnOk l.prog w K mg base CX0 15 _ _ _ _:=xv3 F36 B h35 F35 b35 h33 F33 b33 h34 F34 b34;have gNr:FnOk l.prog w K mg base CX0 2 _ _ _ _:=xA7 F38 B h29 F29 b29;have gLf:FnOk l.prog w K mg base CX0 1 _ _ _ _:=xz8 F37 B;have gSq:FnOk l.prog w K mg base CX0 1 _ _ _ _:=xz9 F39 B;have gCm:FnOk l.prog w K mg base CX0 1 _ _ _ _:=xA2 F40 B;have gSh:FnOk l.prog w K mg base CX0 2 _ _ _ _:=xA3 F42 hsm h40 F40 b40 gCm;have gAh:FnOk l.prog w K mg base CX0 1 _ _ _ _:=xA4 F41 B C;have gRt:FnOk l.prog w K mg base CX0 3 _ _ _ _:=xA6 F43 B C hso h37 F37 b37 gLf h41 F41 b41 gAh h39 F39 b39 gSq h42 F42 b42 gSh;exact xv4 FL B C h28 F28 b28 h29 F29 b29 h32 F32 b32 gBx h36 F36 b36 gBS h38 F38 b38 gNr h43 F43 b43 gRt h27 F27 b27 gNe
theorem walk {l:PySem.W.OpenLaw}{q:Program}{loose:List Str}{XP:(Str->Option Value)->Heap->Prop}{YP:World->Heap->Prop}{d:DefRec}{K:Params->PySem.W.Frag}(hn:l.most=some 63) (hdf:d.params.defaults=[])
  (hY:∀(w:World) (h:Heap),YP w h->(K w.params).In h)
  (F:∀(w:World) (mg:Str->Option Value) (fa:Addr) (h:Heap),(K w.params).In h->h.Ns mainGlobals mg->mg d.name=some (.ref fa) ->
   ∃fd:FuncData,(∀(s:Shared) (u:Value),BindsTo s fd ⟨[u],[]⟩ [("_law_script",u)])/\∀base:Heap,(K w.params).In base->base.Ns mainGlobals mg->FnOk l.prog w (K w.params) mg base CX0 20 fa fd ["_law_script"] (xe1 (K w.params))) :
  PySem.W.WalkO q loose XP YP l.row.toRowW d [] (λf vs=>PySem.call f vs):=
 L2.xi9 (n:=63) (k:=20) (x:= "_law_script") (CX:=λ_=>CX0) (sp:=λw=>xe1 (K w.params)) hn (by decide) hdf ⟨rfl,by decide,by decide,rfl⟩ hY F (λ_ _ a ns hl _ hS=>⟨a,ns,rfl,hS,hl,λ_=>rfl⟩) λ_ _ _ _ _ z=>z
end Pr
open PySem PySem.W PyProof.Rows
set_option maxRecDepth 100000 in
set_option maxHeartbeats 0 in
theorem PySem.Challenge.cw_quarterfold_k54_whole_nearest_on_great_f_holds : PySem.Challenge.rw_quarterfold_k54_whole_nearest_on_great_f.Holds := by
 w_on;o_law
 refine holds_open (q:=Hd.q0) (loose:=[]) (Xt:=Hd.X0) (XP:=XL Hd.q0 []) (YP:=Hook.says (kHook Hd.K0 Hd.as0 Hd.as_K)) (N:=Hd.N0) Hd.xv6
  (Hook.of (kHook Hd.K0 Hd.as0 Hd.as_K)) (Hook.keeps (kHook Hd.K0 Hd.as0 Hd.as_K)) (λs e=>xl_of s (Bool.and_eq_true_iff.mp e).1) XL.keeps
  (by rfl) (by rfl) (by rfl) (λs e=>recFacts_of (Bool.and_eq_true_iff.mp e).2)
  (by rfl) (by first|assumption|decide +kernel) (by decide +kernel) ⟨rfl,rfl,rfl,rfl,rfl,by decide +kernel⟩ ?hw ?hc
 case hw=>w_witness2
 k_fill
 refine Pr.walk (l:=PySem.Challenge.rw_quarterfold_k54_whole_nearest_on_great_f) rfl rfl (λw h Y=>PySem.W.kIn_of Y) ?F
 case F=>
  intro w mg fa h KX G hmg;refine' Pr.xv5 KX G hmg ?aL ?lL ?cL ?kL ?gc0 ?gc1 ?gc2 ?gc3 ?d0 ?d1 ?d2 ?d3 ?d4 ?d5 ?d6 ?d7 ?d8 ?d9 ?d10 ?d11 ?d12 ?d13 ?d14 ?d15 ?d16 ?d17 ?d18 ?d19 ?d20 ?d21 ?d22 ?d23 ?d24 ?d25 ?d26 ?d27 ?d28 ?d29 ?d30 ?d31 ?d32 ?d33 ?d34 ?d35 ?d36 ?d37 ?d38 ?d39 ?d40 ?d41 ?d42 ?d43 ?z0 ?z1 ?z2 ?z3 ?z4 ?z5 ?z6 ?z7 ?z8 ?z9 ?z10 ?z11 ?z12 ?z13 ?z14 ?z15 ?z16 ?z17
  (case aL=>k_is);(case lL=>k_is);(case cL=>k_is);(case kL=>k_is)
  (case gc0=>k_is)
  (case gc1=>k_is)
  (case gc2=>k_is)
  (case gc3=>k_is)
  (case z0=>unfold Pr.qc1;k_is)
  (case z1=>unfold Pr.qc1;k_is)
  (case z2=>unfold Pr.qc1;k_is)
  (case z3=>unfold Pr.qc1;k_is)
  (case z4=>unfold Pr.qc1;k_is)
  (case z5=>unfold Pr.qc1;k_is)
  (case z6=>unfold Pr.qc1;k_is)
  (case z7=>unfold Pr.qc1;k_is)
  (case z8=>unfold Pr.qc1;k_is)
  (case z9=>unfold Pr.qc1;k_is)
  (case z10=>unfold Pr.qc1;k_is)
  (case z11=>unfold Pr.qc1;k_is)
  (case z12=>unfold Pr.qc1;k_is)
  (case z13=>unfold Pr.qc1;k_is)
  (case z14=>unfold Pr.qc1;k_is)
  (case z15=>unfold Pr.qc1;k_is)
  (case z16=>unfold Pr.qc1;k_is)
  (case z17=>unfold Pr.qc1;k_is)
  all_goals (refine' Pr.d_mk ?qa ?ql ?qc ?qk;(case qa=>k_is);(case ql=>k_is);(case qc=>k_is);(case qk=>k_is))
