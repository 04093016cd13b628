import PyProof.Rows.All
import Wide.All
import OpenK.AllK
import Wide.FinOn
import Lean
import PyProof.EqAt
import PyProof.EqKinds
import PyProof.TupleCall
import Open.Row
import PySem.SetOps
import PyProof.SetRoads
import PyProof.Rows.SetFrom
import PyProof.FactsAll.subtypes_4
import PyProof.WalksMore
import OpenK.KOwn
import PyProof.NeData
import PyProof.ReprRoads
import PyProof.WalksEnum
import PyProof.EnumMake
import PyProof.Rows.EnumRows
import KE.KTryMore
import KE.KIntText
import KE.KDictList
import PyProof.ConsumeS
import PyProof.ListRange
import PyProof.ListMulRoad
import PyProof.DictUpdate
import PyProof.Rows.TupDisplay
import PyProof.DictWalks
import PyProof.TupleOfGen
import PyProof.CompUse
import PyProof.CompFree
import KE.BitLaws
import PyProof.Draws
import PyProof.StrLawsChain
import KE.KxText
import PyProof.Rows.SortRunsK
import PyProof.Rows.SortShellK
import PyProof.Rows.SortKeyStr
import PyProof.Rows.SortWalk
import PyProof.Rows.StrInSeq
import PyProof.P3Eq
import PyProof.DictKinds
import PyProof.StrOps
import PyProof.TupleKey
import PyProof.SetKind
import PySem.Challenge.RW_quarterfold_k52_whole_beside_there_and_b
set_option Elab.async false
set_option linter.all false
set_option maxRecDepth 100000
set_option maxHeartbeats 8000000
def Za:=@PySem.wpAny_bind
def Zb:=@PySem.wpAny_pure
def Zc:=@PySem.Heap.get?_push_of_some
def Zd:=@Nat.le_refl
def Ze:=@List.getElem?_eq_getElem
def Zf:=@List.length_map
def Zg:=@List.getElem?_map
def Zh:=@PySem.Heap.get?_push_size
def Zi:=@PySem.Heap.lt_size
def Zj:=@Option.map_eq_some_iff
def Zk:=@decide_eq_true
def Zl:=@Nat.ne_of_lt
def Zm:=@decide_eq_false
def Zn:=@List.mem_cons_of_mem
def Zo:=@Nat.zero_le
def Zp:=@PyProof.Rows.wpS_bind
def Zq:=@if_neg
def Zr:=@Bool.false_eq_true
def Zs:=@List.mem_cons
def Zt:=@Bool.false_ne_true
def Zu:=@PySem.W.mg_of
def Zv:=@List.mem_of_getElem?
def Zw:=@List.length_append
def Zx:=@PyProof.Rows.wpS_pure
def Zy:=@Int.toNat_natCast
def Zz:=@if_pos
def ZA:=@List.map_cons
def ZB:=@of_decide_eq_true
def ZC:=@List.mem_cons_self
def ZD:=@List.getElem?_append_left
def ZE:=@Nat.le_trans
def ZF:=@List.getElem?_append_right
def ZG:=@List.size_toArray
def ZH:=@List.mem_map
def ZI:=@List.mem_append_right
def ZJ:=@List.mem_iff_getElem
def ZK:=@Option.some.inj
def ZL:=@Array.length_toList
def ZM:=@getElem?_pos
def ZN:=@Nat.lt_of_lt_of_le
def ZO:=@PySem.wpAny_ite_split
def ZP:=@PySem.wpAny_newObj_type
def ZQ:=@List.length_cons
def ZR:=@PyProof.Rows.KeyOrd.kle_trans
def ZS:=@List.getD_eq_getElem?_getD
def ZT:=@List.nodup_iff_pairwise_ne
def ZU:=@List.map_append
def ZV:=@PySem.Heap.SameBut.update
def ZW:=@List.mem_append
def ZX:=@if_false
def ZY:=@PySem.Heap.get?_update_self
def ZZ:=@Nat.lt_succ_of_lt
def Z0:=@PySem.wpAny_setState_of
def Z1:=@PySem.wpAny_truthy_bool
def Z2:=@PySem.wpAny_callSpecial?_slot
def Z3:=@PySem.wpAny_call_entry
def Z4:=@PyProof.Rows.KeyOrd.kle_of_klt
def Z5:=@PySem.wpAny_holding
def Z6:=@Array.getElem?_toList
def Z7:=@Nat.pow_pos
def Z8:=@PyProof.Rows.F.plain_set_update_loop
def Z9:=@Array.toList_append
def Yb:=@Nat.pow_succ
def Yc:=@List.take_of_length_le
def Yd:=@congrArg
def Ye:=@List.all_eq_true
def Yg:=@List.nodup_cons
def Yh:=@PySem.Heap.size_push
def Yi:=@PySem.Around.under_plainId
def Yj:=@Bool.eq_false_iff
def Yk:=@List.getElem?_eq_none
def Yl:=@Nat.mul_comm
def Ym:=@List.map_congr_left
def Yn:=@PySem.codeAny_builtin
def Yo:=@Array.getElem?_eq_getElem
def Yp:=@PySem.Obj.data_mapFields
def Yq:=@List.mem_range
def Yr:=@PyProof.Rows.boot_isinstance
def Ys:=@Nat.lt_irrefl
def Yt:=@Nat.mul_assoc
def Yu:=@Nat.le_add_right
def Yv:=@decide_eq_decide
def Yw:=@PySem.wpAny_mono
def Yx:=@List.length_range
def Yy:=@PyProof.Rows.boot_tuple
def Yz:=@of_decide_eq_false
def YA:=@PySem.boot_len
def YB:=@Nat.pow_le_pow_right
def YC:=@Nat.mul_le_mul_right
def YD:=@PySem.Paired.length
def YE:=@PySem.W.kia_one
def YF:=@List.lookup_cons
def YG:=@Nat.mod_eq_of_lt
def YH:=@List.map_map
def YI:=@PySem.wpAny_askSetting
def YJ:=@PyProof.Rows.F.entry_set_update_loop
def YK:=@List.take_append_drop
def YL:=@List.cons_lt_cons_iff
def YM:=@List.nodup_nil
def YN:=@Bool.not_true
def YO:=@PySem.PassesOwn.never
def YQ:=@PySem.F.slot_dict_keyiterator_next
def YR:=@PyProof.Rows.KeyOrd.kle_refl
def YS:=@List.pairwise_cons
def YT:=@Nat.lt_succ_self
def YU:=@PyProof.Rows.callWith_type1
def YV:=@List.cons.inj
def YW:=@PySem.Heap.get?_update_other
def YX:=@List.append_assoc
def YY:=@List.Pairwise.imp
def YZ:=@List.filterMap_cons
def Y0:=@Bool.eq_iff_iff
def Y1:=@List.append_nil
def Y2:=@PySem.wpAny_field
def Y3:=@List.cons.injEq
def Y4:=@Nat.lt_of_le_of_lt
def Y5:=@PySem.wpAny_rule
def Y6:=@List.getElem_mem
def Y7:=@List.mem_singleton
def Y8:=@Option.isSome_iff_exists
def Y9:=@PyProof.Rows.wpS_forRange
def Xa:=@Nat.succ_mul
def Xb:=@PySem.wpAny_typeNameOfWhole_keyiter
def Xc:=@List.nodup_append
def Xd:=@List.ext_getElem?
def Xe:=@PySem.F.plainAttrs_list
def Xf:=@Array.toList_push
def Xg:=@Nat.two_pow_pos
def Xh:=@Nat.not_lt_zero
def Xi:=@List.range_succ
def Xj:=@List.getElem?_range
def Xk:=@Nat.le_of_lt
def Xl:=@Nat.pow_add
def Xm:=@List.length_take
def Xn:=@Nat.div_eq_of_lt
def Xo:=@List.filter_cons
def Xp:=@PySem.F.slot_tuple_iterator_next
def Xq:=@PySem.wpAny_setField
def Xr:=@Ne.symm
def Xs:=@PySem.Obj.isFreed_of_fields
def Xu:=@PyProof.Rows.boot_int
def Xv:=@List.pairwise_iff_getElem
def Xw:=@PySem.wpAny_pyIter_list
def Xx:=@if_true
def Xy:=@PySem.lookup_relabel_local
def Xz:=@Nat.zero_add
def XA:=@List.pairwise_map
def XB:=@Array.toList_extract
def XC:=@Nat.mod_lt
def XD:=@PySem.plainId_quiet
def XE:=@PySem.wpAny_attempt
def XF:=@List.take_append_getElem
def XG:=@PySem.F.slot_list_append
def XH:=@PySem.F.type_list_append
def XI:=@PySem.wpAny_typeNameOf_keyiter
def XJ:=@PyProof.Rows.wpS_modify
def XM:=@PyProof.Rows.boot_sorted
def XN:=@PyProof.Rows.slot_tuple_getitem
def XO:=@PySem.mem_of_lookup
def XQ:=@List.getElem_of_mem
def XR:=@List.reverse_append
def XS:=@PySem.wpAny_isInstance
def XT:=@Nat.add_sub_cancel_left
def XU:=@List.any_eq_true
def XV:=@List.length_eq_zero_iff
def XW:=@List.lt_irrefl
def XX:=@Nat.ne_of_gt
def XY:=@Int.emod_lt_of_pos
def XZ:=@PySem.wpAny_setField_rec
def X1:=@beq_iff_eq
def X4:=@Array.getElem?_eq_none
def X5:=@Int.add_zero
def X6:=@List.zip_cons_cons
def X7:=@List.mem_filter
def X8:=@List.find?_cons
def X9:=@Int.natCast_mul
def Wa:=@List.any_cons
def Wb:=@List.sum_cons
def Wc:=@PySem.F.slot_enumerate_next
def Wd:=@decide_eq_true_eq
def We:=@PySem.Heap.SameBut.refl
def Wf:=@List.mem_append_left
def Wg:=@Bool.false_and
def Wh:=@PySem.sizeLine_eq
def Wi:=@Nat.mul_add
def Wj:=@Array.toList_setIfInBounds
def Wk:=@Array.getElem?_eq_some_iff
def Wl:=@PySem.codeAny_call_builtin
def Wm:=@Nat.le_succ
def Wn:=@PySem.wpAny_fieldsOf
def Wo:=@Array.perm_iff_toList_perm
def Wp:=@List.pairwise_append
def Wq:=@Array.toList_reverse
def Wr:=@PySem.SeqAt.eqv_refl
def Ws:=@PySem.codeAny_mono
def Wt:=@Nat.le_of_eq
def Wu:=@Nat.add_zero
def Wv:=@PySem.wpAny_forIn_list
def Ww:=@List.not_mem_nil
def Wx:=@List.take_length
def Wy:=@Int.natCast_ediv
def Wz:=@Int.natCast_emod
def WA:=@List.drop_eq_getElem_cons
def WB:=@beq_eq_false_iff_ne
def WC:=@Nat.mul_le_mul_left
def WD:=@PySem.wpAny_comprehension_free
def WE:=@List.length_erase_of_mem
def WF:=@PySem.AutoSeq1.wpAny_loadPart'
def WG:=@PyProof.Rows.wpS_mono
def WH:=@PyProof.Rows.KeyOrd.klt_of_klt_of_kle
def WI:=@PySem.wpAny_passesOwn
def WJ:=@Int.emod_nonneg
def WK:=@List.foldl_cons
def WL:=@Nat.le_antisymm
def WM:=@PySem.wpAny_pyIter_tuple
def WN:=@PySem.tupleKind_room_in1
def WO:=@List.filter_append
def WP:=@PySem.wpAny_tupleItemsOf
def WQ:=@LawfulMonad.pure_bind
def WR:=@Nat.mul_div_cancel_left
def WS:=@PySem.wpAny_typeOf
def WT:=@Bool.and_false
def WU:=@PySem.codeAny_compStart_list
def WV:=@Nat.div_div_eq_div_mul
def WW:=@List.length_pos_of_mem
def WX:=@PySem.wpAny_seqItems
def WY:=@Bool.not_false
def WZ:=@PySem.wpAny_storeSet_of
def W0:=@PySem.Obj.cls_mapFields
def W1:=@PySem.wpAny_pyIter_enum
def W2:=@PySem.wpAny_dictEntries
def W3:=@List.take_zero
def W4:=@Nat.mul_succ
def W5:=@List.take_succ_eq_append_getElem
def W6:=@Bool.not_eq_true'
def W7:=@List.reverse_perm
def W8:=@PySem.Heap.get?_push_ne
def W9:=@List.length_filter_le
def Va:=@PyProof.Rows.boot_max
def Vb:=@PyProof.Rows.boot_all
def Vc:=@PySem.wpAny_isOneOf_keyiter
def Vd:=@Nat.add_sub_add_right
def Ve:=@PyProof.Rows.boot_str
def Vf:=@List.Perm.append_left
def Vg:=@PyProof.Rows.KeyOrd.not_klt_of_kle
def Vh:=@PySem.builtinLookup_eq_fast
def Vi:=@PyProof.Rows.boot_min
def Vj:=@Nat.le_of_not_lt
def Vk:=@PySem.Heap.size_update
def Vl:=@PyProof.Rows.wpS_get
def Vm:=@Prod.ext
def Vn:=@PySem.wpAny_newFunctionEnv
def Vo:=@Nat.add_mul
def Vp:=@List.mem_erase_of_ne
def Vq:=@Array.mem_extract_iff_getElem
def Vr:=@List.forIn_cons
def Vs:=@PySem.codeAny_of_tree
def Vt:=@Bool.or_eq_true
def Vu:=@Int.natCast_add
def Vv:=@Array.getElem?_setIfInBounds
def Vw:=@List.length_pos_iff
def Vx:=@List.replicate_succ
def Vy:=@PySem.wpAny_setEntries_of
def Vz:=@Nat.lt_trans
def VA:=@PyProof.Rows.boot_enumerate
def VB:=@Nat.add_comm
def VC:=@List.mem_filterMap
def VD:=@Int.natCast_nonneg
def VE:=@Int.fdiv_eq_ediv_of_nonneg
def VF:=@PySem.wpAny_Call_Name_kw
def VG:=@PySem.Code.quiet_builtin
def VH:=@PySem.wpAny_runValue
def VI:=@Nat.add_sub_cancel
def VJ:=@Nat.mul_le_mul
def VL:=@PySem.isSubtype_type
def VM:=@List.length_eraseIdx_of_lt
def VN:=@Array.getElem?_eq_none_iff
def VO:=@Nat.lt_of_mul_lt_mul_right
def VP:=@PySem.F.plain_extend_loop
def VQ:=@List.any_eq_false
def VR:=@Option.isSome_map
def VS:=@Array.getElem_mem
def VT:=@PySem.wpAny_of_eq
def VU:=@Nat.le_of_lt_succ
def VV:=@Nat.le_succ_of_le
def VW:=@Nat.lt_trichotomy
def VX:=@PySem.wpAny_pyIter_slot
def VY:=@List.not_lt
def VZ:=@List.mapM_toArray
def V0:=@PySem.fits_of_scanBound
def V1:=@Prod.mk.injEq
def V2:=@PySem.wpAny_standAt
def V3:=@Bool.and_eq_true
def V4:=@beq_self_eq_true
def V5:=@PySem.putSet_of
def V6:=@Nat.succ_le_succ
def V7:=@List.all_toArray
def V8:=@PyProof.Rows.wpS_lift
def V9:=@Nat.le_of_not_le
def Ua:=@List.map_nil
def Ub:=@Nat.sub_self
def Uc:=@bind_congr
def Ud:=@PySem.Walks.list
def Ue:=@Int.zero_add
def Uf:=@Int.zero_mul
def Ug:=@List.of_mem_zip
def Uh:=@List.nil_append
def Ui:=@List.sum_append
def Uj:=@List.nil_prefix
def Uk:=@Nat.mul_add_div
def Ul:=@and_true
def Um:=@List.take_succ
def Uo:=@Int.one_mul
def Up:=@List.drop_drop
def Uq:=@List.mapM_cons
def Ur:=@or_false
theorem gS_{α:Type}{l:List α}{i:Nat}{a:α}(h:l[i]?=some a):∃h:i<l.length,l[i]=a:=List.getElem?_eq_some_iff.mp h
namespace L2
open PySem
def qh0 (s:Stmt):Arguments:=match s with
 |.FunctionDef _ a _ _ _ _ _ _ _ _=>a
 |_=>{ posonlyargs:=[],args:=[],vararg:=none,kwonlyargs:=[],kw_defaults:=[],kwarg:=none,defaults:=[] }
def qg2 (s:Stmt):List Stmt:=match s with
 |.FunctionDef _ _ b _ _ _ _ _ _ _=>b
 |_=>[]
def qa3 (s:Stmt):Scope:=match s with
 |.FunctionDef _ _ _ _ _ _ sc _ _ _=>sc
 |_=>{ kind:=.function,names:=[],isGenerator:=false,isCoroutine:=false }
end L2
namespace Pr
open PySem
def top (i:Nat):Stmt:=PySem.Challenge.pw_quarterfold_k52_whole_beside_there_and_b.main.body.getD i (.Pass ⟨0,0,0,0⟩)
end Pr
namespace Hd
open PySem PySem.W
abbrev pw:Program:=PySem.Challenge.pw_quarterfold_k52_whole_beside_there_and_b
abbrev u0_:Value:=.str "quarterfold.floors" 314
abbrev u1_:Value:=.str "law_quarterfold_k52_whole_beside_there_and_b" 537
abbrev u2_:Value:=.str "quarterfold.tellings" 383
abbrev u3_:Value:=.str "quarterfold.rows" 271
abbrev u4_:Value:=.str "quarterfold.leaves" 428
abbrev u5_:Value:=.str "quarterfold.beside" 453
def kh (P:Params) (x:Str):Int:=PySem.PyData.keyHash P x
def oF (n:Str) (st:Stmt) (m:Value) (c:Nat):Obj:=⟨.type "function",none,.func (fnOf n n (L2.qh0 st) (L2.qg2 st) (L2.qa3 st) .none .none .none m none (.ref c) .none),#[]⟩
def oT (n q:Str) (st:Stmt):Obj:=⟨.none,none,.func { fnOf n q (L2.qh0 st) (L2.qg2 st) (L2.qa3 st) .none .none .none .none none .none .none with globals:=0 },#[]⟩
def oC (n q:Str) (t1 t2 t3 l a r1 r2:Nat) (y z:Value) (r6 k t5:Nat):Obj:=⟨.type "code",none,.fields #[.str n t1,.str q t2,.str "/claim/cut.py" t3,.int l 0,.int a 0,.int 0 0,.int 0 0,.int 3 0,.ref r1,.bool true,.int 181 0,.ref r2,.none,y,z,.ref r6,.int k 0,.int l 0,.str "/claim/cut.py" t5],#[]⟩
abbrev e0_:PySem.Obj:=⟨.type "tuple",none,(.seq #[] 0),#[]⟩
abbrev e1_:PySem.Obj:=⟨.none,none,(.fields #[]),#[]⟩
abbrev e2_ (a:Array PySem.Value):PySem.Obj:=⟨.type "tuple",none,(.seq a 0),#[]⟩
abbrev e3_ (P:Params) (x:Str) (n:Tok) (v:Value):DictEntry:=⟨kh P x,.str x n,v⟩
def K0 (P:Params):Frag:=
(nat_lit 2,⟨.none,none,(.dict #[] 0),#[]⟩) ::
(nat_lit 3,⟨.type "dict",none,(.dict #[e3_ P "__name__" 165 (.str "law_quarterfold_k52_whole_beside_there_and_b" 537),e3_ P "__doc__" 166 .none,e3_ P "__package__" 167 .none,e3_ P "__loader__" 168 (.builtin "__main__.__loader__#opaque"),e3_ P "__spec__" 169 .none,e3_ P "__annotations__" 170 (.ref 6),e3_ P "__builtins__" 171 (.ref 4),e3_ P "__file__" 173 (.str "/claim/cut.py" 172),e3_ P "__cached__" 174 .none,e3_ P "FloorError" 206 (.ref 24),e3_ P "NoAddress" 222 (.ref 37),e3_ P "NoShape" 238 (.ref 49),e3_ P "TooMany" 254 (.ref 61),e3_ P "NoSide" 270 (.ref 73),e3_ P "FIRST" 274 (.int 2 273),e3_ P "is_whole" 281 (.ref 82),e3_ P "is_plain" 288 (.ref 89),e3_ P "depths_of" 294 (.ref 94),e3_ P "end_rows" 304 (.ref 101),e3_ P "places_as_ended" 313 (.ref 108),e3_ P "GREATEST_SIZE" 317 (.int 12 316),e3_ P "is_size" 324 (.ref 115),e3_ P "is_address" 330 (.ref 120),e3_ P "is_cell" 340 (.ref 127),e3_ P "want_address" 348 (.ref 134),e3_ P "side_of" 355 (.ref 141),e3_ P "quarter_of" 364 (.ref 148),e3_ P "box_at" 376 (.ref 155),e3_ P "address_at" 382 (.ref 160),e3_ P "is_number" 392 (.ref 167),e3_ P "is_row" 398 (.ref 172),e3_ P "are_rows" 404 (.ref 177),e3_ P "is_telling" 414 (.ref 184),e3_ P "is_shape" 420 (.ref 189),e3_ P "want_shape" 427 (.ref 196),e3_ P "MOST_LEAVES" 431 (.int 2000 430),e3_ P "count_leaves" 437 (.ref 201),e3_ P "want_leaves" 445 (.ref 208),e3_ P "want_coarse" 452 (.ref 215),e3_ P "SIDES" 473 (.ref 224),e3_ P "want_side" 480 (.ref 231),e3_ P "way_down" 492 (.ref 238),e3_ P "gather_along" 504 (.ref 245),e3_ P "leaves_beside" 527 (.ref 252),e3_ P "beside" 536 (.ref 259),e3_ P "_law_pot" 547 (.ref 266),e3_ P "_law_digit" 556 (.ref 273),e3_ P "_law_cells" 562 (.ref 278),e3_ P "_law_box" 577 (.ref 285),e3_ P "_law_boxes" 583 (.ref 290),e3_ P "_law_meets" 593 (.ref 297),e3_ P "_law_has" 603 (.ref 304),e3_ P "_law_number" 609 (.ref 309),e3_ P "_law_shape" 619 (.ref 316),e3_ P "_law_leaf" 634 (.ref 323),e3_ P "_law_touching" 650 (.ref 330),e3_ P "_law_told" 656 (.ref 335),e3_ P "_law_back" 662 (.ref 340),e3_ P "law" 668 (.ref 345)] 59),#[]⟩) ::
(nat_lit 15,(e2_ #[.type "ValueError"])) ::
(nat_lit 22,e0_) ::
(nat_lit 23,⟨.type "dict",none,(.dict #[e3_ P "__module__" 196 (.str "quarterfold.errors" 187),e3_ P "__firstlineno__" 200 (.int 2 199),e3_ P "__static_attributes__" 201 (.ref 22),e3_ P "__weakref__" 203 (.ref 25),e3_ P "__doc__" 204 .none] 3),#[]⟩) ::
(nat_lit 24,⟨.type "type",none,(.cls ⟨"FloorError",[.type "ValueError"],[.ref 24,.type "ValueError",.type "Exception",.type "BaseException",.type "object"],23, "FloorError",true,[],[.ref 37,.ref 49,.ref 61,.ref 73],false,none,false⟩),#[some (.ref 15),none,some (.str "FloorError" 189),some (.str "FloorError" 197),some (.builtin "ValueError.__new__"),some (.bool true)]⟩) ::
(nat_lit 25,⟨.type "getset_descriptor",none,(.fields #[.str "__weakref__" 202,.ref 24,.builtin "ExceptionGroup.__weakref__",.none]),#[]⟩) ::
(nat_lit 28,(e2_ #[.ref 24])) ::
(nat_lit 35,e0_) ::
(nat_lit 36,⟨.type "dict",none,(.dict #[e3_ P "__module__" 214 (.str "quarterfold.errors" 187),e3_ P "__firstlineno__" 218 (.int 4 217),e3_ P "__static_attributes__" 219 (.ref 35),e3_ P "__doc__" 220 .none] 2),#[]⟩) ::
(nat_lit 37,⟨.type "type",none,(.cls ⟨"NoAddress",[.ref 24],[.ref 37,.ref 24,.type "ValueError",.type "Exception",.type "BaseException",.type "object"],36, "NoAddress",true,[],[],false,none,false⟩),#[some (.ref 28),none,some (.str "NoAddress" 207),some (.str "NoAddress" 215),some (.builtin "ValueError.__new__"),some (.bool true)]⟩) ::
(nat_lit 40,(e2_ #[.ref 24])) ::
(nat_lit 47,e0_) ::
(nat_lit 48,⟨.type "dict",none,(.dict #[e3_ P "__module__" 230 (.str "quarterfold.errors" 187),e3_ P "__firstlineno__" 234 (.int 6 233),e3_ P "__static_attributes__" 235 (.ref 47),e3_ P "__doc__" 236 .none] 2),#[]⟩) ::
(nat_lit 49,⟨.type "type",none,(.cls ⟨"NoShape",[.ref 24],[.ref 49,.ref 24,.type "ValueError",.type "Exception",.type "BaseException",.type "object"],48, "NoShape",true,[],[],false,none,false⟩),#[some (.ref 40),none,some (.str "NoShape" 223),some (.str "NoShape" 231),some (.builtin "ValueError.__new__"),some (.bool true)]⟩) ::
(nat_lit 52,(e2_ #[.ref 24])) ::
(nat_lit 59,e0_) ::
(nat_lit 60,⟨.type "dict",none,(.dict #[e3_ P "__module__" 246 (.str "quarterfold.errors" 187),e3_ P "__firstlineno__" 250 (.int 8 249),e3_ P "__static_attributes__" 251 (.ref 59),e3_ P "__doc__" 252 .none] 2),#[]⟩) ::
(nat_lit 61,⟨.type "type",none,(.cls ⟨"TooMany",[.ref 24],[.ref 61,.ref 24,.type "ValueError",.type "Exception",.type "BaseException",.type "object"],60, "TooMany",true,[],[],false,none,false⟩),#[some (.ref 52),none,some (.str "TooMany" 239),some (.str "TooMany" 247),some (.builtin "ValueError.__new__"),some (.bool true)]⟩) ::
(nat_lit 64,(e2_ #[.ref 24])) ::
(nat_lit 71,e0_) ::
(nat_lit 72,⟨.type "dict",none,(.dict #[e3_ P "__module__" 262 (.str "quarterfold.errors" 187),e3_ P "__firstlineno__" 266 (.int 10 265),e3_ P "__static_attributes__" 267 (.ref 71),e3_ P "__doc__" 268 .none] 2),#[]⟩) ::
(nat_lit 73,⟨.type "type",none,(.cls ⟨"NoSide",[.ref 24],[.ref 73,.ref 24,.type "ValueError",.type "Exception",.type "BaseException",.type "object"],72, "NoSide",true,[],[],false,none,false⟩),#[some (.ref 64),none,some (.str "NoSide" 255),some (.str "NoSide" 263),some (.builtin "ValueError.__new__"),some (.bool true)]⟩) ::
(nat_lit 76,e0_) ::
(nat_lit 78,(e2_ #[.str "thing" 278])) ::
(nat_lit 79,e0_) ::
(nat_lit 81,oC "is_whole" "is_whole" 275 276 277 14 1 76 77 (.ref 78) (.ref 79) 80 279 280) ::
(nat_lit 82,oF "is_whole" (Pr.top 8) u3_ 81) ::
(nat_lit 83,e0_) ::
(nat_lit 85,(e2_ #[.str "row" 285])) ::
(nat_lit 86,e0_) ::
(nat_lit 88,oC "is_plain" "is_plain" 282 283 284 16 1 83 84 (.ref 85) (.ref 86) 87 286 287) ::
(nat_lit 89,oF "is_plain" (Pr.top 9) u3_ 88) ::
(nat_lit 90,e0_) ::
(nat_lit 93,oC "depths_of" "depths_of" 289 290 291 18 1 90 91 .none .none 92 292 293) ::
(nat_lit 94,oF "depths_of" (Pr.top 10) u3_ 93) ::
(nat_lit 95,e0_) ::
(nat_lit 97,(e2_ #[.str "rows" 298,.str "number" 299,.str "ended" 300,.str "quarter" 301])) ::
(nat_lit 98,e0_) ::
(nat_lit 100,oC "end_rows" "end_rows" 295 296 297 23 3 95 96 (.ref 97) (.ref 98) 99 302 303) ::
(nat_lit 101,oF "end_rows" (Pr.top 11) u3_ 100) ::
(nat_lit 102,e0_) ::
(nat_lit 104,(e2_ #[.str "rows" 308,.str "top" 309,.str "ended" 310])) ::
(nat_lit 105,e0_) ::
(nat_lit 107,oC "places_as_ended" "places_as_ended" 305 306 307 29 2 102 103 (.ref 104) (.ref 105) 106 311 312) ::
(nat_lit 108,oF "places_as_ended" (Pr.top 12) u3_ 107) ::
(nat_lit 109,e0_) ::
(nat_lit 111,(e2_ #[.str "thing" 321])) ::
(nat_lit 112,e0_) ::
(nat_lit 114,oC "is_size" "is_size" 318 319 320 35 1 109 110 (.ref 111) (.ref 112) 113 322 323) ::
(nat_lit 115,oF "is_size" (Pr.top 15) u0_ 114) ::
(nat_lit 116,e0_) ::
(nat_lit 119,oC "is_address" "is_address" 325 326 327 37 2 116 117 .none .none 118 328 329) ::
(nat_lit 120,oF "is_address" (Pr.top 16) u0_ 119) ::
(nat_lit 121,e0_) ::
(nat_lit 123,(e2_ #[.str "n" 334,.str "row" 335,.str "column" 336,.str "side" 337])) ::
(nat_lit 124,e0_) ::
(nat_lit 126,oC "is_cell" "is_cell" 331 332 333 39 3 121 122 (.ref 123) (.ref 124) 125 338 339) ::
(nat_lit 127,oF "is_cell" (Pr.top 17) u0_ 126) ::
(nat_lit 128,e0_) ::
(nat_lit 130,(e2_ #[.str "n" 344,.str "address" 345])) ::
(nat_lit 131,e0_) ::
(nat_lit 133,oC "want_address" "want_address" 341 342 343 42 2 128 129 (.ref 130) (.ref 131) 132 346 347) ::
(nat_lit 134,oF "want_address" (Pr.top 18) u0_ 133) ::
(nat_lit 135,e0_) ::
(nat_lit 137,(e2_ #[.str "n" 352])) ::
(nat_lit 138,e0_) ::
(nat_lit 140,oC "side_of" "side_of" 349 350 351 45 1 135 136 (.ref 137) (.ref 138) 139 353 354) ::
(nat_lit 141,oF "side_of" (Pr.top 19) u0_ 140) ::
(nat_lit 142,e0_) ::
(nat_lit 144,(e2_ #[.str "row" 359,.str "column" 360,.str "k" 361])) ::
(nat_lit 145,e0_) ::
(nat_lit 147,oC "quarter_of" "quarter_of" 356 357 358 47 3 142 143 (.ref 144) (.ref 145) 146 362 363) ::
(nat_lit 148,oF "quarter_of" (Pr.top 20) u0_ 147) ::
(nat_lit 149,e0_) ::
(nat_lit 151,(e2_ #[.str "n" 368,.str "address" 369,.str "row" 370,.str "column" 371,.str "side" 372,.str "figure" 373])) ::
(nat_lit 152,e0_) ::
(nat_lit 154,oC "box_at" "box_at" 365 366 367 49 2 149 150 (.ref 151) (.ref 152) 153 374 375) ::
(nat_lit 155,oF "box_at" (Pr.top 21) u0_ 154) ::
(nat_lit 156,e0_) ::
(nat_lit 159,oC "address_at" "address_at" 377 378 379 57 4 156 157 .none .none 158 380 381) ::
(nat_lit 160,oF "address_at" (Pr.top 22) u0_ 159) ::
(nat_lit 161,e0_) ::
(nat_lit 163,(e2_ #[.str "thing" 388,.str "many" 389])) ::
(nat_lit 164,e0_) ::
(nat_lit 166,oC "is_number" "is_number" 385 386 387 60 2 161 162 (.ref 163) (.ref 164) 165 390 391) ::
(nat_lit 167,oF "is_number" (Pr.top 24) u2_ 166) ::
(nat_lit 168,e0_) ::
(nat_lit 171,oC "is_row" "is_row" 393 394 395 62 2 168 169 .none .none 170 396 397) ::
(nat_lit 172,oF "is_row" (Pr.top 25) u2_ 171) ::
(nat_lit 173,e0_) ::
(nat_lit 176,oC "are_rows" "are_rows" 399 400 401 66 1 173 174 .none .none 175 402 403) ::
(nat_lit 177,oF "are_rows" (Pr.top 26) u2_ 176) ::
(nat_lit 178,e0_) ::
(nat_lit 180,(e2_ #[.str "thing" 408,.str "n" 409,.str "top" 410,.str "rows" 411])) ::
(nat_lit 181,e0_) ::
(nat_lit 183,oC "is_telling" "is_telling" 405 406 407 68 1 178 179 (.ref 180) (.ref 181) 182 412 413) ::
(nat_lit 184,oF "is_telling" (Pr.top 27) u2_ 183) ::
(nat_lit 185,e0_) ::
(nat_lit 188,oC "is_shape" "is_shape" 415 416 417 75 1 185 186 .none .none 187 418 419) ::
(nat_lit 189,oF "is_shape" (Pr.top 28) u2_ 188) ::
(nat_lit 190,e0_) ::
(nat_lit 192,(e2_ #[.str "shape" 424])) ::
(nat_lit 193,e0_) ::
(nat_lit 195,oC "want_shape" "want_shape" 421 422 423 82 1 190 191 (.ref 192) (.ref 193) 194 425 426) ::
(nat_lit 196,oF "want_shape" (Pr.top 29) u2_ 195) ::
(nat_lit 197,e0_) ::
(nat_lit 200,oC "count_leaves" "count_leaves" 432 433 434 87 2 197 198 .none .none 199 435 436) ::
(nat_lit 201,oF "count_leaves" (Pr.top 32) u4_ 200) ::
(nat_lit 202,e0_) ::
(nat_lit 204,(e2_ #[.str "shape" 441,.str "most" 442])) ::
(nat_lit 205,e0_) ::
(nat_lit 207,oC "want_leaves" "want_leaves" 438 439 440 92 2 202 203 (.ref 204) (.ref 205) 206 443 444) ::
(nat_lit 208,oF "want_leaves" (Pr.top 33) u4_ 207) ::
(nat_lit 209,e0_) ::
(nat_lit 211,(e2_ #[.str "shape" 449])) ::
(nat_lit 212,e0_) ::
(nat_lit 214,oC "want_coarse" "want_coarse" 446 447 448 95 1 209 210 (.ref 211) (.ref 212) 213 450 451) ::
(nat_lit 215,oF "want_coarse" (Pr.top 34) u4_ 214) ::
(nat_lit 216,(e2_ #[.int 2 458,.int 3 459])) ::
(nat_lit 217,(e2_ #[.int (-1) 456,.int 0 457,.ref 216])) ::
(nat_lit 218,(e2_ #[.int 0 462,.int 2 463])) ::
(nat_lit 219,(e2_ #[.int 0 460,.int 1 461,.ref 218])) ::
(nat_lit 220,(e2_ #[.int 0 466,.int 1 467])) ::
(nat_lit 221,(e2_ #[.int 1 464,.int 0 465,.ref 220])) ::
(nat_lit 222,(e2_ #[.int 1 471,.int 3 472])) ::
(nat_lit 223,(e2_ #[.int 0 468,.int (-1) 470,.ref 222])) ::
(nat_lit 224,(e2_ #[.ref 217,.ref 219,.ref 221,.ref 223])) ::
(nat_lit 225,e0_) ::
(nat_lit 227,(e2_ #[.str "side" 477])) ::
(nat_lit 228,e0_) ::
(nat_lit 230,oC "want_side" "want_side" 474 475 476 99 1 225 226 (.ref 227) (.ref 228) 229 478 479) ::
(nat_lit 231,oF "want_side" (Pr.top 37) u5_ 230) ::
(nat_lit 232,e0_) ::
(nat_lit 234,(e2_ #[.str "rows" 484,.str "top" 485,.str "address" 486,.str "number" 487,.str "at" 488,.str "figure" 489])) ::
(nat_lit 235,e0_) ::
(nat_lit 237,oC "way_down" "way_down" 481 482 483 102 3 232 233 (.ref 234) (.ref 235) 236 490 491) ::
(nat_lit 238,oF "way_down" (Pr.top 38) u5_ 237) ::
(nat_lit 239,e0_) ::
(nat_lit 241,(e2_ #[.str "rows" 496,.str "number" 497,.str "address" 498,.str "along" 499,.str "addresses" 500,.str "at" 501])) ::
(nat_lit 242,e0_) ::
(nat_lit 244,oC "gather_along" "gather_along" 493 494 495 109 5 239 240 (.ref 241) (.ref 242) 243 502 503) ::
(nat_lit 245,oF "gather_along" (Pr.top 39) u5_ 244) ::
(nat_lit 246,e0_) ::
(nat_lit 248,(e2_ #[.str "shape" 508,.str "address" 509,.str "side" 510,.str "n" 511,.str "top" 512,.str "rows" 513,.str "down" 514,.str "right" 515,.str "along" 516,.str "row" 517,.str "column" 518,.str "cells" 519,.str "next_row" 520,.str "next_column" 521,.str "number" 522,.str "there" 523,.str "addresses" 524])) ::
(nat_lit 249,e0_) ::
(nat_lit 251,oC "leaves_beside" "leaves_beside" 505 506 507 115 3 246 247 (.ref 248) (.ref 249) 250 525 526) ::
(nat_lit 252,oF "leaves_beside" (Pr.top 40) u5_ 251) ::
(nat_lit 253,e0_) ::
(nat_lit 255,(e2_ #[.str "shape" 531,.str "address" 532,.str "side" 533])) ::
(nat_lit 256,e0_) ::
(nat_lit 258,oC "beside" "beside" 528 529 530 129 3 253 254 (.ref 255) (.ref 256) 257 534 535) ::
(nat_lit 259,oF "beside" (Pr.top 41) u5_ 258) ::
(nat_lit 260,e0_) ::
(nat_lit 262,(e2_ #[.str "_law_script" 542,.str "_law_k" 543,.str "_law_cell" 544])) ::
(nat_lit 263,e0_) ::
(nat_lit 265,oC "_law_pot" "_law_pot" 539 540 541 136 2 260 261 (.ref 262) (.ref 263) 264 545 546) ::
(nat_lit 266,oF "_law_pot" (Pr.top 43) u1_ 265) ::
(nat_lit 267,e0_) ::
(nat_lit 269,(e2_ #[.str "_law_pot_here" 551,.str "_law_many" 552,.str "_law_digit_here" 553])) ::
(nat_lit 270,e0_) ::
(nat_lit 272,oC "_law_digit" "_law_digit" 548 549 550 141 2 267 268 (.ref 269) (.ref 270) 271 554 555) ::
(nat_lit 273,oF "_law_digit" (Pr.top 44) u1_ 272) ::
(nat_lit 274,e0_) ::
(nat_lit 277,oC "_law_cells" "_law_cells" 557 558 559 148 2 274 275 .none .none 276 560 561) ::
(nat_lit 278,oF "_law_cells" (Pr.top 45) u1_ 277) ::
(nat_lit 279,e0_) ::
(nat_lit 281,(e2_ #[.str "_law_pot_here" 566,.str "_law_n" 567,.str "_law_most" 568,.str "_law_side" 569,.str "_law_size" 570,.str "_law_row" 571,.str "_law_column" 572,.str "_law_high" 573,.str "_law_wide" 574])) ::
(nat_lit 282,e0_) ::
(nat_lit 284,oC "_law_box" "_law_box" 563 564 565 151 3 279 280 (.ref 281) (.ref 282) 283 575 576) ::
(nat_lit 285,oF "_law_box" (Pr.top 46) u1_ 284) ::
(nat_lit 286,e0_) ::
(nat_lit 289,oC "_law_boxes" "_law_boxes" 578 579 580 163 2 286 287 .none .none 288 581 582) ::
(nat_lit 290,oF "_law_boxes" (Pr.top 47) u1_ 289) ::
(nat_lit 291,e0_) ::
(nat_lit 293,(e2_ #[.str "_law_box_here" 587,.str "_law_row" 588,.str "_law_column" 589,.str "_law_side" 590])) ::
(nat_lit 294,e0_) ::
(nat_lit 296,oC "_law_meets" "_law_meets" 584 585 586 167 4 291 292 (.ref 293) (.ref 294) 295 591 592) ::
(nat_lit 297,oF "_law_meets" (Pr.top 48) u1_ 296) ::
(nat_lit 298,e0_) ::
(nat_lit 300,(e2_ #[.str "_law_box_here" 597,.str "_law_row" 598,.str "_law_column" 599,.str "_law_side" 600])) ::
(nat_lit 301,e0_) ::
(nat_lit 303,oC "_law_has" "_law_has" 594 595 596 171 4 298 299 (.ref 300) (.ref 301) 302 601 602) ::
(nat_lit 304,oF "_law_has" (Pr.top 49) u1_ 303) ::
(nat_lit 305,e0_) ::
(nat_lit 308,oC "_law_number" "_law_number" 604 605 606 175 5 305 306 .none .none 307 607 608) ::
(nat_lit 309,oF "_law_number" (Pr.top 50) u1_ 308) ::
(nat_lit 310,e0_) ::
(nat_lit 312,(e2_ #[.str "_law_n" 613,.str "_law_boxes_here" 614,.str "_law_rows" 615,.str "_law_top" 616])) ::
(nat_lit 313,e0_) ::
(nat_lit 315,oC "_law_shape" "_law_shape" 610 611 612 186 2 310 311 (.ref 312) (.ref 313) 314 617 618) ::
(nat_lit 316,oF "_law_shape" (Pr.top 51) u1_ 315) ::
(nat_lit 317,e0_) ::
(nat_lit 319,(e2_ #[.str "_law_told_here" 623,.str "_law_row" 624,.str "_law_column" 625,.str "_law_n" 626,.str "_law_number_here" 627,.str "_law_rows" 628,.str "_law_address" 629,.str "_law_k" 630,.str "_law_quarter" 631])) ::
(nat_lit 320,e0_) ::
(nat_lit 322,oC "_law_leaf" "_law_leaf" 620 621 622 190 3 317 318 (.ref 319) (.ref 320) 321 632 633) ::
(nat_lit 323,oF "_law_leaf" (Pr.top 52) u1_ 322) ::
(nat_lit 324,e0_) ::
(nat_lit 326,(e2_ #[.str "_law_told_here" 638,.str "_law_down" 639,.str "_law_right" 640,.str "_law_side" 641,.str "_law_found" 642,.str "_law_k" 643,.str "_law_row" 644,.str "_law_column" 645,.str "_law_one" 646,.str "_law_other" 647])) ::
(nat_lit 327,e0_) ::
(nat_lit 329,oC "_law_touching" "_law_touching" 635 636 637 199 3 324 325 (.ref 326) (.ref 327) 328 648 649) ::
(nat_lit 330,oF "_law_touching" (Pr.top 53) u1_ 329) ::
(nat_lit 331,e0_) ::
(nat_lit 334,oC "_law_told" "_law_told" 651 652 653 211 3 331 332 .none .none 333 654 655) ::
(nat_lit 335,oF "_law_told" (Pr.top 54) u1_ 334) ::
(nat_lit 336,e0_) ::
(nat_lit 339,oC "_law_back" "_law_back" 657 658 659 216 1 336 337 .none .none 338 660 661) ::
(nat_lit 340,oF "_law_back" (Pr.top 55) u1_ 339) ::
(nat_lit 341,e0_) ::
(nat_lit 344,oC "law" "law" 663 664 665 218 1 341 342 .none .none 343 666 667) ::
(nat_lit 345,oF "law" (Pr.top 56) u1_ 344)::[]
def as0:List Addr:=[2,3,15,22,23,24,25,28,35,36,37,40,47,48,49,52,59,60,61,64,71,72,73,76,78,79,81,82,83,85,86,88,89,90,93,94,95,97,98,100,101,102,104,105,107,108,109,111,112,114,115,116,119,120,121,123,124,126,127,128,130,131,133,134,135,137,138,140,141,142,144,145,147,148,149,151,152,154,155,156,159,160,161,163,164,166,167,168,171,172,173,176,177,178,180,181,183,184,185,188,189,190,192,193,195,196,197,200,201,202,204,205,207,208,209,211,212,214,215,216,217,218,219,220,221,222,223,224,225,227,228,230,231,232,234,235,237,238,239,241,242,244,245,246,248,249,251,252,253,255,256,258,259,260,262,263,265,266,267,269,270,272,273,274,277,278,279,281,282,284,285,286,289,290,291,293,294,296,297,298,300,301,303,304,305,308,309,310,312,313,315,316,317,319,320,322,323,324,326,327,329,330,331,334,335,336,339,340,341,344,345]
def keep0:List Nat:=[1,2,3,4,5,7,8,9,10,11,12,14,15,16,17,18,19,20,21,22,24,25,26,27,28,29,31,32,33,34,36,37,38,39,40,41,43,44,45,46,47,48,49,50,51,52,53,54,55,56]
def N0:Nat:=4960
noncomputable def bx (P:Params) (a t l:Nat) (x:Str):List Obj:=[(e2_ #[.ref 24]),
⟨.type "builtin_function_or_method",none,(.fields #[.builtin "type.__prepare__",.type "type"]),#[]⟩,
⟨.type "dict",none,(.dict #[⟨kh P "__module__",.str "__module__" (t+7),.str "quarterfold.errors" 187⟩,⟨kh P "__qualname__",.str "__qualname__" (t+9),.str x (t+8)⟩,⟨kh P "__firstlineno__",.str "__firstlineno__" (t+11),.int l (t+10)⟩,⟨kh P "__static_attributes__",.str "__static_attributes__" (t+12),.ref (a+7)⟩] 4),#[]⟩,
e0_,
e1_,
⟨.type "code",none,(.fields #[.str x (t+2),.str x (t+3),.str "/claim/cut.py" (t+4),.int l 0,.int 0 0,.int 0 0,.int 0 0,.int 0 0,.ref (a+3),.bool false,.int 181 0,.ref (a+4),.none,.none,.none,.none,.int (t+5) 0,.int l 0,.str "/claim/cut.py" (t+6)]),#[]⟩,
⟨.type "frame",none,.plain,#[some (.ref (a+5)),some (.ref 3),some (.ref (a+2)),none,some (.str "quarterfold.errors" 187),none,some (.ref 0)]⟩,
e0_,
⟨.type "dict",none,(.dict #[⟨kh P "__module__",.str "__module__" (t+7),.str "quarterfold.errors" 187⟩,⟨kh P "__firstlineno__",.str "__firstlineno__" (t+11),.int l (t+10)⟩,⟨kh P "__static_attributes__",.str "__static_attributes__" (t+12),.ref (a+7)⟩,⟨kh P "__doc__",.str "__doc__" (t+13),.none⟩] 2),#[]⟩,
⟨.type "type",none,(.cls ⟨x,[.ref 24],[.ref (a+9),.ref 24,.type "ValueError",.type "Exception",.type "BaseException",.type "object"],(a+8),x,true,[],[],false,none,false⟩),#[some (.ref a),none,some (.str x t),some (.str x (t+8)),some (.builtin "ValueError.__new__"),some (.bool true)]⟩,
⟨.type "super",none,(.fields #[.ref (a+9),.ref (a+9),.ref (a+9)]),#[]⟩,
⟨.type "builtin_function_or_method",none,(.fields #[.builtin "object.__init_subclass__",.ref (a+9)]),#[]⟩]
noncomputable def ob (P:Params):List Obj:=[boot_o_0 P,boot_o_1 P,boot_o_2 P,⟨.type "dict",none,(.dict #[e3_ P "__name__" 165 (.str "quarterfold.beside" 453),e3_ P "__doc__" 166 .none,e3_ P "__package__" 167 .none,e3_ P "__loader__" 168 (.builtin "__main__.__loader__#opaque"),e3_ P "__spec__" 169 .none,e3_ P "__annotations__" 170 (.ref 6),e3_ P "__builtins__" 171 (.ref 4),e3_ P "__file__" 173 (.str "/claim/cut.py" 172),e3_ P "__cached__" 174 .none,e3_ P "FloorError" 206 (.ref 24),e3_ P "NoAddress" 222 (.ref 37),e3_ P "NoShape" 238 (.ref 49),e3_ P "TooMany" 254 (.ref 61),e3_ P "NoSide" 270 (.ref 73),e3_ P "FIRST" 274 (.int 2 273),e3_ P "is_whole" 281 (.ref 82),e3_ P "is_plain" 288 (.ref 89),e3_ P "depths_of" 294 (.ref 94),e3_ P "end_rows" 304 (.ref 101),e3_ P "places_as_ended" 313 (.ref 108),e3_ P "GREATEST_SIZE" 317 (.int 12 316),e3_ P "is_size" 324 (.ref 115),e3_ P "is_address" 330 (.ref 120),e3_ P "is_cell" 340 (.ref 127),e3_ P "want_address" 348 (.ref 134),e3_ P "side_of" 355 (.ref 141),e3_ P "quarter_of" 364 (.ref 148),e3_ P "box_at" 376 (.ref 155),e3_ P "address_at" 382 (.ref 160),e3_ P "is_number" 392 (.ref 167),e3_ P "is_row" 398 (.ref 172),e3_ P "are_rows" 404 (.ref 177),e3_ P "is_telling" 414 (.ref 184),e3_ P "is_shape" 420 (.ref 189),e3_ P "want_shape" 427 (.ref 196),e3_ P "MOST_LEAVES" 431 (.int 2000 430),e3_ P "count_leaves" 437 (.ref 201),e3_ P "want_leaves" 445 (.ref 208),e3_ P "want_coarse" 452 (.ref 215),e3_ P "SIDES" 473 (.ref 224)] 40),#[]⟩,boot_o_4 P,boot_o_5 P,boot_o_6 P,boot_o_7 P,boot_o_8 P,boot_o_9 P,boot_o_10 P,e0_,⟨.none,none,(.fields #[.int 2 0,.int 0 0,.ref 20,.int 4 0,.int 0 0,.ref 33,.int 6 0,.int 0 0,.ref 45,.int 8 0,.int 0 0,.ref 57,.int 10 0,.int 0 0,.ref 69,.int 14 0,.int 0 0,.ref 81,.int 16 0,.int 0 0,.ref 88,.int 18 0,.int 0 0,.ref 93,.int 23 0,.int 0 0,.ref 100,.int 29 0,.int 0 0,.ref 107,.int 35 0,.int 0 0,.ref 114,.int 37 0,.int 0 0,.ref 119,.int 39 0,.int 0 0,.ref 126,.int 42 0,.int 0 0,.ref 133,.int 45 0,.int 0 0,.ref 140,.int 47 0,.int 0 0,.ref 147,.int 49 0,.int 0 0,.ref 154,.int 57 0,.int 0 0,.ref 159,.int 60 0,.int 0 0,.ref 166,.int 62 0,.int 0 0,.ref 171,.int 66 0,.int 0 0,.ref 176,.int 68 0,.int 0 0,.ref 183,.int 75 0,.int 0 0,.ref 188,.int 82 0,.int 0 0,.ref 195,.int 87 0,.int 0 0,.ref 200,.int 92 0,.int 0 0,.ref 207,.int 95 0,.int 0 0,.ref 214]),#[]⟩,⟨.type "code",none,(.fields #[.str "<module>" 182,.str "<module>" 183,.str "/claim/cut.py" 184,.int 1 0,.int 0 0,.int 0 0,.int 0 0,.int 0 0,.ref 11,.bool false,.int 181 0,.ref 12,.none,.none,.none,.none,.int 185 0,.int 1 0,.str "/claim/cut.py" 186]),#[]⟩,⟨.type "frame",none,.plain,#[some (.ref 13),some (.ref 3),some (.ref 3),none,some (.str "__main__" 164),none,some (.ref 0)]⟩,(e2_ #[.type "ValueError"]),⟨.type "builtin_function_or_method",none,(.fields #[.builtin "type.__prepare__",.type "type"]),#[]⟩,⟨.type "dict",none,(.dict #[e3_ P "__module__" 196 (.str "quarterfold.errors" 187),e3_ P "__qualname__" 198 (.str "FloorError" 197),e3_ P "__firstlineno__" 200 (.int 2 199),e3_ P "__static_attributes__" 201 (.ref 22)] 4),#[]⟩,e0_,e1_,⟨.type "code",none,(.fields #[.str "FloorError" 191,.str "FloorError" 192,.str "/claim/cut.py" 193,.int 2 0,.int 0 0,.int 0 0,.int 0 0,.int 0 0,.ref 18,.bool false,.int 181 0,.ref 19,.none,.none,.none,.none,.int 194 0,.int 2 0,.str "/claim/cut.py" 195]),#[]⟩,⟨.type "frame",none,.plain,#[some (.ref 20),some (.ref 3),some (.ref 17),none,some (.str "quarterfold.errors" 187),none,some (.ref 0)]⟩,e0_,⟨.type "dict",none,(.dict #[e3_ P "__module__" 196 (.str "quarterfold.errors" 187),e3_ P "__firstlineno__" 200 (.int 2 199),e3_ P "__static_attributes__" 201 (.ref 22),e3_ P "__weakref__" 203 (.ref 25),e3_ P "__doc__" 204 .none] 3),#[]⟩,⟨.type "type",none,(.cls ⟨"FloorError",[.type "ValueError"],[.ref 24,.type "ValueError",.type "Exception",.type "BaseException",.type "object"],23, "FloorError",true,[],[.ref 37,.ref 49,.ref 61,.ref 73],false,none,false⟩),#[some (.ref 15),none,some (.str "FloorError" 189),some (.str "FloorError" 197),some (.builtin "ValueError.__new__"),some (.bool true)]⟩,⟨.type "getset_descriptor",none,(.fields #[.str "__weakref__" 202,.ref 24,.builtin "ExceptionGroup.__weakref__",.none]),#[]⟩,⟨.type "super",none,(.fields #[.ref 24,.ref 24,.ref 24]),#[]⟩,⟨.type "builtin_function_or_method",none,(.fields #[.builtin "object.__init_subclass__",.ref 24]),#[]⟩]++(bx P 28 207 4 "NoAddress" ++ (bx P 40 223 6 "NoShape" ++ (bx P 52 239 8 "TooMany" ++ (bx P 64 255 10 "NoSide" ++ ([e0_,e1_,(e2_ #[.str "thing" 278]),e0_,oT "is_whole" "is_whole" (Pr.top 8),oC "is_whole" "is_whole" 275 276 277 14 1 76 77 (.ref 78) (.ref 79) 80 279 280,oF "is_whole" (Pr.top 8) u3_ 81,e0_,e1_,(e2_ #[.str "row" 285]),e0_,oT "is_plain" "is_plain" (Pr.top 9),oC "is_plain" "is_plain" 282 283 284 16 1 83 84 (.ref 85) (.ref 86) 87 286 287,oF "is_plain" (Pr.top 9) u3_ 88,e0_,e1_,oT "depths_of" "depths_of" (Pr.top 10),oC "depths_of" "depths_of" 289 290 291 18 1 90 91 .none .none 92 292 293,oF "depths_of" (Pr.top 10) u3_ 93,e0_,e1_,(e2_ #[.str "rows" 298,.str "number" 299,.str "ended" 300,.str "quarter" 301]),e0_,oT "end_rows" "end_rows" (Pr.top 11),oC "end_rows" "end_rows" 295 296 297 23 3 95 96 (.ref 97) (.ref 98) 99 302 303,oF "end_rows" (Pr.top 11) u3_ 100,e0_,e1_,(e2_ #[.str "rows" 308,.str "top" 309,.str "ended" 310]),e0_,oT "places_as_ended" "places_as_ended" (Pr.top 12),oC "places_as_ended" "places_as_ended" 305 306 307 29 2 102 103 (.ref 104) (.ref 105) 106 311 312,oF "places_as_ended" (Pr.top 12) u3_ 107,e0_,e1_,(e2_ #[.str "thing" 321]),e0_,oT "is_size" "is_size" (Pr.top 15),oC "is_size" "is_size" 318 319 320 35 1 109 110 (.ref 111) (.ref 112) 113 322 323,oF "is_size" (Pr.top 15) u0_ 114,e0_,e1_,oT "is_address" "is_address" (Pr.top 16),oC "is_address" "is_address" 325 326 327 37 2 116 117 .none .none 118 328 329,oF "is_address" (Pr.top 16) u0_ 119,e0_,e1_,(e2_ #[.str "n" 334,.str "row" 335,.str "column" 336,.str "side" 337]),e0_,oT "is_cell" "is_cell" (Pr.top 17),oC "is_cell" "is_cell" 331 332 333 39 3 121 122 (.ref 123) (.ref 124) 125 338 339,oF "is_cell" (Pr.top 17) u0_ 126,e0_,e1_,(e2_ #[.str "n" 344,.str "address" 345]),e0_,oT "want_address" "want_address" (Pr.top 18),oC "want_address" "want_address" 341 342 343 42 2 128 129 (.ref 130) (.ref 131) 132 346 347,oF "want_address" (Pr.top 18) u0_ 133,e0_,e1_,(e2_ #[.str "n" 352]),e0_,oT "side_of" "side_of" (Pr.top 19),oC "side_of" "side_of" 349 350 351 45 1 135 136 (.ref 137) (.ref 138) 139 353 354,oF "side_of" (Pr.top 19) u0_ 140,e0_,e1_,(e2_ #[.str "row" 359,.str "column" 360,.str "k" 361]),e0_,oT "quarter_of" "quarter_of" (Pr.top 20),oC "quarter_of" "quarter_of" 356 357 358 47 3 142 143 (.ref 144) (.ref 145) 146 362 363,oF "quarter_of" (Pr.top 20) u0_ 147,e0_,e1_,(e2_ #[.str "n" 368,.str "address" 369,.str "row" 370,.str "column" 371,.str "side" 372,.str "figure" 373]),e0_,oT "box_at" "box_at" (Pr.top 21),oC "box_at" "box_at" 365 366 367 49 2 149 150 (.ref 151) (.ref 152) 153 374 375,oF "box_at" (Pr.top 21) u0_ 154,e0_,e1_,oT "address_at" "address_at" (Pr.top 22),oC "address_at" "address_at" 377 378 379 57 4 156 157 .none .none 158 380 381,oF "address_at" (Pr.top 22) u0_ 159,e0_,e1_,(e2_ #[.str "thing" 388,.str "many" 389]),e0_,oT "is_number" "is_number" (Pr.top 24),oC "is_number" "is_number" 385 386 387 60 2 161 162 (.ref 163) (.ref 164) 165 390 391,oF "is_number" (Pr.top 24) u2_ 166,e0_,e1_,oT "is_row" "is_row" (Pr.top 25),oC "is_row" "is_row" 393 394 395 62 2 168 169 .none .none 170 396 397,oF "is_row" (Pr.top 25) u2_ 171,e0_,e1_,oT "are_rows" "are_rows" (Pr.top 26),oC "are_rows" "are_rows" 399 400 401 66 1 173 174 .none .none 175 402 403,oF "are_rows" (Pr.top 26) u2_ 176,e0_,e1_,(e2_ #[.str "thing" 408,.str "n" 409,.str "top" 410,.str "rows" 411]),e0_,oT "is_telling" "is_telling" (Pr.top 27),oC "is_telling" "is_telling" 405 406 407 68 1 178 179 (.ref 180) (.ref 181) 182 412 413,oF "is_telling" (Pr.top 27) u2_ 183,e0_,e1_,oT "is_shape" "is_shape" (Pr.top 28),oC "is_shape" "is_shape" 415 416 417 75 1 185 186 .none .none 187 418 419,oF "is_shape" (Pr.top 28) u2_ 188,e0_,e1_,(e2_ #[.str "shape" 424]),e0_,oT "want_shape" "want_shape" (Pr.top 29),oC "want_shape" "want_shape" 421 422 423 82 1 190 191 (.ref 192) (.ref 193) 194 425 426,oF "want_shape" (Pr.top 29) u2_ 195,e0_,e1_,oT "count_leaves" "count_leaves" (Pr.top 32),oC "count_leaves" "count_leaves" 432 433 434 87 2 197 198 .none .none 199 435 436,oF "count_leaves" (Pr.top 32) u4_ 200,e0_,e1_,(e2_ #[.str "shape" 441,.str "most" 442]),e0_,oT "want_leaves" "want_leaves" (Pr.top 33),oC "want_leaves" "want_leaves" 438 439 440 92 2 202 203 (.ref 204) (.ref 205) 206 443 444,oF "want_leaves" (Pr.top 33) u4_ 207,e0_,e1_,(e2_ #[.str "shape" 449]),e0_,oT "want_coarse" "want_coarse" (Pr.top 34),oC "want_coarse" "want_coarse" 446 447 448 95 1 209 210 (.ref 211) (.ref 212) 213 450 451,oF "want_coarse" (Pr.top 34) u4_ 214,(e2_ #[.int 2 458,.int 3 459]),(e2_ #[.int (-1) 456,.int 0 457,.ref 216]),(e2_ #[.int 0 462,.int 2 463]),(e2_ #[.int 0 460,.int 1 461,.ref 218]),(e2_ #[.int 0 466,.int 1 467]),(e2_ #[.int 1 464,.int 0 465,.ref 220]),(e2_ #[.int 1 471,.int 3 472]),(e2_ #[.int 0 468,.int (-1) 470,.ref 222]),(e2_ #[.ref 217,.ref 219,.ref 221,.ref 223])])))))
noncomputable def hA (P:Params):Heap:=⟨⟨((((ob P).take 15).set 3 (boot_o_3 P)).set 12 (e1_))⟩,(boot_heap P).life⟩
noncomputable def h1 (P:Params):Heap:=⟨⟨((((ob P).take 95).set 3 (⟨.type "dict",none,(.dict #[e3_ P "__name__" 165 (.str "quarterfold.rows" 271),e3_ P "__doc__" 166 .none,e3_ P "__package__" 167 .none,e3_ P "__loader__" 168 (.builtin "__main__.__loader__#opaque"),e3_ P "__spec__" 169 .none,e3_ P "__annotations__" 170 (.ref 6),e3_ P "__builtins__" 171 (.ref 4),e3_ P "__file__" 173 (.str "/claim/cut.py" 172),e3_ P "__cached__" 174 .none,e3_ P "FloorError" 206 (.ref 24),e3_ P "NoAddress" 222 (.ref 37),e3_ P "NoShape" 238 (.ref 49),e3_ P "TooMany" 254 (.ref 61),e3_ P "NoSide" 270 (.ref 73),e3_ P "FIRST" 274 (.int 2 273),e3_ P "is_whole" 281 (.ref 82),e3_ P "is_plain" 288 (.ref 89),e3_ P "depths_of" 294 (.ref 94)] 18),#[]⟩)).set 12 (⟨.none,none,(.fields #[.int 2 0,.int 0 0,.ref 20,.int 4 0,.int 0 0,.ref 33,.int 6 0,.int 0 0,.ref 45,.int 8 0,.int 0 0,.ref 57,.int 10 0,.int 0 0,.ref 69,.int 14 0,.int 0 0,.ref 81,.int 16 0,.int 0 0,.ref 88,.int 18 0,.int 0 0,.ref 93]),#[]⟩))⟩,(boot_heap P).life⟩
noncomputable def h2 (P:Params):Heap:=⟨⟨(ob P)⟩,(boot_heap P).life⟩
noncomputable def bd:List Stmt:=behindTheImports pw
noncomputable def ev:Env:={ scope:=pw.main.scope,locals:=mainNs,globals:=mainNs,cells:=[],code:=.ref 13,frame:=some 14 }
noncomputable def cE:Code:=.body bd ev
noncomputable abbrev sh (h:Params->Heap) (k:Nat) (w:World) (os:OsState):Shared:=⟨h w.params,Array.mk [],boot_drawn,k,os⟩
noncomputable abbrev fr:List Frame:=[topFrame ⟨0,0,0,0⟩]
theorem pre0 (w:World) (os:OsState):topGo treeTable pw w 11 (some (.ref 6)) 12 (sh boot_heap boot_toks w os) (topStub pw)=some (sh hA 187 w os,⟨denote treeTable cE,cE,⟨0,0,0,0⟩,fr⟩):=by kernel_rfl
theorem blk0 (w:World) (os:OsState):segRun treeTable pw w 11 (some (.ref 6)) 1 1 (sh hA 187 w os) (blockOf bd ev cE ⟨0,0,0,0⟩ fr)=some (.next,sh hA 187 w os,cE,⟨0,0,0,0⟩):=by kernel_rfl
theorem qr9 {tb:String->Option Builtin}{p:Program}{w:World}{n₀:Nat}{ann:Option Value}{env:Env}{q:Pos}{n N j:Nat}{s s' r:Shared}{l:List Stmt}{c:Code}{pos p':Pos}(h:segRun tb p w n₀ ann 1 n s (piecesOf (l.take j) env c pos [topFrame q])=some (.next,s',c,p'))
  (k:topRun tb p w n₀ ann N s' (restOf (l.drop j) env c p' [topFrame q])=some r):topRun tb p w n₀ ann (n+N) s (restOf l env c pos [topFrame q])=some r:=by
 have:=piece_app (l:=l.take j) (rest:=l.drop j) h k
 rwa [YK] at this
theorem xa0 {p q:Program}{loose:List Str}{Xt:Shared->Bool}{α:Type}{Yf:Shared->α}{Ya:World->α}{N:Nat}{g0:Bool}{H₀:Params->Heap}{gs₀:Array GenState}{d₀:Drawn}{k₀ m₀ M N2:Nat}{ann:Option Value}{Z:World->OsState->Shared}{T:Thread}
  (open_:∀w:World,(fencedOpening treeTable p w N).map (λs=>(s.heap,s.gens,s.drawn,s.toks))=some (H₀ w.params,gs₀,d₀,k₀))
  (size:∀w:World,((H₀ w.params).isNs mainGlobals&&gs₀.size==0,(H₀ w.params).objs.size,(H₀ w.params).nsMap mainGlobals "__annotations__")=(true,m₀,ann))
  (run:∀(w:World) (os:OsState) (r:Shared),topRun treeTable p w m₀ ann N2 (Z w os) T=some r->topRun treeTable p w m₀ ann M ⟨H₀ w.params,gs₀,d₀,k₀,os⟩ (topStub p)=some r) (le:Nat.ble M N=true)
  (fin:∀(w:World) (os:OsState),(topRun treeTable p w m₀ ann N2 (Z w os) T).map (λs=>(staticsOk (importedModules p.main.body) (H₀ w.params) s.heap&&namesBound p s.heap&&gensDone s&&laidKept (H₀ w.params) s.heap,openSeen q loose (importedModules p.main.body) Xt g0 s,Yf s))=some (true,openGood q loose,Ya w)):LeftO p q loose Xt Yf Ya N g0:=λw=>by
 obtain⟨⟨h,gs,d,k,os⟩,e,e'⟩:=Zj.mp (open_ w)
 obtain⟨rfl,rfl,rfl,rfl⟩:h=H₀ w.params/\gs=gs₀/\d=d₀/\k=k₀:=by simpa using e'
 obtain⟨z1,z2,z3⟩:_/\_/\_:=by simpa only [V1] using size w
 obtain⟨r,hr,e2⟩:=Zj.mp (fin w os)
 obtain⟨l1,l2,l3⟩:_/\_/\_:=by simpa only [V1] using e2
 have r1:=topRun_mono (N-M) _ _ _ _ (run w os r hr)
 rw[show M+(N-M)=N by have:=Nat.le_of_ble_eq_true le;lia] at r1
 have t:topFrom treeTable p w N ⟨H₀ w.params,gs,d,k,os⟩=some r:=by
  unfold topFrom
  dsimp only
  rw[z1,z2,z3,r1]
  show (match staticsOk (importedModules p.main.body) (H₀ w.params) r.heap&&namesBound p r.heap&&gensDone r&&laidKept (H₀ w.params) r.heap with|true=>_|false=>_)=_
  rw[l1]
 unfold openEnds
 rw[e]
 show (topFrom treeTable p w N ⟨H₀ w.params,gs,d,k,os⟩).map _=_
 rw[t]
 show some (_,_)=some (_,_)
 rw[l2,l3]
theorem seg1 (w:World) (os:OsState):segRun treeTable pw w 11 (some (.ref 6)) 1 1199 (sh hA 187 w os) (piecesOf (bd.take 11) ev cE ⟨0,0,0,0⟩ fr)=some (.next,sh h1 295 w os,cE,⟨18,0,22,17⟩):=by kernel_rfl
theorem seg2 (w:World) (os:OsState):segRun treeTable pw w 11 (some (.ref 6)) 1 710 (sh h1 295 w os) (piecesOf ((bd.drop 11).take 26) ev cE ⟨18,0,22,17⟩ fr)=some (.next,sh h2 474 w os,cE,⟨98,0,98,5⟩):=by kernel_rfl
theorem run0 (w:World) (os:OsState) (r:Shared) (h:topRun treeTable pw w 11 (some (.ref 6)) 669 (sh h2 474 w os) (restOf ((bd.drop 11).drop 26) ev cE ⟨98,0,98,5⟩ fr)=some r):topRun treeTable pw w 11 (some (.ref 6)) (12+(1+(1199+(710+669)))) (sh boot_heap boot_toks w os) (topStub pw)=some r:=go_top (pre0 w os) (piece_block (blk0 w os) (qr9 (seg1 w os) (qr9 (seg2 w os) h)))
theorem opn0:opening pw=plainProg pw.main.scope.names:=by kernel_rfl
theorem fen0 (s:Shared):fenceModules? pw s=some s:=by kernel_rfl
def q0:Program:={ pw with main:={ pw.main with body:=keep0.map Pr.top } }
theorem as_K:∀P,as0=(K0 P).map (·.1):=λ_=>by kernel_rfl
abbrev X0:Shared->Bool:=λs=>xlAt q0 [] s&&recOk (RowW.records (OpenRow.toRowW (OpenLaw.row PySem.Challenge.rw_quarterfold_k52_whole_beside_there_and_b))) s
set_option maxHeartbeats 0 in
theorem fin0 (w:World) (os:OsState):(topRun treeTable pw w 11 (some (.ref 6)) 669 (sh h2 474 w os) (restOf ((bd.drop 11).drop 26) ev cE ⟨98,0,98,5⟩ fr)).map (λs=>(staticsOk (importedModules pw.main.body) (boot_heap w.params) s.heap&&namesBound pw s.heap&&gensDone s&&laidKept (boot_heap w.params) s.heap,openSeen q0 [] (importedModules pw.main.body) X0 true s,Hook.obs (kHook Hd.K0 Hd.as0 Hd.as_K) s))=some (true,openGood q0 [],Hook.val (kHook Hd.K0 Hd.as0 Hd.as_K) w):=by kernel_rfl
theorem xy3:LeftO pw q0 [] X0 (Hook.obs (kHook Hd.K0 Hd.as0 Hd.as_K)) (Hook.val (kHook Hd.K0 Hd.as0 Hd.as_K)) N0:=xa0 (boot_open opn0 rfl fen0) (λw=>by kernel_rfl) run0 (by rfl) fin0
end Hd
namespace L2
open PySem PySem.Spec PyProof.Rows
abbrev Key:=Sum Int Str
def qJ5:Key->Value->Bool
 |.inl k,v=>Value.isInt k v
 |.inr x,v=>Value.isStrOf x v
def keyH (w:World):Key->Int
 |.inl k=>hashInt k
 |.inr x=>hashStr w x
theorem qc5:∀{k:Key}{v:Value},qJ5 k v=true->(∃i t,k=Sum.inl i/\v=Value.int i t)\/(∃x t,k=Sum.inr x/\v=Value.str x t)
 |.inl i,v,h=>by
  obtain⟨t,e⟩:=Value.isInt_shape (k:=i) (v:=v) h
  exact .inl ⟨i,t,rfl,e⟩
 |.inr x,v,h=>by
  obtain⟨t,e⟩:=Value.isStrOf_shape (x:=x) (v:=v) h
  exact .inr ⟨x,t,rfl,e⟩
theorem qV9 (i:Int) (t:Tok):qJ5 (.inl i) (.int i t)=true:=by simp[qJ5,Value.isInt]
theorem qW0 (x:Str) (t:Tok):qJ5 (.inr x) (.str x t)=true:=by simp[qJ5,Value.isStrOf]
theorem xr9 (a b:Int):decide ((Sum.inl a:Key)=Sum.inl b)=(a==b):=by
 by_cases e:a=b
 ·subst e;simp
 ·have h:¬(Sum.inl a:Key)=Sum.inl b:=λq=>e (Sum.inl.inj q)
  rw[Zm h]
  exact (WB.mpr e).symm
theorem xs0 (a b:Str):decide ((Sum.inr a:Key)=Sum.inr b)=decide (a=b):=by
 by_cases e:a=b
 ·subst e;simp
 ·have h:¬(Sum.inr a:Key)=Sum.inr b:=λq=>e (Sum.inr.inj q)
  rw[Zm h,Zm e]
theorem xs1 (a:Int) (b:Str):decide ((Sum.inl a:Key)=Sum.inr b)=false:=Zm (λq=>nomatch q)
theorem xs2 (a:Str) (b:Int):decide ((Sum.inr a:Key)=Sum.inl b)=false:=Zm (λq=>nomatch q)
def qd3 (prog:Program) (w:World):PySem.KeyKind prog w Key where
 is:=qJ5
 hash:=keyH w
 inj:=λv a b ha hb=>by
  rcases qc5 ha with ⟨i,t,rfl,rfl⟩|⟨x,t,rfl,rfl⟩
  ·rcases qc5 hb with ⟨j,u,rfl,e⟩|⟨y,u,rfl,e⟩
   ·injection e with e1 _;rw[e1]
   ·exact nomatch e
  ·rcases qc5 hb with ⟨j,u,rfl,e⟩|⟨y,u,rfl,e⟩
   ·exact nomatch e
   ·injection e with e1 _;rw[e1]
 byValue:=λk v h=>by
  rcases qc5 h with ⟨i,t,rfl,rfl⟩|⟨x,t,rfl,rfl⟩<;>rfl
 pyHash:=λhv h=>by
  rcases qc5 hv with ⟨i,t,rfl,rfl⟩|⟨x,t,rfl,rfl⟩
  ·exact wpAny_pyHash_int h
  ·exact wpAny_pyHash_str h
 eqBool:=λhu hv h=>by
  rcases qc5 hu with ⟨i,t,rfl,rfl⟩|⟨x,t,rfl,rfl⟩
  ·rcases qc5 hv with ⟨j,u,rfl,rfl⟩|⟨y,u,rfl,rfl⟩
   ·rw[xr9] at h;exact wpAny_eqBool_int h
   ·rw[xs1] at h;exact SeqAt.EqAt.int_str i t y u _ _ _ _ h
  ·rcases qc5 hv with ⟨j,u,rfl,rfl⟩|⟨y,u,rfl,rfl⟩
   ·rw[xs2] at h;exact SeqAt.EqAt.str_int x t j u _ _ _ _ h
   ·rw[xs0] at h;exact wpAny_eqBool_str h
 «strs»:=λk x t v h=>by
  rcases qc5 h with ⟨i,u,rfl,e⟩|⟨y,u,rfl,e⟩
  ·exact nomatch e
  ·injection e with e1 _
   subst e1
   cases v<;>rfl
theorem qJ6 (prog:Program) (w:World) (i:Int) (t:Tok):(qd3 prog w).is (.inl i) (.int i t)=true:=qV9 i t
theorem qJ7 (prog:Program) (w:World) (x:Str) (t:Tok):(qd3 prog w).is (.inr x) (.str x t)=true:=qW0 x t
inductive V where
 |non|bl (b:Bool)|int (i:Int)|str (x:Str)|byt (b:Array UInt8)|flt (b:UInt64)|ref (a:Addr)|ty (n:String)
 deriving DecidableEq
def RelV:V->Value->Prop
 |.non,u=>u=Value.none
 |.bl b,u=>u=Value.bool b
 |.int i,u=>∃t,u=Value.int i t
 |.str x,u=>∃t,u=Value.str x t
 |.byt b,u=>∃t,u=Value.bytes b t
 |.flt b,u=>∃t,u=Value.float b t
 |.ref a,u=>u=Value.ref a
 |.ty n,u=>u=Value.type n
abbrev Vals:List V->List Value->Prop:=Paired RelV
theorem Vals.length {xs:List V}{us:List Value}(r:Vals xs us):xs.length=us.length:=YD r
theorem Vals.get:∀{xs:List V}{us:List Value}{i:Nat}{x:V},Vals xs us->xs[i]?=some x->∃u,us[i]?=some u/\RelV x u
 |_,_,_,_,.nil,e=>by simp at e
 |_,_,0,_,.cons r _,e=>by simp at e;subst e;exact⟨_,rfl,r⟩
 |_,_,i+1,x,.cons _ t,e=>by
  obtain⟨u,h1,h2⟩:=Vals.get (i:=i) (x:=x) t (by simpa using e)
  exact⟨u,by simpa using h1,h2⟩
theorem Vals.set {x:V}{u:Value}(r:RelV x u):∀{xs:List V}{us:List Value}(i:Nat),Vals xs us->Vals (xs.set i x) (us.set i u)
 |_,_,_,.nil=>.nil
 |_,_,0,.cons _ t=>.cons r t
 |_,_,i+1,.cons q t=>.cons q (Vals.set r i t)
theorem Vals.append:∀{xs ys:List V}{us ws:List Value},Vals xs us->Vals ys ws->Vals (xs++ys) (us++ws)
 |_,_,_,_,.nil,s=>s
 |_,_,_,_,.cons r t,s=>.cons r (Vals.append t s)
theorem Vals.take:∀{xs:List V}{us:List Value}(n:Nat),Vals xs us->Vals (xs.take n) (us.take n)
 |_,_,0,_=>.nil
 |_,_,_+1,.nil=>.nil
 |_,_,n+1,.cons r t=>.cons r (Vals.take n t)
theorem Vals.drop:∀{xs:List V}{us:List Value}(n:Nat),Vals xs us->Vals (xs.drop n) (us.drop n)
 |_,_,0,r=>r
 |_,_,_+1,.nil=>.nil
 |_,_,n+1,.cons _ t=>Vals.drop n t
def RelO:Option V->Option Value->Prop
 |some v,some u=>RelV v u
 |none,none=>True
 |_,_=>False
def KV {κ:Type}:List (κ×V)->List (κ×Value)->Prop:=Paired λ(p:κ×V) (q:κ×Value)=>p.1=q.1/\RelV p.2 q.2
def kV:Key->V
 |.inl i=>.int i
 |.inr x=>.str x
inductive HO where
 |lst (xs:List V)
 |tup (xs:List V)
 |dK (kvs:List (Key×V))|dT (kvs:List (List Key×V))
 |set (S:Int->Bool) (n:Nat)
 |ins (C dx:Addr) (fs:List (Str×V))
 |own (x:Addr)
 |xd (fs:List (Str×V))
 |met (f x:Addr)
 |rng (lo hi:Int)
 |frz (o:Obj) (u:HO)
 |tbl (ps:Array Value)
 |ext (φ:Heap->Prop)
abbrev Hp:=Addr->Option HO
def upd (H:Hp) (a:Addr) (o:HO):Hp:=λb=>if b=a then some o else H b
theorem qa2 {H:Hp}{a:Addr}{o:HO}:upd H a o a=some o:=by unfold upd;rw[Zz rfl]
theorem qb2 {H:Hp}{a b:Addr}{o:HO}(h:b≠a):upd H a o b=H b:=by unfold upd;rw[Zq h]
theorem qW1 {H:Hp}{a:Addr}{o u:HO}:upd (upd H a o) a u=upd H a u:=by
 funext b;unfold upd;split<;>rfl
theorem xy4 {H:Hp}{a b:Addr}{o u:HO}(h:H a=some o) (h':H b=some u) (d:o≠u):a≠b:=by
 intro e;subst e;rw[h] at h';exact d (ZK h')
theorem qa7 {H:Hp}{a b:Addr}{o:HO}(h:H a=some o) (h':H b=none):a≠b:=by
 intro e;subst e;rw[h] at h';cases h'
def IsTupX (h:Heap) (a:Addr) (items:Array Value):Prop:=∃o,h.get? a=some o/\o.cls=.type "tuple" /\ ∃n:{n:Nat // o.dict=none},o.data=.seq items n.1
theorem IsTupX.is {h:Heap}{a:Addr}{items:Array Value}(x:IsTupX h a items):IsTup h a items:=let ⟨o,h1,h2,n,h3⟩:=x;⟨o,h1,h2,n.1,h3⟩
theorem IsTupX.new (h:Heap) (items:Array Value):IsTupX (h.push { cls:=.type "tuple",data:=.seq items }) h.objs.size items:=⟨_,Zh _ rfl,rfl,⟨_,rfl⟩,rfl⟩
instance {h:Heap}{a:Addr}{items:Array Value}:Coe (IsTupX h a items) (IsTup h a items):=⟨IsTupX.is⟩
instance {h:Heap}{a:Addr}{items:Array Value}:Coe (IsTupX h a items) (h.IsTuple a items):=⟨IsTupX.is⟩
section
variable (P:Program) (w:World)
def ObjOk (H:Hp) (h:Heap) (a:Addr):HO->Prop
 |.lst xs=>xs.length<=sizeLine/\∃(its:List Value) (n:Nat),Vals xs its/\h.get? a=some { cls:=.type "list",data:=.seq its.toArray n }
 |.tup xs=>xs.length<=sizeLine/\∃its:List Value,Vals xs its/\IsTupX h a its.toArray
 |.dK kvs=>kvs.length<=sizeLine/\(a==sysModules)=false/\∃vs,KV kvs vs/\h.DictOf (qd3 P w) a vs
 |.dT kvs=>kvs.length<=sizeLine/\(a==sysModules)=false/\∃xs:List (List Key×Addr×Value),
   Paired (λ(p:List Key×V) (q:List Key×Addr×Value)=>p.1=q.1/\H q.2.1=some (.tup (p.1.map kV))/\RelV p.2 q.2.2) kvs xs /\
   ∃o es ep,h.get? a=some o/\o.ExactDict/\o.data=.dict es ep/\es.toList=xs.map (entryOfKey (tupleKind (qd3 P w)))/\(xs.map (·.1)).Nodup
 |.set S n=>h.SetOf (intKind P w) a S n
 |.ins C dx fs=>H dx=some (.own a)/\fs.length<=1000/\dx≠a/\h.get? a=some (PySem.W.instObj C dx) /\
   ∃mA,h.Ns1 dx mA/\(∀f,RelO (fs.lookup f) (mA f))/\PySem.Within mA (fs.map (·.1))
 |.own _=>∃o,h.get? a=some o
 |.xd fs=>∃mA,h.Ns1 a mA/\∀f,RelO (fs.lookup f) (mA f)
 |.rng lo hi=>∃t u v,h.get? a=some { cls:=.type "range",data:=.fields #[.int lo t,.int hi u,.int 1 v] }
 |.frz o u=>h.get? a=some o/\ObjOk H h a u
 |.tbl ps=>h.get? a=some { cls:=.none,data:=.fields ps }
 |.met f x=>h.get? a=some (PySem.W.methodObj (.ref f) (.ref x))
 |.ext φ=>φ h/\(∃o,h.get? a=some o)/\∀h1 h2:Heap,φ h1->(∀o,h1.get? a=some o->h2.get? a=some o)->φ h2
def HOk (H:Hp) (h:Heap):Prop:=∀a o,H a=some o->ObjOk P w H h a o
end
section
variable {P:Program}{w:World}{H H':Hp}{h h':Heap}{a:Addr}{o:HO}
theorem ObjOk.lt (x:ObjOk P w H h a o):a<h.objs.size:=by
 cases o with
 |lst xs=>obtain⟨_,_,_,_,e⟩:=x;exact Zi e
 |tup xs=>obtain⟨_,_,_,p⟩:=x;exact (IsTupX.is p).lt
 |dK kvs=>obtain⟨_,_,_,_,o,_,_,e,_⟩:=x;exact Zi e
 |dT kvs=>obtain⟨_,_,_,_,o,_,_,e,_⟩:=x;exact Zi e
 |set S n=>obtain⟨o,_,_,_,e,_⟩:=x;exact Zi e
 |ins C dx fs=>obtain⟨_,_,_,e,_⟩:=x;exact Zi e
 |own y=>obtain⟨_,e⟩:=x;exact Zi e
 |xd fs=>obtain⟨_,⟨_,_,_,e,_⟩,_⟩:=x;exact Zi e
 |rng lo hi=>obtain⟨_,_,_,e⟩:=x;exact Zi e
 |frz ob u=>obtain⟨e,_⟩:=x;exact Zi e
 |tbl ps=>exact Zi (show h.get? a=some _ from x)
 |met f y=>exact Zi (show h.get? a=some _ from x)
 |ext φ=>obtain⟨_,⟨_,e⟩,_⟩:=x;exact Zi e
theorem Paired.mapP {α β:Type}{F G:α->β->Prop}:∀{l₁:List α}{l₂:List β},Paired F l₁ l₂->(∀a b,F a b->G a b)->Paired G l₁ l₂
 |_,_,.nil,_=>.nil
 |_,_,.cons r t,f=>.cons (f _ _ r) (Paired.mapP t f)
theorem ObjOk.stay (x:ObjOk P w H h a o) (k:∀b u,(b=a\/H b=some (.own a))->h.get? b=some u->h'.get? b=some u)
  (ho:∀b,H b=some (.own a)->H' b=some (.own a)) (ht:∀b xs,H b=some (.tup xs)->H' b=some (.tup xs)):ObjOk P w H' h' a o:=by
 induction o with
 |lst xs=>obtain⟨z,its,n,r,e⟩:=x;exact⟨z,its,n,r,k _ _ (.inl rfl) e⟩
 |tup xs=>obtain⟨z,its,r,ob,e,c⟩:=x;exact⟨z,its,r,ob,k _ _ (.inl rfl) e,c⟩
 |dK kvs=>obtain⟨z,y,vs,r,ob,es,ep,e,c⟩:=x;exact⟨z,y,vs,r,ob,es,ep,k _ _ (.inl rfl) e,c⟩
 |dT kvs=>
  obtain⟨z,y,xs,r,ob,es,ep,e,c⟩:=x
  exact⟨z,y,xs,Paired.mapP r λp q z=>⟨z.1,ht _ _ z.2.1,z.2.2⟩,ob,es,ep,k _ _ (.inl rfl) e,c⟩
 |set S n=>obtain⟨ob,es,ep,t,e,c⟩:=x;exact⟨ob,es,ep,t,k _ _ (.inl rfl) e,c⟩
 |ins C dx fs=>
  obtain⟨d,z,ne,e,mA,⟨od,es,ep,e2,c⟩,r⟩:=x
  exact⟨ho _ d,z,ne,k _ _ (.inl rfl) e,mA,⟨od,es,ep,k _ _ (.inr d) e2,c⟩,r⟩
 |own y=>obtain⟨ob,e⟩:=x;exact⟨ob,k _ _ (.inl rfl) e⟩
 |xd fs=>obtain⟨mA,⟨od,es,ep,e,c⟩,r⟩:=x;exact⟨mA,⟨od,es,ep,k _ _ (.inl rfl) e,c⟩,r⟩
 |rng lo hi=>obtain⟨t,u,v,e⟩:=x;exact⟨t,u,v,k _ _ (.inl rfl) e⟩
 |frz ob u ih=>obtain⟨e,q⟩:=x;exact⟨k _ _ (.inl rfl) e,ih q⟩
 |tbl ps=>
  have e:h.get? a=some { cls:=.none,data:=.fields ps }:=x
  show h'.get? a=some { cls:=.none,data:=.fields ps }
  exact k a _ (.inl rfl) e
 |met f y=>
  have e:h.get? a=some (PySem.W.methodObj (.ref f) (.ref y)):=x
  show h'.get? a=some (PySem.W.methodObj (.ref f) (.ref y))
  exact k a _ (.inl rfl) e
 |ext φ=>obtain⟨p,⟨o,e⟩,st⟩:=x;exact⟨st _ _ p λo q=>k _ _ (.inl rfl) q,⟨o,k _ _ (.inl rfl) e⟩,st⟩
theorem HOk.lt (x:HOk P w H h) (e:H a=some o):a<h.objs.size:=(x a o e).lt
theorem HOk.fresh (x:HOk P w H h) (e:h.objs.size<=a):H a=none:=by
 cases q:H a with
 |none=>rfl
 |some u=>exact absurd (ZN (x.lt q) e) (Ys _)
theorem HOk.kept (x:HOk P w H h) (k:∀b u,h.get? b=some u->h'.get? b=some u):HOk P w H h':=λa o e=>
 (x a o e).stay (λb u _ q=>k b u q) (λ_ q=>q) λ_ _ q=>q
theorem HOk.laid (x:HOk P w H h) (k:∀b u,h.get? b=some u->h'.get? b=some u) (hp:h.objs.size<=a) (new:ObjOk P w (upd H a o) h' a o):HOk P w (upd H a o) h':=λb u e=>by
 have hn:=x.fresh hp
 by_cases hb:b=a
 ·subst hb;rw[qa2] at e;cases e;exact new
 ·rw[qb2 hb] at e
  exact (x b u e).stay (λc v _ q=>k c v q) (λc q=>by rw[qb2 (qa7 q hn)];exact q) λc xs q=>by rw[qb2 (qa7 q hn)];exact q
end
def Rd (H:Hp) (a:Addr) (u:HO):Prop:=H a=some u\/∃o,H a=some (.frz o u)
theorem Rd.ok {P:Program}{w:World}{H:Hp}{h:Heap}{a:Addr}{u:HO}(r:Rd H a u) (x:HOk P w H h):ObjOk P w H h a u:=by
 rcases r with r|⟨o,r⟩
 ·exact x a u r
 ·obtain⟨_,q⟩:=x a _ r
  exact q
def Mut:Option HO->Prop
 |some (.lst _)=>True
 |some (.dK _)=>True
 |some (.dT _)=>True
 |some (.set _ _)=>True
 |some (.ins _ _ _)=>True
 |some (.ext _)=>True
 |_=>False
section
variable {P:Program}{w:World}{H:Hp}{h h':Heap}{x e:Addr}{o':HO}
theorem HOk.write (ok:HOk P w H h) (mu:Mut (H x)) (he:e=x\/H e=some (.own x)) (k:∀b u,b≠e->h.get? b=some u->h'.get? b=some u) (heo:∃u,h'.get? e=some u)
  (new:ObjOk P w (upd H x o') h' x o'):HOk P w (upd H x o') h':=λb u q=>by
 have nown:∀c y,H c=some (.own y)->c≠x:=λc y r z=>by subst z;rw[r] at mu;exact mu
 have ntup:∀c xs,H c=some (.tup xs)->c≠x:=λc xs r z=>by subst z;rw[r] at mu;exact mu
 by_cases hb:b=x
 ·subst hb;rw[qa2] at q;cases q;exact new
 ·rw[qb2 hb] at q
  by_cases kJ:b=e
  ·have q':H b=some (.own x):=by
    rcases he with z|z
    ·exact absurd (kJ.trans z) hb
    ·rw[kJ];exact z
   rw[q] at q';cases q'
   obtain⟨v,hv⟩:=heo
   exact⟨v,by rw[kJ];exact hv⟩
  ·refine (ok b u q).stay (λc v hc r=>k c v ?_ r) (λc r=>by rw[qb2 (nown c b r)];exact r) λc xs r=>by rw[qb2 (ntup c xs r)];exact r
   rcases hc with rfl|hc
   ·exact kJ
   ·rintro rfl
    rcases he with z|z
    ·exact nown c b hc z
    ·rw[hc] at z;cases z;exact hb rfl
end
structure Un (fs ex:List Addr) (H H':Hp) (h h':Heap):Prop where
 keep:∀b o,h.get? b=some o->H b=none->b∉fs->b∉ex->h'.get? b=some o
 slot:∀b o,h.get? b=some o->H b=none->b∈fs->b∉ex->∃sl,h'.get? b=some { o with slots:=sl }
 free:∀b o,h.get? b=some o->H b=none->b∉ex->H' b=none
 there:∀b o,h.get? b=some o->b∉ex->∃o',h'.get? b=some o'
 tups:∀b xs,H b=some (.tup xs)->H' b=some (.tup xs)
 frzs:∀b o u,H b=some (.frz o u)->H' b=some (.frz o u)
 tbls:∀b ps,H b=some (.tbl ps)->∃more,H' b=some (.tbl (ps++more))
section
variable {fs fs' ex ex':List Addr}{H H1 H2:Hp}{h h1 h2 h':Heap}{a x e:Addr}{o:HO}
theorem Un.any (u:Un fs ex H H1 h h1){b:Addr}{ob:Obj}(q:h.get? b=some ob) (n:H b=none) (hx:b∉ex):∃sl,h1.get? b=some { ob with slots:=sl }:=by
 by_cases hb:b∈fs
 ·exact u.slot b ob q n hb hx
 ·exact⟨ob.slots,u.keep b ob q n hb hx⟩
theorem Un.kept (k:∀b u,h.get? b=some u->h'.get? b=some u):Un fs ex H H h h':=
 ⟨λb ob q _ _ _=>k b ob q,λb ob q _ _ _=>⟨ob.slots,k b ob q⟩,λ_ _ _ n _=>n,λb ob q _=>⟨ob,k b ob q⟩,λ_ _ q=>q,λ_ _ _ q=>q,λ_ ps q=>⟨#[],by rw[q];simp⟩⟩
theorem Un.refl:Un fs ex H H h h:=Un.kept λ_ _ q=>q
theorem Un.laid (k:∀b u,h.get? b=some u->h'.get? b=some u) (hp:h.objs.size<=a) (hn:H a=none):Un fs ex H (upd H a o) h h' where
 keep:=λb u q _ _ _=>k b u q
 slot:=λb u q _ _ _=>⟨u.slots,k b u q⟩
 free:=λb u q n _=>by rw[qb2 (Zl (ZN (Zi q) hp))];exact n
 there:=λb u q _=>⟨u,k b u q⟩
 tups:=λb xs q=>by rw[qb2 (qa7 q hn)];exact q
 frzs:=λb u xs q=>by rw[qb2 (qa7 q hn)];exact q
 tbls:=λb ps q=>⟨#[],by rw[qb2 (qa7 q hn),q];simp⟩
theorem Un.write (mu:Mut (H x)) (he:e=x\/H e=some (.own x)) (k:∀b u,b≠e->h.get? b=some u->h'.get? b=some u) (heo:∃u,h'.get? e=some u):Un fs ex H (upd H x o) h h':=by
 have hx:∀b,H b=none->b≠x:=λb n z=>by subst z;rw[n] at mu;exact mu
 have hb:∀b,H b=none->b≠e:=λb n z=>by
  subst z
  rcases he with r|r
  ·exact hx b n r
  ·rw[n] at r;cases r
 have hm:∀b u,H b=some u->¬Mut (some u)->b≠x:=λb u q nm z=>by subst z;rw[q] at mu;exact nm mu
 refine⟨λb u q n _ _=>k b u (hb b n) q,λb u q n _ _=>⟨u.slots,k b u (hb b n) q⟩,λb u q n _=>by rw[qb2 (hx b n)];exact n,λb u q _=>?_,
  λb xs q=>by rw[qb2 (hm b _ q λz=>z)];exact q,λb u xs q=>by rw[qb2 (hm b _ q λz=>z)];exact q,λb ps q=>⟨#[],by rw[qb2 (hm b _ q λz=>z),q];simp⟩⟩
 by_cases kJ:b=e
 ·subst kJ;exact heo
 ·exact⟨u,k b u kJ q⟩
end
def trk (h:Heap) (H:Hp):List Addr:=(List.range h.objs.size).filter λa=>(H a).isSome
def hidT (h:Heap) (H:Hp):Heap:=PySem.W.hideAll h (trk h H)
theorem qW2 (h:Heap) (H:Hp):(hidT h H).objs.size=h.objs.size:=PySem.W.hideAll_size _ _
theorem xa1 {h:Heap}{H:Hp}{b:Addr}{o:Obj}(e:h.get? b=some o) (n:H b=none):(hidT h H).get? b=some o:=
 PySem.W.hideAll_get _ e λhm=>by
  have q:(H b).isSome=true:=(X7.mp hm).2
  rw[n] at q;simp at q
theorem xk1 {h:Heap}{H:Hp}{b:Addr}{o:Obj}(e:(hidT h H).get? b=some o):h.get? b=some o/\H b=none:=by
 have e':h.get? b=some o:=PySem.W.of_hideAll (trk h H) e
 refine⟨e',?_⟩
 cases q:H b with
 |none=>rfl
 |some x=>
  have hm:b∈trk h H:=X7.mpr ⟨Yq.mpr (Zi e'),by simp[q]⟩
  have z:(hidT h H).get? b=none:=PySem.W.hideAll_none (trk h H) hm
  rw[z] at e;cases e
structure Mod (K:PySem.W.Frag) (mg:Str->Option Value) (base:Heap):Prop where
 kin:K.In base
 glob:base.Ns mainGlobals mg
 blt:∃mb,base.Ns builtinsNs mb/\∀x:Str,x ≠ "__name__" -> mb x=bootBuiltins x
 nolimit:base.NoLimit
structure Cx where
 prog:Program
 w:World
 K:PySem.W.Frag
 mg:Str->Option Value
 base:Heap
 A:Around
 N:List Str
 s₀:Shared
 H₀:Hp
 env:Env
 outer:List Env
 stack:List Env
 ex:List Addr
 fn:Str->Bool
 calm:Bool
 pn:List (Addr×Obj)
 xe:Value->Shared->Prop
def frs (l:List Env):List Addr:=l.filterMap (·.frame)
abbrev Cx.fs (X:Cx):List Addr:=frs X.outer
def Vis (sc:Scope) (x:Str):Prop:=sc.names.lookup x=some .local\/sc.names.lookup x=some .cell\/sc.names.lookup x=some .free
def Loc (sc:Scope) (x:Str):Prop:=sc.names.lookup x=some .local\/sc.names.lookup x=some .cell
def Look (env:Env) (h:Heap) (m:Str->Option Value) (x:Str) (u:Value):Prop:=
 (env.kindOf x=some .local/\m x=some u)\/((env.kindOf x=some .cell\/env.kindOf x=some .free)/\∃c,env.cells.lookup x=some c/\h.IsCell c (some u))
structure Cx.Ok (X:Cx):Prop where
 mod:Mod X.K X.mg X.base
 kind:X.env.scope.kind=.function
 glob:X.env.globals=mainGlobals
 blt:X.env.builtins=builtinsNs
 above:X.s₀.heap.objs.size<=X.env.locals
 inj:∀x y c,X.env.cells.lookup x=some c->X.env.cells.lookup y=some c->x=y
 has:∀x,(X.env.kindOf x=some .cell\/X.env.kindOf x=some .free)->∃c,X.env.cells.lookup x=some c
 cab:∀x c,X.fn x=true->X.env.cells.lookup x=some c->X.s₀.heap.objs.size<=c
 hd:X.calm=true->X.A.handled=none
 frames:X.A.frames=some X.stack
 stk:X.stack=X.outer\/(X.stack=X.env::X.outer/\X.env.frame=some X.env.locals)
 exf:∀b∈X.ex,b≠X.env.locals/\∀x c,X.env.cells.lookup x=some c->c≠b
 bs:∀b o,X.base.get? b=some o->X.s₀.heap.get? b=some o/\X.H₀ b=none
 bsz:X.base.objs.size<=X.s₀.heap.objs.size
 noex:∀b o,X.base.get? b=some o->b∉X.ex
 exfs:∀b∈X.ex,b∉X.fs
 funs:X.s₀.heap.FunFrames X.base X.outer
 frf:∀b∈X.fs,X.H₀ b=none
structure Inv (X:Cx) (j8:List (Addr×Obj)) (σ:List (Option V)) (H:Hp) (s:Shared):Prop where
 ok:X.Ok
 os:s.os=X.s₀.os
 bare:AllBare s.gens
 base:Un X.fs X.ex X.H₀ H X.s₀.heap s.heap
 loc:∃m,s.heap.Ns X.env.locals m/\∀(i:Nat) (x:Str) (v:V),X.N[i]?=some x->σ[i]?=some (some v)->Vis X.env.scope x->∃u,RelV v u/\Look X.env s.heap m x u
 cell:∀x c,X.env.cells.lookup x=some c->∃v,s.heap.IsCell c v
 free:H X.env.locals=none
 freeC:∀x c,X.env.cells.lookup x=some c->H c=none
 pin:∀p∈X.pn++j8,s.heap.get? p.1=some p.2/\H p.1=none/\p.1≠X.env.locals/\p.1∉X.fs/\∀v,p.2.data≠.cell v
 hok:HOk X.prog X.w H s.heap
 len:σ.length=X.N.length
section
variable {X:Cx}{j8:List (Addr×Obj)}{σ:List (Option V)}{H H':Hp}{s:Shared}{h':Heap}
theorem Cx.Ok.nofr (ok:X.Ok){b:Addr}{o:Obj}(e:X.base.get? b=some o):b∉X.fs:=λhb=>by
 have:=(ok.funs.mem hb).1
 rw[e] at this;cases this
theorem Inv.bs (I:Inv X j8 σ H s):∀b o,X.base.get? b=some o->s.heap.get? b=some o/\H b=none:=λb o e=>
 ⟨I.base.keep b o (I.ok.bs b o e).1 (I.ok.bs b o e).2 (I.ok.nofr e) (I.ok.noex b o e),I.base.free b o (I.ok.bs b o e).1 (I.ok.bs b o e).2 (I.ok.noex b o e)⟩
theorem Inv.bk (I:Inv X j8 σ H s):∀b o,X.base.get? b=some o->s.heap.get? b=some o:=λb o e=>(I.bs b o e).1
theorem Inv.mod (I:Inv X j8 σ H s):Mod X.K X.mg X.base:=I.ok.mod
theorem Inv.kIn (I:Inv X j8 σ H s):X.K.In s.heap:=I.ok.mod.kin.keeps I.bk
theorem Inv.lt (I:Inv X j8 σ H s):X.env.locals<s.heap.objs.size:=let ⟨_,hn,_⟩:=I.loc;hn.lt
theorem Inv.sz (I:Inv X j8 σ H s):X.s₀.heap.objs.size<=s.heap.objs.size:=ZE I.ok.above (Xk I.lt)
theorem Inv.nofs (I:Inv X j8 σ H s){a:Addr}(h:s.heap.objs.size<=a):a∉X.fs:=λhb=>by
 obtain⟨_,o,ho,_⟩:=I.ok.funs.mem hb
 exact absurd (ZN (Zi ho) (ZE I.sz h)) (Ys _)
theorem Inv.cne (I:Inv X j8 σ H s):∀x c,X.env.cells.lookup x=some c->c≠X.env.locals:=λx c e z=>by
 obtain⟨v,o,ho,hd⟩:=I.cell x c e
 obtain⟨m,⟨o',es,ep,ho',hd',_⟩,_⟩:=I.loc
 rw[z,ho'] at ho;cases ho;rw[hd'] at hd;cases hd
theorem Inv.funs (I:Inv X j8 σ H s):s.heap.FunFrames X.base X.outer:=by
 have all:∀(l:List Env),(∀b∈frs l,b∈X.fs)->X.s₀.heap.FunFrames X.base l->s.heap.FunFrames X.base l:=by
  intro l
  induction l with
  |nil=>intro _ _;trivial
  |cons env r ih=>
   intro hs hl
   obtain⟨hk,⟨L,o,hf,hn,ho,hd⟩,hr⟩:=hl
   have hL:L∈X.fs:=hs L (by unfold frs;rw[YZ,hf];exact ZC)
   obtain⟨sl,e⟩:=I.base.slot L o ho (I.ok.frf L hL) hL λz=>I.ok.exfs L z hL
   exact⟨hk,⟨L,_,hf,hn,e,hd⟩,ih (λb hb=>hs b (by unfold frs;rw[YZ,hf];exact Zn _ hb)) hr⟩
 exact all X.outer (λ_ hb=>hb) I.ok.funs
theorem Inv.stack (I:Inv X j8 σ H s):s.heap.FunFrames X.base X.stack:=by
 rcases I.ok.stk with e|⟨e,hf⟩
 ·rw[e];exact I.funs
 ·rw[e]
  obtain⟨m,hn,_⟩:=I.loc
  refine .cons (by rw[I.ok.kind];decide) hf hn ?_ I.funs
  exact Heap.get?_none_of_le (ZE I.ok.bsz I.ok.above)
theorem Inv.stkSub (I:Inv X j8 σ H s):∀b∈frs X.stack,b∈X.env.locals::X.fs:=λb hb=>by
 rcases I.ok.stk with e|⟨e,hf⟩
 ·rw[e] at hb;exact Zn _ hb
 ·rw[e] at hb
  unfold frs at hb
  rw[YZ,hf] at hb
  exact hb
theorem Inv.stkFree (I:Inv X j8 σ H s):∀b∈frs X.stack,H b=none:=λb hb=>by
 rcases Zs.mp (I.stkSub b hb) with e|hb
 ·rw[e];exact I.free
 ·obtain⟨_,o,ho,_⟩:=I.ok.funs.mem hb
  exact I.base.free b o ho (I.ok.frf b hb) λz=>I.ok.exfs b z hb
theorem Inv.step {g':Array GenState}{t':Nat}{d':Drawn}{ch:List Addr}(I:Inv X j8 σ H s)
  (vP:∀b∈ch,(b∈X.ex\/X.s₀.heap.objs.size<=b)/\b≠X.env.locals/\(∀x c,X.env.cells.lookup x=some c->c≠b)/\∀p∈X.pn++j8,p.1≠b)
  (keep:∀b o,b≠X.env.locals->b∉X.fs->b∉ch->s.heap.get? b=some o->H b=none->h'.get? b=some o)
  (slot:∀b o,b≠X.env.locals->b∈X.fs->b∉ch->s.heap.get? b=some o->H b=none->∃sl,h'.get? b=some { o with slots:=sl }) (free:∀b o,b∉ch->s.heap.get? b=some o->H b=none->H' b=none)
  (there:∀b o,b∉ch->s.heap.get? b=some o->∃o',h'.get? b=some o')
  (tups:∀b xs,H b=some (.tup xs)->H' b=some (.tup xs)) (frzs:∀b o u,H b=some (.frz o u)->H' b=some (.frz o u)) (tbls:∀b ps,H b=some (.tbl ps)->∃more,H' b=some (.tbl (ps++more)))
  (ns:∀m,s.heap.Ns X.env.locals m->h'.Ns X.env.locals m) (hok:HOk X.prog X.w H' h') (hg:AllBare g') :
  Inv X j8 σ H' { s with heap:=h',gens:=g',drawn:=d',toks:=t' }:=by
 have neL:∀b o,X.s₀.heap.get? b=some o->b≠X.env.locals:=λb o e=>Zl (ZN (Zi e) I.ok.above)
 have neC:∀b o,X.s₀.heap.get? b=some o->b∉X.ex->b∉ch:=λb o e hx hb=>by
  rcases (vP b hb).1 with z|z
  ·exact hx z
  ·exact absurd (ZN (Zi e) z) (Ys _)
 have cellK:∀x c,X.env.cells.lookup x=some c->∀v,s.heap.IsCell c v->h'.IsCell c v:=λx c e v ⟨o,ho,hd⟩=>by
  have nch:c∉ch:=λz=>(vP c z).2.2.1 x c e rfl
  by_cases hc:c∈X.fs
  ·obtain⟨sl,q⟩:=slot c o (I.cne x c e) hc nch ho (I.freeC x c e)
   exact⟨_,q,hd⟩
  ·exact⟨o,keep c o (I.cne x c e) hc nch ho (I.freeC x c e),hd⟩
 refine⟨I.ok,I.os,hg,⟨λb o e n hb hx=>?_,λb o e n hb hx=>?_,λb o e n hx=>?_,λb o e hx=>?_,λb xs e=>tups b xs (I.base.tups b xs e),λb o xs e=>frzs b o xs (I.base.frzs b o xs e),λb ps e=>?_⟩,?_,λx c e=>?_,?_,λx c e=>?_,λp hp=>?_,hok,I.len⟩
 ·exact keep b o (neL b o e) hb (neC b o e hx) (I.base.keep b o e n hb hx) (I.base.free b o e n hx)
 ·obtain⟨sl,e1⟩:=I.base.slot b o e n hb hx
  obtain⟨sl',e2⟩:=slot b _ (neL b o e) hb (neC b o e hx) e1 (I.base.free b o e n hx)
  exact⟨sl',e2⟩
 ·obtain⟨o',e1⟩:=I.base.there b o e hx
  exact free b o' (neC b o e hx) e1 (I.base.free b o e n hx)
 ·obtain⟨o',e1⟩:=I.base.there b o e hx
  exact there b o' (neC b o e hx) e1
 ·obtain⟨m1,e1⟩:=I.base.tbls b ps e
  obtain⟨m2,e2⟩:=tbls b _ e1
  exact⟨m1++m2,by rw[e2,Array.append_assoc]⟩
 ·obtain⟨m,hn,hl⟩:=I.loc
  refine⟨m,ns m hn,λi x v e1 e2 e3=>?_⟩
  obtain⟨u,r,l⟩:=hl i x v e1 e2 e3
  refine⟨u,r,?_⟩
  rcases l with l|⟨k,c,e,z⟩
  ·exact .inl l
  ·exact .inr ⟨k,c,e,cellK x c e _ z⟩
 ·obtain⟨v,z⟩:=I.cell x c e
  exact⟨v,cellK x c e v z⟩
 ·obtain⟨m,⟨o,_,_,ho,_⟩,_⟩:=I.loc
  exact free _ o (λz=>(vP _ z).2.1 rfl) ho I.free
 ·obtain⟨v,o,ho,hd⟩:=I.cell x c e
  exact free c o (λz=>(vP c z).2.2.1 x c e rfl) ho (I.freeC x c e)
 ·obtain⟨e,n,ne,nf,d⟩:=I.pin p hp
  have nch:p.1∉ch:=λz=>(vP p.1 z).2.2.2 p hp rfl
  exact⟨keep p.1 p.2 ne nf nch e n,free p.1 p.2 nch e n,ne,nf,d⟩
theorem Inv.un {t':Nat}(I:Inv X j8 σ H s) (u:Un X.fs [] H H' s.heap h') (hok:HOk X.prog X.w H' h'):Inv X j8 σ H' { s with heap:=h',toks:=t' }:=by
 obtain⟨m,⟨o,es,ep,ho,r⟩,_⟩:=id I.loc
 obtain⟨sl,hL⟩:=u.any ho I.free (by simp)
 exact I.step (g':=s.gens) (d':=s.drawn) (ch:=[]) (λ_ z=>nomatch z) (λb o _ hb _ e n=>u.keep b o e n hb (by simp)) (λb o _ hb _ e n=>u.slot b o e n hb (by simp)) (λb o _ e n=>u.free b o e n (by simp)) (λb o _ e=>u.there b o e (by simp)) u.tups u.frzs u.tbls (λm' hm=>by
  obtain⟨o',es',ep',ho',r'⟩:=hm
  rw[ho] at ho';cases ho'
  exact⟨_,es',ep',hL,r'⟩) hok I.bare
theorem Inv.call {g':Array GenState}{t':Nat}{d':Drawn}{ch:List Addr}(I:Inv X j8 σ H s) (u:Un (frs X.stack) ch H H' s.heap h') (hok:HOk X.prog X.w H' h') (hg:AllBare g')
  (vP:∀b∈ch,(b∈X.ex\/X.s₀.heap.objs.size<=b)/\b≠X.env.locals/\(∀x c,X.env.cells.lookup x=some c->c≠b)/\∀p∈X.pn++j8,p.1≠b) :
  Inv X j8 σ H' { s with heap:=h',gens:=g',drawn:=d',toks:=t' }:=by
 obtain⟨m,⟨o,es,ep,ho,r⟩,_⟩:=id I.loc
 obtain⟨sl,hL⟩:=u.any ho I.free λz=>(vP _ z).2.1 rfl
 exact I.step (ch:=ch) vP (λb o hL hb hc e n=>u.keep b o e n (λz=>(Zs.mp (I.stkSub b z)).elim hL hb) hc) (λb o _ _ hc e n=>u.any e n hc) (λb o hc e n=>u.free b o e n hc) (λb o hc e=>u.there b o e hc) u.tups u.frzs u.tbls (λm' hm=>by
  obtain⟨o',es',ep',ho',r'⟩:=hm
  rw[ho] at ho';cases ho'
  exact⟨_,es',ep',hL,r'⟩) hok hg
theorem Inv.turned {t':Nat}{it:Addr}(I:Inv X j8 σ H s) (k:∀b o,b≠it->s.heap.get? b=some o->h'.get? b=some o) (hn:H it=none) (hL:it≠X.env.locals)
  (h1:it∈X.ex\/X.s₀.heap.objs.size<=it) (h2:∀x c,X.env.cells.lookup x=some c->c≠it) (h3:∀p∈X.pn++j8,p.1≠it):Inv X j8 σ H { s with heap:=h',toks:=t' }:=by
 have nit:∀b u,H b=some u->b≠it:=λb u e z=>by rw[z,hn] at e;cases e
 refine I.step (g':=s.gens) (d':=s.drawn) (ch:=[it]) (λb hb=>?_) (λb o _ _ hc e _=>k b o (λz=>hc (by simp[z])) e) (λb o _ _ hc e _=>⟨o.slots,k b o (λz=>hc (by simp[z])) e⟩) (λ_ _ _ _ n=>n)
  (λb o hc e=>⟨o,k b o (λz=>hc (by simp[z])) e⟩) (λ_ _ e=>e) (λ_ _ _ e=>e) (λb ps e=>⟨#[],by rw[e];simp⟩) (λm hm=>?_) (λb u e=>?_) I.bare
 ·have e:b=it:=by simpa using hb
  subst e
  exact⟨h1,hL,h2,h3⟩
 ·obtain⟨o,es,ep,ho,r⟩:=hm
  exact⟨o,es,ep,k _ o (Xr hL) ho,r⟩
 ·refine (I.hok b u e).stay (λc v hc q=>k c v ?_ q) (λ_ q=>q) λ_ _ q=>q
  rcases hc with z|z
  ·rw[z];exact nit b u e
  ·exact nit c _ z
theorem Inv.tok (I:Inv X j8 σ H s) (t:Nat):Inv X j8 σ H { s with toks:=t }:=I.un (h':=s.heap) (t':=t) Un.refl I.hok
theorem Inv.kept {t':Nat}(I:Inv X j8 σ H s) (k:∀b u,s.heap.get? b=some u->h'.get? b=some u):Inv X j8 σ H { s with heap:=h',toks:=t' }:=I.un (Un.kept k) (I.hok.kept k)
theorem Inv.laid {a:Addr}{o:HO}{t':Nat}(I:Inv X j8 σ H s) (k:∀b u,s.heap.get? b=some u->h'.get? b=some u) (hp:s.heap.objs.size<=a) (new:ObjOk X.prog X.w (upd H a o) h' a o) :
  Inv X j8 σ (upd H a o) { s with heap:=h',toks:=t' }:=I.un (Un.laid k hp (I.hok.fresh hp)) (I.hok.laid k hp new)
theorem Inv.write {x e:Addr}{o:HO}{t':Nat}(I:Inv X j8 σ H s) (mu:Mut (H x)) (he:e=x\/H e=some (.own x)) (k:∀b u,b≠e->s.heap.get? b=some u->h'.get? b=some u) (heo:∃u,h'.get? e=some u)
  (new:ObjOk X.prog X.w (upd H x o) h' x o):Inv X j8 σ (upd H x o) { s with heap:=h',toks:=t' }:=I.un (Un.write mu he k heo) (I.hok.write mu he k heo new)
theorem Inv.pins_of {pins':List (Addr×Obj)}(I:Inv X j8 σ H s) (h:∀p∈pins',s.heap.get? p.1=some p.2/\H p.1=none/\p.1≠X.env.locals/\p.1∉X.fs/\∀v,p.2.data≠.cell v):Inv X pins' σ H s:=
 ⟨I.ok,I.os,I.bare,I.base,I.loc,I.cell,I.free,I.freeC,λp hp=>(ZW.mp hp).elim (λz=>I.pin p (Wf _ z)) (h p),I.hok,I.len⟩
theorem qM6 {N:List Str}(hN:N.Nodup){i j:Nat}{x:Str}(a:N[i]?=some x) (b:N[j]?=some x):i=j:=by
 obtain⟨h1,e1⟩:=gS_ a
 obtain⟨h2,e2⟩:=gS_ b
 exact (List.getElem_inj hN).mp (e1.trans e2.symm)
theorem qW3 {M:Model}{A:Around}{E:Value->Shared->Prop}{i:Nat}{x:Str}{v:V}{u:Value}{Q:Unit->Shared->Prop}(I:Inv X j8 σ H s) (hN:X.N.Nodup) (hi:X.N[i]?=some x) (hx:Loc X.env.scope x) (r:RelV v u)
  (h:∀s',Inv X j8 (σ.set i (some v)) H s'->(∃a,Heap.SameBut a s.heap s'.heap/\(a=X.env.locals\/X.env.cells.lookup x=some a))->Q () s') (hf:X.fn x=true\/X.env.scope.names.lookup x=some .local:=by first|exact .inl rfl|exact .inr rfl|assumption):wpAny M A (storeName X.env x u) Q E s:=by
 obtain⟨m,hn,hl⟩:=id I.loc
 have hcls:(X.env.scope.kind==.class||(X.env.scope.kind==.module&&X.env.locals != X.env.globals))=false:=by rw[I.ok.kind];rfl
 have hiσ:i<σ.length:=by rw[I.len];exact (gS_ hi).1
 have cne:=I.cne
 have tracked:∀{a:Addr}{h':Heap},(∃o,s.heap.get? a=some o/\H a=none)->Heap.SameBut a s.heap h'->HOk X.prog X.w H h':=λ{a h'} ha hs b ob e=>by
  obtain⟨_,_,hfree⟩:=ha
  refine (I.hok b ob e).stay (λc w' hc q=>(hs.2 c ?_).trans q) (λ_ q=>q) λ_ _ q=>q
  rintro rfl
  rcases hc with rfl|hc
  ·rw[hfree] at e;cases e
  ·rw[hfree] at hc;cases hc
 rcases hx with hk|hk
 ·refine wpAny_storeName_local hk hn (λh' hn' hs=>?_) hcls
  obtain⟨oL,_,_,hoL,_⟩:=id hn
  refine h _ ⟨I.ok,I.os,I.bare,⟨λb o e n hb hx=>?_,λb o e n hb hx=>?_,I.base.free,λb o e hx=>?_,I.base.tups,I.base.frzs,I.base.tbls⟩,⟨_,hn',λj y v' e1 e2 e3=>?_⟩,λy c e=>?_,I.free,I.freeC,λp hp=>?_,tracked ⟨oL,hoL,I.free⟩ hs,by simpa using I.len⟩ ⟨_,hs,.inl rfl⟩
  ·exact (hs.2 b (Zl (ZN (Zi e) I.ok.above))).trans (I.base.keep b o e n hb hx)
  ·obtain⟨sl,e1⟩:=I.base.slot b o e n hb hx
   exact⟨sl,(hs.2 b (Zl (ZN (Zi e) I.ok.above))).trans e1⟩
  ·obtain⟨o',e1⟩:=I.base.there b o e hx
   exact⟨o',(hs.2 b (Zl (ZN (Zi e) I.ok.above))).trans e1⟩
  ·by_cases hj:j=i
   ·subst hj
    rw[hi] at e1;cases e1
    rw[List.getElem?_set_self hiσ] at e2
    cases e2
    exact⟨u,r,.inl ⟨hk,by simp⟩⟩
   ·rw[List.getElem?_set_ne (Xr hj)] at e2
    obtain⟨u',r',q⟩:=hl j y v' e1 e2 e3
    refine⟨u',r',?_⟩
    rcases q with ⟨k,e⟩|⟨k,c,e,z⟩
    ·refine .inl ⟨k,?_⟩
     have:y≠x:=λe=>hj (qM6 hN e1 (e▸hi))
     simp[this,e]
    ·exact .inr ⟨k,c,e,z.sameBut hs (cne y c e)⟩
  ·obtain⟨w',z⟩:=I.cell y c e
   exact⟨w',z.sameBut hs (cne y c e)⟩
  ·obtain⟨e,n,ne,nf,d⟩:=I.pin p hp
   exact⟨(hs.2 p.1 ne).trans e,n,ne,nf,d⟩
 ·have hfn:X.fn x=true:=by
   rcases hf with z|z
   ·exact z
   ·rw[z] at hk;cases hk
  obtain⟨c,hc⟩:=I.ok.has x (.inl hk)
  obtain⟨w',z⟩:=I.cell x c hc
  refine wpAny_storeName_cell I.ok.kind hk hc z (λh' hc' hs=>?_)
  obtain⟨oc,hoc,hocd⟩:=id z
  refine h { s with heap:=h' } ⟨I.ok,I.os,I.bare,⟨λb o e n hb hx=>?_,λb o e n hb hx=>?_,I.base.free,λb o e hx=>?_,I.base.tups,I.base.frzs,I.base.tbls⟩,⟨m,hn.sameBut hs (Xr (cne x c hc)),λj y v' e1 e2 e3=>?_⟩,λy c' e=>?_,I.free,I.freeC,λp hp=>?_,tracked ⟨oc,hoc,I.freeC x c hc⟩ hs,by simpa using I.len⟩ ⟨c,hs,.inr hc⟩
  ·exact (hs.2 b (Zl (ZN (Zi e) (I.ok.cab x c hfn hc)))).trans (I.base.keep b o e n hb hx)
  ·obtain⟨sl,e1⟩:=I.base.slot b o e n hb hx
   exact⟨sl,(hs.2 b (Zl (ZN (Zi e) (I.ok.cab x c hfn hc)))).trans e1⟩
  ·obtain⟨o',e1⟩:=I.base.there b o e hx
   exact⟨o',(hs.2 b (Zl (ZN (Zi e) (I.ok.cab x c hfn hc)))).trans e1⟩
  ·by_cases hj:j=i
   ·subst hj
    rw[hi] at e1;cases e1
    rw[List.getElem?_set_self hiσ] at e2
    cases e2
    exact⟨u,r,.inr ⟨.inl hk,c,hc,hc'⟩⟩
   ·rw[List.getElem?_set_ne (Xr hj)] at e2
    obtain⟨u',r',q⟩:=hl j y v' e1 e2 e3
    refine⟨u',r',?_⟩
    rcases q with q|⟨k,c',e,z'⟩
    ·exact .inl q
    ·refine .inr ⟨k,c',e,z'.sameBut hs ?_⟩
     rintro rfl
     exact hj (qM6 hN e1 (I.ok.inj _ _ _ e hc▸hi))
  ·by_cases hcc:c'=c
   ·subst hcc;exact⟨_,hc'⟩
   ·obtain⟨w2,z2⟩:=I.cell y c' e
    exact⟨w2,z2.sameBut hs hcc⟩
  ·obtain⟨e,n,ne,nf,d⟩:=I.pin p hp
   refine⟨(hs.2 p.1 ?_).trans e,n,ne,nf,d⟩
   intro q
   rw[q,hoc] at e
   have q':oc=p.2:=ZK e
   exact d w' (by rw[<- q'];exact hocd)
theorem qq3 {M:Model}{A:Around}{E:Value->Shared->Prop}{i:Nat}{x:Str}{v:V}{u:Value}{Q:Unit->Shared->Prop}(I:Inv X j8 σ H s) (hN:X.N.Nodup) (hi:X.N[i]?=some x) (hx:Loc X.env.scope x) (r:RelV v u)
  (h:∀s',Inv X j8 (σ.set i (some v)) H s'->Q () s') (hf:X.fn x=true\/X.env.scope.names.lookup x=some .local:=by first|exact .inl rfl|exact .inr rfl|assumption):wpAny M A (storeName X.env x u) Q E s:=
 qW3 I hN hi hx r (λs' I' _=>h s' I') hf
theorem Inv.call' {s':Shared}{ch:List Addr}(I:Inv X j8 σ H s) (ho:s'.os=s.os) (u:Un (frs X.stack) ch H H' s.heap s'.heap) (hok:HOk X.prog X.w H' s'.heap) (hg:AllBare s'.gens)
  (vP:∀b∈ch,(b∈X.ex\/X.s₀.heap.objs.size<=b)/\b≠X.env.locals/\(∀x c,X.env.cells.lookup x=some c->c≠b)/\∀p∈X.pn++j8,p.1≠b):Inv X j8 σ H' s':=by
 obtain⟨h',g',d',t',o'⟩:=s'
 have e:o'=s.os:=ho
 subst e
 exact I.call (g':=g') (t':=t') (d':=d') u hok hg vP
end
abbrev XK:=Value->Option Addr->Hp->Prop
abbrev St:=List (Option V)
abbrev VK:=V->Hp->Prop
abbrev TE:=St->Hp->VK->Prop
abbrev TT:=St->Hp->(Bool->Hp->Prop)->Prop
abbrev TA:=St->Hp->(List V->Hp->Prop)->Prop
structure Ends where
 nx:St->Hp->Prop
 rt:VK
 bk:St->Hp->Prop:=λ_ _=>False
 ct:St->Hp->Prop:=λ_ _=>False
abbrev TS:=Ends->St->Hp->Prop
def EP (X:Cx) (j8:List (Addr×Obj)) (σ:St) (Q:VK) (u:Value) (s':Shared):Prop:=∃v H',Inv X j8 σ H' s'/\RelV v u/\Q v H'
def TP (X:Cx) (j8:List (Addr×Obj)) (σ:St) (Q:Bool->Hp->Prop) (b:Bool) (s':Shared):Prop:=∃H',Inv X j8 σ H' s'/\Q b H'
def AP (X:Cx) (j8:List (Addr×Obj)) (σ:St) (Q:List V->Hp->Prop) (us:List Value) (s':Shared):Prop:=∃vs H',Inv X j8 σ H' s'/\Vals vs us/\Q vs H'
def SP (X:Cx) (j8:List (Addr×Obj)) (D:Ends) (f:Flow) (s':Shared):Prop:=
 match f with
 |.next=>∃σ' H',Inv X j8 σ' H' s'/\D.nx σ' H'
 |.brk=>∃σ' H',Inv X j8 σ' H' s'/\D.bk σ' H'
 |.cont=>∃σ' H',Inv X j8 σ' H' s'/\D.ct σ' H'
 |.ret u=>∃v σ' H',Inv X j8 σ' H' s'/\RelV v u/\D.rt v H'
def PE (X:Cx) (e:Expr) (t:TE):Prop:=
 ∀(j8:List (Addr×Obj)) (s:Shared) (σ:St) (H:Hp) (Q:VK),Inv X j8 σ H s->t σ H Q->wpAny (model X.prog X.w) X.A (eval e X.env) (EP X j8 σ Q) X.xe s
def PT (X:Cx) (e:Expr) (t:TT):Prop:=
 ∀(j8:List (Addr×Obj)) (s:Shared) (σ:St) (H:Hp) (Q:Bool->Hp->Prop),Inv X j8 σ H s->t σ H Q->wpAny (model X.prog X.w) X.A (isTrue e X.env (eval e X.env)) (TP X j8 σ Q) X.xe s
def PW (X:Cx) (e:Expr) (t:TT):Prop:=
 ∀(whole:Sem Value) (j8:List (Addr×Obj)) (s:Shared) (σ:St) (H:Hp) (Q:Bool->Hp->Prop),Inv X j8 σ H s->t σ H Q->wpAny (model X.prog X.w) X.A (isTrue e X.env whole) (TP X j8 σ Q) X.xe s
theorem PW.pt {X:Cx}{e:Expr}{t:TT}(h:PW X e t):PT X e t:=h _
def PA (X:Cx) (es:List Expr) (t:TA):Prop:=
 ∀(pos:Pos) (j8:List (Addr×Obj)) (s:Shared) (σ:St) (H:Hp) (Q:List V->Hp->Prop),Inv X j8 σ H s->t σ H Q->wpAny (model X.prog X.w) X.A (spliced (backTo pos (starEach es X.env))) (AP X j8 σ Q) X.xe s
def PS (X:Cx) (st:Stmt) (t:TS):Prop:=
 ∀(j8:List (Addr×Obj)) (s:Shared) (σ:St) (H:Hp) (D:Ends),Inv X j8 σ H s->t D σ H->wpAny (model X.prog X.w) X.A (exec st X.env) (SP X j8 D) X.xe s
def PSs (X:Cx) (st:List Stmt) (t:TS):Prop:=
 ∀(j8:List (Addr×Obj)) (s:Shared) (σ:St) (H:Hp) (D:Ends),Inv X j8 σ H s->t D σ H->wpAny (model X.prog X.w) X.A (execs st X.env) (SP X j8 D) X.xe s
theorem thn {α:Type}{t:Sem α}{Q Q':α->Shared->Prop}{M:Model}{A:Around}{E:Value->Shared->Prop}{s:Shared}(h:wpAny M A t Q E s) (hQ:∀a s,Q a s->Q' a s):wpAny M A t Q' E s:=Yw h hQ λ_ _ x=>x
section
variable {X:Cx}
def tVar (i:Nat):TE:=λσ H Q=>∃v,σ[i]?=some (some v)/\Q v H
def tC (v:V):TE:=λ_ H Q=>Q v H
theorem xs3 {i:Nat}{x:Str}{pos:Pos}(hN:X.N[i]?=some x) (hv:Vis X.env.scope x) (hd:(x==("__debug__" : Str))=false:=by decide) (kQ:(x==("__classdict__" : Str))=false:=by decide):PE X (.Name x pos) (tVar i):=by
 intro j8 s σ H Q I h
 obtain⟨v,e,h⟩:=h
 obtain⟨m,hn,hl⟩:=I.loc
 obtain⟨u,r,l⟩:=hl i x v hN e hv
 have fin:EP X j8 σ Q u s:=⟨v,H,I,r,h⟩
 rcases l with ⟨hk,hm⟩|⟨hk,c,hc,jA⟩
 ·exact wpAny_Name (wpAny_loadName_local I.ok.kind hk hn hm fin) hd
 ·rcases hk with hk|hk
  ·exact wpAny_Name (wpAny_loadName_cell I.ok.kind hk hc jA fin) hd
  ·exact wpAny_Name (wpAny_loadName_free I.ok.kind hk hc jA fin kQ) hd
theorem qa4 {i j pos}:PE X (.Constant (.int i) j pos) (tC (.int i)):=λ_ _ _ H _ I h=>wpAny_Constant_int ⟨.int i,H,I.tok _,⟨_,rfl⟩,h⟩
theorem qp9 {b j pos}:PE X (.Constant (.bool b) j pos) (tC (.bl b)):=λ_ _ _ H _ I h=>Constant_bool ⟨.bl b,H,I,rfl,h⟩
theorem qM7 {x j pos}:PE X (.Constant (.str x) j pos) (tC (.str x)):=λ_ _ _ H _ I h=>Calls.Constant_str ⟨.str x,H,I.tok _,⟨_,rfl⟩,h⟩
def Gl (X:Cx) (x:Str):Prop:=X.env.kindOf x=some .globalImplicit
theorem qW4 {E:Value->Shared->Prop}{j8:List (Addr×Obj)}{s:Shared}{σ:St}{H:Hp}{x:Str}{u:Value}{pos:Pos}{Q:Value->Shared->Prop}(I:Inv X j8 σ H s) (hg:Gl X x) (hm:X.mg x=some u) (h:Q u s)
  (hd:(x==("__debug__" : Str))=false:=by decide):wpAny (model X.prog X.w) X.A (eval (.Name x pos) X.env) Q E s:=
 Calls.Name_function_global I.ok.kind hg (Calls.loadGlobal_global (by rw[I.ok.glob];exact I.mod.glob.keeps I.bk) hm h) hd
theorem qs0 {E:Value->Shared->Prop}{j8:List (Addr×Obj)}{s:Shared}{σ:St}{H:Hp}{x:Str}{u:Value}{pos:Pos}{Q:Value->Shared->Prop}(I:Inv X j8 σ H s) (hg:Gl X x) (hm:X.mg x=none) (hv:bootBuiltins x=some u) (h:Q u s)
  (hn:x ≠ "__name__":=by decide) (hd:(x==("__debug__" : Str))=false:=by decide):wpAny (model X.prog X.w) X.A (eval (.Name x pos) X.env) Q E s:=by
 obtain⟨mb,h1,h2⟩:=I.mod.blt
 exact Calls.Name_function_global I.ok.kind hg (Calls.loadGlobal_builtin (by rw[I.ok.glob];exact I.mod.glob.keeps I.bk) hm (by rw[I.ok.blt];exact h1.keeps I.bk) ((h2 x hn).trans hv) h) hd
theorem qd4 {x:Str}{v:V}{u:Value}{pos:Pos}(hg:Gl X x) (hm:X.mg x=some u) (r:RelV v u) (hd:(x==("__debug__" : Str))=false:=by decide):PE X (.Name x pos) (tC v):=
 λ_ _ _ H _ I h=>qW4 I hg hm ⟨v,H,I,r,h⟩ hd
theorem qn5 {x:Str}{v:V}{u:Value}{pos:Pos}(hg:Gl X x) (hm:X.mg x=none) (hv:bootBuiltins x=some u) (r:RelV v u) (hn:x ≠ "__name__":=by decide) (hd:(x==("__debug__" : Str))=false:=by decide):PE X (.Name x pos) (tC v):=
 λ_ _ _ H _ I h=>qs0 I hg hm hv ⟨v,H,I,r,h⟩ hn hd
variable {a b:Expr}{ta tb:TE}{pos:Pos}
def PC (X:Cx) (op:CmpOp) (a b:Expr) (t:TE):Prop:=
 ∀(j8:List (Addr×Obj)) (s:Shared) (σ:St) (H:Hp) (Q:VK),Inv X j8 σ H s->t σ H Q ->
  wpAny (model X.prog X.w) X.A (eval a X.env) (λv s₁=>wpAny (model X.prog X.w) X.A (eval b X.env) (λu s₂=>wpAny (model X.prog X.w) X.A (compareOp op v u) (EP X j8 σ Q) X.xe s₂) X.xe s₁) X.xe s
def tB (t:TE):TT:=λσ H Q=>t σ H λx H1=>∃c,x=.bl c/\Q c H1
theorem qW5 {op:CmpOp}{t:TE}(h:PC X op a b t) (h1:behindInMarks op b=false:=by first|exact nobehind _ (by decide) (by decide)|rfl):PT X (.Compare a [op] [b] pos) (tB t):=by
 intro j8 s σ H Q I hw
 refine wpAny_isTrue_Compare1 (thn (h j8 s σ H _ I hw) λv s1 h1=>thn h1 λu s2 h2=>thn h2 λc s3 ⟨x,H1,I1,r1,q1⟩=>?_) h1
 obtain⟨d,rfl,q⟩:=q1
 cases r1
 exact Z1 ⟨H1,I1,q⟩
theorem qf9 {e:Expr}{t:TE}(h:PE X e t) (he:∀whole,isTrue e X.env whole=(do let v <- whole;standAt e.pos;holding [v] (truthy v)):=by intro _;rfl):PT X e (tB t):=by
 intro j8 s σ H Q I hw
 refine isTrue_plain (thn (h j8 s σ H _ I hw) λv s1 ⟨x,H1,I1,r1,q1⟩=>?_) (he _)
 obtain⟨d,rfl,q⟩:=q1
 cases r1
 exact Z1 ⟨H1,I1,q⟩
variable {tA tB':TT}{rest:List Expr}
def tAnd (t u:TT):TT:=λσ H Q=>t σ H λc H1=>if c=true then u σ H1 Q else Q false H1
def tOr (t u:TT):TT:=λσ H Q=>t σ H λc H1=>if c=true then Q true H1 else u σ H1 Q
def tNot (t:TT):TT:=λσ H Q=>t σ H λc H1=>Q (!c) H1
theorem qW6 (ha:PT X a tA):PW X (.BoolOp .And [a] pos) tA:=by
 intro wh j8 s σ H Q I h
 refine isTrue_and (thn (ha j8 s σ H Q I h) λc s1 e=>?_)
 cases c with
 |true=>exact isTrue_and_nil e
 |false=>exact e
theorem qi1 (ha:PT X a tA):PW X (.BoolOp .Or [a] pos) tA:=by
 intro wh j8 s σ H Q I h
 refine isTrue_or (thn (ha j8 s σ H Q I h) λc s1 e=>?_)
 cases c with
 |false=>exact isTrue_or_nil e
 |true=>exact e
theorem xh3 (ha:PT X a tA) (hb:PW X (.BoolOp .And (b::rest) pos) tB'):PW X (.BoolOp .And (a::b::rest) pos) (tAnd tA tB'):=by
 intro wh j8 s σ H Q I h
 refine isTrue_and (thn (ha j8 s σ H _ I h) λc s1 ⟨H1,I1,q1⟩=>?_)
 cases c with
 |true=>exact hb wh j8 s1 σ H1 Q I1 q1
 |false=>exact⟨H1,I1,q1⟩
theorem qn6 (ha:PT X a tA) (hb:PW X (.BoolOp .Or (b::rest) pos) tB'):PW X (.BoolOp .Or (a::b::rest) pos) (tOr tA tB'):=by
 intro wh j8 s σ H Q I h
 refine isTrue_or (thn (ha j8 s σ H _ I h) λc s1 ⟨H1,I1,q1⟩=>?_)
 cases c with
 |true=>exact⟨H1,I1,q1⟩
 |false=>exact hb wh j8 s1 σ H1 Q I1 q1
theorem qi9 (ha:PT X a tA):PT X (.UnaryOp .Not a pos) (tNot tA):=by
 intro j8 s σ H Q I h
 exact isTrue_not (ha j8 s σ H (λc H1=>Q (!c) H1) I h)
def xy5 (ta tb:TE):TE:=λσ H Q=>ta σ H λx H1=>∃c,x=.bl c/\if c=true then tb σ H1 Q else Q (.bl false) H1
def xy6 (ta:TE):TE:=λσ H Q=>ta σ H λx H1=>∃c,x=.bl c/\Q (.bl (!c)) H1
theorem ql7 {op}{t:TE}(h:PE X a t):PE X (.BoolOp op [a] pos) t:=λj8 s σ H Q I hw=>BoolOp_one (h j8 s σ H Q I hw)
theorem qi2 (ha:PE X a ta) (hb:PE X (.BoolOp .And (b::rest) pos) tb):PE X (.BoolOp .And (a::b::rest) pos) (xy5 ta tb):=by
 intro j8 s σ H Q I h
 refine BoolOp_and (thn (ha j8 s σ H _ I h) λv s1 ⟨x,H1,I1,r1,q1⟩=>?_)
 obtain⟨c,rfl,q1⟩:=q1
 cases r1
 refine Z1 ?_
 cases c with
 |true=>exact hb j8 s1 σ H1 Q I1 q1
 |false=>exact⟨.bl false,H1,I1,rfl,q1⟩
theorem xs4 (ha:PE X a ta):PE X (.UnaryOp .Not a pos) (xy6 ta):=by
 intro j8 s σ H Q I h
 refine UnaryOp_ (thn (ha j8 s σ H _ I h) λv s1 ⟨x,H1,I1,r1,q1⟩=>?_)
 obtain⟨c,rfl,q1⟩:=q1
 cases r1
 exact not_of (Z1 ⟨.bl (!c),H1,I1,rfl,q1⟩)
end
def SqL (K:PySem.W.Frag) (H:Hp) (a:Addr) (xs:List V):Prop:=
 Rd H a (.lst xs) \/
  ∃(o:Obj) (its:Array Value) (n:Nat),K.lookup a=some o/\o.cls=.type "list" /\ o.dict=none/\o.data=.seq its n/\its.size<=sizeLine/\Vals xs its.toList
def SqT (K:PySem.W.Frag) (H:Hp) (a:Addr) (xs:List V):Prop:=
 Rd H a (.tup xs) \/
  ∃(o:Obj) (its:Array Value) (n:Nat),K.lookup a=some o/\o.cls=.type "tuple" /\ o.data=.seq its n/\its.size<=sizeLine/\Vals xs its.toList
def absV:Value->Option V
 |.none=>some .non
 |.bool b=>some (.bl b)
 |.int i _=>some (.int i)
 |.str x _=>some (.str x)
 |.bytes b _=>some (.byt b)
 |.float b _=>some (.flt b)
 |.ref a=>some (.ref a)
 |.type n=>some (.ty n)
 |_=>none
theorem RelV.abs {x:V}{u:Value}(r:RelV x u):absV u=some x:=by
 cases x with
 |non=>cases r;rfl
 |bl _=>cases r;rfl
 |int _=>obtain⟨t,rfl⟩:=r;rfl
 |str _=>obtain⟨t,rfl⟩:=r;rfl
 |byt _=>obtain⟨t,rfl⟩:=r;rfl
 |flt _=>obtain⟨t,rfl⟩:=r;rfl
 |ref _=>cases r;rfl
 |ty _=>cases r;rfl
theorem RelV.inj {x y:V}{u:Value}(r:RelV x u) (q:RelV y u):x=y:=ZK (r.abs.symm.trans q.abs)
theorem Vals.inj:∀{xs ys:List V}{us:List Value},Vals xs us->Vals ys us->xs=ys
 |_,_,_,.nil,.nil=>rfl
 |_,_,_,.cons r t,.cons r' t'=>by rw[r.inj r',Vals.inj t t']
section
variable {X:Cx}{j8:List (Addr×Obj)}{σ:St}{H:Hp}{s:Shared}{a:Addr}{xs ys:List V}
theorem SqL.of {K:PySem.W.Frag}(h:H a=some (.lst xs)):SqL K H a xs:=.inl (.inl h)
theorem SqT.of {K:PySem.W.Frag}(h:H a=some (.tup xs)):SqT K H a xs:=.inl (.inl h)
theorem Inv.list (I:Inv X j8 σ H s) (h:SqL X.K H a xs):∃its:List Value,Vals xs its/\PlainL s.heap a its.toArray/\xs.length<=sizeLine:=by
 rcases h with h|⟨o,its,n,hk,hc,hd,hs,hz,r⟩
 ·obtain⟨z,its,n,r,e⟩:=h.ok I.hok
  exact⟨its,r,⟨_,n,e,rfl,rfl,rfl⟩,z⟩
 ·refine⟨its.toList,r,⟨o,n,I.kIn a o hk,hc,hd,by simpa using hs⟩,?_⟩
  have e:=r.length
  simp only[ZL] at e
  lia
theorem Inv.tuple (I:Inv X j8 σ H s) (h:SqT X.K H a xs):∃its:List Value,Vals xs its/\IsTup s.heap a its.toArray/\xs.length<=sizeLine:=by
 rcases h with h|⟨o,its,n,hk,hc,hs,hz,r⟩
 ·obtain⟨z,its,r,p⟩:=h.ok I.hok
  exact⟨its,r,p,z⟩
 ·refine⟨its.toList,r,⟨o,I.kIn a o hk,hc,n,by simpa using hs⟩,?_⟩
  have e:=r.length
  simp only[ZL] at e
  lia
theorem Inv.list_inj (I:Inv X j8 σ H s) (h:SqL X.K H a xs) (h':SqL X.K H a ys):xs=ys:=by
 obtain⟨its,r,⟨o,n,e,_,_,d⟩,_⟩:=I.list h
 obtain⟨its',r',⟨o',n',e',_,_,d'⟩,_⟩:=I.list h'
 rw[e] at e';cases e'
 rw[d] at d'
 injection d' with d1 _
 have:its=its':=by simpa using Yd Array.toList d1
 subst this
 exact r.inj r'
theorem Inv.tuple_inj (I:Inv X j8 σ H s) (h:SqT X.K H a xs) (h':SqT X.K H a ys):xs=ys:=by
 obtain⟨its,r,⟨o,e,_,n,d⟩,_⟩:=I.tuple h
 obtain⟨its',r',⟨o',e',_,n',d'⟩,_⟩:=I.tuple h'
 rw[e] at e';cases e'
 rw[d] at d'
 injection d' with d1 _
 have:its=its':=by simpa using Yd Array.toList d1
 subst this
 exact r.inj r'
end
abbrev Cx.wish (X:Cx) (E:Value->Shared->Prop):Cx:={ X with xe:=E }
abbrev Cx.nox (X:Cx):Cx:=X.wish λ_ _=>False
theorem Cx.Ok.wish {X:Cx}(ok:X.Ok) (E:Value->Shared->Prop):(X.wish E).Ok:=
 ⟨ok.mod,ok.kind,ok.glob,ok.blt,ok.above,ok.inj,ok.has,ok.cab,ok.hd,ok.frames,ok.stk,ok.exf,ok.bs,ok.bsz,ok.noex,ok.exfs,ok.funs,ok.frf⟩
theorem Cx.Ok.unwish {X:Cx}{E:Value->Shared->Prop}(ok:(X.wish E).Ok):X.Ok:=
 ⟨ok.mod,ok.kind,ok.glob,ok.blt,ok.above,ok.inj,ok.has,ok.cab,ok.hd,ok.frames,ok.stk,ok.exf,ok.bs,ok.bsz,ok.noex,ok.exfs,ok.funs,ok.frf⟩
section
variable {X:Cx}{j8:List (Addr×Obj)}{σ:St}{H:Hp}{s:Shared}{E:Value->Shared->Prop}
theorem Inv.wish (I:Inv X j8 σ H s) (E:Value->Shared->Prop):Inv (X.wish E) j8 σ H s:=⟨I.ok.wish E,I.os,I.bare,I.base,I.loc,I.cell,I.free,I.freeC,I.pin,I.hok,I.len⟩
theorem Inv.unwish (I:Inv (X.wish E) j8 σ H s):Inv X j8 σ H s:=⟨I.ok.unwish,I.os,I.bare,I.base,I.loc,I.cell,I.free,I.freeC,I.pin,I.hok,I.len⟩
theorem SP.unwish {D:Ends}{f:Flow}{s':Shared}(h:SP (X.wish E) j8 D f s'):SP X j8 D f s':=by
 cases f with
 |next=>obtain⟨σ',H',I,q⟩:=h;exact⟨σ',H',I.unwish,q⟩
 |brk=>obtain⟨σ',H',I,q⟩:=h;exact⟨σ',H',I.unwish,q⟩
 |cont=>obtain⟨σ',H',I,q⟩:=h;exact⟨σ',H',I.unwish,q⟩
 |ret u=>obtain⟨v,σ',H',I,r,q⟩:=h;exact⟨v,σ',H',I.unwish,r,q⟩
theorem PSs.nox {st:List Stmt}{t:TS}(h:PSs X.nox st t):PSs X st t:=λj8 s σ H D I hw=>
 Yw (h j8 s σ H D (I.wish _) hw) (λ_ _ q=>q.unwish) λ_ _ z=>False.elim z
end
section
variable {X:Cx}{st:Stmt}{rest:List Stmt}{t u:TS}{e:Expr}{te:TE}{pos:Pos}
def xy7:TS:=λD σ H=>D.nx σ H
def tSeq (t u:TS):TS:=λD σ H=>t { D with nx:=u D } σ H
theorem qb3:PSs X [] xy7:=λ_ _ σ H _ I h=>wpAny_execs_nil ⟨σ,H,I,h⟩
theorem qb0 (h1:PS X st t) (h2:PSs X rest u):PSs X (st::rest) (tSeq t u):=by
 intro j8 s σ H D I h
 refine wpAny_execs_cons (thn (h1 j8 s σ H { D with nx:=u D } I h) λf s1 q=>?_)
 cases f with
 |next=>
  obtain⟨σ',H',I',q⟩:=q
  exact h2 j8 s1 σ' H' D I' q
 |ret v=>exact q
 |brk=>exact q
 |cont=>exact q
theorem qa6 (h1:PS X st t):PSs X [st] t:=by
 intro j8 s σ H D I h
 refine wpAny_execs_cons (thn (h1 j8 s σ H D I h) λf s1 q=>?_)
 cases f with
 |next=>exact wpAny_execs_nil q
 |ret v=>exact q
 |brk=>exact q
 |cont=>exact q
theorem Inv.quiet {j8:List (Addr×Obj)}{σ:St}{H:Hp}{s:Shared}(I:Inv X j8 σ H s):interactive X.env=false:=by simp[interactive,I.ok.kind]
def xy8 (te:TE):TS:=λD σ H=>te σ H λ_ H1=>D.nx σ H1
theorem qd9 (he:PE X e te) (hs:swapsWith e none pos.line X.env=pure false:=by rfl):PS X (.Expr e pos) (xy8 te):=by
 intro j8 s σ H D I h
 exact wpAny_Expr_any (thn (he j8 s σ H _ I h) λv s1 ⟨x,H1,I1,r1,q1⟩=>⟨σ,H1,I1,q1⟩) I.quiet hs
def tRet (te:TE):TS:=λD σ H=>te σ H D.rt
theorem qa9 (he:PE X e te):PS X (.Return (some e) pos) (tRet te):=by
 intro j8 s σ H D I h
 exact wpAny_Return_some (thn (he j8 s σ H _ I h) λv s1 ⟨x,H1,I1,r1,q1⟩=>⟨x,σ,H1,I1,r1,q1⟩)
def xy9:TS:=λD _ H=>D.rt .non H
theorem qz2:PS X (.Return none pos) xy9:=λ_ _ σ H _ I h=>wpAny_Return_none ⟨.non,σ,H,I,rfl,h⟩
def tIfS (c:TT) (t u:TS):TS:=λD σ H=>c σ H λb H1=>if b=true then t D σ H1 else u D σ H1
theorem qd8 {c:Expr}{a b:List Stmt}{tc:TT}(hc:PT X c tc) (ha:PSs X a t) (hb:PSs X b u):PS X (.If c a b pos) (tIfS tc t u):=by
 intro j8 s σ H D I h
 refine wpAny_If (thn (hc j8 s σ H _ I h) λd s1 ⟨H1,I1,q1⟩=>?_)
 cases d with
 |true=>exact ha j8 s1 σ H1 D I1 q1
 |false=>exact hb j8 s1 σ H1 D I1 q1
def xs5:TS:=λ_ _ _=>False
theorem qg5 {sts:List Stmt}:PSs X sts xs5:=λ_ _ _ _ _ _ h=>h.elim
end
abbrev TG:=V->St->Hp->(St->Hp->Prop)->Prop
abbrev TGs:=List V->St->Hp->(St->Hp->Prop)->Prop
def PG (X:Cx) (target:Expr) (t:TG):Prop:=
 ∀(j8:List (Addr×Obj)) (s:Shared) (σ:St) (H:Hp) (v:V) (u:Value) (Q:St->Hp->Prop),Inv X j8 σ H s->RelV v u->t v σ H Q ->
  wpAny (model X.prog X.w) X.A (assign target X.env u) (λ_ s'=>∃σ' H',Inv X j8 σ' H' s'/\Q σ' H') X.xe s
def PGs (X:Cx) (ts:List Expr) (t:TGs):Prop:=
 ∀(j8:List (Addr×Obj)) (s:Shared) (σ:St) (H:Hp) (vs:List V) (us:List Value) (Q:St->Hp->Prop),Inv X j8 σ H s->Vals vs us->t vs σ H Q ->
  wpAny (model X.prog X.w) X.A (assignInOrder ((assignEach ts X.env).map (·.2)) us) (λ_ s'=>∃σ' H',Inv X j8 σ' H' s'/\Q σ' H') X.xe s
abbrev TSet:=V->V->V->Hp->(Hp->Prop)->Prop
def PSet (X:Cx) (t:TSet):Prop:=
 ∀(j8:List (Addr×Obj)) (s:Shared) (σ:St) (H:Hp) (o i v:V) (ov iv u:Value) (Q:Hp->Prop),Inv X j8 σ H s->RelV o ov->RelV i iv->RelV v u->t o i v H Q ->
  wpAny (model X.prog X.w) X.A (setItem ov iv u) (λ_ s'=>∃H',Inv X j8 σ H' s'/\Q H') X.xe s
abbrev TIp:=V->V->Hp->VK->Prop
def PIp (X:Cx) (op:Operator) (t:TIp):Prop:=
 ∀(j8:List (Addr×Obj)) (s:Shared) (σ:St) (H:Hp) (x y:V) (v u:Value) (Q:VK),Inv X j8 σ H s->RelV x v->RelV y u->t x y H Q ->
  wpAny (model X.prog X.w) X.A (inplaceOp op v u) (EP X j8 σ Q) X.xe s
section
variable {X:Cx}{pos:Pos}
def qh1 (i:Nat):TG:=λv σ H Q=>Q (σ.set i (some v)) H
theorem qn7 {i:Nat}{x:Str}(hN:X.N.Nodup) (hi:X.N[i]?=some x) (hx:Loc X.env.scope x) (hf:X.fn x=true\/X.env.scope.names.lookup x=some .local:=by first|exact .inl rfl|exact .inr rfl|assumption):PG X (.Name x pos) (qh1 i):=by
 intro j8 s σ H v u Q I r h
 exact wpAny_assign_Name (qq3 I hN hi hx r (λs' I'=>⟨_,H,I',h⟩) hf)
def gNil:TGs:=λvs σ H Q=>vs=[]/\Q σ H
def qz3 (t:TG) (u:TGs):TGs:=λvs σ H Q=>∃v r,vs=v::r/\t v σ H λσ' H'=>u r σ' H' Q
theorem qh2:PGs X [] gNil:=by
 intro j8 s σ H vs us Q I r h
 obtain⟨e,h⟩:=h
 subst e
 cases r
 exact assignInOrder_nil ⟨σ,H,I,h⟩
theorem qb4 {e:Expr}{es:List Expr}{t:TG}{u:TGs}(h1:PG X e t) (h2:PGs X es u)
  (hs:(assignEach (e::es) X.env).map (·.2)=assign e X.env::(assignEach es X.env).map (·.2):=by rfl):PGs X (e::es) (qz3 t u):=by
 intro j8 s σ H vs us Q I r h
 obtain⟨v,vr,e1,h⟩:=h
 subst e1
 cases r with
 |cons r rr=>
  rw[hs]
  refine assignInOrder_cons (thn (h1 j8 s σ H _ _ _ I r h) λ_ s1 ⟨σ1,H1,I1,q1⟩=>?_)
  exact h2 j8 s1 σ1 H1 _ _ Q I1 rr q1
def gTup (K:PySem.W.Frag) (n:Nat) (t:TGs):TG:=λv σ H Q=>∃a xs,v=.ref a/\SqT K H a xs/\xs.length=n/\t xs σ H Q
theorem ql8 {es:List Expr}{k:Nat}{t:TGs}{n:Nat}(hc:X.calm=true) (h:PGs X es t)
  (hn:(assignEach es X.env).length=n:=by rfl) (kB:(assignEach es X.env).findIdx? (·.1)=none:=by rfl):PG X (.Tuple es k pos) (gTup X.K n t):=by
 intro j8 s σ H v u Q I r hw
 obtain⟨a,xs,e1,hq,hl,hw⟩:=hw
 subst e1
 cases r
 obtain⟨its,rv,ht,hz⟩:=I.tuple hq
 refine assign_Tuple_tuple (I.ok.hd hc) ht (by simp[hn,<- hl,rv.length]) kB λh' hx=>?_
 have I1:Inv X j8 σ H { s with heap:=h' }:=I.kept (t':=s.toks) λb o e=>hx b o (Zl (Zi e)) e
 exact h j8 _ σ H xs _ Q I1 (by simpa using rv) hw
def gSub (to ti:TE) (t:TSet):TG:=λv σ H Q=>to σ H λo H1=>ti σ H1 λi H2=>t o i v H2 λH3=>Q σ H3
theorem xh4 {o i:Expr}{to ti:TE}{t:TSet}(ho:PE X o to) (hi:PE X i ti) (hs:PSet X t)
  (ha:∀v,assign (.Subscript o i pos) X.env v=(do
   let ov <- holding [v] (eval o X.env)
   let iv <- holding [v,ov] (eval i X.env)
   standAt pos
   holding [v,ov,iv] (setItem ov iv v)
   release [v,ov,iv] []):=by intro _;rfl):PG X (.Subscript o i pos) (gSub to ti t):=by
 intro j8 s σ H v u Q I r h
 rw[ha]
 refine Za (Z5 (thn (ho j8 s σ H _ I h) λov s1 ⟨x,H1,I1,r1,q1⟩=>?_))
 refine Za (Z5 (thn (hi j8 s1 σ H1 _ I1 q1) λiv s2 ⟨y,H2,I2,r2,q2⟩=>?_))
 refine Za (V2 (Za (Z5 (thn (hs j8 s2 σ H2 x y v ov iv u _ I2 r1 r2 r q2) λ_ s3 ⟨H3,I3,q3⟩=>?_))))
 exact wpAny_release ⟨σ,H3,I3,q3⟩
def tAsg (te:TE) (g:TG):TS:=λD σ H=>te σ H λx H1=>g x σ H1 D.nx
theorem ql9 {tg e:Expr}{te:TE}{g:TG}(he:PE X e te) (hg:PG X tg g) (hs:swapsWithSole [tg] e pos.line X.env=pure false:=by rfl) (hw:swappedStores [tg] e X.env=pure none:=by rfl)
  (h1:(assignEach [tg] X.env).map (·.2)=[assign tg X.env]:=by rfl):PS X (.Assign [tg] e pos) (tAsg te g):=by
 intro j8 s σ H D I h
 refine wpAny_Assign_stores (thn (he j8 s σ H _ I h) λv s1 ⟨x,H1,I1,r1,q1⟩=>?_) hs hw
 rw[h1]
 exact thn (hg j8 s1 σ H1 x v _ I1 r1 q1) λ_ s2 q=>q
theorem xs6 {i:Nat}{x:Str}{e:Expr}{te:TE}{pos':Pos}(hN:X.N.Nodup) (hi:X.N[i]?=some x) (hx:Loc X.env.scope x) (he:PE X e te) (hs:swapsWith e (some (.Name x pos')) pos.line X.env=pure false:=by rfl) (hf:X.fn x=true\/X.env.scope.names.lookup x=some .local:=by first|exact .inl rfl|exact .inr rfl|assumption) :
  PS X (.Assign [.Name x pos'] e pos) (tAsg te (qh1 i)):=by
 intro j8 s σ H D I h
 refine wpAny_Assign_Name (thn (he j8 s σ H _ I h) λv s1 ⟨y,H1,I1,r1,q1⟩=>?_) hs
 exact qq3 I1 hN hi hx r1 (λs2 I2=>⟨_,H1,I2,q1⟩) hf
def tAug (i:Nat) (te:TE) (ti:TIp):TS:=λD σ H=>∃x,σ[i]?=some (some x)/\te σ H λy H1=>ti x y H1 λz H2=>D.nx (σ.set i (some z)) H2
theorem xh5 {i:Nat}{x:Str}{e:Expr}{te:TE}{op:Operator}{ti:TIp}{pos':Pos}(hN:X.N.Nodup) (hi:X.N[i]?=some x) (hx:Loc X.env.scope x) (he:PE X e te) (ho:PIp X op ti) (hf:X.fn x=true\/X.env.scope.names.lookup x=some .local:=by first|exact .inl rfl|exact .inr rfl|assumption) :
  PS X (.AugAssign (.Name x pos') op e pos) (tAug i te ti):=by
 intro j8 s σ H D I h
 obtain⟨v,e1,h⟩:=h
 obtain⟨m,hn,hl⟩:=I.loc
 have vis:Vis X.env.scope x:=by rcases hx with k|k;exact .inl k;exact .inr (.inl k)
 obtain⟨u,r,l⟩:=hl i x v hi e1 vis
 refine wpAny_AugAssign_Name ?_
 have go:wpAny (model X.prog X.w) X.A (eval e X.env) (λw s₂=>wpAny (model X.prog X.w) X.A (inplaceOp op u w) (λr s₃=>wpAny (model X.prog X.w) X.A (storeName X.env x r) (λ_=>SP X j8 D .next) X.xe s₃) X.xe s₂) X.xe s:=by
  refine thn (he j8 s σ H _ I h) λw s1 ⟨y,H1,I1,r1,q1⟩=>?_
  refine thn (ho j8 s1 σ H1 v y u w _ I1 r r1 q1) λz s2 ⟨zv,H2,I2,r2,q2⟩=>?_
  exact qq3 I2 hN hi hx r2 (λs3 I3=>⟨_,H2,I3,q2⟩) hf
 rcases l with ⟨hk,hm⟩|⟨hk,c,hc,jA⟩
 ·exact wpAny_loadName_local I.ok.kind hk hn hm go
 ·rcases hk with hk|hk
  ·exact wpAny_loadName_cell I.ok.kind hk hc jA go
  ·rcases hx with k|k
   ·have:X.env.scope.names.lookup x=some .free:=hk
    rw[k] at this;cases this
   ·have:X.env.scope.names.lookup x=some .free:=hk
    rw[k] at this;cases this
end
section
variable {X:Cx}{pos:Pos}
end
structure It where
 go:Nat->Hp->Prop
 yld:Nat->Hp->V->Hp->Prop
 stop:Nat->Hp->Prop
def FpOk (X:Cx) (j8:List (Addr×Obj)) (H:Hp) (b:Addr):Prop:=
 H b=none/\b≠X.env.locals/\b∉X.fs/\(b∈X.ex\/X.s₀.heap.objs.size<=b)/\(∀x c,X.env.cells.lookup x=some c->c≠b)/\∀p∈X.pn++j8,p.1≠b
theorem Inv.fpOk {X:Cx}{j8:List (Addr×Obj)}{σ:St}{H H':Hp}{s:Shared}{b:Addr}(I:Inv X j8 σ H s) (hb:s.heap.objs.size<=b) (hn:H' b=none):FpOk X j8 H' b:=by
 refine⟨hn,XX (ZN I.lt hb),I.nofs hb,.inr (ZE I.sz hb),λx c e z=>?_,λp hp z=>?_⟩
 ·obtain⟨v,q⟩:=I.cell x c e
  exact absurd (ZN q.lt (by rw[z];exact hb)) (Ys _)
 ·exact absurd (ZN (Zi (I.pin p hp).1) (by rw[z];exact hb)) (Ys _)
structure Turn (P:Program) (w:World) (K:PySem.W.Frag) (tg:Expr) (J:It) (fp:List Addr) (it:Addr) (tn:Nat->Heap->Prop):Prop where
 mem:it∈fp
 obj:∀i h,tn i h->∀b∈fp,∃o,h.get? b=some o/\∀v,o.data≠.cell v
 keep:∀i h h',tn i h->(∀b∈fp,∀o,h.get? b=some o->h'.get? b=some o)->tn i h'
 item:∀(X:Cx),X.prog=P->X.w=w->X.K=K->X.calm=true->∀(i:Nat) (j8:List (Addr×Obj)) (s:Shared) (σ:St) (H:Hp) (E:Value->Shared->Prop),Inv X j8 σ H s->(∀b∈fp,FpOk X j8 H b)->tn i s.heap->J.go i H ->
  wpAny (model P w) X.A (pyNext (.ref it)) (λr s1=>∃u,r=some u /\
   wpAny (model P w) X.A (letOwnedTupleGo tg (.ref it) u) (λ_ s2=>∃x H',Inv X j8 σ H' s2/\RelV x u/\J.yld i H x H'/\tn (i+1) s2.heap/\∀b∈fp,H' b=none) E s1) E s
 done:∀(X:Cx),X.prog=P->X.w=w->X.K=K->X.calm=true->∀(i:Nat) (j8:List (Addr×Obj)) (s:Shared) (σ:St) (H:Hp) (E:Value->Shared->Prop),Inv X j8 σ H s->(∀b∈fp,FpOk X j8 H b)->tn i s.heap->J.stop i H ->
  wpAny (model P w) X.A (pyNext (.ref it)) (λr s1=>r=none/\Inv X j8 σ H s1) E s
 self:∀(A:Around) (i:Nat) (s:Shared) (Q:Value->Shared->Prop) (E:Value->Shared->Prop),tn i s.heap->Q (.ref it) s->wpAny (model P w) A (pyIter (.ref it)) Q E s
abbrev TI:=St->Hp->(It->Hp->Prop)->Prop
def PIE (X:Cx) (j8:List (Addr×Obj)) (σ:St) (tg:Expr) (R:It->Hp->Prop) (itv:Value) (s2:Shared):Prop:=
 ∃(it:Addr) (fp:List Addr) (tn:Nat->Heap->Prop) (J:It) (H':Hp),itv=.ref it/\Inv X j8 σ H' s2/\Turn X.prog X.w X.K tg J fp it tn/\tn 0 s2.heap/\(∀b∈fp,FpOk X j8 H' b)/\R J H'
def PI (X:Cx) (tg iter:Expr) (wi:TI):Prop:=
 ∀(j8:List (Addr×Obj)) (s:Shared) (σ:St) (H:Hp) (R:It->Hp->Prop),Inv X j8 σ H s->wi σ H R ->
  wpAny (model X.prog X.w) X.A (eval iter X.env) (λv s1=>wpAny (model X.prog X.w) X.A (pyIter v) (PIE X j8 σ tg R) X.xe s1) X.xe s
theorem xk2 {M:Model}{A:Around}{E:Value->Shared->Prop}{s:Shared}{tg:Expr}{it:Addr}{u:Value}{o:Obj}{n:String}{vs:Array Value}{Q:Unit->Shared->Prop}(ho:s.heap.get? it=some o) (hc:o.cls=.type n) (hd:o.data=.fields vs)
  (hn:["enumerate", "zip", "dict_itemiterator", "dict_reverseitemiterator", "odict_iterator", "itertools.zip_longest", "itertools.pairwise"].contains n=false) (hQ:Q () s):wpAny M A (letOwnedTupleGo tg (.ref it) u) Q E s:=by
 unfold letOwnedTupleGo
 cases tg<;>first
  |exact Zb hQ
  |(cases u<;>first
    |exact Zb hQ
    |(refine Za (wpAny_load ho ?_)
      rw[hc,hd]
      show wpAny M A (if (["enumerate", "zip", "dict_itemiterator", "dict_reverseitemiterator", "odict_iterator", "itertools.zip_longest", "itertools.pairwise"].contains n&&vs[0]?==some (rawInt _))=true then _ else _) Q E s
      rw[Zq (by intro h;rw[hn,Wg] at h;cases h)]
      exact Zb hQ))
def Itl (K:PySem.W.Frag) (a:Addr):It:=
 ⟨λi H=>∃xs x,SqL K H a xs/\xs[i]?=some x,λi H x H'=>H'=H/\∀xs,SqL K H a xs->xs[i]?=some x,λi H=>∃xs,SqL K H a xs/\xs.length<=i⟩
def Itt (K:PySem.W.Frag) (a:Addr):It:=
 ⟨λi H=>∃xs x,SqT K H a xs/\xs[i]?=some x,λi H x H'=>H'=H/\∀xs,SqT K H a xs->xs[i]?=some x,λi H=>∃xs,SqT K H a xs/\xs.length<=i⟩
def Itr (lo:Int) (n:Nat):It:=⟨λi _=>i<n,λi H x H'=>H'=H/\x=.int (lo+i),λi _=>n<=i⟩
theorem qW7 {P:Program}{w:World}{K:PySem.W.Frag}{tg:Expr}(a it:Addr):Turn P w K tg (Itl K a) [it] it (λi h=>h.IsListIter it a i) where
 mem:=by simp
 obj:=λi h st b hb=>by
  have e:b=it:=by simpa using hb
  subst e
  obtain⟨o,e,c,d⟩:=st
  exact⟨o,e,λv z=>by rw[d] at z;cases z⟩
 keep:=λi h h' st k=>st.at λo e=>k it (by simp) o e
 item:=by
  intro X hP hw hK hc i j8 s σ H E I hf st hg
  subst hP hw hK
  obtain⟨xs,x,hq,hx⟩:=hg
  obtain⟨its,rv,p,hz⟩:=I.list hq
  obtain⟨u,hu,ru⟩:=rv.get hx
  obtain⟨f0,f1,f2,f3,f4,f5⟩:=hf it (by simp)
  refine wpAny_pyNext_list_item st p.isList (x:=u) (by simpa using hu) λh' st' sb=>?_
  have I1:Inv X j8 σ H { s with heap:=h' }:=I.turned (t':=s.toks) (λb o hb e=>(sb.2 b hb).trans e) f0 f1 f3 f4 f5
  obtain⟨o,e,c,d⟩:=id st'
  exact⟨u,rfl,xk2 (s:={ s with heap:=h' }) e c d (by decide) ⟨x,H,I1,ru,⟨rfl,λys hy=>by rw[I.list_inj hy hq];exact hx⟩,st',λb hb=>(hf b hb).1⟩⟩
 done:=by
  intro X hP hw hK hc i j8 s σ H E I hf st hg
  subst hP hw hK
  obtain⟨xs,hq,hx⟩:=hg
  obtain⟨its,rv,p,hz⟩:=I.list hq
  obtain⟨f0,f1,f2,f3,f4,f5⟩:=hf it (by simp)
  have hl:=rv.length
  exact wpAny_pyNext_list_end (I.ok.hd hc) st p.isList (by simp;lia) λh' eb=>⟨rfl,I.turned (t':=s.toks) (λb o hb e=>eb b o hb e) f0 f1 f3 f4 f5⟩
 self:=λ_ _ _ _ _ st h=>wpAny_pyIter_listiter st h
theorem qS8 {P:Program}{w:World}{K:PySem.W.Frag}{tg:Expr}(a it:Addr):Turn P w K tg (Itt K a) [it] it (λi h=>h.IsTupleIter it a i) where
 mem:=by simp
 obj:=λi h st b hb=>by
  have e:b=it:=by simpa using hb
  subst e
  obtain⟨o,e,c,d⟩:=st
  exact⟨o,e,λv z=>by rw[d] at z;cases z⟩
 keep:=λi h h' st k=>st.at λo e=>k it (by simp) o e
 item:=by
  intro X hP hw hK hc i j8 s σ H E I hf st hg
  subst hP hw hK
  obtain⟨xs,x,hq,hx⟩:=hg
  obtain⟨its,rv,p,hz⟩:=I.tuple hq
  obtain⟨u,hu,ru⟩:=rv.get hx
  obtain⟨f0,f1,f2,f3,f4,f5⟩:=hf it (by simp)
  refine wpAny_pyNext_tuple_item st (show s.heap.IsTuple a its.toArray from p) (x:=u) (by simpa using hu) λh' st' sb=>?_
  have I1:Inv X j8 σ H { s with heap:=h' }:=I.turned (t':=s.toks) (λb o hb e=>(sb.2 b hb).trans e) f0 f1 f3 f4 f5
  obtain⟨o,e,c,d⟩:=id st'
  exact⟨u,rfl,xk2 (s:={ s with heap:=h' }) e c d (by decide) ⟨x,H,I1,ru,⟨rfl,λys hy=>by rw[I.tuple_inj hy hq];exact hx⟩,st',λb hb=>(hf b hb).1⟩⟩
 done:=by
  intro X hP hw hK hc i j8 s σ H E I hf st hg
  subst hP hw hK
  obtain⟨xs,hq,hx⟩:=hg
  obtain⟨its,rv,p,hz⟩:=I.tuple hq
  obtain⟨f0,f1,f2,f3,f4,f5⟩:=hf it (by simp)
  have hl:=rv.length
  exact wpAny_pyNext_tuple_end (I.ok.hd hc) st (show s.heap.IsTuple a its.toArray from p) (by simp;lia) λh' eb=>⟨rfl,I.turned (t':=s.toks) (λb o hb e=>eb b o hb e) f0 f1 f3 f4 f5⟩
 self:=λ_ _ _ _ _ st h=>wpAny_pyIter_tupleiter st h
theorem qS9 {P:Program}{w:World}{K:PySem.W.Frag}{tg:Expr}(it:Addr) (lo:Int) (n:Nat):Turn P w K tg (Itr lo n) [it] it (λi h=>IsRangeIter h it (lo+(i:Nat)*1) ((n:Int)-(i:Nat)) 1) where
 mem:=by simp
 obj:=λi h st b hb=>by
  have e:b=it:=by simpa using hb
  subst e
  exact⟨_,st,λv z=>by
   have z':Data.fields _=Data.cell v:=z
   cases z'⟩
 keep:=λi h h' st k=>k it (by simp) _ st
 item:=by
  intro X hP hw hK hc i j8 s σ H E I hf st hg
  subst hP hw hK
  obtain⟨f0,f1,f2,f3,f4,f5⟩:=hf it (by simp)
  have W:=Walks.range (prog:=X.prog) (w:=X.w) (I.ok.hd hc) it lo 1 n
  refine W.item i s _ _ hg st λv h' tk hv st' kk=>?_
  obtain⟨t,rfl⟩:=hv
  have I1:Inv X j8 σ H { s with heap:=h',toks:=tk }:=I.turned (λb o hb e=>kk b o (by simpa using hb) e) f0 f1 f3 f4 f5
  refine⟨_,rfl,xk2 (s:={ s with heap:=h',toks:=tk }) (n:= "range_iterator") st' rfl rfl (by decide) ⟨.int (lo+i),H,I1,⟨t,?_⟩,⟨rfl,rfl⟩,st',λb hb=>(hf b hb).1⟩⟩
  rw[Int.mul_one]
 done:=by
  intro X hP hw hK hc i j8 s σ H E I hf st hg
  subst hP hw hK
  obtain⟨f0,f1,f2,f3,f4,f5⟩:=hf it (by simp)
  exact wpAny_pyNext_range_end (I.ok.hd hc) st (by have:n<=i:=hg;lia) λh' eb=>⟨rfl,I.turned (t':=s.toks) (λb o hb e=>eb b o hb e) f0 f1 f3 f4 f5⟩
 self:=λ_ _ _ _ _ st h=>wpAny_pyIter_rangeiter st h
section
variable {X:Cx}{tg:Expr}
def xz0 (K:PySem.W.Frag) (tl:TE):TI:=λσ H R=>tl σ H λx H1=>∃a,x=.ref a/\(∃xs,SqL K H1 a xs)/\R (Itl K a) H1
def iTup (K:PySem.W.Frag) (tl:TE):TI:=λσ H R=>tl σ H λx H1=>∃a,x=.ref a/\(∃xs,SqT K H1 a xs)/\R (Itt K a) H1
theorem qs1 {l:Expr}{tl:TE}(hl:PE X l tl):PI X tg l (xz0 X.K tl):=by
 intro j8 s σ H R I h
 refine thn (hl j8 s σ H _ I h) λv s1 ⟨x,H1,I1,r1,q1⟩=>?_
 obtain⟨a,e,⟨xs,hq⟩,q⟩:=q1
 subst e
 cases r1
 obtain⟨its,rv,p,hz⟩:=I1.list hq
 refine Xw p.isList ?_
 refine⟨s1.heap.objs.size,[s1.heap.objs.size],_,_,H1,rfl,I1.kept (t':=s1.toks) λb o e=>Zc _ e,qW7 a _,⟨_,Zh _ rfl,rfl,rfl⟩,λb hb=>?_,q⟩
 have e:b=s1.heap.objs.size:=by simpa using hb
 subst e
 exact I1.fpOk (Zd _) (I1.hok.fresh (Zd _))
theorem qs2 {l:Expr}{tl:TE}(hl:PE X l tl):PI X tg l (iTup X.K tl):=by
 intro j8 s σ H R I h
 refine thn (hl j8 s σ H _ I h) λv s1 ⟨x,H1,I1,r1,q1⟩=>?_
 obtain⟨a,e,⟨xs,hq⟩,q⟩:=q1
 subst e
 cases r1
 obtain⟨its,rv,p,hz⟩:=I1.tuple hq
 refine WM (show s1.heap.IsTuple a its.toArray from p) ?_
 refine⟨s1.heap.objs.size,[s1.heap.objs.size],_,_,H1,rfl,I1.kept (t':=s1.toks) λb o e=>Zc _ e,qS8 a _,⟨_,Zh _ rfl,rfl,rfl⟩,λb hb=>?_,q⟩
 have e:b=s1.heap.objs.size:=by simpa using hb
 subst e
 exact I1.fpOk (Zd _) (I1.hok.fresh (Zd _))
theorem range_it {j8:List (Addr×Obj)}{σ:St}{H:Hp}{s:Shared}{R:It->Hp->Prop}{E:Value->Shared->Prop}{lo hi:Int}{t u v:Tok}{tk:Nat}(I:Inv X j8 σ H s) (h1:-(2^62)<=lo) (h2:lo<2^62) (h3:-(2^62)<=hi) (h4:hi<2^62)
  (q:R (Itr lo (hi-lo).toNat) H):wpAny (model X.prog X.w) X.A (pyIter (.ref s.heap.objs.size)) (PIE X j8 σ tg R) E { s with heap:=s.heap.push { cls:=.type "range",data:=.fields #[.int lo t,.int hi u,.int 1 v] },toks:=tk }:=by
 refine wpAny_pyIter_range (IsRange.new ..) (small_one h1 h2 h3 h4) ?_
 have I1:Inv X j8 σ H { s with heap:=s.heap.push { cls:=.type "range",data:=.fields #[.int lo t,.int hi u,.int 1 v] },toks:=tk }:=I.kept λb o e=>Zc _ e
 refine⟨(s.heap.push { cls:=.type "range",data:=.fields #[.int lo t,.int hi u,.int 1 v] }).objs.size,[(s.heap.push { cls:=.type "range",data:=.fields #[.int lo t,.int hi u,.int 1 v] }).objs.size],_,_,H,rfl,
  I1.kept (t':=tk) λb o e=>Zc _ e,qS9 _ lo (hi-lo).toNat,?_,λb hb=>?_,q⟩
 ·have e1:lo+((0:Nat):Int)*1=lo:=by simp
  have e2:(((hi-lo).toNat:Nat):Int)-((0:Nat):Int)=Builtin.Range.rangeSize lo hi 1:=by rw[rangeSize_one];split<;>lia
  show IsRangeIter _ _ (lo+((0:Nat):Int)*1) ((((hi-lo).toNat:Nat):Int)-((0:Nat):Int)) 1
  rw[e1,e2]
  exact Zh _ rfl
 ·have e:b=(s.heap.push { cls:=.type "range",data:=.fields #[.int lo t,.int hi u,.int 1 v] }).objs.size:=by simpa using hb
  subst e
  exact I1.fpOk (Zd _) (I1.hok.fresh (Zd _))
def xs7 (ta:TA):TI:=λσ H R=>ta σ H λvs H1=>∃j:Int,vs=[.int j]/\-(2^62)<=j/\j<2^62/\R (Itr 0 j.toNat) H1
theorem qg6 {a:Expr}{ta:TA}{p pos:Pos}(hg:Gl X "range") (hm:X.mg "range" = none) (ha:PA X [a] ta) (hs:starEach [a] X.env=[(false,eval a X.env)]:=by rfl):PI X tg (.Call (.Name "range" p) [a] [] pos) (xs7 ta):=by
 intro j8 s σ H R I h
 refine Call_ (qs0 I hg hm boot_range (YU (thn (ha pos j8 s σ H _ I h) λus s1 ⟨vs,H1,I1,r1,q1⟩=>?_) hs rfl))
 obtain⟨j,e,q1,q2,q⟩:=q1
 subst e
 cases r1 with
 |cons r rr=>
  cases rr
  obtain⟨t,rfl⟩:=r
  exact call_range_1 (range_it I1 (by lia) (by lia) q1 q2 (by simpa using q))
def tFor (wi:TI) (g:TG) (tb:TS):TS:=λD σ H=>wi σ H λJ H1=>∃W:Nat->Nat->St->Hp->Prop,(∃m,W 0 m σ H1)/\∀i m σ H,W i m σ H ->
 (J.stop i H/\D.nx σ H)\/(J.go i H/\∃N:St->Hp->Prop,(∀σ' H',N σ' H'->∃m',m'<m/\W (i+1) m' σ' H')/\∀x H',J.yld i H x H'->g x σ H' λσ2 H2=>tb { D with nx:=N,ct:=N,bk:=D.nx } σ2 H2)
def qx7 (fp:List Addr) (h:Heap):List (Addr×Obj):=fp.filterMap λb=>(h.get? b).map λo=>(b,o)
theorem qf1 {fp:List Addr}{h:Heap}{b:Addr}{o:Obj}(hb:b∈fp) (e:h.get? b=some o):(b,o)∈qx7 fp h:=VC.mpr ⟨b,hb,by rw[e];rfl⟩
theorem qW8 {fp:List Addr}{h:Heap}{p:Addr×Obj}(hp:p∈qx7 fp h):p.1∈fp/\h.get? p.1=some p.2:=by
 obtain⟨b,hb,e⟩:=VC.mp hp
 cases q:h.get? b with
 |none=>rw[q] at e;cases e
 |some o=>
  rw[q] at e
  have e':(b,o)=p:=ZK e
  subst e'
  exact⟨hb,q⟩
theorem Inv.pinned {j8:List (Addr×Obj)}{σ:St}{H:Hp}{s:Shared}{fp:List Addr}(I:Inv X j8 σ H s) (hf:∀b∈fp,FpOk X j8 H b) (ho:∀b∈fp,∃o,s.heap.get? b=some o/\∀v,o.data≠.cell v):Inv X (j8++qx7 fp s.heap) σ H s:=
 I.pins_of λp hp=>(ZW.mp hp).elim (λz=>I.pin p (ZI _ z)) λz=>by
  obtain⟨hb,e⟩:=qW8 z
  obtain⟨f0,f1,f2,_⟩:=hf p.1 hb
  obtain⟨o,e',d⟩:=ho p.1 hb
  rw[e] at e';cases e'
  exact⟨e,f0,f1,f2,d⟩
theorem Inv.unpinned {j8 pl:List (Addr×Obj)}{σ:St}{H:Hp}{s:Shared}(I:Inv X (j8++pl) σ H s):Inv X j8 σ H s:=I.pins_of λp hp=>I.pin p (ZI _ (Wf _ hp))
theorem qk6 {iter:Expr}{body:List Stmt}{wi:TI}{g:TG}{tb:TS}{pos:Pos}(hp:PassesOwn (model X.prog X.w) X.A X.env X.xe) (hc:X.calm=true) (hi:PI X tg iter wi) (hg:PG X tg g) (hb:PSs X body tb)
  (hs:∀x,foldedSetIterable iter X.env x=pure x:=by intro _;rfl):PS X (.For tg iter body [] pos) (tFor wi g tb):=by
 intro j8 s σ H D I h
 refine wpAny_For (thn (hi j8 s σ H _ I h) λv s1 h1=>thn h1 λitv s2 h2=>?_) hs
 obtain⟨it,fp,tn,J,H2,e,I2,T,st2,f2,W,⟨m0,w0⟩,turn⟩:=h2
 subst e
 have stat:∀{H':Hp},(∀b∈fp,H' b=none)->∀b∈fp,FpOk X j8 H' b:=λhn b hb=>⟨hn b hb,(f2 b hb).2⟩
 refine codeAny_forLoop_any (λn s'=>∃i σ' H',Inv X j8 σ' H' s'/\tn i s'.heap/\(∀b∈fp,H' b=none)/\W i n σ' H') ?_ m0 ⟨0,σ,H2,I2,st2,λb hb=>(f2 b hb).1,w0⟩
 rintro n s3 ⟨i,σ3,H3,I3,st3,fr3,w3⟩
 rcases turn i n σ3 H3 w3 with ⟨stop,qn⟩|⟨go,N,hN,step⟩
 ·refine WI hp (thn (T.done X rfl rfl rfl hc i j8 s3 σ3 H3 X.xe I3 (stat fr3) st3 stop) λr s4 ⟨hr,I4⟩=>?_)
  subst hr
  exact wpAny_execs_nil ⟨σ3,H3,I4,qn⟩
 ·refine WI hp (thn (T.item X rfl rfl rfl hc i j8 s3 σ3 H3 X.xe I3 (stat fr3) st3 go) λr s4 ⟨u,hr,h4⟩=>?_)
  subst hr
  refine WI hp (thn h4 λ_ s5 ⟨x,H5,I5,r5,y5,st5,fr5⟩=>?_)
  have I5':=I5.pinned (stat fr5) (T.obj _ _ st5)
  refine WI hp (thn (hg _ s5 σ3 H5 x u _ I5' r5 (step x H5 y5)) λ_ s6 ⟨σ6,H6,I6,q6⟩=>?_)
  refine WI hp (thn (hb _ s6 σ6 H6 _ I6 q6) λf s7 q7=>?_)
  have again:∀{σ7:St}{H7:Hp},Inv X (j8++qx7 fp s5.heap) σ7 H7 s7->N σ7 H7->∃m,m<n/\∃i σ' H',Inv X j8 σ' H' s7/\tn i s7.heap/\(∀b∈fp,H' b=none)/\W i m σ' H':=λ{σ7 H7} I7 n7=>by
   obtain⟨m',hm,w7⟩:=hN σ7 H7 n7
   refine⟨m',hm,i+1,σ7,H7,I7.unpinned,T.keep _ _ _ st5 λb hb o e=>(I7.pin (b,o) (ZI _ (ZI _ (qf1 hb e)))).1,λb hb=>?_,w7⟩
   obtain⟨o,e,d⟩:=T.obj _ _ st5 b hb
   exact (I7.pin (b,o) (ZI _ (ZI _ (qf1 hb e)))).2.1
  cases f with
  |next=>obtain⟨σ7,H7,I7,n7⟩:=q7;exact again I7 n7
  |cont=>obtain⟨σ7,H7,I7,n7⟩:=q7;exact again I7 n7
  |brk=>obtain⟨σ7,H7,I7,q7⟩:=q7;exact⟨σ7,H7,I7.unpinned,q7⟩
  |ret v=>obtain⟨x7,σ7,H7,I7,r7,q7⟩:=q7;exact⟨x7,σ7,H7,I7.unpinned,r7,q7⟩
end
theorem xa2 {K:PySem.W.Frag}{a:Addr}{xs:List V}{g:TG}{tb:TS}{D:Ends}{σ:St}{H:Hp}(Pv:Nat->St->Hp->Prop) (h0:Pv 0 σ H) (hl:∀i σ H,i<=xs.length->Pv i σ H->SqL K H a xs)
  (hs:∀i x σ H,xs[i]?=some x->Pv i σ H->g x σ H λσ2 H2=>tb { D with nx:=Pv (i+1),ct:=Pv (i+1),bk:=D.nx } σ2 H2) (hd:∀σ H,Pv xs.length σ H->D.nx σ H) :
  ∃W:Nat->Nat->St->Hp->Prop,(∃m,W 0 m σ H)/\∀i m σ H,W i m σ H ->
   ((Itl K a).stop i H/\D.nx σ H)\/((Itl K a).go i H/\∃N:St->Hp->Prop,(∀σ' H',N σ' H'->∃m',m'<m/\W (i+1) m' σ' H')/\∀x H',(Itl K a).yld i H x H'->g x σ H' λσ2 H2=>tb { D with nx:=N,ct:=N,bk:=D.nx } σ2 H2):=by
 refine⟨λi m σ H=>m=xs.length-i/\i<=xs.length/\Pv i σ H,⟨xs.length,by simp,Zo _,h0⟩,?_⟩
 rintro i m σ H ⟨rfl,hi,p⟩
 have q:=hl i σ H hi p
 by_cases jB:i<xs.length
 ·refine .inr ⟨⟨xs,xs[i],q,by simp[jB]⟩,Pv (i+1),λσ' H' p'=>⟨xs.length-(i+1),by lia,rfl,jB,p'⟩,λx H' y=>?_⟩
  obtain⟨e,y⟩:=y
  subst e
  exact hs i x σ _ (y xs q) p
 ·have e:i=xs.length:=by lia
  subst e
  exact .inl ⟨⟨xs,q,Zd _⟩,hd σ H p⟩
theorem qz4 {K:PySem.W.Frag}{a:Addr}{xs:List V}{g:TG}{tb:TS}{D:Ends}{σ:St}{H:Hp}(Pv:Nat->St->Hp->Prop) (h0:Pv 0 σ H) (hl:∀i σ H,i<=xs.length->Pv i σ H->SqT K H a xs)
  (hs:∀i x σ H,xs[i]?=some x->Pv i σ H->g x σ H λσ2 H2=>tb { D with nx:=Pv (i+1),ct:=Pv (i+1),bk:=D.nx } σ2 H2) (hd:∀σ H,Pv xs.length σ H->D.nx σ H) :
  ∃W:Nat->Nat->St->Hp->Prop,(∃m,W 0 m σ H)/\∀i m σ H,W i m σ H ->
   ((Itt K a).stop i H/\D.nx σ H)\/((Itt K a).go i H/\∃N:St->Hp->Prop,(∀σ' H',N σ' H'->∃m',m'<m/\W (i+1) m' σ' H')/\∀x H',(Itt K a).yld i H x H'->g x σ H' λσ2 H2=>tb { D with nx:=N,ct:=N,bk:=D.nx } σ2 H2):=by
 refine⟨λi m σ H=>m=xs.length-i/\i<=xs.length/\Pv i σ H,⟨xs.length,by simp,Zo _,h0⟩,?_⟩
 rintro i m σ H ⟨rfl,hi,p⟩
 have q:=hl i σ H hi p
 by_cases jB:i<xs.length
 ·refine .inr ⟨⟨xs,xs[i],q,by simp[jB]⟩,Pv (i+1),λσ' H' p'=>⟨xs.length-(i+1),by lia,rfl,jB,p'⟩,λx H' y=>?_⟩
  obtain⟨e,y⟩:=y
  subst e
  exact hs i x σ _ (y xs q) p
 ·have e:i=xs.length:=by lia
  subst e
  exact .inl ⟨⟨xs,q,Zd _⟩,hd σ H p⟩
theorem qD1 {lo:Int}{n:Nat}{g:TG}{tb:TS}{D:Ends}{σ:St}{H:Hp}(Pv:Nat->St->Hp->Prop) (h0:Pv 0 σ H)
  (hs:∀i σ H,i<n->Pv i σ H->g (.int (lo+i)) σ H λσ2 H2=>tb { D with nx:=Pv (i+1),ct:=Pv (i+1),bk:=D.nx } σ2 H2) (hd:∀σ H,Pv n σ H->D.nx σ H) :
  ∃W:Nat->Nat->St->Hp->Prop,(∃m,W 0 m σ H)/\∀i m σ H,W i m σ H ->
   ((Itr lo n).stop i H/\D.nx σ H)\/((Itr lo n).go i H/\∃N:St->Hp->Prop,(∀σ' H',N σ' H'->∃m',m'<m/\W (i+1) m' σ' H')/\∀x H',(Itr lo n).yld i H x H'->g x σ H' λσ2 H2=>tb { D with nx:=N,ct:=N,bk:=D.nx } σ2 H2):=by
 refine⟨λi m σ H=>m=n-i/\i<=n/\Pv i σ H,⟨n,by simp,Zo _,h0⟩,?_⟩
 rintro i m σ H ⟨rfl,hi,p⟩
 by_cases jB:i<n
 ·refine .inr ⟨jB,Pv (i+1),λσ' H' p'=>⟨n-(i+1),by lia,rfl,jB,p'⟩,λx H' y=>?_⟩
  obtain⟨e,y⟩:=y
  subst e y
  exact hs i σ _ jB p
 ·have e:i=n:=by lia
  subst e
  exact .inl ⟨Zd _,hd σ H p⟩
abbrev R2:=V->V->Hp->VK->Prop
def OpR (X:Cx) (f:Value->Value->Sem Value) (r:R2):Prop:=
 ∀(j8:List (Addr×Obj)) (s:Shared) (σ:St) (H:Hp) (x y:V) (v u:Value) (Q:VK),Inv X j8 σ H s->RelV x v->RelV y u->r x y H Q ->
  wpAny (model X.prog X.w) X.A (f v u) (EP X j8 σ Q) X.xe s
def UnR (X:Cx) (f:Value->Sem Value) (r:V->Hp->VK->Prop):Prop:=
 ∀(j8:List (Addr×Obj)) (s:Shared) (σ:St) (H:Hp) (x:V) (v:Value) (Q:VK),Inv X j8 σ H s->RelV x v->r x H Q ->
  wpAny (model X.prog X.w) X.A (f v) (EP X j8 σ Q) X.xe s
def qe4 (X:Cx) (f:Value) (r:List V->Hp->VK->Prop):Prop:=
 ∀(j8:List (Addr×Obj)) (s:Shared) (σ:St) (H:Hp) (xs:List V) (us:List Value) (Q:VK),Inv X j8 σ H s->Vals xs us->r xs H Q ->
  wpAny (model X.prog X.w) X.A (call f us) (EP X j8 σ Q) X.xe s
def tOp (r:R2) (ta tb:TE):TE:=λσ H Q=>ta σ H λx H1=>tb σ H1 λy H2=>r x y H2 Q
def tUn (r:V->Hp->VK->Prop) (ta:TE):TE:=λσ H Q=>ta σ H λx H1=>r x H1 Q
def rI (C:Int->Int->Prop) (g:Int->Int->V):R2:=λx y H Q=>∃i j,x=.int i/\y=.int j/\C i j/\Q (g i j) H
def rI0 (g:Int->Int->V):R2:=λx y H Q=>∃i j,x=.int i/\y=.int j/\Q (g i j) H
def rU (g:Int->V):V->Hp->VK->Prop:=λx H Q=>∃i,x=.int i/\Q (g i) H
section
variable {X:Cx}{a b c:Expr}{ta tb tc:TE}{pos:Pos}
theorem binT (ha:PE X a ta) (hb:PE X b tb){j8:List (Addr×Obj)}{s:Shared}{σ:St}{H:Hp}{R:V->V->Hp->Prop}(I:Inv X j8 σ H s)
  (h:ta σ H λx H1=>tb σ H1 λy H2=>R x y H2){Q:Value->Shared->Prop}{f:Value->Value->Sem Value}
  (hf:∀v u s2 x y H2,Inv X j8 σ H2 s2->RelV x v->RelV y u->R x y H2->wpAny (model X.prog X.w) X.A (f v u) Q X.xe s2) :
  wpAny (model X.prog X.w) X.A (eval a X.env) (λv s₁=>wpAny (model X.prog X.w) X.A (eval b X.env) (λu s₂=>wpAny (model X.prog X.w) X.A (f v u) Q X.xe s₂) X.xe s₁) X.xe s:=by
 refine thn (ha j8 s σ H _ I h) λv s1 ⟨x,H1,I1,r1,q1⟩=>?_
 refine thn (hb j8 s1 σ H1 _ I1 q1) λu s2 ⟨y,H2,I2,r2,q2⟩=>?_
 exact hf v u s2 x y H2 I2 r1 r2 q2
theorem qa5 {op:Operator}{r:R2}(ho:OpR X (binaryOp op) r) (ha:PE X a ta) (hb:PE X b tb):PE X (.BinOp a op b pos) (tOp r ta tb):=by
 intro j8 s σ H Q I h
 exact wpAny_BinOp (binT ha hb I h λv u s2 x y H2 I2 rx ry q=>ho j8 s2 σ H2 x y v u Q I2 rx ry q)
theorem xk3 {op:UnaryOp}{r:V->Hp->VK->Prop}(ho:UnR X (unaryOp op) r) (ha:PE X a ta):PE X (.UnaryOp op a pos) (tUn r ta):=by
 intro j8 s σ H Q I h
 exact UnaryOp_ (thn (ha j8 s σ H _ I h) λv s1 ⟨x,H1,I1,r1,q1⟩=>ho j8 s1 σ H1 x v Q I1 r1 q1)
theorem opI {f:Value->Value->Sem Value}{C:Int->Int->Prop}{g:Int->Int->Int}
  (rule:∀(i j:Int) (t u:Tok) (s:Shared) (Q:Value->Shared->Prop) (E:Value->Shared->Prop),C i j->Q (.int (g i j) s.toks) { s with toks:=s.toks+1 }->wpAny (model X.prog X.w) X.A (f (.int i t) (.int j u)) Q E s) :
  OpR X f (rI C λi j=>.int (g i j)):=by
 intro j8 s σ H x y v u Q I rx ry h
 obtain⟨i,j,rfl,rfl,hc,q⟩:=h
 obtain⟨t,rfl⟩:=rx
 obtain⟨t',rfl⟩:=ry
 exact rule i j t t' s _ _ hc ⟨.int (g i j),H,I.tok _,⟨_,rfl⟩,q⟩
theorem opI0 {f:Value->Value->Sem Value}{g:Int->Int->Int}
  (rule:∀(i j:Int) (t u:Tok) (s:Shared) (Q:Value->Shared->Prop) (E:Value->Shared->Prop),Q (.int (g i j) s.toks) { s with toks:=s.toks+1 }->wpAny (model X.prog X.w) X.A (f (.int i t) (.int j u)) Q E s) :
  OpR X f (rI0 λi j=>.int (g i j)):=by
 intro j8 s σ H x y v u Q I rx ry h
 obtain⟨i,j,rfl,rfl,q⟩:=h
 obtain⟨t,rfl⟩:=rx
 obtain⟨t',rfl⟩:=ry
 exact rule i j t t' s _ _ ⟨.int (g i j),H,I.tok _,⟨_,rfl⟩,q⟩
theorem opB0 {f:Value->Value->Sem Value}{g:Int->Int->Bool}
  (rule:∀(i j:Int) (t u:Tok) (s:Shared) (Q:Value->Shared->Prop) (E:Value->Shared->Prop),Q (.bool (g i j)) s->wpAny (model X.prog X.w) X.A (f (.int i t) (.int j u)) Q E s) :
  OpR X f (rI0 λi j=>.bl (g i j)):=by
 intro j8 s σ H x y v u Q I rx ry h
 obtain⟨i,j,rfl,rfl,q⟩:=h
 obtain⟨t,rfl⟩:=rx
 obtain⟨t',rfl⟩:=ry
 exact rule i j t t' s _ _ ⟨.bl (g i j),H,I,rfl,q⟩
def CDiv (i j:Int):Prop:=0<j/\j<1073741824
def CPow (i j:Int):Prop:=0<=j/\j<=1000000/\i.natAbs<2^64
def CMul (i j:Int):Prop:=(-(2^64)<i/\i<2^64)\/(-(2^64)<j/\j<2^64)
theorem CMul.ok {i j:Int}(h:CMul i j):IntMulOk i j:=by
 rcases h with ⟨h1,h2⟩|⟨h1,h2⟩
 ·exact .of_left (intBits_le_64 h1 h2)
 ·exact .of_right (intBits_le_64 h1 h2)
theorem qT0 (k:Nat):(0:Int)<=2^k:=by
 rw[two_pow_cast]
 exact VD _
theorem qd1:OpR X (binaryOp .Add) (rI0 λi j=>.int (i+j)):=opI0 λ_ _ _ _ _ _ _ q=>add_int q
theorem qf0:OpR X (binaryOp .Sub) (rI0 λi j=>.int (i-j)):=opI0 λ_ _ _ _ _ _ _ q=>sub_int q
theorem qf4:OpR X (binaryOp .Mult) (rI CMul λi j=>.int (i*j)):=opI λ_ _ _ _ _ _ _ hc q=>mul_int q hc.ok
theorem qg3:OpR X (binaryOp .FloorDiv) (rI CDiv λi j=>.int (i/j)):=opI λi j _ _ _ _ _ hc q=>by
 have h1:(0:Int)<j:=hc.1
 have h2:j<1073741824:=hc.2
 exact floordiv_int (by lia) (by rw[VE i (by lia)];exact q) (.inl (PyProof.noPylong_small (by lia)))
theorem qm0:OpR X (binaryOp .Mod) (rI (λ_ j=>0<j) λi j=>.int (i%j)):=opI λi j _ _ _ _ _ hc q=>by
 have h1:(0:Int)<j:=hc
 exact mod_int' (by lia) (by rw[Int.fmod_eq_emod_of_nonneg i (by lia)];exact q)
theorem xs8:OpR X (binaryOp .Pow) (rI CPow λi j=>.int (i^j.toNat)):=opI λ_ _ _ _ _ _ _ hc q=>pow_int_small hc.1 hc.2.1 hc.2.2 q
theorem qi3:OpR X (binaryOp .LShift) (rI CPow λi j=>.int (i*2^j.toNat)):=opI λ_ _ _ _ _ _ _ hc q=>lshift_int_small hc.1 hc.2.1 hc.2.2 q
theorem qM8:OpR X (binaryOp .RShift) (rI (λ_ j=>0<=j) λi j=>.int (i/2^j.toNat)):=opI λi j _ _ _ _ _ hc q=>
 rshift_int hc (by rw[VE i (qT0 _)];exact q)
theorem qD2:OpR X (binaryOp .BitAnd) (rI0 λi j=>.int (Builtin.bitAnd i j)):=opI0 λ_ _ _ _ _ _ _ q=>and_int q
theorem qW9:OpR X (inplaceOp .Add) (rI0 λi j=>.int (i+j)):=opI0 λ_ _ _ _ _ _ _ q=>iadd_int q
theorem unI {f:Value->Sem Value}{g:Int->Int}
  (rule:∀(i:Int) (t:Tok) (s:Shared) (Q:Value->Shared->Prop) (E:Value->Shared->Prop),Q (.int (g i) s.toks) { s with toks:=s.toks+1 }->wpAny (model X.prog X.w) X.A (f (.int i t)) Q E s) :
  UnR X f (rU λi=>.int (g i)):=by
 intro j8 s σ H x v Q I rx h
 obtain⟨i,rfl,q⟩:=h
 obtain⟨t,rfl⟩:=rx
 exact rule i t s _ _ ⟨.int (g i),H,I.tok _,⟨_,rfl⟩,q⟩
theorem qX0:UnR X (unaryOp .USub) (rU λi=>.int (-i)):=unI λ_ _ _ _ _ q=>neg_int q
end
def scal:V->V->Bool
 |.non,.non=>true|.non,.int _=>true|.int _,.non=>true|.non,.bl _=>true|.bl _,.non=>true|.non,.str _=>true|.str _,.non=>true
 |.int _,.int _=>true|.bl _,.bl _=>true|.str _,.str _=>true|.byt _,.byt _=>true
 |.int _,.str _=>true|.str _,.int _=>true|.bl _,.str _=>true|.str _,.bl _=>true
 |_,_=>false
def rEq:R2:=λx y H Q=>scal x y=true/\Q (.bl (decide (x=y))) H
def rNe:R2:=λx y H Q=>scal x y=true/\Q (.bl (!decide (x=y))) H
theorem qX1 {i j:Int}:decide (V.int i=V.int j)=(i==j):=by
 rw[Y0]
 simp
theorem xh6 {i j:Bool}:decide (V.bl i=V.bl j)=(i==j):=by
 rw[Y0]
 simp
theorem qX2 {i j:Str}:decide (V.str i=V.str j)=(i==j):=by
 rw[Y0]
 simp
theorem qX3 {i j:Array UInt8}:decide (V.byt i=V.byt j)=(i.toList==j.toList):=by
 rw[Y0]
 cases i
 cases j
 simp
section
variable {X:Cx}{a b c:Expr}{ta tb tc:TE}{pos:Pos}
theorem qc2 {j8:List (Addr×Obj)}{σ:St}{H:Hp}{s:Shared}{Q:VK}{k k':Bool}(I:Inv X j8 σ H s) (q:Q (.bl k) H) (e:k=k'):EP X j8 σ Q (.bool k') s:=by
 subst e
 exact⟨.bl k,H,I,rfl,q⟩
theorem xk4:OpR X (compareOp .Eq) rEq:=by
 intro j8 s σ H x y v u Q I rx ry h
 obtain⟨hs,q⟩:=h
 cases x with
 |non=>
  cases rx
  cases y with
  |non=>cases ry;exact PySem.EqNone.eq_none_none (qc2 I q (by simp))
  |bl j=>cases ry;exact PySem.EqNone.eq_none_bool (qc2 I q (by simp))
  |int j=>obtain⟨t',rfl⟩:=ry;exact PySem.EqNone.eq_none_int (qc2 I q (by simp))
  |str j=>obtain⟨t',rfl⟩:=ry;exact PySem.EqNone.eq_none_str (qc2 I q (by simp))
  |_=>exact absurd (show false=true from hs) Zt
 |bl i=>
  cases rx
  cases y with
  |non=>cases ry;exact PySem.EqNone.eq_bool_none (qc2 I q (by simp))
  |bl j=>cases ry;exact eq_bool (qc2 I q xh6)
  |str j=>obtain⟨t',rfl⟩:=ry;exact PySem.EqMixed.eq_bool_str (qc2 I q (by simp))
  |_=>exact absurd (show false=true from hs) Zt
 |int i=>
  obtain⟨t,rfl⟩:=rx
  cases y with
  |non=>cases ry;exact PySem.EqNone.eq_int_none (qc2 I q (by simp))
  |int j=>obtain⟨t',rfl⟩:=ry;exact eq_int (qc2 I q qX1)
  |str j=>obtain⟨t',rfl⟩:=ry;exact PySem.EqMixed.eq_int_str (qc2 I q (by simp))
  |_=>exact absurd (show false=true from hs) Zt
 |str i=>
  obtain⟨t,rfl⟩:=rx
  cases y with
  |non=>cases ry;exact PySem.EqNone.eq_str_none (qc2 I q (by simp))
  |bl j=>cases ry;exact PySem.EqMixed.eq_str_bool (qc2 I q (by simp))
  |int j=>obtain⟨t',rfl⟩:=ry;exact PySem.EqMixed.eq_str_int (qc2 I q (by simp))
  |str j=>obtain⟨t',rfl⟩:=ry;exact eq_str (qc2 I q qX2)
  |_=>exact absurd (show false=true from hs) Zt
 |byt i=>
  obtain⟨t,rfl⟩:=rx
  cases y with
  |byt j=>obtain⟨t',rfl⟩:=ry;exact PySem.W.eq_bytes (qc2 I q qX3)
  |_=>exact absurd (show false=true from hs) Zt
 |_=>cases y<;>exact absurd (show false=true from hs) Zt
theorem xk5:OpR X (compareOp .NotEq) rNe:=by
 intro j8 s σ H x y v u Q I rx ry h
 obtain⟨hs,q⟩:=h
 cases x with
 |non=>
  cases rx
  cases y with
  |non=>cases ry;exact PySem.EqNone.ne_none_none (qc2 I q (by simp))
  |bl j=>cases ry;exact PySem.EqNone.ne_none_bool (qc2 I q (by simp))
  |int j=>obtain⟨t',rfl⟩:=ry;exact PySem.EqNone.ne_none_int (qc2 I q (by simp))
  |str j=>obtain⟨t',rfl⟩:=ry;exact PySem.EqNone.ne_none_str (qc2 I q (by simp))
  |_=>exact absurd (show false=true from hs) Zt
 |bl i=>
  cases rx
  cases y with
  |non=>cases ry;exact PySem.EqNone.ne_bool_none (qc2 I q (by simp))
  |bl j=>cases ry;exact ne_bool (qc2 I q (Yd not xh6))
  |str j=>obtain⟨t',rfl⟩:=ry;exact PySem.EqMixed.ne_bool_str (qc2 I q (by simp))
  |_=>exact absurd (show false=true from hs) Zt
 |int i=>
  obtain⟨t,rfl⟩:=rx
  cases y with
  |non=>cases ry;exact PySem.EqNone.ne_int_none (qc2 I q (by simp))
  |int j=>obtain⟨t',rfl⟩:=ry;exact ne_int (qc2 I q (Yd not qX1))
  |str j=>obtain⟨t',rfl⟩:=ry;exact PySem.EqMixed.ne_int_str (qc2 I q (by simp))
  |_=>exact absurd (show false=true from hs) Zt
 |str i=>
  obtain⟨t,rfl⟩:=rx
  cases y with
  |non=>cases ry;exact PySem.EqNone.ne_str_none (qc2 I q (by simp))
  |bl j=>cases ry;exact PySem.EqMixed.ne_str_bool (qc2 I q (by simp))
  |int j=>obtain⟨t',rfl⟩:=ry;exact PySem.EqMixed.ne_str_int (qc2 I q (by simp))
  |str j=>obtain⟨t',rfl⟩:=ry;exact ne_str (qc2 I q (Yd not qX2))
  |_=>exact absurd (show false=true from hs) Zt
 |byt i=>
  obtain⟨t,rfl⟩:=rx
  cases y with
  |byt j=>obtain⟨t',rfl⟩:=ry;exact PySem.W.ne_bytes (qc2 I q (Yd not qX3))
  |_=>exact absurd (show false=true from hs) Zt
 |_=>cases y<;>exact absurd (show false=true from hs) Zt
theorem qh3:OpR X (compareOp .Lt) (rI0 λi j=>.bl (decide (i<j))):=opB0 λ_ _ _ _ _ _ _ q=>lt_int q
theorem qq0:OpR X (compareOp .LtE) (rI0 λi j=>.bl (decide (i<=j))):=opB0 λ_ _ _ _ _ _ _ q=>le_int q
theorem xk6:OpR X (compareOp .Gt) (rI0 λi j=>.bl (decide (j<i))):=opB0 λ_ _ _ _ _ _ _ q=>gt_int q
theorem qX4:OpR X (compareOp .In) (λx y H Q=>∃i j,x=.str i/\y=.str j/\Q (.bl (!(Builtin.Str.occurrences j i 0 j.length 1).isEmpty)) H):=by
 intro j8 s σ H x y v u Q I rx ry h
 obtain⟨i,j,rfl,rfl,q⟩:=h
 obtain⟨t,rfl⟩:=rx
 obtain⟨t',rfl⟩:=ry
 exact in_str (qc2 I q rfl)
theorem qb5 (b:Expr){op:CmpOp}(h:op≠.In:=by decide) (h2:op≠.NotIn:=by decide):behindInMarks op b=false:=by
 have e1:(op==CmpOp.In)=false:=by cases op<;>first|rfl|exact absurd rfl h
 have e2:(op==CmpOp.NotIn)=false:=by cases op<;>first|rfl|exact absurd rfl h2
 cases b<;>simp[behindInMarks,e1,e2]
theorem qf5 {op:CmpOp}{r:R2}(ho:OpR X (compareOp op) r) (ha:PE X a ta) (hb:PE X b tb) (hm:behindInMarks op b=false):PE X (.Compare a [op] [b] pos) (tOp r ta tb):=by
 intro j8 s σ H Q I h
 exact wpAny_Compare1 (binT ha hb I h λv u s2 x y H2 I2 rx ry q=>ho j8 s2 σ H2 x y v u Q I2 rx ry q) hm
def xs9 (t:TE):TT:=λσ H Q=>t σ H λx H'=>∃k,x=.bl k/\Q k H'
theorem qb6 {op:CmpOp}{r:R2}(ho:OpR X (compareOp op) r) (ha:PE X a ta) (hb:PE X b tb) (hm:behindInMarks op b=false):PT X (.Compare a [op] [b] pos) (xs9 (tOp r ta tb)):=by
 intro j8 s σ H Q I h
 refine wpAny_isTrue_Compare1 (thn (ha j8 s σ H _ I h) λv s1 ⟨x,H1,I1,r1,q1⟩=>thn (hb j8 s1 σ H1 _ I1 q1) λu s2 ⟨y,H2,I2,r2,q2⟩=>
  thn (ho j8 s2 σ H2 x y v u _ I2 r1 r2 q2) λc s3 ⟨z,H3,I3,r3,k,e,q3⟩=>?_) hm
 subst e
 cases r3
 exact Z1 ⟨H3,I3,q3⟩
def xh7 (r r':R2) (ta tb tc:TE):TE:=λσ H Q=>ta σ H λx H1=>tb σ H1 λy H2=>r x y H2 λz H3=>∃k,z=.bl k /\
 (if k=true then tc σ H3 λw' H4=>r' y w' H4 Q else Q (.bl false) H3)
theorem qq4 {op op':CmpOp}{r r':R2}(ho:OpR X (compareOp op) r) (ho':OpR X (compareOp op') r') (ha:PE X a ta) (hb:PE X b tb) (hc:PE X c tc)
  (hm:lastMarks [op,op'] [b,c]=false:=by with_unfolding_all rfl):PE X (.Compare a [op,op'] [b,c] pos) (xh7 r r' ta tb tc):=by
 intro j8 s σ H Q I h
 refine Compare_chain (thn (ha j8 s σ H _ I h) λv s1 ⟨x,H1,I1,r1,q1⟩=>chain_link (thn (hb j8 s1 σ H1 _ I1 q1) λu s2 ⟨y,H2,I2,r2,q2⟩=>
  thn (ho j8 s2 σ H2 x y v u _ I2 r1 r2 q2) λd s3 ⟨z,H3,I3,r3,k,e,q3⟩=>?_)) hm
 subst e
 cases r3
 refine Z1 ?_
 cases k with
 |false=>exact ite_ff ⟨.bl false,H3,I3,rfl,q3⟩
 |true=>exact ite_tt (chain_last (thn (hc j8 s3 σ H3 _ I3 q3) λw' s4 ⟨z',H4,I4,r4,q4⟩=>ho' j8 s4 σ H4 y z' u w' Q I4 r2 r4 q4))
theorem xa3 {op op':CmpOp}{r r':R2}(ho:OpR X (compareOp op) r) (ho':OpR X (compareOp op') r') (ha:PE X a ta) (hb:PE X b tb) (hc:PE X c tc)
  (hm:lastMarks [op,op'] [b,c]=false:=by with_unfolding_all rfl):PT X (.Compare a [op,op'] [b,c] pos) (xs9 (xh7 r r' ta tb tc)):=by
 intro j8 s σ H Q I h
 refine isTrue_chain (thn (ha j8 s σ H _ I h) λv s1 ⟨x,H1,I1,r1,q1⟩=>test_link (thn (hb j8 s1 σ H1 _ I1 q1) λu s2 ⟨y,H2,I2,r2,q2⟩=>
  thn (ho j8 s2 σ H2 x y v u _ I2 r1 r2 q2) λd s3 ⟨z,H3,I3,r3,k,e,q3⟩=>?_)) hm
 subst e
 cases r3
 refine Z1 ?_
 cases k with
 |false=>
  obtain⟨k',e',q'⟩:=q3
  cases e'
  exact ite_ff ⟨H3,I3,q'⟩
 |true=>
  refine ite_tt (test_last (thn (hc j8 s3 σ H3 _ I3 q3) λw' s4 ⟨z',H4,I4,r4,q4⟩=>thn (ho' j8 s4 σ H4 y z' u w' _ I4 r2 r4 q4) λd' s5 ⟨z2,H5,I5,r5,k2,e2,q5⟩=>?_))
  subst e2
  cases r5
  exact Z1 ⟨H5,I5,q5⟩
theorem qx8:(sizeLine:Nat)<2^63:=by rw[Wh];decide
theorem qx9:OpR X (binaryOp .Add) (λx y H Q=>∃i j,x=.str i/\y=.str j/\i.length+j.length<=sizeLine/\Q (.str (i++j)) H):=by
 intro j8 s σ H x y v u Q I rx ry h
 obtain⟨i,j,rfl,rfl,hz,q⟩:=h
 obtain⟨t,rfl⟩:=rx
 obtain⟨t',rfl⟩:=ry
 exact add_str (λt' tk=>⟨.str (i++j),H,I.tok _,⟨_,rfl⟩,q⟩) hz
theorem qe9 {x:V}{us:List Value}(r:Vals [x] us):∃u,us=[u]/\RelV x u:=by
 cases r with
 |cons r1 r2=>cases r2;exact⟨_,rfl,r1⟩
theorem xk7 {x y:V}{us:List Value}(r:Vals [x,y] us):∃u w',us=[u,w']/\RelV x u/\RelV y w':=by
 cases r with
 |cons r1 r2=>
  cases r2 with
  |cons r3 r4=>cases r4;exact⟨_,_,rfl,r1,r3⟩
theorem qM9:qe4 X (.builtin "abs") (λxs H Q=>∃i,xs=[.int i]/\Q (.int (if i<0 then -i else i)) H):=by
 intro j8 s σ H xs us Q I r h
 obtain⟨i,rfl,q⟩:=h
 obtain⟨u,rfl,t,rfl⟩:=qe9 r
 exact call_abs_int λu tk=>⟨.int (if i<0 then -i else i),H,I.tok _,⟨_,rfl⟩,q⟩
theorem qD3 (hc:X.calm=true):qe4 X (.builtin "max") (λxs H Q=>∃i j,xs=[.int i,.int j]/\Q (.int (if j>i then j else i)) H):=by
 intro j8 s σ H xs us Q I r h
 obtain⟨i,j,rfl,q⟩:=h
 obtain⟨u,w',rfl,⟨t,rfl⟩,⟨t',rfl⟩⟩:=xk7 r
 refine max_two_ints (I.ok.hd hc) λh' tk k=>⟨_,H,I.kept k,?_,q⟩
 by_cases hj:j>i
 ·rw[Zz hj,Zz hj];exact⟨_,rfl⟩
 ·rw[Zq hj,Zq hj];exact⟨_,rfl⟩
theorem qs3 (hc:X.calm=true):qe4 X (.builtin "min") (λxs H Q=>∃i j,xs=[.int i,.int j]/\Q (.int (if j<i then j else i)) H):=by
 intro j8 s σ H xs us Q I r h
 obtain⟨i,j,rfl,q⟩:=h
 obtain⟨u,w',rfl,⟨t,rfl⟩,⟨t',rfl⟩⟩:=xk7 r
 refine min_two_ints (I.ok.hd hc) λh' tk k=>⟨_,H,I.kept k,?_,q⟩
 by_cases hj:j<i
 ·rw[Zz hj,Zz hj];exact⟨_,rfl⟩
 ·rw[Zq hj,Zq hj];exact⟨_,rfl⟩
theorem qX5:qe4 X (.type "int") (λxs H Q=>(∃i,xs=[.int i]/\Q (.int i) H)\/∃k,xs=[.bl k]/\Q (.int (if k then 1 else 0)) H):=by
 intro j8 s σ H xs us Q I r h
 rcases h with ⟨i,rfl,q⟩|⟨k,rfl,q⟩
 ·obtain⟨u,rfl,t,rfl⟩:=qe9 r
  exact call_int_int ⟨.int i,H,I,⟨_,rfl⟩,q⟩
 ·obtain⟨u,rfl,r1⟩:=qe9 r
  cases r1
  exact call_int_bool ⟨.int (if k then 1 else 0),H,I.tok _,⟨_,rfl⟩,q⟩
theorem qp1:qe4 X (.type "str") (λxs H Q=>∃i,xs=[.int i]/\i.natAbs.log2<1920/\Q (.str (toString i)) H):=by
 intro j8 s σ H xs us Q I r h
 obtain⟨i,rfl,hz,q⟩:=h
 obtain⟨u,rfl,t,rfl⟩:=qe9 r
 exact PySem.P.str_of_int hz ⟨.str _,H,I.tok _,⟨_,rfl⟩,q⟩
end
structure ObjM (h:Heap) (x dx C:Addr) (mA:Str->Option Value):Prop where
 obj:h.get? x=some (PySem.W.instObj C dx)
 ns:h.Ns1 dx mA
 ne:dx≠x
theorem qX6 {h:Heap}{dx:Addr}{mA:Str->Option Value}(n:h.Ns1 dx mA):∃od,h.get? dx=some od/\∀name,PySem.W.lookIn name od=some (mA name):=by
 obtain⟨o,es,ep,ho,hd,hk,_,hm⟩:=n
 refine⟨o,ho,λname=>?_⟩
 have e:=hm name
 unfold nsFind findBy at e
 rw[<- Array.find?_toList] at e
 unfold PySem.W.lookIn
 rw[hd]
 dsimp only
 split
 ·rename_i y q
  rw[q] at e
  exact Yd some e
 ·rename_i q
  rw[q] at e
  have a:es.toList.any (·.refKey)=false:=by
   rw[VQ]
   intro y hy
   obtain⟨z,t,kG⟩:=hk y (Array.mem_toList_iff.mp hy)
   simp[DictEntry.refKey,kG]
  have a':¬es.toList.any (·.refKey)=true:=by rw[a];exact Zt
  rw[Zq a']
  exact Yd some e
theorem ObjM.look {h:Heap}{x dx C:Addr}{mA:Str->Option Value}(I:ObjM h x dx C mA):∃od,PySem.W.InstAt h x (PySem.W.instObj C dx) C (some od)/\∀name,PySem.W.lookIn name od=some (mA name):=
 let ⟨od,ho,hl⟩:=qX6 I.ns
 ⟨od,⟨I.obj,rfl,rfl,ho⟩,hl⟩
section
variable {prog:Program}{w:World}{A:Around}{E:Value->Shared->Prop}{s:Shared}{K:PySem.W.Frag}{x dx C f:Addr}{mA:Str->Option Value}{name:Str}{v:Value}
end
theorem RelO.some_of {v:V}{o:Option Value}(r:RelO (some v) o):∃u,o=some u/\RelV v u:=by
 cases o with
 |none=>exact (show False from r).elim
 |some u=>exact⟨u,rfl,r⟩
section
variable {P:Program}{w:World}{H H':Hp}{h h':Heap}{a C dx:Addr}{fs fs':List (Str×V)}
theorem xk8 (hok:HOk P w H h) (e:H a=some (.ins C dx fs)):∃mA,ObjM h a dx C mA/\(∀f,RelO (fs.lookup f) (mA f))/\PySem.Within mA (fs.map (·.1))/\fs.length<=1000/\H dx=some (.own a):=by
 obtain⟨d,z,ne,ob,mA,n,r,q⟩:=(show ObjOk P w H h a (.ins C dx fs) from hok a _ e)
 exact⟨mA,⟨ob,n,ne⟩,r,q,z,d⟩
end
structure Cls (K:PySem.W.Frag) (C:Addr):Prop where
 pg:PySem.W.plainGet K C Str.empty=true
 hd:PySem.W.hasDictIn K C=true
 po:PySem.W.plainOver K C=true
 sa:PySem.W.findIn K (.ref C) "__setattr__" = some (some (.builtin "object.__setattr__"))
theorem Cls.get {K:PySem.W.Frag}{C:Addr}(c:Cls K C) (f:Str):PySem.W.plainGet K C f=true:=c.pg
section
variable {X:Cx}{j8:List (Addr×Obj)}{σ:St}{H:Hp}{s:Shared}{a C dx:Addr}{fs:List (Str×V)}{f:Str}{v:V}{A:Around}{E:Value->Shared->Prop}
end
section
variable {X:Cx}{o e value:Expr}{f:Str}{pos pos' tpos:Pos}{ta tv:TE}
end
section
variable {X:Cx}{j8:List (Addr×Obj)}{σ:St}{H:Hp}{s:Shared}{A:Around}{E:Value->Shared->Prop}{Q:Value->Shared->Prop}{c:Value}{b:Bool}
inductive TyOf (K:PySem.W.Frag) (H:Hp):V->Value->Prop where
 |non:TyOf K H .non (.type "NoneType")
 |bl (x:Bool):TyOf K H (.bl x) (.type "bool")
 |int (i:Int):TyOf K H (.int i) (.type "int")
 |str (x:Str):TyOf K H (.str x) (.type "str")
 |flt (x:UInt64):TyOf K H (.flt x) (.type "float")
 |lst {a:Addr}{xs:List V}(e:H a=some (.lst xs)):TyOf K H (.ref a) (.type "list")
 |frz {a:Addr}{o:Obj}{xs:List V}(e:H a=some (.frz o (.lst xs))):TyOf K H (.ref a) (.type "list")
 |tup {a:Addr}{xs:List V}(e:H a=some (.tup xs)):TyOf K H (.ref a) (.type "tuple")
 |dK {a:Addr}{kvs:List (Key×V)}(e:H a=some (.dK kvs)):TyOf K H (.ref a) (.type "dict")
 |dT {a:Addr}{kvs:List (List Key×V)}(e:H a=some (.dT kvs)):TyOf K H (.ref a) (.type "dict")
 |ins {a C dx:Addr}{fs:List (Str×V)}(e:H a=some (.ins C dx fs)) (cl:Cls K C) (ha:PySem.W.findIn K (.ref C) "__class__" = some (some (.builtin "object.__class__")))
   (hn:PySem.W.specialIn K (.builtin "object.__class__") "__get__" = some (some (.builtin "getset_descriptor.__get__"))) (htk:PySem.W.takesIn K (.builtin "object.__class__")=some true)
   (hm:PySem.W.mroIn K C (.type "object")=some true):TyOf K H (.ref a) (.ref C)
theorem qX7 {x:V}{u t:Value}(I:Inv X j8 σ H s) (rx:RelV x u) (ty:TyOf X.K H x t) (e:PySem.W.kitOne X.K t c=some b) (h:∀tk,Q (.bool b) { s with toks:=tk }) :
  wpAny (model X.prog X.w) A (call (.builtin "isinstance") [u,c]) Q E s:=by
 cases ty with
 |non=>cases (show u=Value.none from rx);exact YE PySem.W.kitx_none I.kIn True.intro e (λz=>nomatch z) h
 |bl y=>cases (show u=Value.bool y from rx);exact YE PySem.W.kitx_bool I.kIn True.intro e (λz=>nomatch z) h
 |int i=>obtain⟨t,q⟩:=(show ∃t,u=Value.int i t from rx);cases q;exact YE PySem.W.kitx_int I.kIn True.intro e (λz=>nomatch z) h
 |str y=>obtain⟨t,q⟩:=(show ∃t,u=Value.str y t from rx);cases q;exact YE PySem.W.kitx_str I.kIn True.intro e (λz=>nomatch z) h
 |flt y=>obtain⟨t,q⟩:=(show ∃t,u=Value.float y t from rx);cases q;exact YE PySem.W.kitx_float I.kIn True.intro e (λz=>nomatch z) h
 |@lst a xs ea=>
  cases (show u=Value.ref a from rx)
  obtain⟨_,_,n,_,h1⟩:=(show ObjOk X.prog X.w H s.heap a (.lst xs) from I.hok a _ ea)
  exact YE PySem.W.kitx_list I.kIn ⟨_,h1,rfl⟩ e (λz=>nomatch z) h
 |@frz a ob xs ea=>
  cases (show u=Value.ref a from rx)
  obtain⟨_,_,_,n,_,h1⟩:=(show ObjOk X.prog X.w H s.heap a (.frz ob (.lst xs)) from I.hok a _ ea)
  exact YE PySem.W.kitx_list I.kIn ⟨_,h1,rfl⟩ e (λz=>nomatch z) h
 |@tup a xs ea=>
  cases (show u=Value.ref a from rx)
  obtain⟨_,_,_,p⟩:=(show ObjOk X.prog X.w H s.heap a (.tup xs) from I.hok a _ ea)
  obtain⟨o,h1,h2,_⟩:=p
  exact YE PySem.W.kitx_tuple I.kIn ⟨o,h1,h2⟩ e (λz=>nomatch z) h
 |@dK a kvs ea=>
  cases (show u=Value.ref a from rx)
  obtain⟨_,_,vs,_,p⟩:=(show ObjOk X.prog X.w H s.heap a (.dK kvs) from I.hok a _ ea)
  obtain⟨o,es,ep,h1,h2,_⟩:=p
  exact YE PySem.W.kitx_dict I.kIn ⟨o,h1,h2.1⟩ e (λz=>nomatch z) h
 |@dT a kvs ea=>
  cases (show u=Value.ref a from rx)
  obtain⟨_,_,xs,_,o,es,ep,h1,h2,_⟩:=(show ObjOk X.prog X.w H s.heap a (.dT kvs) from I.hok a _ ea)
  exact YE PySem.W.kitx_dict I.kIn ⟨o,h1,h2.1⟩ e (λz=>nomatch z) h
 |@ins a C dx fs ea cl ha hn htk hm=>
  cases (show u=Value.ref a from rx)
  obtain⟨mA,O,_⟩:=xk8 I.hok ea
  obtain⟨od,J,_⟩:=O.look
  exact YE (PySem.W.kitx_own (cl.get _) cl.hd ha hn htk hm) I.kIn J e (λz=>nomatch z) h
end
structure Room (k:Nat) (A:Around):Prop where
 hd:A.handled=none
 dp:A.depth+3*k+5<recursionLimit
 un:A.units+16*k+200<cLine
 gd:A.guards=some []
theorem Room.mono {j k:Nat}{A:Around}(r:Room k A) (h:j<=k):Room j A:=⟨r.hd,by have:=r.dp;lia,by have:=r.un;lia,r.gd⟩
theorem Room.deeper {k:Nat}{A:Around}(r:Room (k+1) A) (env:Env):Room k (A.deeper env):=
 ⟨r.hd,by have:=r.dp;show A.depth+1+3*k+5<_;lia,by have:=r.un;show A.units+3+16*k+200<_;lia,r.gd⟩
theorem Room.depth {k:Nat}{A:Around}(r:Room k A):A.depth<recursionLimit:=by have:=r.dp;lia
theorem Room.units {k:Nat}{A:Around}(r:Room k A):A.units+64<cLine:=by have:=r.un;lia
def tNil:TA:=λ_ H Q=>Q [] H
def qD4 (ta:TE) (tr:TA):TA:=λσ H Q=>ta σ H λx H1=>tr σ H1 λxs H2=>Q (x::xs) H2
section
variable {X:Cx}{e:Expr}{es:List Expr}{te:TE}{t:TA}{pos:Pos}
theorem qa1:PA X [] tNil:=λ_ _ _ _ H Q I h=>Calls.spliced_nil ⟨[],H,I,.nil,h⟩
theorem qa0 (ha:PE X e te) (hr:PA X es t) (hs:starEach (e::es) X.env=(false,eval e X.env)::starEach es X.env:=by rfl):PA X (e::es) (qD4 te t):=by
 intro pos j8 s σ H Q I h
 rw[hs]
 show wpAny _ _ (spliced ((false,eval e X.env)::backTo pos (starEach es X.env))) _ _ s
 refine Calls.spliced_cons (thn (ha j8 s σ H _ I h) λu s1 ⟨x,H1,I1,r1,q1⟩=>?_)
 exact thn (hr pos j8 s1 σ H1 _ I1 q1) λus s2 ⟨xs,H2,I2,r2,q2⟩=>⟨x::xs,H2,I2,.cons r1 r2,q2⟩
def tTup (t:TA):TE:=λσ H Q=>t σ H λxs H1=>xs.length<=sizeLine/\∀p,H1 p=none->Q (.ref p) (upd H1 p (.tup xs))
def tLst (t:TA):TE:=λσ H Q=>t σ H λxs H1=>xs.length<=sizeLine/\∀p,H1 p=none->Q (.ref p) (upd H1 p (.lst xs))
theorem qi4 {x1} (h:PA X es t):PE X (.Tuple es x1 pos) (tTup t):=by
 intro j8 s σ H Q I hq
 refine wpAny_Tuple_spliced (thn (h pos j8 s σ H _ I hq) λus s1 ⟨xs,H1,I1,r,z,q⟩=>⟨by rw[<- r.length];exact z,?_⟩)
 have hf:H1 s1.heap.objs.size=none:=I1.hok.fresh (Zd _)
 refine⟨.ref s1.heap.objs.size,upd H1 s1.heap.objs.size (.tup xs),I1.laid (t':=s1.toks) (λb u e=>Zc _ e) (Zd _) ?_,rfl,q _ hf⟩
 exact⟨z,us,r,⟨_,Zh _ rfl,rfl,⟨_,rfl⟩,rfl⟩⟩
theorem qj0 (h:PA X es t):PE X (.List es pos) (tLst t):=by
 intro j8 s σ H Q I hq
 refine wpAny_List_spliced (thn (h pos j8 s σ H _ I hq) λus s1 ⟨xs,H1,I1,r,z,q⟩=>⟨by rw[<- r.length];exact z,?_⟩)
 have hf:H1 s1.heap.objs.size=none:=I1.hok.fresh (Zd _)
 refine⟨.ref s1.heap.objs.size,upd H1 s1.heap.objs.size (.lst xs),I1.laid (t':=s1.toks) (λb u e=>Zc _ e) (Zd _) ?_,rfl,q _ hf⟩
 exact⟨z,us,0,r,Zh _ rfl⟩
end
abbrev Sp:=List V->Hp->VK->XK->Prop
abbrev CXT:=List Env->Hp->Shared->XK->Value->Shared->Prop
structure Env0 (P:Program) (w:World) (K:PySem.W.Frag) (mg:Str->Option Value) (base:Heap) (A:Around) (outer:List Env) (s:Shared) (H:Hp):Prop where
 frames:A.frames=some outer
 mod:Mod K mg base
 bs:∀b o,base.get? b=some o->s.heap.get? b=some o/\H b=none
 bsz:base.objs.size<=s.heap.objs.size
 funs:s.heap.FunFrames base outer
 frf:∀b∈frs outer,H b=none
 hok:HOk P w H s.heap
 bare:AllBare s.gens
def CE (outer:List Env) (P:Program) (w:World) (H:Hp) (s:Shared) (Q:VK) (u:Value) (s':Shared):Prop:=
 ∃v H',s'.os=s.os/\AllBare s'.gens/\Un (frs outer) [] H H' s.heap s'.heap/\HOk P w H' s'.heap/\RelV v u/\Q v H'
def CR (CX:CXT) (outer:List Env) (P:Program) (w:World) (H:Hp) (s:Shared) (Q:VK) (E:XK) (r:Result) (s':Shared):Prop:=
 match r with
 |.ok (.ret u)=>CE outer P w H s Q u s'
 |.ok _=>False
 |.error e=>CX outer H s E e s'
structure FnOk (P:Program) (w:World) (K:PySem.W.Frag) (mg:Str->Option Value) (base:Heap) (CX:CXT) (k:Nat) (f:Addr) (fd:FuncData) (ps:List Str) (sp:Sp):Prop where
 len:∀vs H Q E,sp vs H Q E->vs.length=ps.length
 run:∀(A:Around) (outer:List Env) (s:Shared) (H:Hp) (args:Args) (us:List Value) (vs:List V) (Q:VK) (E:XK),Room k A->Env0 P w K mg base A outer s H->BindsTo s fd args (ps.zip us)->Vals vs us->sp vs H Q E ->
  codeAny (model P w) A (.call (.ref f) args) (CR CX outer P w H s Q E) s
section
variable {X:Cx}{j8:List (Addr×Obj)}{σ:St}{H:Hp}{s s':Shared}
theorem Inv.env0 (I:Inv X j8 σ H s):Env0 X.prog X.w X.K X.mg X.base X.A X.stack s H:=
 ⟨I.ok.frames,I.ok.mod,I.bs,ZE I.ok.bsz I.sz,I.stack,I.stkFree,I.hok,I.bare⟩
theorem Inv.after {Q:VK}{u:Value}(I:Inv X j8 σ H s) (h:CE X.stack X.prog X.w H s Q u s'):EP X j8 σ Q u s':=by
 obtain⟨v,H',os,bare,un,hok,r,q⟩:=h
 obtain⟨hh,g,d,t,os'⟩:=s'
 obtain rfl:os'=s.os:=os
 exact⟨v,H',I.call (h':=hh) (g':=g) (d':=d) (t':=t) (ch:=[]) un hok bare (λb z=>absurd z (by simp)),r,q⟩
end
def xa4 (sp:Sp) (dvs:List V) (E:XK) (t:TA):TE:=λσ H Q=>t σ H λvs H1=>sp (vs++dvs) H1 Q E
def Binds (K:PySem.W.Frag) (fd:FuncData) (ps:List Str) (ds:List Value):Prop:=
 ∀(s:Shared) (us:List Value),K.In s.heap->(us++ds).length=ps.length->BindsTo s fd ⟨us,[]⟩ (ps.zip (us++ds))
theorem Binds.all {K:PySem.W.Frag}{fd:FuncData}{ps:List Str}(h:∀us:List Value,us.length=ps.length->bindArgs fd ⟨us,[]⟩=pure (ps.zip us)):Binds K fd ps []:=λs us _ hl=>by
 rw[Y1] at hl ⊢
 exact .of_eq (h us hl)
def qX8 (CX:CXT) (X:Cx) (E:XK):Prop:=∀(j8:List (Addr×Obj)) (σ:St) (H:Hp) (s:Shared) (e:Value) (s':Shared),Inv X j8 σ H s->CX X.stack H s E e s'->X.xe e s'
section
variable {X:Cx}{CX:CXT}{k:Nat}{f C:Addr}{fd:FuncData}{ps:List Str}{sp:Sp}{dvs:List V}{ds:List Value}{E:XK}{x m:Str}{p pos apos:Pos}{e o:Expr}{es:List Expr}{ta:TE}{t:TA}
theorem xt0 {j8:List (Addr×Obj)}{σ:St}{H:Hp}{s:Shared}{Q:VK}{us:List Value}{vs:List V}(F:FnOk X.prog X.w X.K X.mg X.base CX k f fd ps sp) (hr:Room k X.A) (hb:Binds X.K fd ps ds) (hd:Vals dvs ds) (hx:qX8 CX X E)
  (I:Inv X j8 σ H s) (r:Vals vs us) (h:sp (vs++dvs) H Q E):wpAny (model X.prog X.w) X.A (call (.ref f) us) (EP X j8 σ Q) X.xe s:=by
 have r2:Vals (vs++dvs) (us++ds):=r.append hd
 have hl:(us++ds).length=ps.length:=by rw[<- r2.length];exact F.len _ _ _ _ h
 refine wpAny_call (Ws (F.run X.A X.stack s H ⟨us,[]⟩ (us++ds) (vs++dvs) Q E hr I.env0 (hb s us I.kIn hl) r2 h) λr s' hq=>?_)
 cases r with
 |error e=>exact hx j8 σ H s e s' I hq
 |ok fl=>
  cases fl with
  |ret u=>exact I.after hq
  |next=>exact False.elim hq
  |brk=>exact False.elim hq
  |cont=>exact False.elim hq
theorem qX9 (F:FnOk X.prog X.w X.K X.mg X.base CX k f fd ps sp) (hr:Room k X.A) (hg:Gl X x) (hm:X.mg x=some (.ref f)) (hk:PySem.W.keepIn X.K (.ref f)=true) (hb:Binds X.K fd ps ds) (hd:Vals dvs ds) (hx:qX8 CX X E)
  (ha:PA X (e::es) t) (vG:(x==("__debug__" : Str))=false:=by decide) (he:starEach (e::es) X.env=(false,eval e X.env)::starEach es X.env:=by rfl) (jF:(backTo pos (starEach es X.env)).any (·.1)=false:=by rfl) :
  PE X (.Call (.Name x p) (e::es) [] pos) (xa4 sp dvs E t):=by
 intro j8 s σ H Q I h
 refine VF (qW4 I hg hm ?_ vG)
 refine PySem.W.callWith_K (h₀:=X.base) I.ok.mod.kin hk (thn (ha pos j8 s σ H _ I h) λus s1 ⟨vs,H1,I1,r,q⟩=>⟨I1.kIn,?_⟩) he jF
 exact xt0 F hr hb hd hx I1 r q
end
section
variable {X:Cx}{CX:CXT}{k:Nat}{f C:Addr}{fd:FuncData}{ps ks:List Str}{sp:Sp}{E:XK}{x m:Str}{p pos apos kpos:Pos}{e o:Expr}{es:List Expr}{kws:List Keyword}{te ta:TE}{t tk:TA}{nm:Option Str}
variable {g:List Value->List Value->List Value}{gV:List V->List V->List V}
end
structure FnScope (N P:List Str) (sc:Scope):Prop where
 kind:sc.kind=.function
 co:sc.isCoroutine=false
 gen:sc.isGenerator=false
 nd:N.Nodup
 pre:N.take P.length=P
 par:∀x∈P,sc.names.lookup x=some .local\/sc.names.lookup x=some .cell
 nofree:∀y∈sc.names,y.2≠.free
theorem qD5 {kindOf:Str->Option NameKind}{x:Str}:∀{binds:List (Str×Value)}{m:Str->Option Value},(∀v,(x,v)∉binds)->bindL kindOf binds m x=m x
 |[],_,_=>rfl
 |(n,v)::r,m,h=>by
  unfold bindL
  rw[qD5 λw hw=>h w (Zn _ hw)]
  split
  ·have:x≠n:=by rintro rfl;exact h v ZC
   simp[this]
  ·rfl
theorem qD6 {kindOf:Str->Option NameKind}{x:Str}:∀{binds:List (Str×Value)}{m:Str->Option Value},(∀v,(x,v)∉binds)->bindC kindOf binds m x=m x
 |[],_,_=>rfl
 |(n,v)::r,m,h=>by
  unfold bindC
  rw[qD6 λw hw=>h w (Zn _ hw)]
  split
  ·rfl
  ·have:x≠n:=by rintro rfl;exact h v ZC
   simp[this]
theorem qD7 {kindOf:Str->Option NameKind}{x:Str}{v:Value}:∀{P:List Str}{vs:List Value}{i:Nat}{m:Str->Option Value},P.Nodup->P[i]?=some x->vs[i]?=some v->kindOf x=some .local ->
  bindL kindOf (P.zip vs) m x=some v
 |[],_,_,_,_,h,_,_=>by simp at h
 |_::_,[],_,_,_,_,h,_=>by simp at h
 |p::P,w::vs,0,m,nd,h1,h2,hk=>by
  simp at h1 h2;subst h1;subst h2
  show bindL kindOf ((p,w)::P.zip vs) m p=_
  unfold bindL
  rw[qD5 λv hv=>(Yg.mp nd).1 (Ug hv).1,Zz hk]
  simp
 |p::P,w::vs,i+1,m,nd,h1,h2,hk=>by
  show bindL kindOf ((p,w)::P.zip vs) m x=_
  unfold bindL
  exact qD7 (i:=i) (Yg.mp nd).2 (by simpa using h1) (by simpa using h2) hk
theorem qD8 {kindOf:Str->Option NameKind}{x:Str}{v:Value}:∀{P:List Str}{vs:List Value}{i:Nat}{m:Str->Option Value},P.Nodup->P[i]?=some x->vs[i]?=some v->kindOf x≠some .local ->
  bindC kindOf (P.zip vs) m x=some v
 |[],_,_,_,_,h,_,_=>by simp at h
 |_::_,[],_,_,_,_,h,_=>by simp at h
 |p::P,w::vs,0,m,nd,h1,h2,hk=>by
  simp at h1 h2;subst h1;subst h2
  show bindC kindOf ((p,w)::P.zip vs) m p=_
  unfold bindC
  rw[qD6 λv hv=>(Yg.mp nd).1 (Ug hv).1,Zq hk]
  simp
 |p::P,w::vs,i+1,m,nd,h1,h2,hk=>by
  show bindC kindOf ((p,w)::P.zip vs) m x=_
  unfold bindC
  exact qD8 (i:=i) (Yg.mp nd).2 (by simpa using h1) (by simpa using h2) hk
def start (N:List Str) (vs:List V):St:=vs.map some++List.replicate (N.length-vs.length) none
def cxOf (CX:CXT) (P:Program) (w:World) (K:PySem.W.Frag) (mg:Str->Option Value) (base:Heap) (N:List Str) (qual:Str) (scope:Scope) (f:Addr) (cd:Value) (A:Around) (outer:List Env) (s:Shared) (H:Hp) (E:XK):Cx where
 prog:=P
 w:=w
 K:=K
 mg:=mg
 base:=base
 A:=A.deeper (envOfC qual scope s.heap.objs.size f cd)
 N:=N
 s₀:=s
 H₀:=H
 env:=envOfC qual scope s.heap.objs.size f cd
 outer:=outer
 stack:=envOfC qual scope s.heap.objs.size f cd::outer
 ex:=[]
 calm:=true
 fn:=λ_=>true
 pn:=[]
 xe:=λe s'=>wpAny (model P w) (A.deeper (envOfC qual scope s.heap.objs.size f cd)) (leaving (envOfC qual scope s.heap.objs.size f cd) e) (λ_ s''=>CX outer H s E e s'') (λe' s''=>CX outer H s E e' s'') s'
theorem qN0 {sc:Scope}{n:Nat}{x:Str}(h:sc.names.lookup x=some .cell):∃c,(cellsFrom n sc.names []).lookup x=some c:=by
 have q:=PySem.W.cellsFrom_some sc.names n [] (.inl h)
 exact Y8.mp q
theorem qY0 {CX:CXT}{P:Program}{w:World}{K:PySem.W.Frag}{mg:Str->Option Value}{base:Heap}{N ps:List Str}{qual:Str}{scope:Scope}{f:Addr}{cd:Value}{A:Around}{outer:List Env}{s s1:Shared}{H:Hp}{E:XK}{us:List Value}{vs:List V}
  (S:FnScope N ps scope) (hd:A.handled=none) (e0:Env0 P w K mg base A outer s H) (hl:vs.length=ps.length) (r:Vals vs us)
  (x:InCallC s s.heap.objs.size (bindL (envOfC qual scope s.heap.objs.size f cd).kindOf (ps.zip us) λ_=>none) (cellsFrom (s.heap.objs.size+1) scope.names []) (bindC (envOfC qual scope s.heap.objs.size f cd).kindOf (ps.zip us) λ_=>none) s1) :
  Inv (cxOf CX P w K mg base N qual scope f cd A outer s H E) [] (start N vs) H s1:=by
 have jF:ps.length<=N.length:=by have:=Yd List.length S.pre;rw[Xm] at this;lia
 obtain⟨h1,tk,rfl,hk⟩:=x.done
 have noA:∀b:Addr,b∉(cxOf CX P w K mg base N qual scope f cd A outer s H E).ex:=λb z=>absurd (show b∈([]:List Addr) from z) (by simp)
 refine⟨⟨e0.mod,S.kind,rfl,rfl,Zd _,λy z c h1 h2=>?_,λy hy=>?_,λy c _ h=>?_,λ_=>hd,Around.frames_deeper e0.frames,.inr ⟨rfl,rfl⟩,λb z=>absurd z (noA b),e0.bs,e0.bsz,λb _ _=>noA b,λb z=>absurd z (noA b),e0.funs,e0.frf⟩,
  rfl,e0.bare,Un.kept hk,⟨_,x.toInCall.ns,λi y v h1 h2 h3=>?_⟩,λy c h=>⟨_,x.cell y c h⟩,e0.hok.fresh (Zd _),λy c h=>?_,λp hp=>absurd (show p∈([]:List (Addr×Obj)) from hp) (by simp),e0.hok.kept hk,?_⟩
 ·exact name_of_addr x.apart (XO h1) (XO h2)
 ·have hy:scope.names.lookup y=some .cell\/scope.names.lookup y=some .free:=hy
  rcases hy with hy|hy
  ·exact qN0 hy
  ·exact absurd rfl (S.nofree _ (XO hy))
 ·exact Xk (x.above y c (XO h))
 ·have hi:i<vs.length:=by
   unfold start at h2
   by_cases hi:i<vs.length
   ·exact hi
   ·rw[ZF (by simpa using hi)] at h2
    rw[List.getElem?_replicate] at h2
    split at h2<;>cases h2
  have ha:vs[i]?=some v:=by
   unfold start at h2
   rw[ZD (by simpa using hi),Zg] at h2
   cases e:vs[i]? with
   |none=>rw[e] at h2;cases h2
   |some a=>rw[e] at h2;cases h2;rfl
  obtain⟨u,hu,rv⟩:=r.get ha
  have hp:ps[i]?=some y:=by
   rw[<- S.pre,List.getElem?_take_of_lt (by lia)];exact h1
  have ndP:ps.Nodup:=by rw[<- S.pre];exact S.nd.sublist (List.take_sublist _ _)
  refine⟨u,rv,?_⟩
  rcases S.par y (Zv hp) with k|k
  ·exact .inl ⟨k,qD7 ndP hp hu k⟩
  ·obtain⟨c,e⟩:=qN0 (n:=s.heap.objs.size+1) k
   refine .inr ⟨.inl k,c,e,?_⟩
   have q:=x.cell y c e
   rw[qD8 ndP hp hu (by show scope.names.lookup y≠_;rw[k];decide)] at q
   exact q
 ·exact e0.hok.fresh (Xk (x.above y c (XO h)))
 ·unfold start
  show _=N.length
  rw[Zw,Zf,List.length_replicate]
  lia
theorem xz1 {CX:CXT}{P:Program}{w:World}{K:PySem.W.Frag}{mg:Str->Option Value}{base:Heap}{k:Nat}{f:Addr}{name qual:Str}{params:Arguments}{body:List Stmt}{scope:Scope}{dV kV doc pm cdv ct oc:Value}{an od:Option Addr}
  {osl:Array (Option Value)}{N ps:List Str}{sp:Sp}(lk:K.lookup f=some ⟨oc,od,.func (PySem.W.fnOf name qual params body scope dV kV doc pm an cdv ct),osl⟩) (kQ:PySem.W.codeIn K cdv qual=true) (S:FnScope N ps scope)
  (len:∀vs H Q E,sp vs H Q E->vs.length=ps.length)
  (hbody:∀(A:Around) (outer:List Env) (s:Shared) (H:Hp) (vs:List V) (Q:VK) (E:XK),Room k (A.deeper (envOfC qual scope s.heap.objs.size f cdv))->sp vs H Q E ->
   ∃t,PSs (cxOf CX P w K mg base N qual scope f cdv A outer s H E) body t/\t { nx:=λ_ H'=>Q .non H',rt:=Q } (start N vs) H) :
  FnOk P w K mg base CX (k+1) f (PySem.W.fnOf name qual params body scope dV kV doc pm an cdv ct) ps sp:=by
 refine⟨len,λA outer s H args us vs Q E hr e0 hb r vK=>?_⟩
 have hl:=len _ _ _ _ vK
 have KX:K.In s.heap:=e0.mod.kin.keeps λb o e=>(e0.bs b o e).1
 have lim:s.heap.NoLimit:=e0.mod.nolimit.keeps λb o e=>(e0.bs b o e).1
 have jC:∀y∈ps.zip us,scope.names.lookup y.1=some .local\/(scope.names.lookup y.1=some .cell/\((cellsFrom (s.heap.objs.size+1) scope.names []).lookup y.1).isSome=true):=λ⟨n,v⟩ hy=>by
  rcases S.par n (Ug hy).1 with q|q
  ·exact .inl q
  ·exact .inr ⟨q,PySem.W.cellsFrom_some _ _ _ (.inl q)⟩
 refine codeAny_call_function hr.depth (KX _ _ lk) rfl S.co S.gen rfl (PySem.W.codeRec_of KX kQ) (hb _ _ _ _ ?_)
 refine wpAny_newFunctionEnv_cells S.kind jC λenv he s1 x=>?_
 subst he
 refine⟨lim.keeps x.toInCall.keep,codeAny_func ?_⟩
 obtain⟨t,ht,hq⟩:=hbody A outer s H vs Q E (hr.deeper _) vK
 have I:Inv (cxOf CX P w K mg base N qual scope f cdv A outer s H E) [] (start N vs) H s1:=qY0 S hr.hd e0 hl r x
 refine Yw (ht [] s1 (start N vs) H _ I hq) (λfl s' hs=>?_) λe s' hs=>hs
 have fin:∀{σ':St}{H':Hp}{v:V}{u:Value},Inv (cxOf CX P w K mg base N qual scope f cdv A outer s H E) [] σ' H' s'->RelV v u->Q v H'->CE outer P w H s Q u s':=
  λ{σ' H' v u} J rv q=>⟨v,H',J.os,J.bare,J.base,J.hok,rv,q⟩
 cases fl with
 |ret u=>
  obtain⟨v,σ',H',J,rv,q⟩:=hs
  exact fin J rv q
 |next=>
  obtain⟨σ',H',J,q⟩:=hs
  exact fin (v:=V.non) (u:=Value.none) J rfl q
 |brk=>
  obtain⟨_,_,_,q⟩:=hs
  exact False.elim q
 |cont=>
  obtain⟨_,_,_,q⟩:=hs
  exact False.elim q
section
variable {X:Cx}{x:Str}{p pos:Pos}{e:Expr}{es:List Expr}{t:TA}{id T:String}{r:List V->Hp->VK->Prop}
def tCB (r:List V->Hp->VK->Prop) (t:TA):TE:=λσ H Q=>t σ H λvs H1=>r vs H1 Q
theorem qa8 (hc:qe4 X (.builtin id) r) (hg:Gl X x) (hm:X.mg x=none) (hv:bootBuiltins x=some (.builtin id)) (ha:PA X (e::es) t) (hn:x ≠ "__name__":=by decide) (vG:(x==("__debug__" : Str))=false:=by decide)
  (he:starEach (e::es) X.env=(false,eval e X.env)::starEach es X.env:=by rfl) (jF:(backTo pos (starEach es X.env)).any (·.1)=false:=by rfl):PE X (.Call (.Name x p) (e::es) [] pos) (tCB r t):=by
 intro j8 s σ H Q I h
 refine VF (qs0 I hg hm hv ?_ hn vG)
 exact PyProof.Rows.callWith_builtin1 (thn (ha pos j8 s σ H _ I h) λus s1 ⟨vs,H1,I1,r1,q1⟩=>hc j8 s1 σ H1 vs us Q I1 r1 q1) he jF
theorem qc3 (hc:qe4 X (.type T) r) (hg:Gl X x) (hm:X.mg x=none) (hv:bootBuiltins x=some (.type T)) (ha:PA X (e::es) t) (hn:x ≠ "__name__":=by decide) (vG:(x==("__debug__" : Str))=false:=by decide)
  (he:starEach (e::es) X.env=(false,eval e X.env)::starEach es X.env:=by rfl) (jF:(backTo pos (starEach es X.env)).any (·.1)=false:=by rfl):PE X (.Call (.Name x p) (e::es) [] pos) (tCB r t):=by
 intro j8 s σ H Q I h
 refine VF (qs0 I hg hm hv ?_ hn vG)
 exact YU (thn (ha pos j8 s σ H _ I h) λus s1 ⟨vs,H1,I1,r1,q1⟩=>hc j8 s1 σ H1 vs us Q I1 r1 q1) he jF
end
end L2
namespace HT
open PySem PyProof.Rows
section
open PySem.SeqAt
open PySem.AutoSeq1 (wpAny_loadPart')
open PySem.MeetsSeq PySem.MeetsSeq2 PySem.MeetsSeq3
end
section
variable {prog:Program}{w:World}{A:Around}{E:Value->Shared->Prop}{s:Shared}
def sIx (n d:Nat):Option Int->Nat
 |none=>d
 |some v=>if v<0 then (v+(n:Int)).toNat else min v.toNat n
theorem xt1 (n d:Nat) (hd:d<=n) (o:Option Int):sIx n d o<=n:=by
 cases o with
 |none=>exact hd
 |some v=>
  show (if v<0 then (v+(n:Int)).toNat else min v.toNat n)<=n
  by_cases hv:v<0
  ·rw[Zz hv];lia
  ·rw[Zq hv];exact Nat.min_le_right _ _
theorem qY1 (v:Int) (n d:Nat):(if v<0 then max (v+(n:Int)) 0 else min v (n:Int))=((sIx n d (some v):Nat):Int):=by
 show (if v<0 then max (v+(n:Int)) 0 else min v (n:Int))=(((if v<0 then (v+(n:Int)).toNat else min v.toNat n):Nat):Int)
 by_cases hv:v<0
 ·simp only[Zz hv];lia
 ·simp only[Zq hv];lia
theorem qT1 (lo hi:Option Int) (n:Nat):Builtin.Slice.sliceAdjust lo hi 1 (n:Int)=(((sIx n 0 lo:Nat):Int),((sIx n n hi:Nat):Int)):=by
 have h1:¬((1:Int)<0):=by lia
 unfold Builtin.Slice.sliceAdjust
 simp only[h1,ZX]
 refine Vm ?_ ?_
 ·cases lo with
  |none=>rfl
  |some v=>exact qY1 v n 0
 ·cases hi with
  |none=>rfl
  |some v=>exact qY1 v n n
theorem qT2 (i j:Nat):Builtin.Slice.slicePlaces (i:Int) (j:Int) 1=j-i:=by
 unfold Builtin.Slice.slicePlaces
 have h1:(1:Int)>0:=by lia
 simp only[h1,Xx,Int.ediv_one]
 split<;>lia
theorem qy0 {v:Value}{o:Option Int}{Q:Option Int->Shared->Prop}(p:IsPart v o) (h:Q o s):wpAny (model prog w) A (Builtin.Slice.slicePartIndex v) Q E s:=by
 cases p with
 |none=>exact slicePart_none h
 |int i t=>exact slicePart_int h
theorem qq1 {sl:Addr}{vl vu:Value}{lo hi:Option Int}{n:Nat}{Q:Int×Int×Nat->Shared->Prop}(hs:s.heap.IsSliceOf sl vl vu .none) (pl:IsPart vl lo) (pu:IsPart vu hi)
  (h:Q (((sIx n 0 lo:Nat):Int),1,sIx n n hi-sIx n 0 lo) s):wpAny (model prog w) A (Builtin.Slice.sliceApplied (.ref sl) (pure (n:Int))) Q E s:=by
 obtain⟨os,vC,wQ,jO⟩:=id hs
 unfold Builtin.Slice.sliceApplied Builtin.Slice.sliceFields
 refine Za (Za (Y2 vC jO (x:=vl) rfl (Za (Y2 vC jO (x:=vu) rfl (Za (Y2 vC jO (x:=.none) rfl (Zb ?_)))))))
 refine Za (slicePart_none ?_)
 show wpAny _ _ (if ((1:Int)==0)=true then _ else _) _ _ s
 rw[Zq (by decide)]
 refine Za (qy0 pl (Za (qy0 pu (Za (Zb ?_)))))
 show wpAny _ _ (match Builtin.Slice.sliceAdjust lo hi 1 (n:Int) with|(lo,hi)=>pure (lo,(1:Int),Builtin.Slice.slicePlaces lo hi 1)) _ _ s
 rw[qT1 lo hi n]
 show wpAny _ _ (pure (((sIx n 0 lo:Nat):Int),(1:Int),Builtin.Slice.slicePlaces ((sIx n 0 lo:Nat):Int) ((sIx n n hi:Nat):Int) 1)) _ _ s
 rw[qT2]
 exact Zb h
theorem xa5 (xs:Array Value) (i k:Nat):((List.range k).filterMap λ(m:Nat)=>xs[((i:Int)+(m:Int)*1).toNat]?).toArray=((xs.toList.drop i).take k).toArray:=by
 have e:(λ(m:Nat)=>xs[((i:Int)+(m:Int)*1).toNat]?)=λm=>xs[i+m]?:=by
  funext m
  have:((i:Int)+(m:Int)*1).toNat=i+m:=by lia
  rw[this]
 rw[e]
 have:=pick_run xs i k
 rw[List.filterMap_map] at this
 have e2:((λx=>xs[x]?)∘λx=>i+x)=λm=>xs[i+m]?:=rfl
 rw[e2] at this
 rw[this]
theorem getItem_tuple_cut {t sl:Addr}{items:Array Value}{vl vu:Value}{lo hi:Option Int}{Q:Value->Shared->Prop}(ht:IsTup s.heap t items) (hs:s.heap.IsSliceOf sl vl vu .none) (pl:IsPart vl lo) (pu:IsPart vu hi)
  (hw:¬(sIx items.size 0 lo=0/\sIx items.size items.size hi=items.size))
  (h:Q (.ref s.heap.objs.size) { s with heap:=s.heap.push { cls:=.type "tuple",data:=.seq ((items.toList.drop (sIx items.size 0 lo)).take (sIx items.size items.size hi-sIx items.size 0 lo)).toArray } })
  (hsz:items.size<=sizeLine):wpAny (model prog w) A (getItem (.ref t) (.ref sl)) Q E s:=by
 have htake:sizeOk (.seq ((items.toList.drop (sIx items.size 0 lo)).take (sIx items.size items.size hi-sIx items.size 0 lo)).toArray):=by
  show ((items.toList.drop (sIx items.size 0 lo)).take (sIx items.size items.size hi-sIx items.size 0 lo)).toArray.size<=sizeLine
  rw[ZG,Xm,List.length_drop,ZL]
  lia
 have hj:sIx items.size items.size hi<=items.size:=xt1 _ _ (Zd _) hi
 obtain⟨os,vC,wQ,jO⟩:=id hs
 have hTs:s.TypeIs (.ref sl) "slice":=⟨os,vC,wQ⟩
 unfold getItem
 try with_reducible refine Z5 ?_
 first|refine Za (Zb ?_)|skip
 refine Za (wpAny_sequenceKey ht.typeIs (by decide) ?_)
 refine Za (Z2 (name:=Str.ofString "__getitem__") ht.typeIs XN
  (Z3 XN ht.typeIs entry_tuple_getitem ?_ (args_tuple_getitem _ _)))
 show wpAny _ _ (Builtin.Tuple.tupleItemsOf (.ref t) >>= _) _ _ s
 refine Za (tupleItemsOf_ ht ?_)
 refine Za (WS hTs ?_)
 rw[Zz (by decide)]
 refine Za (qq1 hs pl pu ?_)
 have wN:¬((((sIx items.size 0 lo:Nat):Int)==0&&(1:Int)==1&&(sIx items.size items.size hi-sIx items.size 0 lo)==items.size)=true):=by
  intro q
  rw[V3,V3] at q
  have q1:((sIx items.size 0 lo:Nat):Int)=0:=eq_of_beq q.1.1
  have q2:sIx items.size items.size hi-sIx items.size 0 lo=items.size:=eq_of_beq q.2
  exact hw ⟨by lia,by lia⟩
 show wpAny _ _ (if (((sIx items.size 0 lo:Nat):Int)==0&&(1:Int)==1&&(sIx items.size items.size hi-sIx items.size 0 lo)==items.size)=true then _ else _) _ _ s
 rw[Zq wN,xa5]
 first
  |exact Za (m:=Builtin.Tuple.tupleExact _) (ZP (Zb ⟨_,rfl,Zb h⟩) htake)
  |exact Za (m:=Builtin.Tuple.tupleExact _) (ZP (Za (Zb (Zb ⟨_,rfl,Zb h⟩))) htake)
  |exact Za (Za (m:=Builtin.Tuple.tupleExact _) (ZP (Zb (Zb ⟨_,rfl,Zb h⟩)) htake))
  |exact Za (Za (m:=Builtin.Tuple.tupleExact _) (ZP (Zb ⟨_,rfl,Zb h⟩) htake))
end
end HT
namespace L2
open PySem PySem.Spec PyProof.Rows
abbrev TO:=St->Hp->(Option Int->Hp->Prop)->Prop
def PO (X:Cx) (e:Option Expr) (t:TO):Prop:=
 ∀(j8:List (Addr×Obj)) (s:Shared) (σ:St) (H:Hp) (Q:Option Int->Hp->Prop),Inv X j8 σ H s->t σ H Q ->
  wpAny (model X.prog X.w) X.A (evalPart e X.env) (λu s'=>∃o H',Inv X j8 σ H' s'/\IsPart u o/\Q o H') X.xe s
def xk9:TO:=λ_ H Q=>Q none H
def xz2 (t:TE):TO:=λσ H Q=>t σ H λx H1=>∃i,x=.int i/\Q (some i) H1
section
variable {X:Cx}{e:Expr}{te:TE}{lo hi:Option Expr}{tl th:TO}{pos p2:Pos}
theorem qY2:PO X none xk9:=by
 intro j8 s σ H Q I h
 rw[evalPart_none]
 exact Zb ⟨none,H,I,.none,h⟩
theorem qY3 (h:PE X e te):PO X (some e) (xz2 te):=by
 intro j8 s σ H Q I hw
 rw[evalPart_some]
 refine thn (h j8 s σ H _ I hw) λu s1 ⟨x,H1,I1,r1,q1⟩=>?_
 obtain⟨i,rfl,q⟩:=q1
 obtain⟨t,rfl⟩:=r1
 exact⟨some i,H1,I1,.int i t,q⟩
def SlR (X:Cx) (r:V->Option Int->Option Int->Hp->VK->Prop):Prop:=
 ∀(j8:List (Addr×Obj)) (s:Shared) (σ:St) (H:Hp) (x:V) (v vl vu:Value) (lo hi:Option Int) (sl:Addr) (Q:VK),Inv X j8 σ H s->RelV x v->s.heap.IsSliceOf sl vl vu .none->IsPart vl lo->IsPart vu hi->r x lo hi H Q ->
  ∃T id,typeLookup (.type T) "__getitem__" = pure (some (.builtin id))/\s.TypeIs v T/\wpAny (model X.prog X.w) X.A (getItem v (.ref sl)) (EP X j8 σ Q) X.xe s
def tSl (r:V->Option Int->Option Int->Hp->VK->Prop) (te:TE) (tl th:TO):TE:=λσ H Q=>te σ H λx H1=>tl σ H1 λl H2=>th σ H2 λu H3=>r x l u H3 Q
theorem qN1 {r:V->Option Int->Option Int->Hp->VK->Prop}(hr:SlR X r) (he:PE X e te) (hl:PO X lo tl) (hu:PO X hi th):PE X (.Subscript e (.Slice lo hi none p2) pos) (tSl r te tl th):=by
 intro j8 s σ H Q I h
 refine Subscript_ (thn (he j8 s σ H _ I h) λv s1 ⟨x,H1,I1,r1,q1⟩=>?_)
 refine wpAny_Slice (thn (hl j8 s1 σ H1 _ I1 q1) λvl s2 ⟨l,H2,I2,pl,q2⟩=>thn (hu j8 s2 σ H2 _ I2 q2) λvu s3 ⟨u,H3,I3,pu,q3⟩=>?_)
 rw[evalPart_none]
 refine Zb ?_
 have I4:Inv X j8 σ H3 { s3 with heap:=s3.heap.push { cls:=.type "slice",data:=.fields #[vl,vu,.none] } }:=I3.kept (t':=s3.toks) λb ob q=>Zc _ q
 obtain⟨T,id,hT,ht,hg⟩:=hr j8 { s3 with heap:=s3.heap.push { cls:=.type "slice",data:=.fields #[vl,vu,.none] } } σ H3 x v vl vu l u s3.heap.objs.size Q I4 r1 (Heap.IsSliceOf.new ..) pl pu q3
 show wpAny (model X.prog X.w) X.A (subscriptTail e (.Slice lo hi none p2) v (.ref s3.heap.objs.size)) (EP X j8 σ Q) X.xe { s3 with heap:=s3.heap.push { cls:=.type "slice",data:=.fields #[vl,vu,.none] } }
 exact tail_any (ops:=[.ref s3.heap.objs.size,v]) ht hT hg (by with_unfolding_all rfl)
def cutV (xs:List V) (lo hi:Option Int):List V:=(xs.drop (HT.sIx xs.length 0 lo)).take (HT.sIx xs.length xs.length hi-HT.sIx xs.length 0 lo)
theorem qJ8 (xs:List V) (lo hi:Option Int):(cutV xs lo hi).length<=xs.length:=by
 unfold cutV
 rw[Xm,List.length_drop]
 lia
def rSlT (K:PySem.W.Frag):V->Option Int->Option Int->Hp->VK->Prop:=λx lo hi H Q=>∃a xs,x=.ref a/\SqT K H a xs /\
 ¬(HT.sIx xs.length 0 lo=0/\HT.sIx xs.length xs.length hi=xs.length)/\∀p,H p=none->Q (.ref p) (upd H p (.tup (cutV xs lo hi)))
theorem xt2:SlR X (rSlT X.K):=by
 intro j8 s σ H x v vl vu lo hi sl Q I rx hs pl pu h
 obtain⟨a,xs,rfl,hx,hw,q⟩:=h
 cases rx
 obtain⟨its,r,ht,hz⟩:=I.tuple hx
 have j9:its.toArray.size=xs.length:=by rw[ZG];exact r.length.symm
 refine⟨"tuple",_,XN.lookup,ht.typeIs,?_⟩
 refine HT.getItem_tuple_cut ht hs pl pu (by rw[j9];exact hw) ?_ (by rw[j9];exact hz)
 rw[j9]
 refine⟨.ref s.heap.objs.size,_,I.laid (t':=s.toks) (o:=.tup (cutV xs lo hi)) (λb ob q=>Zc _ q) (Zd _) ?_,rfl,q _ (I.hok.fresh (Zd _))⟩
 exact⟨ZE (qJ8 xs lo hi) hz,_,(r.drop (HT.sIx xs.length 0 lo)).take (HT.sIx xs.length xs.length hi-HT.sIx xs.length 0 lo),IsTupX.new _ _⟩
end
def ixN (n:Nat) (i:Int):Option Nat:=if 0<=i then (if i<n then some i.toNat else none) else if -(n:Int)<=i then some (i+n).toNat else none
def atI {α:Type}(xs:List α) (i:Int):Option α:=(ixN xs.length i).bind λj=>xs[j]?
theorem qY4 {n:Nat}{i:Int}{j:Nat}(h:ixN n i=some j):seqIndex? i n=some j/\j<n/\-(n:Int)<=i/\i<n:=by
 unfold ixN at h
 by_cases h0:0<=i
 ·rw[Zz h0] at h
  by_cases h1:i<n
  ·rw[Zz h1] at h
   have e:i.toNat=j:=ZK h
   exact⟨by rw[seqIndex_of h0 h1,e],by lia,by lia,h1⟩
  ·rw[Zq h1] at h;cases h
 ·rw[Zq h0] at h
  by_cases h1:-(n:Int)<=i
  ·rw[Zz h1] at h
   have e:(i+n).toNat=j:=ZK h
   exact⟨by rw[seqIndex_neg (by lia) h1,e],by lia,h1,by lia⟩
  ·rw[Zq h1] at h;cases h
theorem qJ9 {α:Type}{xs:List α}{i:Int}{v:α}(h:atI xs i=some v):∃j,seqIndex? i xs.length=some j/\xs[j]?=some v/\j<xs.length/\-(xs.length:Int)<=i/\i<xs.length:=by
 unfold atI at h
 cases e:ixN xs.length i with
 |none=>rw[e] at h;cases h
 |some j=>
  rw[e] at h
  obtain⟨h1,h2,h3,h4⟩:=qY4 e
  exact⟨j,h1,h,h2,h3,h4⟩
theorem qj1 {α:Type}{xs:List α}{j:Nat}{v:α}(h:xs[j]?=some v):atI xs (j:Int)=some v:=by
 have hj:j<xs.length:=(gS_ h).1
 have e:ixN xs.length (j:Int)=some j:=by
  unfold ixN
  rw[Zz (by lia),Zz (by lia)];simp
 unfold atI;rw[e];exact h
def qY5 (b:Expr):Prop:=∀o i,subscripted b false o i=operate [o,i] (getItem o i)
def IxR (X:Cx) (r:R2):Prop:=
 ∀(value slice:Expr) (j8:List (Addr×Obj)) (s:Shared) (σ:St) (H:Hp) (x y:V) (v u:Value) (Q:VK),Inv X j8 σ H s->RelV x v->RelV y u->r x y H Q ->
  subscripted slice false v u=operate [v,u] (getItem v u)->wpAny (model X.prog X.w) X.A (subscriptTail value slice v u) (EP X j8 σ Q) X.xe s
def MtR (X:Cx) (id:String) (r:V->List V->Hp->VK->Prop):Prop:=
 ∀(j8:List (Addr×Obj)) (s:Shared) (σ:St) (H:Hp) (x:V) (xs:List V) (v:Value) (us:List Value) (Q:VK),Inv X j8 σ H s->RelV x v->Vals xs us->r x xs H Q ->
  wpAny (model X.prog X.w) X.A (call (.builtin id) (v::us)) (EP X j8 σ Q) X.xe s
section
variable {X:Cx}{a b:Expr}{ta tb:TE}{pos:Pos}
theorem IxR.or {r r':R2}(h:IxR X r) (h':IxR X r'):IxR X (λx y H Q=>r x y H Q\/r' x y H Q):=by
 intro value slice j8 s σ H x y v u Q I rx ry q hs
 rcases q with q|q
 ·exact h value slice j8 s σ H x y v u Q I rx ry q hs
 ·exact h' value slice j8 s σ H x y v u Q I rx ry q hs
theorem xz3 {r:R2}(hr:IxR X r) (ha:PE X a ta) (hb:PE X b tb) (hs:qY5 b):PE X (.Subscript a b pos) (tOp r ta tb):=by
 intro j8 s σ H Q I h
 exact Subscript_ (binT ha hb I h λv u s2 x y H2 I2 rx ry q=>hr a b j8 s2 σ H2 x y v u Q I2 rx ry q (hs _ _))
def rIxL (K:PySem.W.Frag):R2:=λx y H Q=>∃p xs i v,x=.ref p/\y=.int i/\SqL K H p xs/\atI xs i=some v/\Q v H
def rIxT (K:PySem.W.Frag):R2:=λx y H Q=>∃p xs i v,x=.ref p/\y=.int i/\SqT K H p xs/\atI xs i=some v/\Q v H
def rIxS:R2:=λx y H Q=>∃z i c,x=.str z/\y=.int i/\z.length<=sizeLine/\atI z.cps.toList i=some c/\Q (.str ⟨#[c]⟩) H
theorem qh4:IxR X (rIxL X.K):=by
 intro value slice j8 s σ H x y v u Q I rx ry h hs
 obtain⟨p,xs,i,z,rfl,rfl,hq,he,q⟩:=h
 cases rx
 obtain⟨t,rfl⟩:=ry
 obtain⟨its,r,pl,hz⟩:=I.list hq
 obtain⟨j,h1,h2,h3,h4,h5⟩:=qJ9 he
 obtain⟨w,ew,rw'⟩:=r.get h2
 have hl:=r.length
 have hn:=qx8
 have fin:EP X j8 σ Q w s:=⟨z,H,I,rw',q⟩
 by_cases h0:0<=i
 ·have hj:i.toNat=j:=by
   rw[seqIndex_of h0 h5] at h1
   exact ZK h1
  exact item_listR pl.isList h0 (by lia) (by rw[hj];simpa using ew) fin hs
 ·have hj:(i+(its.toArray.size:Int)).toNat=j:=by
   rw[seqIndex_neg (by lia) h4] at h1
   rw[ZG,<- hl]
   exact ZK h1
  exact subscriptTail_builtinR (x:=w) pl.isList.typeIs slot_list_getitem.lookup
   (wpAny_getItem_list_neg (Q:=λr s'=>r=w/\EP X j8 σ Q r s') pl.isList (by lia) (by rw[ZG]<;>lia) (by lia) (by rw[hj];simpa using ew) ⟨rfl,fin⟩) hs
theorem qc8:IxR X (rIxT X.K):=by
 intro value slice j8 s σ H x y v u Q I rx ry h hs
 obtain⟨p,xs,i,z,rfl,rfl,hq,he,q⟩:=h
 cases rx
 obtain⟨t,rfl⟩:=ry
 obtain⟨its,r,pl,hz⟩:=I.tuple hq
 obtain⟨j,h1,h2,h3,h4,h5⟩:=qJ9 he
 obtain⟨w,ew,rw'⟩:=r.get h2
 have hl:=r.length
 have hn:=qx8
 have fin:EP X j8 σ Q w s:=⟨z,H,I,rw',q⟩
 exact subscriptTail_builtinR (x:=w) pl.typeIs slot_tuple_getitem.lookup
  (getItem_tuple (j:=j) (Q:=λr s'=>r=w/\EP X j8 σ Q r s') pl (by lia) (by lia) (by rw[ZG,<- hl];exact h1) (by simpa using ew) ⟨rfl,fin⟩) hs
theorem xt3:IxR X rIxS:=by
 intro value slice j8 s σ H x y v u Q I rx ry h hs
 obtain⟨z,i,c,rfl,rfl,hz,he,q⟩:=h
 obtain⟨t,rfl⟩:=rx
 obtain⟨t',rfl⟩:=ry
 obtain⟨j,h1,h2,h3,h4,h5⟩:=qJ9 he
 have hl:z.cps.toList.length=z.length:=by simp[Str.length]
 rw[hl] at h1 h4 h5
 have hn:=qx8
 exact tail_any (typeIs_str s z t) slot_str_getitem.lookup (getItem_str (c:=c) (by
  have e1:decide (i < -(2^63:Int))=false:=Zm (by lia)
  have e2:decide (i>=2^63)=false:=Zm (by lia)
  rw[e1,e2,Bool.or_false]) (by rw[h1];simpa using h2) ⟨.str ⟨#[c]⟩,H,I.tok _,⟨_,rfl⟩,q⟩) hs
theorem qT3 (its:List Value) (n j:Nat) (u:Value):Obj.mapSeq (·.setIfInBounds j u) { cls:=.type "list",data:=.seq its.toArray n }={ cls:=.type "list",data:=.seq (its.set j u).toArray n }:=by
 simp[Obj.mapSeq]
theorem Inv.lst {j8:List (Addr×Obj)}{σ:St}{H:Hp}{s:Shared}{p:Addr}{xs:List V}(I:Inv X j8 σ H s) (h:H p=some (.lst xs)) :
  ∃(its:List Value) (n:Nat),Vals xs its/\s.heap.get? p=some { cls:=.type "list",data:=.seq its.toArray n }/\xs.length<=sizeLine:=by
 obtain⟨z,its,n,r,e⟩:=I.hok p _ h
 exact⟨its,n,r,e,z⟩
theorem Inv.lstUpd {j8:List (Addr×Obj)}{σ:St}{H:Hp}{s:Shared}{p:Addr}{xs ys:List V}{its its':List Value}{n n':Nat}{f:Obj->Obj}(I:Inv X j8 σ H s) (h:H p=some (.lst xs))
  (ho:s.heap.get? p=some { cls:=.type "list",data:=.seq its.toArray n }) (hf:f { cls:=.type "list",data:=.seq its.toArray n }={ cls:=.type "list",data:=.seq its'.toArray n' }) (r:Vals ys its') (hz:ys.length<=sizeLine) (t:Nat) :
  Inv X j8 σ (upd H p (.lst ys)) { s with heap:=s.heap.update p f,toks:=t }:=by
 have e:(s.heap.update p f).get? p=some { cls:=.type "list",data:=.seq its'.toArray n' }:=by
  rw[ZY f ho (by rw[hf]<;>rfl),hf]
 refine I.write (x:=p) (e:=p) (by rw[h];trivial) (.inl rfl) (λb u hb q=>(YW _ _ (Xr hb)).trans q) ⟨_,e⟩ ?_
 exact⟨hz,its',n',r,e⟩
def xz4:V->V->V->Hp->(Hp->Prop)->Prop:=λo i v H Q=>∃p xs k j,o=.ref p/\i=.int k/\H p=some (.lst xs)/\ixN xs.length k=some j/\Q (upd H p (.lst (xs.set j v)))
theorem qN2:PSet X xz4:=by
 intro j8 s σ H o i v ov iv u Q I ro ri rv h
 obtain⟨p,xs,k,j,rfl,rfl,hp,hj,q⟩:=h
 cases ro
 obtain⟨t,rfl⟩:=ri
 obtain⟨its,n,r,ho,hz⟩:=I.lst hp
 obtain⟨h1,h2,h3,h4⟩:=qY4 hj
 have hl:=r.length
 have hn:=qx8
 have I':Inv X j8 σ (upd H p (.lst (xs.set j v))) { s with heap:=s.heap.update p (Obj.mapSeq (·.setIfInBounds j u)) }:=
  I.lstUpd hp ho (qT3 its n j u) (r.set rv j) (by rw[List.length_set];exact hz) s.toks
 by_cases h0:0<=k
 ·have hk:k.toNat=j:=by
   rw[seqIndex_of h0 h4] at h1
   exact ZK h1
  exact PySem.W.ki_setAt ho h0 (by lia) (by rw[ZG,<- hl];exact h4) (by rw[hk];exact⟨_,I',q⟩)
 ·have hk:(k+(its.toArray.size:Int)).toNat=j:=by
   rw[seqIndex_neg (by lia) h3] at h1
   rw[ZG,<- hl]
   exact ZK h1
  exact PySem.W.ki_setBack ho (by lia) (by rw[ZG,<- hl];exact h3) (by lia) (by rw[hk];exact⟨_,I',q⟩)
theorem qc9:qe4 X (.builtin "len") (λxs H Q=>∃p ys,xs=[.ref p]/\(SqL X.K H p ys\/SqT X.K H p ys)/\Q (.int ys.length) H):=by
 intro j8 s σ H xs us Q I r h
 obtain⟨p,ys,rfl,hq,q⟩:=h
 obtain⟨u,rfl,rx⟩:=qe9 r
 cases rx
 have hn:=qx8
 rcases hq with hq|hq
 ·obtain⟨its,r',pl,hz⟩:=I.list hq
  have j9:=r'.length
  exact Calls.call_len_list pl.isList (by simp only[ZG]<;>lia) ⟨.int ys.length,H,I.tok _,⟨s.toks+1,by rw[ZG,j9]⟩,q⟩
 ·obtain⟨its,r',pl,hz⟩:=I.tuple hq
  have j9:=r'.length
  exact len_tuple pl (by simp only[ZG]<;>lia) ⟨.int ys.length,H,I.tok _,⟨s.toks+1,by rw[ZG,j9]⟩,q⟩
theorem qp2:qe4 X (.builtin "len") (λxs H Q=>∃z,xs=[.str z]/\z.length<=sizeLine/\Q (.int z.length) H):=by
 intro j8 s σ H xs us Q I r h
 obtain⟨z,rfl,hz,q⟩:=h
 obtain⟨u,rfl,t,rfl⟩:=qe9 r
 have hn:=qx8
 exact len_str (by lia) ⟨.int z.length,H,I.tok _,⟨_,rfl⟩,q⟩
theorem qz5:qe4 X (.type "tuple") (λxs H Q=>∃p ys,xs=[.ref p]/\((SqL X.K H p ys/\∀l,H l=none->Q (.ref l) (upd H l (.tup ys)))\/(SqT X.K H p ys/\Q (.ref p) H))):=by
 intro j8 s σ H xs us Q I r h
 obtain⟨p,ys,rfl,h⟩:=h
 obtain⟨u,rfl,rx⟩:=qe9 r
 cases rx
 rcases h with ⟨hq,q⟩|⟨hq,q⟩
 ·obtain⟨its,r',pl,hz⟩:=I.list hq
  have j9:=r'.length
  refine call_tuple_list pl.isList (λh' kp=>?_) (by simp only[ZG]<;>lia)
  have I1:Inv X j8 σ H { s with heap:=h' }:=I.kept (t':=s.toks) kp
  have I2:Inv X j8 σ (upd H h'.objs.size (.tup ys)) { s with heap:=h'.push { cls:=.type "tuple",data:=.seq its.toArray } }:=
   I1.laid (t':=s.toks) (λb o e=>Zc _ e) (Zd _) (show ObjOk X.prog X.w _ _ _ (.tup ys) from ⟨hz,its,r',IsTupX.new _ _⟩)
  exact⟨.ref h'.objs.size,_,I2,rfl,q _ (I1.hok.fresh (Zd _))⟩
 ·obtain⟨its,r',pl,hz⟩:=I.tuple hq
  exact call_tuple_same pl ⟨.ref p,H,I,rfl,q⟩
def tyV (K:PySem.W.Frag) (T:String) (x:V) (H:Hp):Prop:=match x with
 |.str _=>T = "str"
 |.int _=>T = "int"
 |.ref p=>(T = "list" /\ ∃xs,SqL K H p xs)\/(T = "tuple" /\ ∃o,K.lookup p=some o/\o.cls=.type "tuple" /\ o.dict=none) \/
   (T = "dict" /\ ((∃kvs,H p=some (.dK kvs))\/∃kvs,H p=some (.dT kvs)))\/(T = "set" /\ ∃S n,H p=some (.set S n))
 |_=>False
theorem xt4 {j8:List (Addr×Obj)}{σ:St}{H:Hp}{s:Shared}{T:String}{x:V}{v:Value}(I:Inv X j8 σ H s) (r:RelV x v) (ty:tyV X.K T x H) :
  s.TypeIs v T/\∀a,v=.ref a->∃ob,s.heap.get? a=some ob/\ob.dict=none:=by
 cases x with
 |str z=>
  obtain⟨t,rfl⟩:=r
  cases (show T = "str" from ty)
  exact⟨typeIs_str s z t,λ_ e=>nomatch e⟩
 |int i=>
  obtain⟨t,rfl⟩:=r
  cases (show T = "int" from ty)
  exact⟨typeIs_int s i t,λ_ e=>nomatch e⟩
 |ref p=>
  cases r
  rcases ty with ⟨rfl,xs,hq⟩|⟨rfl,o,hk,hc,hd⟩|⟨rfl,hk⟩|⟨rfl,S,n,hk⟩
  ·obtain⟨its,_,pl,_⟩:=I.list hq
   refine⟨pl.isList.typeIs,λa e=>?_⟩
   cases e
   obtain⟨o,n,e,c,hd,_⟩:=pl
   exact⟨o,e,hd⟩
  ·refine⟨⟨o,I.kIn p o hk,hc⟩,λa e=>?_⟩
   cases e
   exact⟨o,I.kIn _ o hk,hd⟩
  ·have z:∃o,s.heap.get? p=some o/\o.ExactDict:=by
    rcases hk with ⟨kvs,hk⟩|⟨kvs,hk⟩
    ·obtain⟨_,_,_,_,o,_,_,e,ex,_⟩:=I.hok p _ hk
     exact⟨o,e,ex⟩
    ·obtain⟨_,_,_,_,o,_,_,e,ex,_⟩:=I.hok p _ hk
     exact⟨o,e,ex⟩
   obtain⟨o,e,ex⟩:=z
   refine⟨⟨o,e,ex.1⟩,λa e2=>?_⟩
   cases e2
   exact⟨o,e,ex.2.1⟩
  ·obtain⟨o,_,_,_,e,ex,_⟩:=I.hok p _ hk
   refine⟨⟨o,e,ex.1⟩,λa e2=>?_⟩
   cases e2
   exact⟨o,e,ex.2.1⟩
 |_=>exact False.elim ty
def tBM (K:PySem.W.Frag) (T:String) (r:V->List V->Hp->VK->Prop) (to:TE) (t:TA):TE:=λσ H Q=>to σ H λx H1=>tyV K T x H1/\t σ H1 λxs H2=>r x xs H2 Q
variable {o e:Expr}{es:List Expr}{to:TE}{t:TA}{name:Str}{apos cpos:Pos}{T id:String}{r:V->List V->Hp->VK->Prop}
theorem qK0 (pa:PlainAttrs T) (slot:Slot T name id) (hty:typeOf (.builtin id)=pure (.type "method_descriptor")) (hm:MtR X id r) (ho:PE X o to) (ha:PA X (e::es) t)
  (hbase:attributeBase o name X.env (eval o X.env)=eval o X.env:=by rfl)
  (hfew:((backTo cpos (starEach (e::es) X.env)).all (λx=>!x.1)&&(backToKw cpos (keywordEach [] X.env)).all (λx=>x.1.isSome)
   && decide ((e::es).length+([]:List Keyword).length+(if ([]:List Keyword).isEmpty then 0 else 1)<30))=true:=by rfl)
  (hline:(apos.endLine==cpos.line)=true:=by rfl) (hs:starEach (e::es) X.env=(false,eval e X.env)::starEach es X.env:=by rfl) (hplain:(backTo cpos (starEach es X.env)).any (·.1)=false:=by rfl) :
  PE X (.Call (.Attribute o name apos) (e::es) [] cpos) (tBM X.K T r to t):=by
 intro j8 s σ H Q I h
 refine wpAny_Call_method_late hbase hfew hline rfl (thn (ho j8 s σ H _ I h) λv s1 ⟨x,H1,I1,r1,ty,q1⟩=>?_)
 obtain⟨h1,h2⟩:=xt4 I1 r1 ty
 refine⟨T,id,pa,slot,hty,h1,h2,?_⟩
 have hA:=ha cpos j8 s1 σ H1 _ I1 q1
 rw[hs] at hA ⊢
 refine Calls.callWith_builtin (by show (false||(backTo cpos (starEach es X.env)).any (·.1))=false;rw[hplain]<;>rfl) (Calls.evalArgs_plain ?_)
 exact thn hA λus s2 ⟨vs,H2,I2,r2,q2⟩=>hm j8 s2 σ H2 x vs v us Q I2 r1 r2 q2
end
def MtM (X:Cx) (id:String) (r:V->List V->Hp->VK->Prop):Prop:=
 ∀(j8:List (Addr×Obj)) (s:Shared) (σ:St) (H:Hp) (x:V) (xs:List V) (v:Value) (us:List Value) (Q:VK),Inv X j8 σ H s->RelV x v->Vals xs us->r x xs H Q ->
  wpAny (model X.prog X.w) X.A (call (.builtin id) (v::us)) (EP X j8 σ Q) X.xe s
theorem Vals.one:∀{x:V}{us:List Value},Vals [x] us->∃u,us=[u]/\RelV x u
 |_,_,.cons r .nil=>⟨_,rfl,r⟩
section
variable {X:Cx}{j8:List (Addr×Obj)}{σ:St}{H:Hp}{s:Shared}{l b:Addr}{xs ys zs:List V}
theorem Inv.lset {its its':List Value}{n:Nat}{f:Array Value->Array Value}{t':Nat}(I:Inv X j8 σ H s) (hH:H l=some (.lst xs))
  (e:s.heap.get? l=some { cls:=.type "list",data:=.seq its.toArray n }) (hf:f its.toArray=its'.toArray) (hv:Vals ys its') (hz:ys.length<=sizeLine) :
  Inv X j8 σ (upd H l (.lst ys)) { s with heap:=s.heap.update l (Obj.mapSeq f),toks:=t' }:=by
 have q:=PySem.IsL.update e f
 rw[hf] at q
 refine I.write (x:=l) (e:=l) (by rw[hH];exact trivial) (.inl rfl) (λb' u hb hu=>(YW s.heap (Obj.mapSeq f) (Xr hb)).trans hu) ⟨_,q⟩ ?_
 exact⟨hz,its',_,hv,q⟩
theorem Inv.fresh (I:Inv X j8 σ H s):H s.heap.objs.size=none:=I.hok.fresh (Zd _)
theorem Inv.lstM (I:Inv X j8 σ H s) (hH:H l=some (.lst xs)):xs.length<=sizeLine/\∃(its:List Value) (n:Nat),Vals xs its/\xs.length=its.length/\s.heap.get? l=some { cls:=.type "list",data:=.seq its.toArray n }:=by
 obtain⟨z,its,n,r,e⟩:=I.hok l _ hH
 exact⟨z,its,n,r,r.length,e⟩
theorem xa6 {n:Nat}(h:n<=sizeLine):Builtin.List.listTooLong n=false:=by
 unfold Builtin.List.listTooLong
 exact Zm (by lia)
end
section
variable {X:Cx}
def xl0:V->List V->Hp->VK->Prop:=λx vs H Q=>∃l xs y,x=.ref l/\vs=[y]/\H l=some (.lst xs)/\xs.length<sizeLine/\Q .non (upd H l (.lst (xs++[y])))
theorem qf6:MtM X "list.append" xl0:=by
 intro j8 s σ H x vs v us Q I rx rv h
 obtain⟨l,xs,y,rfl,rfl,hH,hz,q⟩:=h
 cases rx
 obtain⟨u,rfl,ru⟩:=rv.one
 obtain⟨z,its,n,r,hl,e⟩:=I.lstM hH
 refine call_meets F.slot_list_append ⟨_,e,rfl⟩ F.entry_list_append (F.args_list_append_2 _ _) (PySem.list_append l its.toArray n u (by rw[ZG];lia)) ⟨e,?_⟩
 refine⟨.non,_,I.lset (its':=its++[u]) hH e (by simp) (r.append (.cons ru .nil)) ?_,rfl,q⟩
 rw[Zw,List.length_singleton]
 lia
def xl1:V->List V->Hp->VK->Prop:=λx vs H Q=>∃l b xs zs,x=.ref l/\vs=[.ref b]/\H l=some (.lst xs)/\H b=some (.lst zs)/\xs.length+zs.length<=sizeLine/\Q .non (upd H l (.lst (xs++zs)))
theorem qY6:MtM X "list.extend" xl1:=by
 intro j8 s σ H x vs v us Q I rx rv h
 obtain⟨l,b,xs,zs,rfl,rfl,hH,hB,hz,q⟩:=h
 cases rx
 obtain⟨u,rfl,ru⟩:=rv.one
 cases ru
 obtain⟨z,its,n,r,hl,e⟩:=I.lstM hH
 obtain⟨z2,its2,n2,r2,jM,e2⟩:=I.lstM hB
 have hsz:its.toArray.size+its2.toArray.size<=sizeLine:=by rw[ZG,ZG];lia
 have hlong:¬(!its.toArray.isEmpty&&Builtin.List.listTooLong (its.toArray.size+its2.toArray.size))=true:=by
  rw[xa6 hsz,WT]
  exact Zt
 refine call_meets F.slot_list_extend ⟨_,e,rfl⟩ F.entry_list_extend (F.args_list_extend_2 _ _)
  (AutoSeq1.list_extend_list_list_0 l its.toArray n b its2.toArray n2 hlong (by rw[ZG];lia) (by lia)) ⟨e,e2,?_⟩
 refine⟨.non,_,I.lset (its':=its++its2) hH e (by simp) (r.append r2) ?_,rfl,q⟩
 rw[Zw]
 lia
end
section
variable {prog:Program}{w:World}{A:Around}{E:Value->Shared->Prop}{s:Shared}
end
section
variable {X:Cx}
end
end L2
namespace Att
open PySem PySem.W PySem.Calls PyProof.Rows
theorem qs4 {P:Params}{h:Heap}:∀(ns:List Int) (vs:List Value),WellAll P h vs (ns.map WData.int)->IntsAre vs ns:=by
 intro ns
 induction ns with
 |nil=>
  intro vs w
  rw[Ua] at w
  cases w
  exact .nil
 |cons n ns ih=>
  intro vs w
  rw[ZA] at w
  cases w with
  |cons a b=>
   cases a
   exact .cons _ _ (ih _ b)
theorem qY7 {l:OpenLaw}{n:Nat}(hn:l.most=some n){P:Params}{h:Heap}{args:List WData}{vals:List Value}
  (jS:l.row.toRowW.claim.pre args=true) (hwl:WellAll P h vals args) :
  ∃a vs ns,vals=[Value.ref a]/\args=[WData.list (ns.map WData.int)]/\h.get? a=some { cls:=.type "list",data:=.seq vs.toArray }/\IntsAre vs ns/\ns.length<=n:=by
 have hsh:WShape.hasAll [] args [.list .int]=true:=(pre_splitW jS).1
 have hc:l.pre.holds [] { args:=args }=true:=(pre_splitW jS).2
 obtain⟨d,r,rfl,h1,h2⟩:=hasAllW_cons hsh
 obtain rfl:=hasAllW_nil h2
 obtain⟨xs,rfl,h3⟩:=hasW_list h1
 obtain⟨ns,rfl⟩:=items_int h3
 have j9:ns.length<=n:=by
  unfold OpenLaw.pre at hc
  have h4:(WTm.not (.lt (.lit (.int (n:Int))) (.len (.arg 0)))).holds [] { args:=[.list (ns.map .int)] }=true:=by
   have h4:=(holds_andW hc).1
   rw[hn] at h4
   exact h4
  have h5:=condW_of h4 (w_not (w_lt w_lit (w_len_list (w_arg rfl))))
  rw[Zf] at h5
  refine Vj λq=>?_
  have q':(n:Int)<((ns.length:Nat):Int):=by lia
  first
   |(rw[Zk q'] at h5;exact absurd h5 (by decide))
   |(simp at h5;lia)
 cases hwl with
 |cons w1 w2=>
  cases w2
  cases w1 with
  |list ho jZ=>exact⟨_,_,ns,rfl,rfl,ho,qs4 ns _ jZ,j9⟩
theorem qY8 (l:OpenLaw) (args:List WData):l.row.toRowW.claim.post args (.bool true) args=true:=
 postW_of (r:=l.row.toRowW) (X:=(true==true))
  (show WShape.has [] (.bool true) .bool=true by first|rfl|decide|simp[WShape.has,WShape.arms,WShape.armsAll])
  (show (WTm.eq .res (.lit (.bool true))).value [] { args:=args,res:=some (.bool true),after:=args }=some (.bool (true==true)) from w_eq_bool (w_res rfl) w_lit) rfl
theorem attach_call {l:OpenLaw}{n:Nat}{q:Program}{loose:List Str}{XP:(Str->Option Value)->Heap->Prop}{YP:World->Heap->Prop}{d:DefRec}
  (hn:l.most=some n) (hdf:d.params.defaults=[])
  (call:∀(w:World) (s₀ s₁:Shared) (mg mb:Str->Option Value) (fa:Addr) (o:Obj) (pm cd doc:Value) (a:Addr) (vs:List Value) (ns:List Int),
   Ground q loose [] XP w s₀ mg mb s₁.heap->YP w s₁.heap ->
   s₁.heap.get? fa=some o->o.data=.func (docDef d.name d.params d.body d.scope pm cd doc)->s₁.heap.CodeRec cd d.name->mg d.name=some (.ref fa) ->
   s₁.heap.get? a=some { cls:=.type "list",data:=.seq vs.toArray }->IntsAre vs ns->ns.length<=n->s₁.gens=#[] ->
   codeAny (model l.prog w) callerA (.call (.ref fa) ⟨[.ref a],[]⟩) (λr s'=>r=.ok (.ret (.bool true))/\OldK s₁.heap s'.heap/\s'.os=s₁.os/\AllBare s'.gens) s₁) :
  WalkO q loose XP YP l.row.toRowW d [] (λf vs=>PySem.call f vs):=by
 intro w s₀ s₁ mg mb G Y fa o pm cd doc dV kV ho hd kQ hD vV hg args vals as jS hlay hrd hwl hlo
 obtain rfl:dV=.none:=Dflts.none hD hdf
 obtain rfl:kV=.none:=Dflts.noKw hD
 obtain⟨a,vs,ns,rfl,rfl,hobj,hints,j9⟩:=qY7 hn jS hwl
 refine enter_call (Ws (call w s₀ s₁ mg mb fa o pm cd doc a vs ns G Y ho (fd_plain hd) kQ vV hobj hints j9 hg) λr s' hq=>?_)
 obtain⟨rfl,h2,h3,h4⟩:=hq
 exact⟨.inl ⟨.bool true,.bool true,[],rfl,λ_=>rfl,.bool true,qY8 l _,λ_=>⟨List.Pairwise.nil,λ_ hm=>(nomatch hm)⟩⟩,h2,h3,h4⟩
section
variable {prog:Program}{w:World}{A:Around}{E:Value->Shared->Prop}{s:Shared}{K:Frag}
end
end Att
namespace L2
open PySem PySem.Spec PyProof.Rows
theorem qD9:∀{vs:List Value}{ns:List Int},IntsAre vs ns->Vals (ns.map V.int) vs
 |_,_,.nil=>.nil
 |_,_,.cons n t h=>.cons ⟨t,rfl⟩ (qD9 h)
def Only (H:Hp):Prop:=∀b,H b=none\/∃o xs,H b=some (.frz o (.lst xs))
theorem xa7 {P:Program}{w:World}{K:PySem.W.Frag}{mg mb:Str->Option Value}{CX:CXT}{k:Nat}{fa a:Addr}{fd:FuncData}{x:Str}{sp:Sp}{s₁:Shared}{vs:List Value}{ns:List Int}
  (KX:K.In s₁.heap) (hns:s₁.heap.Ns mainGlobals mg) (hb:s₁.heap.Ns builtinsNs mb) (hbb:∀x:Str,x ≠ "__name__" -> mb x=bootBuiltins x) (hlim:s₁.heap.NoLimit) (hg:s₁.gens=#[])
  (ha:s₁.heap.get? a=some { cls:=.type "list",data:=.seq vs.toArray }) (hi:IntsAre vs ns) (hl:ns.length<=sizeLine) (hr:Room k callerA)
  (F:∀base:Heap,K.In base->base.Ns mainGlobals mg->FnOk P w K mg base CX k fa fd [x] sp) (hbind:∀(s:Shared) (u:Value),BindsTo s fd ⟨[u],[]⟩ [(x,u)])
  (vK:∀H:Hp,Only H->SqL K H a (ns.map V.int)->sp [.ref a] H (λv _=>v=.bl true) λ_ _ _=>False)
  (hCX:∀H e s',CX [] H s₁ (λ_ _ _=>False) e s'->False) :
  codeAny (model P w) callerA (.call (.ref fa) ⟨[.ref a],[]⟩) (λr s'=>r=.ok (.ret (.bool true))/\OldK s₁.heap s'.heap/\s'.os=s₁.os/\AllBare s'.gens) s₁:=by
 have rv:=qD9 hi
 have lenV:=hi.length
 have core:∀H:Hp,Only H->SqL K H a (ns.map V.int)->HOk P w H s₁.heap->(∀b,H b≠none->b=a)->(H a≠none->K.lookup a=none) ->
   codeAny (model P w) callerA (.call (.ref fa) ⟨[.ref a],[]⟩) (λr s'=>r=.ok (.ret (.bool true))/\OldK s₁.heap s'.heap/\s'.os=s₁.os/\AllBare s'.gens) s₁:=by
  intro H hO hS hok hA hK
  have base_of:∀{b:Addr}{o:Obj},s₁.heap.get? b=some o->H b=none->(hidT s₁.heap H).get? b=some o:=λe n=>xa1 e n
  have noA:∀{b:Addr}{o:Obj}{es:Array DictEntry}{ep:Nat},s₁.heap.get? b=some o->o.data=.dict es ep->H b=none:=λ{b o es ep} e d=>by
   cases q:H b with
   |none=>rfl
   |some u=>
    have e':b=a:=hA b (by rw[q];simp)
    subst e'
    rw[ha] at e;cases e
    have d':Data.seq vs.toArray _=Data.dict es ep:=d
    cases d'
  have nsK:∀{b:Addr}{m:Str->Option Value},s₁.heap.Ns b m->(hidT s₁.heap H).Ns b m:=λ{b m} ⟨o,es,ep,e,d,r⟩=>⟨o,es,ep,base_of e (noA e d),d,r⟩
  have hKb:K.In (hidT s₁.heap H):=λb o e=>base_of (KX b o e) (by
   cases q:H b with
   |none=>rfl
   |some u=>
    have e':b=a:=hA b (by rw[q];simp)
    subst e'
    rw[hK (by rw[q];simp)] at e;cases e)
  have hM:Mod K mg (hidT s₁.heap H):=⟨hKb,nsK hns,⟨mb,nsK hb,hbb⟩,let ⟨mc,h1,h2⟩:=hlim;⟨mc,nsK h1,h2⟩⟩
  have e0:Env0 P w K mg (hidT s₁.heap H) callerA [] s₁ H:=⟨rfl,hM,λb o e=>xk1 e,Wt (qW2 _ _),trivial,λb hb=>absurd (show b∈([]:List Addr) from hb) (by simp),hok,.of_eq hg⟩
  refine Ws ((F _ hKb (nsK hns)).run callerA [] s₁ H ⟨[.ref a],[]⟩ [.ref a] [.ref a] _ _ hr e0 (hbind s₁ (.ref a)) (.cons rfl .nil) (vK H hO hS)) λr s' h=>?_
  cases r with
  |error e=>exact (hCX H e s' h).elim
  |ok fl=>
   cases fl with
   |next=>exact False.elim h
   |brk=>exact False.elim h
   |cont=>exact False.elim h
   |ret u=>
    obtain⟨v,H',os,bare,un,hok',r',q⟩:=h
    have q':v=.bl true:=q
    subst q'
    obtain rfl:u=Value.bool true:=r'
    refine⟨rfl,OldK.of_keep λb o e=>?_,os,bare⟩
    cases q:H b with
    |none=>exact un.keep b o e q (by intro z;exact absurd (show b∈([]:List Addr) from z) (by simp)) (by simp)
    |some u=>
     rcases hO b with z|⟨ob,xs,z⟩
     ·rw[q] at z;cases z
     ·have z2:=un.frzs b ob _ z
      obtain⟨e1,_⟩:=hok b _ z
      obtain⟨e2,_⟩:=hok' b _ z2
      rw[e] at e1;cases e1
      exact e2
 cases hk:K.lookup a with
 |some o=>
  have e:=KX a o hk
  rw[ha] at e
  cases e
  refine core (λ_=>none) (λ_=>.inl rfl) (.inr ⟨_,vs.toArray,_,hk,rfl,rfl,rfl,by rw[ZG,lenV];exact hl,by simpa using rv⟩) (λb u z=>by have z':(none:Option HO)=some u:=z;cases z') (λb z=>absurd rfl z) λz=>absurd rfl z
 |none=>
  refine core (λb=>if b=a then some (.frz { cls:=.type "list",data:=.seq vs.toArray } (.lst (ns.map V.int))) else none) (λb=>?_) (.inl (.inr ⟨{ cls:=.type "list",data:=.seq vs.toArray },Zz rfl⟩)) (λb u z=>?_) (λb z=>?_) λ_=>hk
  ·by_cases hb:b=a
   ·exact .inr ⟨_,_,Zz hb⟩
   ·exact .inl (Zq hb)
  ·by_cases hb:b=a
   ·have z':=(Zz hb).symm.trans z
    cases z'
    subst hb
    exact⟨ha,by rw[Zf];exact hl,vs,_,rv,ha⟩
   ·have z':=(Zq hb).symm.trans z
    cases z'
  ·by_cases hb:b=a
   ·exact hb
   ·exact absurd (Zq hb) z
theorem xl2 {l:PySem.W.OpenLaw}{n k:Nat}{q:Program}{loose:List Str}{XP:(Str->Option Value)->Heap->Prop}{YP:World->Heap->Prop}{d:DefRec}{K:Params->PySem.W.Frag}{CX:World->CXT}{sp:World->Sp}{x:Str}
  (hn:l.most=some n) (hn2:n<=sizeLine) (hdf:d.params.defaults=[]) (hr:Room k callerA)
  (hY:∀(w:World) (h:Heap),YP w h->(K w.params).In h)
  (F:∀(w:World) (mg:Str->Option Value) (fa:Addr) (h:Heap),(K w.params).In h->h.Ns mainGlobals mg->mg d.name=some (.ref fa) ->
   ∃fd:FuncData,(∀(s:Shared) (u:Value),BindsTo s fd ⟨[u],[]⟩ [(x,u)]) /\
    ∀base:Heap,(K w.params).In base->base.Ns mainGlobals mg->FnOk l.prog w (K w.params) mg base (CX w) k fa fd [x] (sp w))
  (vK:∀(w:World) (H:Hp) (a:Addr) (ns:List Int),ns.length<=n->Only H->SqL (K w.params) H a (ns.map V.int)->sp w [.ref a] H (λv _=>v=.bl true) λ_ _ _=>False)
  (hCX:∀(w:World) (H:Hp) (s:Shared) (e:Value) (s':Shared),CX w [] H s (λ_ _ _=>False) e s'->False) :
  PySem.W.WalkO q loose XP YP l.row.toRowW d [] (λf vs=>PySem.call f vs):=by
 refine Att.attach_call hn hdf λw s₀ s₁ mg mb fa o pm cd doc a vs ns G Y ho hd kQ vV hobj hints j9 hg=>?_
 have KX:=hY w _ Y
 obtain⟨fd,hb,hF⟩:=F w mg fa _ KX G.T.g vV
 exact xa7 KX G.T.g G.T.b G.T.builtins G.T.nolimit hg hobj hints (ZE j9 hn2) hr hF hb (λH hO hS=>vK w H a ns j9 hO hS) λH e s'=>hCX w H s₁ e s'
abbrev CX0:CXT:=λ_ _ _ _ _ _=>False
abbrev E0:XK:=λ_ _ _=>False
theorem xt5 {X:Cx}:qX8 CX0 X E0:=λ_ _ _ _ _ _ _ h=>h.elim
structure Fun (K:PySem.W.Frag) (x qual:Str) (st:Stmt) (f:Addr) (fd:FuncData):Prop where
 ex:∃(oc:Value) (od:Option Addr) (kV doc pm:Value) (an:Option Addr) (cdv ct:Value) (osl:Array (Option Value)),
  fd=PySem.W.fnOf x qual (qh0 st) (qg2 st) (qa3 st) .none kV doc pm an cdv ct/\K.lookup f=some ⟨oc,od,.func fd,osl⟩/\PySem.W.codeIn K cdv qual=true
 kp:PySem.W.keepIn K (.ref f)=true
section
variable {P:Program}{w:World}{K:PySem.W.Frag}{mg:Str->Option Value}{base:Heap}
theorem Fun.ok {x qual:Str}{st:Stmt}{f:Addr}{fd:FuncData}{N ps:List Str}{k:Nat}{sp:Sp}(F:Fun K x qual st f fd) (S:FnScope N ps (qa3 st)) (len:∀vs H Q E,sp vs H Q E->vs.length=ps.length)
  (hbody:∀(cdv:Value) (A:Around) (outer:List Env) (s:Shared) (H:Hp) (vs:List V) (Q:VK) (E:XK),Room k (A.deeper (envOfC qual (qa3 st) s.heap.objs.size f cdv))->sp vs H Q E ->
   ∃t,PSs (cxOf CX0 P w K mg base N qual (qa3 st) f cdv A outer s H E).nox (qg2 st) t/\t { nx:=λ_ H'=>Q .non H',rt:=Q } (start N vs) H):FnOk P w K mg base CX0 (k+1) f fd ps sp:=by
 obtain⟨oc,od,kV,doc,pm,an,cdv,ct,osl,rfl,lk,kQ⟩:=F.ex
 refine xz1 lk kQ S len λA outer s H vs Q E hr vK=>?_
 obtain⟨t,h,q⟩:=hbody cdv A outer s H vs Q E hr vK
 exact⟨t,h.nox,q⟩
theorem Fun.binds {x qual:Str}{st:Stmt}{f:Addr}{fd:FuncData}{ps:List Str}(F:Fun K x qual st f fd)
  (h:∀(kV doc pm:Value) (an:Option Addr) (cdv ct:Value) (us:List Value),us.length=ps.length->bindArgs (PySem.W.fnOf x qual (qh0 st) (qg2 st) (qa3 st) .none kV doc pm an cdv ct) ⟨us,[]⟩=pure (ps.zip us)):Binds K fd ps []:=by
 obtain⟨oc,od,kV,doc,pm,an,cdv,ct,osl,rfl,lk,kQ⟩:=F.ex
 exact .all (h kV doc pm an cdv ct)
theorem xh8 {x qual:Str}{st:Stmt}{f:Addr}{oc:Value}{od an:Option Addr}{osl:Array (Option Value)}{kV doc pm cdv ct:Value}(l:K.lookup f=some ⟨oc,od,.func (PySem.W.fnOf x qual (qh0 st) (qg2 st) (qa3 st) .none kV doc pm an cdv ct),osl⟩)
  (c:PySem.W.codeIn K cdv qual=true) (k:PySem.W.keepIn K (.ref f)=true):Fun K x qual st f (PySem.W.fnOf x qual (qh0 st) (qg2 st) (qa3 st) .none kV doc pm an cdv ct):=⟨⟨oc,od,kV,doc,pm,an,cdv,ct,osl,rfl,l,c⟩,k⟩
end
theorem qc4 {n:Nat}(h:n<=1000):n<sizeLine:=Y4 h (by decide)
section
variable {X:Cx}
theorem pv (i:Nat){x:Str}{pos:Pos}(hN:X.N[i]?=some x:=by rfl) (hv:Vis X.env.scope x:=by first|exact Or.inl rfl|exact Or.inr (Or.inl rfl)|exact Or.inr (Or.inr rfl)) (hd:(x==("__debug__" : Str))=false:=by decide)
  (kQ:(x==("__classdict__" : Str))=false:=by decide):PE X (.Name x pos) (tVar i):=xs3 hN hv hd kQ
end
theorem iteF {A B:Prop}(h:B):if false=true then A else B:=by
 rw[Zq Zt]
 exact h
theorem iteT {A B:Prop}(h:A):if true=true then A else B:=by
 rw[Zz rfl]
 exact h
theorem ite2 {c A B:Prop}[Decidable c] (h1:c->A) (h2:¬c->B):if c then A else B:=by
 by_cases h:c
 ·rw[Zz h]
  exact h1 h
 ·rw[Zq h]
  exact h2 h
theorem xz5 {c A B:Prop}[Decidable c] (hc:c) (h:B):if (!decide c)=true then A else B:=by
 rw[Zk hc]
 exact iteF h
def Same (H H':Hp):Prop:=∀b o,H b=some o->H' b=some o
theorem Same.refl (H:Hp):Same H H:=λ_ _ h=>h
theorem Same.trans {H H1 H2:Hp}(a:Same H H1) (b:Same H1 H2):Same H H2:=λc o h=>b c o (a c o h)
theorem Same.seq {K:PySem.W.Frag}{H H':Hp}{a:Addr}{xs:List V}(e:Same H H') (h:SqL K H a xs):SqL K H' a xs:=by
 rcases h with (h|⟨o,h⟩)|h
 ·exact .inl (.inl (e _ _ h))
 ·exact .inl (.inr ⟨o,e _ _ h⟩)
 ·exact .inr h
section
variable {X:Cx}
theorem qn8 {env:Env}:∀{names:List (Str×NameKind)}{acc:List (Str×Addr)},
  (∀p∈names,p.2=.free->∃c,cellOf env p.1=pure c/\env.cells.lookup p.1=some c) ->
  (∀y c,acc.lookup y=some c->env.cells.lookup y=some c) ->
  ∃cl:List (Str×Addr),(forIn names acc λp cs=>(if p.2==.free then (do let c <- cellOf env p.1;pure (ForInStep.yield ((p.1,c)::cs))) else pure (ForInStep.yield cs):Sem (ForInStep (List (Str×Addr)))))=pure cl /\
   (∀y c,cl.lookup y=some c->env.cells.lookup y=some c)/\(∀y,(acc.lookup y).isSome=true->(cl.lookup y).isSome=true)/\∀p∈names,p.2=.free->(cl.lookup p.1).isSome=true
 |[],acc,_,ha=>⟨acc,by simp,ha,λ_ h=>h,λ_ h=>absurd h (by simp)⟩
 |(n,k)::r,acc,hn,ha=>by
  by_cases hk:k=.free
  ·subst hk
   obtain⟨c,e1,e2⟩:=hn (n,.free) ZC rfl
   obtain⟨cl,h1,h2,h3,h4⟩:=qn8 (env:=env) (names:=r) (acc:=(n,c)::acc) (λp hp=>hn p (Zn _ hp)) (λy d h=>by
    rw[YF] at h
    cases hy:y==n with
    |true=>rw[hy] at h;cases h;rw[eq_of_beq hy];exact e2
    |false=>rw[hy] at h;exact ha y d h)
   refine⟨cl,?_,h2,λy hy=>h3 y (by
    rw[YF]
    cases y==n with
    |true=>rfl
    |false=>exact hy),λp hp hf=>?_⟩
   ·rw[Vr]
    have e1':cellOf env n=pure c:=e1
    simp only[V4,Xx,e1',WQ]
    exact h1
   ·rcases Zs.mp hp with rfl|hp
    ·exact h3 _ (by simp[YF])
    ·exact h4 p hp hf
  ·obtain⟨cl,h1,h2,h3,h4⟩:=qn8 (env:=env) (names:=r) (acc:=acc) (λp hp=>hn p (Zn _ hp)) ha
   refine⟨cl,?_,h2,h3,λp hp hf=>?_⟩
   ·rw[Vr]
    have:(k==NameKind.free)=false:=by simpa using hk
    simp only[this,Zr,ZX,WQ]
    exact h1
   ·rcases Zs.mp hp with rfl|hp
    ·exact absurd hf hk
    ·exact h4 p hp hf
def qs5 (X:Cx) (scope:Scope) (cl:List (Str×Addr)) (C:Addr) (x:Str) (fp:List Addr) (s₀:Shared) (H₀:Hp):Cx:=
 { X with N:=x::X.N,s₀:=s₀,H₀:=H₀,env:=compEnvC scope cl C X.env,outer:=X.stack,stack:=X.stack,ex:=fp,fn:=λ_=>false,pn:=[],xe:=λ_ _=>False }
def xl3 (wi:TI) (te:TE):TE:=λσ H Q=>wi σ H λJ H1=>∀D,H1 D=none->∃W:Nat->Nat->List V->Hp->Prop,(∃m,W 0 m [] (upd H1 D (.lst []))) /\
 ∀i m xs H2,W i m xs H2->H2 D=some (.lst xs)/\xs.length<sizeLine/\((J.stop i H2/\Q (.ref D) H2)\/(J.go i H2/\∀y H3,J.yld i H2 y H3 ->
  te (some y::σ) H3 λv H4=>H4 D=some (.lst xs)/\∃m',m'<m/\W (i+1) m' (xs++[v]) (upd H4 D (.lst (xs++[v])))))
theorem qE0 {prog:Program}{w:World}{A:Around}{R:Result->Shared->Prop}{s:Shared}{elt target iter:Expr}{scope:Scope}{pos:Pos}{it acc:Value}{env:Env}(I:Nat->Shared->Prop)
  (turn:∀n s,I n s->wpAny (model prog w) A (pyNext it) (λr s₁=>match r with
   |none=>R (.ok .next) s₁
   |some v=>wpAny (model prog w) A (letOwnedTupleGo target it v) (λ_ s₁'=>wpAny (model prog w) A (assign target env v) (λ_ s₂=>wpAny (model prog w) A (eval elt env) (λx s₃=>
     wpAny (model prog w) A (call (.builtin "list.append") [acc,x]) (λ_ s₄=>∃m,m<n/\I m s₄) (λ_ _=>False) s₃)
     (λ_ _=>False) s₂) (λ_ _=>False) s₁') (λ_ _=>False) s₁) (λ_ _=>False) s)
  (n:Nat) (h:I n s) :
  codeAny (model prog w) A (.compLoop (.ListComp elt [⟨target,iter,[],0⟩] scope pos) 0 it acc env) R s:=by
 refine codeAny_loop rfl I (λn s hI=>?_) n h
 show wpAny _ A ((compTurn (.ListComp elt [⟨target,iter,[],0⟩] scope pos) 0 it acc env).onRaise (λx=>do noteFrame x env;theTreesLotGoes x)) _ _ s
 refine wpAny_noted ?_
 rw[compTurn_list1]
 refine Za (V2 (Za (Yw (turn n s hI) (λr s₁ h₁=>?_) λ_ _ h'=>h'.elim)))
 cases r with
 |none=>exact Zb h₁
 |some v=>
  refine Za (Yw h₁ (λ_ s₁' h₁'=>?_) λ_ _ h'=>h'.elim)
  exact Za (Yw h₁' (λ_ s₂ h₂=>Za (Za (Yw h₂ (λx s₃ h₃=>Za (Yw h₃
   (λ_ s₄ h₄=>Zb (Zb ⟨rfl,h₄⟩)) λ_ _ h'=>h'.elim)) λ_ _ h'=>h'.elim))) λ_ _ h'=>h'.elim)
theorem qf7 {scope:Scope}{env:Env}(hf:∀p∈scope.names,p.2=.free->∃c,env.cells.lookup p.1=some c) :
  ∃cl:List (Str×Addr),closureFor scope env=pure cl/\(∀y c,cl.lookup y=some c->env.cells.lookup y=some c)/\∀p∈scope.names,p.2=.free->(cl.lookup p.1).isSome=true:=by
 obtain⟨cl,h1,h2,_,h4⟩:=qn8 (env:=env) (names:=scope.names) (acc:=[]) (λp hp hk=>by
  obtain⟨c,e⟩:=hf p hp hk
  refine⟨c,?_,e⟩
  unfold cellOf
  rw[e]) (λy c h=>by simp at h)
 refine⟨cl,?_,h2,h4⟩
 unfold closureFor
 refine Eq.trans ?_ h1
 simp only[bind_pure]
theorem qd0 {env:Env}:∀{names:List (Str×NameKind)}{y:Str}{k:NameKind},(names.map λ(n,k)=>if (k==NameKind.free&&env.scope.kind==.function&&env.kindOf n==some .cell) then (n,NameKind.cell) else (n,k)).lookup y=some k ->
  (∀p∈names,p.2≠.cell)->(k=.cell\/k=.free)->∃p∈names,p.1=y/\p.2=.free
 |[],_,_,h,_,_=>by simp at h
 |(n,k0)::r,y,k,h,hc,hk=>by
  rw[ZA] at h
  by_cases hy:y=n
  ·subst hy
   by_cases h0:k0=.free
   ·exact⟨(y,k0),ZC,rfl,h0⟩
   ·exfalso
    have e:(k0==NameKind.free)=false:=by simpa using h0
    simp only[e,Wg,Zr,ZX,YF,V4,Option.some.injEq] at h
    rcases hk with z|z
    ·exact hc _ ZC (h.trans z)
    ·exact h0 (h.trans z)
  ·have hb:(y==n)=false:=by simpa using hy
   have h':(r.map λ(n,k)=>if (k==NameKind.free&&env.scope.kind==.function&&env.kindOf n==some .cell) then (n,NameKind.cell) else (n,k)).lookup y=some k:=by
    revert h
    dsimp only
    split<;>(intro h;simpa only [YF,hb] using h)
   obtain⟨p,hp,e⟩:=qd0 h' (λp hp=>hc p (Zn _ hp)) hk
   exact⟨p,Zn _ hp,e⟩
theorem qh5 {env:Env}:∀{names:List (Str×NameKind)}{y:Str},(names.map λ(n,k)=>if (k==NameKind.free&&env.scope.kind==.function&&env.kindOf n==some .cell) then (n,NameKind.cell) else (n,k)).lookup y=some .local ->
  names.lookup y=some .local
 |[],_,h=>by simp at h
 |(n,k0)::r,y,h=>by
  rw[ZA] at h
  by_cases hy:y=n
  ·subst hy
   rw[YF,V4]
   revert h
   dsimp only
   split
   ·intro h;simp[YF] at h
   ·intro h;simpa [YF] using h
  ·have hb:(y==n)=false:=by simpa using hy
   rw[YF,hb]
   refine qh5 (env:=env) ?_
   revert h
   dsimp only
   split<;>(intro h;simpa only [YF,hb] using h)
theorem qT4 {j8:List (Addr×Obj)}{σ:St}{H:Hp}{s:Shared}{h':Heap}{tk:Nat}{scope:Scope}{cl:List (Str×Addr)}{C:Addr}{x:Str}{fp:List Addr}{m:Str->Option Value}
  (I:Inv X j8 σ H s) (hC:C=s.heap.objs.size) (keep:∀b o,s.heap.get? b=some o->h'.get? b=some o) (ns:h'.Ns C m) (kP:∀b∈fp,FpOk X j8 H b) (hfs:∀b∈fp,b<s.heap.objs.size)
  (jC:scope.kind=.function) (jA:∀y∈scope.names,y.2≠.cell) (jK:∀y∈X.N,scope.names.lookup y≠some .local)
  (jG:∀y c,cl.lookup y=some c->X.env.cells.lookup y=some c) (jU:∀p∈scope.names,p.2=.free->(cl.lookup p.1).isSome=true)
  (jQ:∀p∈scope.names,p.2=.free->Vis X.env.scope p.1/\X.env.scope.names.lookup p.1≠some .local) :
  Inv (qs5 X scope cl C x fp s H) [] (none::σ) H { s with heap:=h',toks:=tk }:=by
 have cells:∀y c,cl.lookup y=some c->∃v,s.heap.IsCell c v:=λy c e=>I.cell y c (jG y c e)
 have celllt:∀y c,cl.lookup y=some c->c<s.heap.objs.size:=λy c e=>by
  obtain⟨v,q⟩:=cells y c e
  exact q.lt
 have cellk:∀c v,s.heap.IsCell c v->h'.IsCell c v:=λc v ⟨o,e,d⟩=>⟨o,keep c o e,d⟩
 have stkl:∀b∈frs X.stack,∃o,s.heap.get? b=some o:=λb hb=>by
  rcases Zs.mp (I.stkSub b hb) with e|hb
  ·obtain⟨_,⟨o,_,_,ho,_⟩,_⟩:=I.loc
   exact⟨o,by rw[e];exact ho⟩
  ·obtain⟨_,o,ho,_⟩:=I.funs.mem hb
   exact⟨o,ho⟩
 refine⟨⟨I.ok.mod,jC,I.ok.glob,I.ok.blt,Wt hC.symm,λy z c h1 h2=>I.ok.inj y z c (jG y c h1) (jG z c h2),λy hy=>?_,λy c h _=>Bool.noConfusion h,I.ok.hd,I.ok.frames,.inl rfl,λb hb=>⟨?_,λy c e z=>?_⟩,I.bs,
  ZE I.ok.bsz I.sz,λb o e hb=>?_,λb hb hf=>?_,I.stack,I.stkFree⟩,rfl,I.bare,Un.kept keep,⟨m,ns,λi y v h1 h2 h3=>?_⟩,λy c e=>?_,?_,λy c e=>?_,λp hp=>absurd hp (by simp[qs5]),I.hok.kept keep,?_⟩
 ·
  have hy:(relabel scope X.env).names.lookup y=some .cell\/(relabel scope X.env).names.lookup y=some .free:=hy
  obtain⟨p,hp,e1,e2⟩:∃p∈scope.names,p.1=y/\p.2=.free:=by
   rcases hy with hy|hy
   ·exact qd0 hy jA (.inl rfl)
   ·exact qd0 hy jA (.inr rfl)
  obtain⟨c,e⟩:=Y8.mp (jU p hp e2)
  exact⟨c,by rw[<- e1];exact e⟩
 ·show b≠C
  rw[hC];exact Zl (hfs b hb)
 ·exact (kP b hb).2.2.2.2.1 y c (jG y c e) z
 ·rcases (kP b hb).2.2.2.1 with z|z
  ·exact I.ok.noex b o e z
  ·exact absurd (ZN (Zi (I.ok.bs b o e).1) z) (Ys _)
 ·rcases Zs.mp (I.stkSub b hf) with z|z
  ·exact (kP b hb).2.1 z
  ·exact (kP b hb).2.2.1 z
 ·
  cases i with
  |zero=>simp at h2
  |succ j=>
   have h1:X.N[j]?=some y:=by simpa [qs5] using h1
   have h2:σ[j]?=some (some v):=by simpa using h2
   have h3:(relabel scope X.env).names.lookup y=some .local\/(relabel scope X.env).names.lookup y=some .cell\/(relabel scope X.env).names.lookup y=some .free:=h3
   rcases h3 with h3|h3
   ·exact absurd (qh5 h3) (jK y (Zv h1))
   ·obtain⟨p,hp,e1,e2⟩:∃p∈scope.names,p.1=y/\p.2=.free:=by
     rcases h3 with h3|h3
     ·exact qd0 h3 jA (.inl rfl)
     ·exact qd0 h3 jA (.inr rfl)
    obtain⟨hv,k8⟩:=jQ p hp e2
    rw[e1] at hv k8
    obtain⟨m0,_,hl0⟩:=I.loc
    obtain⟨u,ru,lk⟩:=hl0 j y v h1 h2 hv
    rcases lk with ⟨lk,_⟩|⟨_,c,hc,hcv⟩
    ·exact absurd lk k8
    ·obtain⟨c',e'⟩:=Y8.mp (jU p hp e2)
     rw[e1] at e'
     have:=jG y c' e'
     rw[hc] at this
     cases this
     refine⟨u,ru,.inr ⟨h3,c,e',cellk c _ hcv⟩⟩
 ·obtain⟨v,q⟩:=cells y c e
  exact⟨v,cellk c v q⟩
 ·show H C=none
  exact I.hok.fresh (Wt hC.symm)
 ·exact I.freeC y c (jG y c e)
 ·show (none::σ).length=(x::X.N).length
  simp[I.len]
theorem xa8 {j8:List (Addr×Obj)}{σ σ':St}{H H':Hp}{s s':Shared}{h':Heap}{scope:Scope}{cl:List (Str×Addr)}{C:Addr}{x:Str}{fp:List Addr}
  (I:Inv X j8 σ H s) (hC:C=s.heap.objs.size) (kP:∀b∈fp,FpOk X j8 H b) (J:Inv (qs5 X scope cl C x fp s H) [] σ' H' s') (sb:Heap.SameBut C s'.heap h'):Inv X j8 σ H' { s' with heap:=h' }:=by
 have ne:∀b o,s.heap.get? b=some o->b≠C:=λb o e=>by rw[hC];exact Zl (Zi e)
 have B:Un (frs X.stack) fp H H' s.heap s'.heap:=J.base
 have U:Un (frs X.stack) fp H H' s.heap h':=
  ⟨λb o e n hb hx=>(sb.2 b (ne b o e)).trans (B.keep b o e n hb hx),λb o e n hb hx=>by
   obtain⟨sl,q⟩:=B.slot b o e n hb hx
   exact⟨sl,(sb.2 b (ne b o e)).trans q⟩,B.free,λb o e hx=>by
   obtain⟨o',q⟩:=B.there b o e hx
   exact⟨o',(sb.2 b (ne b o e)).trans q⟩,B.tups,B.frzs,B.tbls⟩
 have hf:H' C=none:=J.free
 have K:HOk X.prog X.w H' h':=λb o e=>(J.hok b o e).stay (λc u hc q=>(sb.2 c (by
  rintro rfl
  rcases hc with z|z
  ·rw[z,e] at hf;cases hf
  ·rw[hf] at z;cases z)).trans q) (λ_ q=>q) λ_ _ q=>q
 refine I.call' (s':={ s' with heap:=h' }) (ch:=fp) J.os U K J.bare λb hb=>?_
 obtain⟨_,h2,_,h4,h5,h6⟩:=kP b hb
 exact⟨h4,h2,h5,h6⟩
theorem xl4 {x:Str}{px pos:Pos}{elt iter:Expr}{scope:Scope}{wi:TI}{te:TE}(hc:X.calm=true) (hN:X.N.Nodup) (hi:PI X (.Name x px) iter wi) (he:∀cl C fp s₀ H₀,PE (qs5 X scope cl C x fp s₀ H₀) elt te)
  (jC:scope.kind=.function) (jA:∀y∈scope.names,y.2≠.cell) (jD:∀y∈scope.names,y.2=.local->scope.names.lookup y.1=some .local) (hx:scope.names.lookup x=some .local)
  (jK:∀y∈X.N,scope.names.lookup y≠some .local) (jQ:∀p∈scope.names,p.2=.free->Vis X.env.scope p.1/\X.env.scope.names.lookup p.1≠some .local)
  (hs:∀x,foldedSetIterable iter X.env x=pure x:=by intro _;rfl):PE X (.ListComp elt [⟨.Name x px,iter,[],0⟩] scope pos) (xl3 wi te):=by
 intro j8 s σ H Q I h
 rw[eval_ListComp]
 obtain⟨cl,hclos,jG,jU⟩:=qf7 (scope:=scope) (env:=X.env) (λp hp hk=>by
  obtain⟨hv,hn⟩:=jQ p hp hk
  refine I.ok.has p.1 ?_
  rcases hv with z|z
  ·exact absurd z hn
  ·exact z)
 refine WD (use:=none) rfl hs hclos jC jD (thn (hi j8 s σ H _ I h) λv s1 h1=>thn h1 λitv s2 h2=>?_)
 obtain⟨it,fp,tn,J,H2,rfl,I2,T,st2,f2,q⟩:=h2
 have hD:H2 s2.heap.objs.size=none:=I2.hok.fresh (Zd _)
 obtain⟨W,⟨m0,w0⟩,turn⟩:=q _ hD
 refine ZP (Vn jA (by intro y hy;simp at hy) (λh₁ hns₁ hsb₁=>?_) jC)
 dsimp only at hns₁ hsb₁ ⊢
 have I3:Inv X j8 σ (upd H2 s2.heap.objs.size (.lst [])) { s2 with heap:=s2.heap.push { cls:=.type "list",dict:=none,data:=.seq ([]:List Value).toArray } }:=
  I2.laid (t':=s2.toks) (λb u e=>Zc _ e) (Zd _) ⟨Zo _,[],0,.nil,Zh _ rfl⟩
 have fpn:∀b∈fp,b≠s2.heap.objs.size:=λb hb=>by
  obtain⟨o,e,_⟩:=T.obj 0 s2.heap st2 b hb
  exact Zl (Zi e)
 have fplt:∀b∈fp,b<(s2.heap.push { cls:=.type "list",dict:=none,data:=.seq ([]:List Value).toArray }).objs.size:=λb hb=>by
  obtain⟨o,e,_⟩:=T.obj 0 s2.heap st2 b hb
  rw[Yh];exact ZZ (Zi e)
 have f3:∀b∈fp,FpOk X j8 (upd H2 s2.heap.objs.size (.lst [])) b:=λb hb=>⟨by rw[qb2 (fpn b hb)];exact (f2 b hb).1,(f2 b hb).2⟩
 generalize hg2:s2.heap.push { cls:=.type "list",dict:=none,data:=.seq ([]:List Value).toArray }=g2 at hns₁ hsb₁ I3 fplt ⊢
 have keep:∀b o,g2.get? b=some o->h₁.get? b=some o:=λb o e=>(hsb₁.2 b (Zl (Zi e))).trans (Zc _ e)
 have J0:=qT4 (x:=x) (tk:=s2.toks+([]:List (Str×Value)).length) I3 (C:=g2.objs.size) rfl keep hns₁ f3 fplt jC jA jK jG jU jQ
 generalize hY:qs5 X scope cl g2.objs.size x fp { s2 with heap:=g2 } (upd H2 s2.heap.objs.size (.lst []))=Y at J0
 have eY:PE Y elt te:=by rw[<- hY];exact he _ _ _ _ _
 have eP:Y.prog=X.prog:=by rw[<- hY];rfl
 have eW:Y.w=X.w:=by rw[<- hY];rfl
 have eK:Y.K=X.K:=by rw[<- hY];rfl
 have eA:Y.A=X.A:=by rw[<- hY];rfl
 have eC:Y.calm=true:=by rw[<- hY];exact hc
 have eE:Y.env=compEnvC scope cl g2.objs.size X.env:=by rw[<- hY];rfl
 have eX:Y.xe=λ_ _=>False:=by rw[<- hY];rfl
 have eN:Y.N=x::X.N:=by rw[<- hY];rfl
 have eEx:Y.ex=fp:=by rw[<- hY];rfl
 have eFs:Y.fs=frs X.stack:=by rw[<- hY];rfl
 have ePn:Y.pn=[]:=by rw[<- hY];rfl
 have ndY:Y.N.Nodup:=by
  rw[eN]
  exact Yg.mpr ⟨λz=>jK x z hx,hN⟩
 have locY:Y.env.scope.names.lookup x=some .local:=by rw[eE];exact Xy hx
 have fpY:∀{H':Hp},(∀b∈fp,H' b=none)->∀b∈fp,FpOk Y [] H' b:=λhn b hb=>by
  have g:=f3 b hb
  refine⟨hn b hb,?_,?_,.inl (by rw[eEx];exact hb),?_,λp hp=>absurd hp (by rw[ePn];simp)⟩
  ·rw[eE];exact Zl (fplt b hb)
  ·rw[eFs]
   intro z
   rcases Zs.mp (I3.stkSub b z) with z|z
   ·exact g.2.1 z
   ·exact g.2.2.1 z
  ·rw[eE]
   exact λy c e=>g.2.2.2.2.1 y c (jG y c e)
 have loop:∀s₃:Shared,s₃={ s2 with heap:=h₁,toks:=s2.toks+([]:List (Str×Value)).length } ->
   codeAny (model X.prog X.w) X.A (.compLoop (.ListComp elt [⟨.Name x px,iter,[],0⟩] scope pos) 0 (.ref it) (.ref s2.heap.objs.size) (compEnvC scope cl g2.objs.size X.env))
    (compPost (model X.prog X.w) X.A X.xe none (EP X j8 σ Q) (.ref s2.heap.objs.size) g2.objs.size) s₃:=by
  rintro s₃ rfl
  refine qE0 (λn s'=>∃i xs H' o,Inv Y [] (o::σ) H' s'/\tn i s'.heap/\(∀b∈fp,H' b=none)/\W i n xs H') ?_ m0
   ⟨0,[],_,none,J0,T.keep 0 _ _ st2 (λb hb o e=>keep b o (by rw[<- hg2];exact Zc _ e)),λb hb=>(f3 b hb).1,w0⟩
  rintro n s3 ⟨i,xs,H3,o,I4,st3,fr3,w3⟩
  obtain⟨hDx,hlx,alt⟩:=turn i n xs H3 w3
  rcases alt with ⟨stop,qn⟩|⟨go,step⟩
  ·have D1:=T.done Y eP eW eK eC i [] s3 _ H3 (λ_ _=>False) I4 (fpY fr3) st3 stop
   rw[eA] at D1
   refine thn D1 λr s4 ⟨hr,I5⟩=>?_
   subst hr
   obtain⟨m4,jT,_⟩:=id I5.loc
   rw[eE] at jT
   refine⟨m4,jT,λh' sb=>⟨.ref _,H3,?_,rfl,qn⟩⟩
   rw[<- hY] at I5
   exact xa8 I3 rfl f3 I5 sb
  ·have G1:=T.item Y eP eW eK eC i [] s3 _ H3 (λ_ _=>False) I4 (fpY fr3) st3 go
   rw[eA] at G1
   refine thn G1 λr s4 ⟨u,hr,h4⟩=>?_
   subst hr
   refine thn h4 λ_ s5 ⟨y,H5,I5,r5,y5,st5,fr5⟩=>?_
   have I5':=I5.pinned (fpY fr5) (T.obj _ _ st5)
   have S1:=(qn7 (X:=Y) (pos:=px) (i:=0) ndY (by rw[eN];rfl) (.inl locY) (.inr locY)) _ s5 _ H5 y u (λσ6 H6=>σ6=some y::σ/\H6=H5) I5' r5 ⟨rfl,rfl⟩
   rw[eP,eW,eA,eE,eX] at S1
   refine thn S1 λ_ s6 ⟨σ6,H6,I6,e6,e6'⟩=>?_
   subst e6 e6'
   have S2:=eY _ s6 _ _ _ I6 (step y _ y5)
   rw[eP,eW,eA,eE,eX] at S2
   refine thn S2 λxv s7 ⟨v7,H7,I7,r7,hD7,m',hm',w7⟩=>?_
   have S3:=qf6 (X:=Y) _ s7 _ H7 (.ref s2.heap.objs.size) [v7] (.ref s2.heap.objs.size) [xv] (λ_ H8=>H8=upd H7 s2.heap.objs.size (.lst (xs++[v7]))) I7 rfl (.cons r7 .nil) ⟨_,xs,v7,rfl,rfl,hD7,hlx,rfl⟩
   rw[eP,eW,eA,eX] at S3
   refine thn S3 λ_ s8 ⟨v8,H8,I8,_,e8⟩=>?_
   subst e8
   have pin:∀b∈fp,∀ob,s5.heap.get? b=some ob->s8.heap.get? b=some ob/\(upd H7 s2.heap.objs.size (.lst (xs++[v7]))) b=none:=λb hb ob e=>by
    have z:=I8.pin (b,ob) (ZI _ (ZI _ (qf1 hb e)))
    exact⟨z.1,z.2.1⟩
   refine⟨m',hm',i+1,xs++[v7],_,some y,I8.unpinned,T.keep _ _ _ st5 (λb hb ob e=>(pin b hb ob e).1),λb hb=>?_,w7⟩
   obtain⟨ob,e,_⟩:=T.obj _ _ st5 b hb
   exact (pin b hb ob e).2
 exact WU (loop _ rfl) (T.self _ 0 _ _ _ (T.keep 0 _ _ st2 (λb hb o e=>keep b o (by rw[<- hg2];exact Zc _ e))) (loop _ rfl))
end
section
variable {κ:Type}[DecidableEq κ]
def valV (kvs:List (κ×V)) (k:κ):Option V:=(kvs.find? λkv=>decide (kv.1=k)).map (·.2)
def putK (kvs:List (κ×V)) (k:κ) (v:V):List (κ×V):=
 if (kvs.any λkv=>decide (kv.1=k))=true then kvs.map (λkv=>if kv.1=k then (kv.1,v) else kv) else kvs++[(k,v)]
theorem qq5 {p:κ×V}{r:List (κ×V)}{k:κ}(e:p.1=k):valV (p::r) k=some p.2:=by simp[valV,X8,e]
theorem qq6 {p:κ×V}{r:List (κ×V)}{k:κ}(e:¬p.1=k):valV (p::r) k=valV r k:=by simp[valV,X8,e]
theorem qm1 (k:κ):∀kvs:List (κ×V),(kvs.any λkv=>decide (kv.1=k))=(valV kvs k).isSome
 |[]=>rfl
 |p::r=>by
  rw[Wa]
  by_cases e:p.1=k
  ·simp only[qq5 e,Zk e,Bool.true_or,Option.isSome_some]
  ·rw[qq6 e,Zm e,Bool.false_or];exact qm1 k r
theorem qs6 (kvs:List (κ×V)) (k:κ) (v:V):(putK kvs k v).length<=kvs.length+1:=by
 unfold putK
 split
 ·rw[Zf];lia
 ·rw[Zw,ZQ,List.length_nil];lia
theorem RelO.isSome_eq {o:Option V}{u:Option Value}(r:RelO o u):o.isSome=u.isSome:=by
 cases o with
 |none=>cases u with
  |none=>rfl
  |some _=>exact (show False from r).elim
 |some _=>cases u with
  |none=>exact (show False from r).elim
  |some _=>rfl
theorem KV.val {kvs:List (κ×V)}{vs:List (κ×Value)}(r:KV kvs vs) (k:κ):RelO (valV kvs k) (valueAt vs k):=by
 unfold KV at r
 induction r with
 |nil=>exact True.intro
 |@cons p q ps qs h t ih=>
  obtain⟨h1,h2⟩:=h
  by_cases e:p.1=k
  ·have e':q.1=k:=h1.symm.trans e
   have b:valueAt (q::qs) k=some q.2:=by simp[valueAt,X8,e']
   rw[qq5 e,b];exact h2
  ·have e':¬q.1=k:=λz=>e (h1.trans z)
   have b:valueAt (q::qs) k=valueAt qs k:=by simp[valueAt,X8,e']
   rw[qq6 e,b];exact ih
theorem KV.any {kvs:List (κ×V)}{vs:List (κ×Value)}(r:KV kvs vs) (k:κ):(kvs.any λkv=>decide (kv.1=k))=vs.any λkv=>decide (kv.1=k):=by
 unfold KV at r
 induction r with
 |nil=>rfl
 |cons h t ih=>rw[Wa,Wa,ih,h.1]
theorem KV.repl {kvs:List (κ×V)}{vs:List (κ×Value)}(r:KV kvs vs) (k:κ){y:V}{u:Value}(ry:RelV y u) :
  KV (kvs.map λkv=>if kv.1=k then (kv.1,y) else kv) (vs.map λkv=>if kv.1=k then (kv.1,u) else kv):=by
 unfold KV at r ⊢
 induction r with
 |nil=>exact .nil
 |@cons p q ps qs h t ih=>
  rw[ZA,ZA]
  refine .cons ?_ ih
  obtain⟨h1,h2⟩:=h
  by_cases e:p.1=k
  ·rw[Zz e,Zz (h1.symm.trans e)];exact⟨h1,ry⟩
  ·rw[Zq e,Zq (λz=>e (h1.trans z))];exact⟨h1,h2⟩
theorem KV.put {kvs:List (κ×V)}{vs:List (κ×Value)}(r:KV kvs vs) (k:κ){y:V}{u:Value}(ry:RelV y u):KV (putK kvs k y) (stored vs k u):=by
 unfold putK stored
 rw[r.any k]
 by_cases e:(vs.any λkv=>decide (kv.1=k))=true
 ·rw[Zz e,Zz e];exact r.repl k ry
 ·rw[Zq e,Zq e];exact Paired.snoc r ⟨rfl,ry⟩
theorem KV.keys {kvs:List (κ×V)}{vs:List (κ×Value)}(r:KV kvs vs):kvs.map (·.1)=vs.map (·.1):=by
 unfold KV at r
 induction r with
 |nil=>rfl
 |cons h t ih=>rw[ZA,ZA,ih,h.1]
theorem KV.length {kvs:List (κ×V)}{vs:List (κ×Value)}(r:KV kvs vs):kvs.length=vs.length:=YD r
end
theorem qY9 {P:Program}{w:World}{k:Key}{u:Value}(r:RelV (kV k) u):(qd3 P w).is k u=true:=by
 cases k with
 |inl i=>obtain⟨t,e⟩:=(show ∃t,u=Value.int i t from r);subst e;exact qJ6 P w i t
 |inr x=>obtain⟨t,e⟩:=(show ∃t,u=Value.str x t from r);subst e;exact qJ7 P w x t
theorem qs7 {P:Program}{w:World}:∀{ks:List Key}{us:List Value},Vals (ks.map kV) us->ItemsAre (qd3 P w) ks us
 |[],_,r=>by rw[Ua] at r;cases r;exact .nil
 |k::ks,_,r=>by
  rw[ZA] at r
  cases r with
  |cons h t=>exact .cons (qY9 h) (qs7 t)
abbrev KT (H:Hp):List (List Key×V)->List (List Key×Addr×Value)->Prop:=Paired λp q=>p.1=q.1/\H q.2.1=some (.tup (p.1.map kV))/\RelV p.2 q.2.2
theorem KT.val {H:Hp}{kvs:List (List Key×V)}{xs:List (List Key×Addr×Value)}(r:KT H kvs xs) (k:List Key):RelO (valV kvs k) ((atKey xs k).map (·.2)):=by
 induction r with
 |nil=>exact True.intro
 |@cons p q ps qs h t ih=>
  obtain⟨h1,_,h2⟩:=h
  by_cases e:p.1=k
  ·have e':q.1=k:=h1.symm.trans e
   have b:atKey (q::qs) k=some q.2:=by simp[atKey,X8,e']
   rw[qq5 e,b];exact h2
  ·have e':¬q.1=k:=λz=>e (h1.trans z)
   have b:atKey (q::qs) k=atKey qs k:=by simp[atKey,X8,e']
   rw[qq6 e,b];exact ih
theorem KT.repl {H:Hp}{kvs:List (List Key×V)}{xs:List (List Key×Addr×Value)}(r:KT H kvs xs) (k:List Key){y:V}{u:Value}(ry:RelV y u) :
  KT H (kvs.map λkv=>if kv.1=k then (kv.1,y) else kv) (xs.map (putAt k u)):=by
 induction r with
 |nil=>exact .nil
 |@cons p q ps qs h t ih=>
  rw[ZA,ZA]
  refine .cons ?_ ih
  obtain⟨h1,h2,h3⟩:=h
  unfold putAt
  by_cases e:p.1=k
  ·rw[Zz e,Zz (h1.symm.trans e)];exact⟨h1,h2,ry⟩
  ·rw[Zq e,Zq (λz=>e (h1.trans z))];exact⟨h1,h2,h3⟩
theorem KT.put {H:Hp}{kvs:List (List Key×V)}{xs:List (List Key×Addr×Value)}(r:KT H kvs xs) (k:List Key){b:Addr}{y:V}{u:Value}(hb:H b=some (.tup (k.map kV))) (ry:RelV y u) :
  KT H (putK kvs k y) (storedH xs k b u):=by
 have e:(kvs.any λkv=>decide (kv.1=k))=(atKey xs k).isSome:=by
  rw[qm1,(r.val k).isSome_eq,VR]
 unfold putK storedH
 rw[e]
 by_cases q:(atKey xs k).isSome=true
 ·rw[Zz q,Zz q];exact r.repl k ry
 ·rw[Zq q,Zq q];exact Paired.snoc r ⟨rfl,hb,ry⟩
theorem KT.keeps {H H':Hp}{kvs:List (List Key×V)}{xs:List (List Key×Addr×Value)}(r:KT H kvs xs) (ht:∀b ys,H b=some (.tup ys)->H' b=some (.tup ys)):KT H' kvs xs:=
 Paired.mapP r λ_ _ z=>⟨z.1,ht _ _ z.2.1,z.2.2⟩
section
variable {P:Program}{w:World}{H:Hp}{h:Heap}{a:Addr}
theorem xt6 {u:HO}(ok:HOk P w H h) (e:Rd H a u):ObjOk P w H h a u:=e.ok ok
theorem qZ0 {kvs:List (Key×V)}(ok:HOk P w H h) (e:Rd H a (.dK kvs)):kvs.length<=sizeLine/\(a==sysModules)=false/\∃vs,KV kvs vs/\h.DictOf (qd3 P w) a vs:=
 show ObjOk P w H h a (.dK kvs) from xt6 ok e
theorem xt7 {kvs:List (Key×V)}(ok:HOk P w H h) (e:H a=some (.dK kvs)):kvs.length<=sizeLine/\(a==sysModules)=false/\∃vs,KV kvs vs/\h.DictOf (qd3 P w) a vs:=qZ0 ok (.inl e)
theorem qE1 {ks:List Key}(ok:HOk P w H h) (e:H a=some (.tup (ks.map kV))):(tupleKind (qd3 P w)).is h ks a:=by
 obtain⟨_,its,r,o,h1,h2,n,h3⟩:=(show ObjOk P w H h a (.tup (ks.map kV)) from ok a _ e)
 exact⟨o,its.toArray,n,h1,h2,h3,by simpa using qs7 r⟩
theorem qZ1 {kvs:List (List Key×V)}(ok:HOk P w H h) (e:Rd H a (.dT kvs)):kvs.length<=sizeLine/\(a==sysModules)=false /\
  ∃xs,KT H kvs xs/\h.DictOfH (tupleKind (qd3 P w)) a xs:=by
 obtain⟨z,y,xs,r,o,es,ep,h1,h2,h3,h4,h5⟩:=(show ObjOk P w H h a (.dT kvs) from xt6 ok e)
 refine⟨z,y,xs,r,o,es,ep,h1,h2,h3,h4,λx hx=>?_,h5⟩
 have all:∀{l:List (List Key×V)}{m:List (List Key×Addr×Value)},KT H l m->∀x∈m,(tupleKind (qd3 P w)).is h x.1 x.2.1:=by
  intro l m q
  induction q with
  |nil=>intro x hx;exact nomatch hx
  |@cons p q ps qs hq t ih=>
   intro x hx
   rcases Zs.mp hx with e|hx
   ·subst e
    exact qE1 ok (by rw[<- hq.1];exact hq.2.1)
   ·exact ih x hx
 exact all r x hx
theorem xz6 {kvs:List (List Key×V)}(ok:HOk P w H h) (e:H a=some (.dT kvs)):kvs.length<=sizeLine/\(a==sysModules)=false /\
  ∃xs,KT H kvs xs/\h.DictOfH (tupleKind (qd3 P w)) a xs:=qZ1 ok (.inl e)
end
def DGet (H:Hp) (a:Addr) (y:V) (r:Option V):Prop:=
 (∃kvs k,Rd H a (.dK kvs)/\y=kV k/\r=valV kvs k)\/∃kvs k b,Rd H a (.dT kvs)/\y=.ref b/\H b=some (.tup (k.map kV))/\r=valV kvs k
def DPut (H:Hp) (a:Addr) (y v:V) (H':Hp):Prop:=
 (∃kvs k,H a=some (.dK kvs)/\y=kV k/\kvs.length<sizeLine/\H'=upd H a (.dK (putK kvs k v))) \/
 ∃kvs k b,H a=some (.dT kvs)/\y=.ref b/\H b=some (.tup (k.map kV))/\kvs.length<sizeLine/\H'=upd H a (.dT (putK kvs k v))
theorem DGet.k {H:Hp}{a:Addr}{kvs:List (Key×V)}{k:Key}(e:H a=some (.dK kvs)):DGet H a (kV k) (valV kvs k):=.inl ⟨kvs,k,.inl e,rfl,rfl⟩
theorem DGet.t {H:Hp}{a b:Addr}{kvs:List (List Key×V)}{k:List Key}(e:H a=some (.dT kvs)) (eb:H b=some (.tup (k.map kV))):DGet H a (.ref b) (valV kvs k):=.inr ⟨kvs,k,b,.inl e,rfl,eb,rfl⟩
theorem DPut.k {H:Hp}{a:Addr}{kvs:List (Key×V)}{k:Key}{v:V}(e:H a=some (.dK kvs)) (hl:kvs.length<sizeLine):DPut H a (kV k) v (upd H a (.dK (putK kvs k v))):=.inl ⟨kvs,k,e,rfl,hl,rfl⟩
theorem DPut.t {H:Hp}{a b:Addr}{kvs:List (List Key×V)}{k:List Key}{v:V}(e:H a=some (.dT kvs)) (eb:H b=some (.tup (k.map kV))) (hl:kvs.length<sizeLine) :
  DPut H a (.ref b) v (upd H a (.dT (putK kvs k v))):=.inr ⟨kvs,k,b,e,rfl,eb,hl,rfl⟩
section
variable {X:Cx}{j8:List (Addr×Obj)}{σ:St}{H:Hp}{s:Shared}{a:Addr}{y v:V}{u r:Value}{o:Option V}{A:Around}{E:Value->Shared->Prop}
theorem Inv.big (I:Inv X j8 σ H s):sysModules<s.heap.objs.size:=by
 have h:mainGlobals<s.heap.objs.size:=(I.mod.glob.keeps I.bk).lt
 exact Vz (by decide) h
theorem qZ2 {Q:Value->Shared->Prop}(hu:A.units+1<cLine) (I:Inv X j8 σ H s) (g:DGet H a y (some v)) (ry:RelV y u) (h:∀w' s',Inv X j8 σ H s'->RelV v w'->Q w' s') :
  wpAny (model X.prog X.w) A (getItem (.ref a) u) Q E s:=by
 rcases g with ⟨kvs,k,e,ey,l⟩|⟨kvs,k,b,e,ey,eb,l⟩
 ·subst ey
  obtain⟨z,hd,vs,rel,dd⟩:=qZ0 I.hok e
  obtain⟨w',hw,rw'⟩:=RelO.some_of (v:=v) (o:=valueAt vs k) (by rw[l];exact rel.val k)
  exact wpAny_getItem_of (qY9 ry) dd.mapOf hw (h w' _ (I.tok _) rw')
 ·subst ey
  cases (show u=Value.ref b from ry)
  obtain⟨z,hd,xs,rel,dd⟩:=qZ1 I.hok e
  obtain⟨w',hw,rw'⟩:=RelO.some_of (v:=v) (o:=(atKey xs k).map (·.2)) (by rw[l];exact rel.val k)
  obtain⟨p,hp,jP⟩:=Zj.mp hw
  refine wpAny_getItem_heap (WN hu) (qE1 I.hok eb) dd hp ?_
  rw[jP]
  exact h w' _ (I.tok _) rw'
theorem d_in {Q:Value->Shared->Prop}(hu:A.units+1<cLine) (I:Inv X j8 σ H s) (g:DGet H a y o) (ry:RelV y u) (h:∀s',Inv X j8 σ H s'->Q (.bool o.isSome) s') :
  wpAny (model X.prog X.w) A (compareOp .In u (.ref a)) Q E s:=by
 rcases g with ⟨kvs,k,e,ey,l⟩|⟨kvs,k,b,e,ey,eb,l⟩
 ·subst ey
  obtain⟨z,hd,vs,rel,dd⟩:=qZ0 I.hok e
  refine wpAny_in_of (qY9 ry) hd dd.mapOf ?_
  rw[<- (rel.val k).isSome_eq,<- l]
  exact h _ (I.tok _)
 ·subst ey
  cases (show u=Value.ref b from ry)
  obtain⟨z,hd,xs,rel,dd⟩:=qZ1 I.hok e
  refine wpAny_in_heap (WN hu) (qE1 I.hok eb) hd dd ?_
  have q:=(rel.val k).isSome_eq
  rw[VR] at q
  rw[<- q,<- l]
  exact h _ (I.tok _)
theorem xl5 {Q:Value->Shared->Prop}(hu:A.units+1<cLine) (I:Inv X j8 σ H s) (g:DGet H a y o) (ry:RelV y u) (h:∀s',Inv X j8 σ H s'->Q (.bool (!o.isSome)) s') :
  wpAny (model X.prog X.w) A (compareOp .NotIn u (.ref a)) Q E s:=by
 rcases g with ⟨kvs,k,e,ey,l⟩|⟨kvs,k,b,e,ey,eb,l⟩
 ·subst ey
  obtain⟨z,hd,vs,rel,dd⟩:=qZ0 I.hok e
  refine wpAny_notIn_of (qY9 ry) hd dd.mapOf ?_
  rw[<- (rel.val k).isSome_eq,<- l]
  exact h _ (I.tok _)
 ·subst ey
  cases (show u=Value.ref b from ry)
  obtain⟨z,hd,xs,rel,dd⟩:=qZ1 I.hok e
  refine wpAny_notIn_heap (WN hu) (qE1 I.hok eb) hd dd ?_
  have q:=(rel.val k).isSome_eq
  rw[VR] at q
  rw[<- q,<- l]
  exact h _ (I.tok _)
theorem qZ3 {h':Heap}{t':Nat}{ob:HO}(I:Inv X j8 σ H s) (mu:Mut (H a)) (hs:Heap.SameBut a s.heap h') (he:∃q,h'.get? a=some q) (new:ObjOk X.prog X.w (upd H a ob) h' a ob) :
  Inv X j8 σ (upd H a ob) { s with heap:=h',toks:=t' }:=
 I.write (x:=a) (e:=a) mu (.inl rfl) (λb q hb z=>(hs.2 b hb).trans z) he new
theorem xt8 {P:Program}{w:World}{H':Hp}{h':Heap}{kvs:List (Key×V)}{vs:List (Key×Value)}(z:kvs.length<=sizeLine) (hd:(a==sysModules)=false) (rel:KV kvs vs) (dd:h'.DictOf (qd3 P w) a vs) :
  ObjOk P w H' h' a (.dK kvs):=⟨z,hd,vs,rel,dd⟩
theorem qZ4 {H':Hp}{Q:Unit->Shared->Prop}(hu:A.units+1<cLine) (I:Inv X j8 σ H s) (g:DPut H a y v H') (ry:RelV y u) (rv:RelV v r) (h:∀s',Inv X j8 σ H' s'->Q () s') :
  wpAny (model X.prog X.w) A (setItem (.ref a) u r) Q E s:=by
 rcases g with ⟨kvs,k,e,ey,l,eH⟩|⟨kvs,k,b,e,ey,eb,l,eH⟩
 ·subst ey eH
  obtain⟨z,hd,vs,rel,dd⟩:=xt7 I.hok e
  have hz:vs.length<=sizeLine:=by rw[<- rel.length];exact z
  have hl:(putK kvs k v).length<=sizeLine:=by have:=qs6 kvs k v;lia
  refine wpAny_setItem_pairs (hsz:=hz) (qY9 ry) dd λh' dd' hs=>h _ ?_
  have he:∃q,h'.get? a=some q:=let ⟨q,_,_,hq,_⟩:=dd';⟨q,hq⟩
  exact qZ3 I (by rw[e];exact True.intro) hs he (xt8 hl hd (rel.put k rv) dd')
 ·subst ey eH
  cases (show u=Value.ref b from ry)
  obtain⟨z,hd,xs,rel,dd⟩:=xz6 I.hok e
  have hz:xs.length<=sizeLine:=by rw[<- YD rel];exact z
  have hl:(putK kvs k v).length<=sizeLine:=by have:=qs6 kvs k v;lia
  refine wpAny_setItem_heap (hsz:=hz) (WN hu) (qE1 I.hok eb) dd λh' dd' hs=>h _ ?_
  obtain⟨q,es,ep,hq,h2,h3,h4,_,h5⟩:=dd'
  refine qZ3 I (by rw[e];exact True.intro) hs ⟨q,hq⟩ ⟨hl,hd,_,(rel.put k eb rv).keeps λc ys ec=>?_,q,es,ep,hq,h2,h3,h4,h5⟩
  rw[qb2 (xy4 ec e (λz=>nomatch z))]
  exact ec
end
section
variable {X:Cx}{j8:List (Addr×Obj)}{σ:St}{H:Hp}{s:Shared}{a:Addr}{kvs:List (Key×V)}{k:Key}{u:Value}{A:Around}{E:Value->Shared->Prop}
end
def NoSl (i:Expr):Prop:=∀ov iv,subscripted i false ov iv=operate [ov,iv] (getItem ov iv)
theorem xl6 {prog:Program}{w:World}{A:Around}{E:Value->Shared->Prop}{s:Shared}{env:Env}{value slice:Expr}{pos:Pos}{T id:String}{Q:Value->Shared->Prop}
  (hl:typeLookup (.type T) "__getitem__" = pure (some (.builtin id))) (hs:NoSl slice)
  (h:wpAny (model prog w) A (eval value env) (λo s₁=>wpAny (model prog w) A (eval slice env) (λi s₂=>s₂.TypeIs o T/\wpAny (model prog w) A (getItem o i) Q E s₂) E s₁) E s) :
  wpAny (model prog w) A (eval (.Subscript value slice pos) env) Q E s:=by
 refine Subscript_ (Yw h (λo s₁ h₁=>Yw h₁ (λi s₂ h₂=>?_) λ_ _ x=>x) λ_ _ x=>x)
 obtain⟨hT,h₂⟩:=h₂
 unfold subscriptTail
 refine Za ?_
 rw[getitemInPython_of_ne hT.not_modules]
 refine Za (wpAny_specialOf hT hl ?_)
 have fin:wpAny (model prog w) A (subscripted slice false o i) (λr s₃=>wpAny (model prog w) A (letTemporaryGo value o r >>= λ_=>pure r) Q E s₃) E s₂:=by
  rw[hs o i]
  exact wpAny_operating (Yw h₂ (λr s₃ h₃=>Za (wpAny_letTemporaryGo (Zb h₃))) λ_ _ x=>x)
 first
  |exact Zb (Za fin)
  |exact Za (Zb (Za fin))
  |exact Za fin
theorem qK1 {X:Cx}{j8:List (Addr×Obj)}{σ:St}{H:Hp}{s:Shared}{a:Addr}{y:V}{o:Option V}(I:Inv X j8 σ H s) (g:DGet H a y o):s.TypeIs (.ref a) "dict":=by
 rcases g with ⟨kvs,k,e,_,_⟩|⟨kvs,k,b,e,_,_,_⟩
 ·obtain⟨_,_,vs,_,dd⟩:=qZ0 I.hok e
  exact dd.typeIs
 ·obtain⟨_,_,xs,_,dd⟩:=qZ1 I.hok e
  exact dd.typeIs
def xz7 (td ty:TE):TE:=λσ H Q=>td σ H λx H1=>ty σ H1 λy H2=>∃a v,x=.ref a/\DGet H2 a y (some v)/\Q v H2
def tDIn (ty td:TE):TE:=λσ H Q=>ty σ H λy H1=>td σ H1 λx H2=>∃a o,x=.ref a/\DGet H2 a y o/\Q (.bl o.isSome) H2
def xl7 (ty td:TE):TE:=λσ H Q=>ty σ H λy H1=>td σ H1 λx H2=>∃a o,x=.ref a/\DGet H2 a y o/\Q (.bl (!o.isSome)) H2
def xz8 (td ty tv:TE):TS:=λD σ H=>tv σ H λv H1=>td σ H1 λx H2=>ty σ H2 λy H3=>∃a H4,x=.ref a/\DPut H3 a y v H4/\D.nx σ H4
section
variable {X:Cx}{o i e value:Expr}{pos pos' tpos:Pos}{td ty tv:TE}
theorem xl8 (hu:X.A.units+1<cLine) (ho:PE X o td) (hi:PE X i ty) (hs:NoSl i):PE X (.Subscript o i pos) (xz7 td ty):=by
 intro j8 s σ H Q I h
 refine xl6 PySem.F.slot_dict_getitem.lookup hs (thn (ho j8 s σ H _ I h) λu s1 ⟨x,H1,I1,rx,q1⟩=>thn (hi j8 s1 σ H1 _ I1 q1) λiv s2 ⟨y,H2,I2,ry,a,v,ex,g,q2⟩=>?_)
 subst ex
 obtain rfl:u=Value.ref a:=rx
 exact⟨qK1 I2 g,qZ2 hu I2 g ry λw' s3 I3 rw'=>⟨v,H2,I3,rw',q2⟩⟩
theorem xh9 (hu:X.A.units+1<cLine) (hi:PE X i ty) (ho:PE X o td):PC X .In i o (tDIn ty td):=by
 intro j8 s σ H Q I h
 refine thn (hi j8 s σ H _ I h) λiv s1 ⟨y,H1,I1,ry,q1⟩=>thn (ho j8 s1 σ H1 _ I1 q1) λu s2 ⟨x,H2,I2,rx,a,ov,ex,g,q2⟩=>?_
 subst ex
 obtain rfl:u=Value.ref a:=rx
 exact d_in hu I2 g ry λs3 I3=>⟨.bl ov.isSome,H2,I3,rfl,q2⟩
theorem qZ5 (hu:X.A.units+1<cLine) (hi:PE X i ty) (ho:PE X o td):PC X .NotIn i o (xl7 ty td):=by
 intro j8 s σ H Q I h
 refine thn (hi j8 s σ H _ I h) λiv s1 ⟨y,H1,I1,ry,q1⟩=>thn (ho j8 s1 σ H1 _ I1 q1) λu s2 ⟨x,H2,I2,rx,a,ov,ex,g,q2⟩=>?_
 subst ex
 obtain rfl:u=Value.ref a:=rx
 exact xl5 hu I2 g ry λs3 I3=>⟨.bl (!ov.isSome),H2,I3,rfl,q2⟩
theorem qK2 (hu:X.A.units+1<cLine) (ho:PE X o td) (hi:PE X i ty) (hv:PE X value tv) (hs:swapsWith value (some (.Subscript o i pos')) pos.line X.env=pure false) :
  PS X (.Assign [.Subscript o i pos'] value pos) (xz8 td ty tv):=by
 intro j8 s σ H D I h
 refine wpAny_Assign_Subscript (thn (hv j8 s σ H _ I h) λr s1 ⟨v,H1,I1,rv,q1⟩=>thn (ho j8 s1 σ H1 _ I1 q1) λu s2 ⟨x,H2,I2,rx,q2⟩=>thn (hi j8 s2 σ H2 _ I2 q2) λiv s3 ⟨y,H3,I3,ry,a,H4,ex,g,q3⟩=>?_) hs
 subst ex
 obtain rfl:u=Value.ref a:=rx
 exact qZ4 hu I3 g ry rv λs4 I4=>⟨σ,H4,I4,q3⟩
end
theorem xa9 {P:Program}{w:World}{H:Hp}(h:Heap) (hb:sysModules<h.objs.size):ObjOk P w H (h.push { cls:=.type "dict",data:=.dict #[] }) h.objs.size (.dT []):=
 ⟨Zo _,WB.mpr (Xr (Zl hb)),[],.nil,_,#[],0,Zh _ rfl,⟨rfl,rfl,rfl⟩,rfl,rfl,YM⟩
def xt9:TE:=λ_ H Q=>∀p,H p=none->Q (.ref p) (upd H p (.dT []))
section
variable {X:Cx}{pos:Pos}
theorem qN3:PE X (.Dict [] [] pos) xt9:=λj8 s σ H Q I h=>
 wpAny_Dict_empty ⟨.ref s.heap.objs.size,_,I.laid (a:=s.heap.objs.size) (o:=.dT []) (t':=s.toks) (λ_ _ q=>Zc _ q) (Zd _) (xa9 s.heap I.big),rfl,h _ (I.hok.fresh (Zd _))⟩
end
section
variable {X:Cx}{j8:List (Addr×Obj)}{σ:St}{H:Hp}{s:Shared}{a:Addr}{y d:V}{u r:Value}{o:Option V}{A:Around}{E:Value->Shared->Prop}
end
section
variable {X:Cx}{o e f:Expr}{apos cpos:Pos}{td ty tx:TE}
end
section
variable {X:Cx}{j8:List (Addr×Obj)}{σ:St}{H:Hp}{s:Shared}{a:Addr}{kvs:List (Key×V)}{A:Around}{E:Value->Shared->Prop}
end
section
variable {X:Cx}{j8:List (Addr×Obj)}{σ:St}{H:Hp}{s:Shared}{a:Addr}{y:V}{u:Value}{A:Around}{E:Value->Shared->Prop}
end
section
variable {X:Cx}
end
section
variable {κ:Type}[DecidableEq κ]
end
end L2
namespace SetT
open PySem
def g:Nat->Nat
 |0=>0
 |n+1=>5*g n+1
def F:Nat->Nat->Nat
 |0,x=>x
 |n+1,x=>5*F n x+1
theorem F_eq (n x:Nat):F n x=x+g n*(4*x+1):=by
 induction n with
 |zero=>simp[F,g]
 |succ n ih=>
  show 5*F n x+1=x+(5*g n+1)*(4*x+1)
  rw[ih,Vo,Nat.one_mul,Yt]
  lia
theorem xl9 (m n x:Nat):F (m+n) x=F m (F n x):=by
 induction m with
 |zero=>simp[F]
 |succ m ih=>
  rw[Nat.succ_add]
  show 5*F (m+n) x+1=5*F m (F n x)+1
  rw[ih]
theorem g_F (n:Nat):g n=F n 0:=by
 rw[F_eq];simp
theorem xz9 (m n:Nat):g (m+n)=g n+g m*(4*g n+1):=by
 rw[g_F,xl9,F_eq m,<- g_F n]
theorem xu0:∀k:Nat,∃c,g (2^k)=2^k*(2*c+1)
 |0=>⟨0,rfl⟩
 |k+1=>by
  obtain⟨c,hc⟩:=xu0 k
  have e:g (2^(k+1))=g (2^k)*(4*g (2^k)+2):=by
   rw[Yb,Nat.mul_two,xz9]
   generalize g (2^k)=y
   rw[Wi,Wi]
   lia
  rw[e,hc]
  refine⟨2^k*(2*c+1)*(2*c+1)+c,?_⟩
  rw[Yb]
  generalize 2^k=p
  have h1:p*(2*c+1)*(4*(p*(2*c+1))+2)=p*2*((2*c+1)*(2*(p*(2*c+1))+1)):=by
   have:4*(p*(2*c+1))+2=2*(2*(p*(2*c+1))+1):=by lia
   rw[this,Yt,Yt,Nat.mul_left_comm (2*c+1) 2]
  rw[h1]
  congr 1
  rw[Wi,Nat.mul_one,Nat.mul_left_comm,Yl (2*c+1) (p*(2*c+1))]
  lia
theorem qz6 (k a q:Nat):(2^k*a+q)%2^(k+1)=(2^k*(a%2)+q)%2^(k+1):=by
 have ha:a=2*(a/2)+a%2:=by lia
 have:2^k*a+q=(2^k*(a%2)+q)+2^(k+1)*(a/2):=by
  have h:2^k*a+q=2^k*(2*(a/2)+a%2)+q:=by rw[<- ha]
  rw[h,Yb,Wi,Yt]
  lia
 rw[this,Nat.add_mul_mod_self_left]
theorem xu1:∀(k x y:Nat),∃r,r<2^k/\F r x%2^k=y%2^k
 |0,x,y=>⟨0,by decide,by simp[Nat.mod_one]⟩
 |k+1,x,y=>by
  obtain⟨r,hr,e⟩:=xu1 k x y
  have hp:0<2^k:=Xg k
  have h2:(2:Nat)^(k+1)=2^k+2^k:=by rw[Yb,Nat.mul_two]
  obtain⟨c,hc⟩:=xu0 k
  have e2:F (2^k+r) x=F r x+2^k*(2*c+1)*(4*F r x+1):=by
   rw[xl9,F_eq (2^k),hc]
  have y1:2^k*(y/2^k)+y%2^k=y:=Nat.div_add_mod y _
  have z1:2^k*(F r x/2^k)+F r x%2^k=F r x:=Nat.div_add_mod _ _
  by_cases h:F r x/2^k%2=y/2^k%2
  ·refine⟨r,by lia,?_⟩
   rw[<- z1,<- y1,qz6,h,<- qz6,e]
  ·refine⟨2^k+r,by lia,?_⟩
   rw[e2]
   generalize F r x=z at *
   have o:(2*c+1)*(4*z+1)=2*(c*(4*z+1)+2*z)+1:=by
    rw[Vo,Nat.one_mul,Yt]
    lia
   have e3:z+2^k*(2*c+1)*(4*z+1)=2^k*(z/2^k+(2*(c*(4*z+1)+2*z)+1))+z%2^k:=by
    rw[Yt,o,Wi (2^k) (z/2^k)]
    lia
   rw[e3,<- y1,qz6,e]
   have e4:(z/2^k+(2*(c*(4*z+1)+2*z)+1))%2=y/2^k%2:=by lia
   rw[e4,<- qz6]
def starts (mask:Nat):Nat->Nat->Nat->Nat
 |0,i,_=>i
 |r+1,i,p=>starts mask r (SetTable.leap mask i p).1 (SetTable.leap mask i p).2
theorem qs8 (k:Nat):∀(r i:Nat),starts (2^k-1) r (i%2^k) 0=F r i%2^k
 |0,i=>rfl
 |r+1,i=>by
  have hp:0<2^k:=Xg k
  show starts (2^k-1) r ((i%2^k*5+1+0/32)%(2^k-1+1)) (0/32)=_
  have e1:2^k-1+1=2^k:=by lia
  have e2:(i%2^k*5+1+0/32)%2^k=(5*i+1)%2^k:=by
   simp only[Nat.zero_div,Wu]
   rw[Nat.add_mod,Nat.mul_mod,Nat.mod_mod,<- Nat.mul_mod,<- Nat.add_mod,Yl]
  rw[e1,e2,Nat.zero_div,qs8 k r (5*i+1)]
  have:F r (5*i+1)=F (r+1) i:=by rw[xl9 r 1 i];rfl
  rw[this]
theorem qy1 (mask:Nat):∀(a b i p:Nat),starts mask (a+b) i p=starts mask b (starts mask a i p) (p/32^a)
 |0,b,i,p=>by simp[starts]
 |a+1,b,i,p=>by
  rw[Nat.succ_add]
  show starts mask (a+b) _ _=starts mask b (starts mask a _ _) _
  rw[qy1 mask a b]
  show starts mask b _ (p/32/32^a)=_
  rw[WV,Yb,Yl (32^a) 32]
theorem qE2 (mask:Nat):∀(a i p:Nat),i<mask+1->starts mask a i p<mask+1
 |0,i,p,h=>h
 |a+1,i,p,_=>qE2 mask a _ _ (XC _ (Nat.succ_pos _))
theorem qs9 (k i p j:Nat) (hi:i<2^k) (hp:p<2^64) (hj:j<2^k):∃r,r<13+2^k/\starts (2^k-1) r i p=j:=by
 have hk:0<2^k:=Xg k
 have hl:=qE2 (2^k-1) 13 i p (by lia)
 obtain⟨r,hr,e⟩:=xu1 k (starts (2^k-1) 13 i p) j
 refine⟨13+r,by lia,?_⟩
 rw[qy1]
 have hz:p/32^13=0:=Xn (Vz hp (by decide))
 have hm:starts (2^k-1) 13 i p=starts (2^k-1) 13 i p%2^k:=(YG (by lia)).symm
 rw[hz,hm,qs8,e,YG hj]
theorem qZ6 (mask i:Nat):SetTable.runEnd mask i-i<=9:=by unfold SetTable.runEnd;split<;>lia
def adv (t:SetTable):Nat->SetTable.Probe->SetTable.Probe
 |0,p=>p
 |n+1,p=>adv t n (t.advance p)
theorem qZ7 (t:SetTable):∀(m:Nat) (p:SetTable.Probe),m<=p.more->adv t m p={ p with j:=p.j+m,more:=p.more-m }
 |0,p,_=>by simp[adv]
 |m+1,p,h=>by
  have e:t.advance p={ p with j:=p.j+1,more:=p.more-1 }:=by
   unfold SetTable.advance
   rw[Zz (by lia)]
  show adv t m (t.advance p)=_
  rw[e,qZ7 t m _ (by show m<=p.more-1;lia)]
  show SetTable.Probe.mk _ _ _ _ _=SetTable.Probe.mk _ _ _ _ _
  congr 1
  ·show p.j+1+m=p.j+(m+1);lia
  ·show p.more-1-m=p.more-(m+1);lia
theorem qt0 (t:SetTable):∀(a b:Nat) (p:SetTable.Probe),adv t (a+b) p=adv t b (adv t a p)
 |0,b,p=>by simp[adv]
 |a+1,b,p=>by rw[Nat.succ_add];exact qt0 t a b _
structure Head (t:SetTable) (i perturb:Nat) (d:Option Nat) (p:SetTable.Probe):Prop where
 e:p={ j:=i,more:=SetTable.runEnd t.mask i-i,i:=i,perturb:=perturb,dummy:=d }
theorem qZ8 {t:SetTable}{i q:Nat}{d:Option Nat}{p:SetTable.Probe}(h:Head t i q d p):∃n,n<=10/\Head t (SetTable.leap t.mask i q).1 (SetTable.leap t.mask i q).2 d (adv t n p):=by
 have hr:=qZ6 t.mask i
 refine⟨(SetTable.runEnd t.mask i-i)+1,by lia,⟨?_⟩⟩
 rw[qt0,qZ7 t _ p (by rw[h.e];exact Zd _)]
 show t.advance _=_
 rw[h.e]
 unfold SetTable.advance
 rw[Zq (by show ¬(SetTable.runEnd t.mask i-i)-(SetTable.runEnd t.mask i-i)>0;lia)]
theorem qZ9 {t:SetTable}{d:Option Nat}:∀(r:Nat){i q:Nat}{p:SetTable.Probe},Head t i q d p->∃n,n<=10*r/\(adv t n p).j=starts t.mask r i q/\(adv t n p).dummy=d
 |0,i,q,p,h=>⟨0,Zd _,by show p.j=i;rw[h.e],by show p.dummy=d;rw[h.e]⟩
 |r+1,i,q,p,h=>by
  obtain⟨n,hn,h1⟩:=qZ8 h
  obtain⟨m,hm,e1,e2⟩:=qZ9 r h1
  exact⟨n+m,by lia,by rw[qt0];exact e1,by rw[qt0];exact e2⟩
theorem qt1 (t:SetTable):∀(n:Nat) (p:SetTable.Probe),(adv t n p).dummy=p.dummy
 |0,p=>rfl
 |n+1,p=>by
  show (adv t n (t.advance p)).dummy=_
  rw[qt1 t n]
  unfold SetTable.advance
  split<;>rfl
theorem q00 (h:Int):SetTable.bits h<2^64:=by
 unfold SetTable.bits
 have:=XY h (show (0:Int)<2^64 by decide)
 have h0:=WJ h (show (2^64:Int)≠0 by decide)
 lia
theorem meet {t:SetTable}{k:Nat}(hm:t.mask=2^k-1) (h:Int){j:Nat}(hj:j<2^k):∃n,n<10*SetTable.turns t.mask/\(adv t n (t.probeStart h)).j=j:=by
 have hk:0<2^k:=Xg k
 have hd:Head t (SetTable.bits h%(t.mask+1)) (SetTable.bits h) none (t.probeStart h):=⟨rfl⟩
 obtain⟨r,hr,e⟩:=qs9 k (SetTable.bits h%(t.mask+1)) (SetTable.bits h) j (by rw[hm];have:=XC (SetTable.bits h) hk;rw[show 2^k-1+1=2^k by lia];exact this) (q00 h) hj
 obtain⟨n,hn,e1,_⟩:=qZ9 r hd
 refine⟨n,?_,by rw[e1];rw[<- hm] at e;exact e⟩
 unfold SetTable.turns
 lia
theorem qN4 (j:Nat):SetTable.has #[] j=false:=by
 unfold SetTable.has
 simp
theorem q01 {t:SetTable}(hd:t.dummies=#[]) (j:Nat):(t.slot j=.empty)\/∃i,t.slot j=.live i/\t.place[i]?=some j:=by
 unfold SetTable.slot
 simp only
 split
 ·rename_i h
  exact .inr ⟨_,rfl,by simpa using h⟩
 ·rw[hd,qN4]
  exact .inl rfl
theorem q02 {t:SetTable}(hd:t.dummies=#[]){j:Nat}(h:j∉t.place.toList):t.slot j=.empty:=by
 rcases q01 hd j with e|⟨i,_,e⟩
 ·exact e
 ·refine absurd ?_ h
  have:=Array.mem_of_getElem? e
  simpa using this
theorem xi0:∀(n:Nat) (l:List Nat),l.length<n->∃j,j<n/\j∉l
 |0,l,h=>absurd h (Xh _)
 |n+1,l,h=>by
  by_cases hn:n∈l
  ·obtain⟨j,hj,hl⟩:=xi0 n (l.erase n) (by rw[WE hn];have:=WW hn;lia)
   refine⟨j,by lia,λm=>hl ?_⟩
   exact (Vp (by lia)).mpr m
  ·exact⟨n,YT n,hn⟩
structure Grown (t:SetTable) (n:Nat):Prop where
 pl:t.place.size=n
 du:t.dummies=#[]
 ma:∃k,t.mask=2^k-1/\1<=k
 le:n<=t.mask
theorem Grown.fill {t:SetTable}{n:Nat}(h:Grown t n):t.fill=n:=by unfold SetTable.fill;rw[h.pl,h.du];rfl
theorem Grown.way {t:SetTable}{n:Nat}(h:Grown t n):t.gaveWay=false:=by
 obtain⟨k,e,hk⟩:=h.ma
 unfold SetTable.gaveWay
 rw[e]
 obtain⟨k,rfl⟩:∃m,k=m+1:=⟨k-1,by lia⟩
 have:=Xg k
 have e2:(2^(k+1)-1)%2=1:=by rw[Yb];lia
 rw[e2]
 rfl
theorem Grown.meets {t:SetTable}{n:Nat}(g:Grown t n) (h:Int):∃m,m<10*SetTable.turns t.mask/\t.slot (adv t m (t.probeStart h)).j=.empty:=by
 obtain⟨k,e,_⟩:=g.ma
 have hk:=Xg k
 obtain⟨j,hj,hl⟩:=xi0 (2^k) t.place.toList (by simp only[ZL,g.pl];have:=g.le;lia)
 obtain⟨m,hm,ej⟩:=meet e h hj
 exact⟨m,hm,by rw[ej];exact q02 g.du hl⟩
theorem q03 {t:SetTable}(hd:t.dummies=#[]) (hashAt:Nat->Int) (h:Int):∀(f m:Nat) (p:SetTable.Probe),m<f->p.dummy=none->t.slot (adv t m p).j=.empty ->
  (∃j,SetTable.probe.go t hashAt h f p=some (.empty j none)) \/
  (∃m' j i,m'<m/\SetTable.probe.go t hashAt h f p=some (.candidate j i (adv t (m'+1) p))/\t.slot j=.live i/\t.place[i]?=some j/\hashAt i=h)
 |0,m,p,h1,_,_=>absurd h1 (Xh _)
 |f+1,m,p,h1,hp,he=>by
  unfold SetTable.probe.go
  rcases q01 hd p.j with e|⟨i,e,e2⟩
  ·rw[e]
   exact .inl ⟨p.j,by rw[hp]⟩
  ·rw[e]
   cases m with
   |zero=>
    have he':t.slot p.j=.empty:=he
    rw[e] at he';cases he'
   |succ m=>
    by_cases hc:hashAt i==h
    ·refine .inr ⟨0,p.j,i,Nat.succ_pos _,?_,e,e2,by simpa using hc⟩
     simp only
     rw[Zz hc]
     rfl
    ·simp only
     rw[Zq hc]
     rcases q03 hd hashAt h f m (t.advance p) (by lia) (by rw[<- hp];exact qt1 t 1 p) he with ⟨j,ej⟩|⟨m',j,i',hm',ej,r⟩
     ·exact .inl ⟨j,ej⟩
     ·exact .inr ⟨m'+1,j,i',by lia,ej,r⟩
theorem qm2 {α:Type}(xs:Array α) (p:Nat) (x:α):(SetTable.insertAt xs p x).size=xs.size+1:=by
 unfold SetTable.insertAt
 simp
 lia
theorem qE3 {α:Type}{xs:Array α}{p:Nat}{x y:α}(h:y∈SetTable.insertAt xs p x):y=x\/y∈xs:=by
 unfold SetTable.insertAt at h
 rcases Array.mem_append.mp h with h|h
 ·rcases Array.mem_push.mp h with h|h
  ·obtain⟨i,hi,e⟩:=Vq.mp h
   exact .inr (by rw[<- e];exact VS _)
  ·exact .inl h
 ·obtain⟨i,hi,e⟩:=Vq.mp h
  exact .inr (by rw[<- e];exact VS _)
theorem Grown.put {t:SetTable}{n:Nat}(g:Grown t n) (hf:t.tooFull=false) (j:Nat):Grown (t.put j).1 (n+1):=by
 have e:(t.put j).1={ t with place:=SetTable.insertAt t.place (SetTable.below t.place j) j }:=by
  unfold SetTable.put
  simp only
  rw[g.du,qN4]
  simp[g.du]
 rw[e]
 refine⟨by rw[qm2,g.pl],g.du,g.ma,?_⟩
 show n+1<=t.mask
 unfold SetTable.tooFull at hf
 rw[g.fill] at hf
 have:=Yz hf
 lia
theorem qE4 {mask:Nat}{owner:Array (Option Nat)}:∀(f r i p:Nat),r<f->(owner.getD (starts mask r i p) (some 0)).isNone=true ->
  ∃j,SetTable.layClean.free mask owner f i p=some j/\(owner.getD j (some 0)).isNone=true
 |0,r,i,p,h,_=>absurd h (Xh _)
 |f+1,r,i,p,h,hn=>by
  unfold SetTable.layClean.free
  cases e:(List.range (SetTable.runEnd mask i+1-i)).find? λk=>(owner.getD (i+k) (some 0)).isNone with
  |some k=>
   have:=List.find?_some e
   exact⟨i+k,rfl,this⟩
  |none=>
   cases r with
   |zero=>
    have h0:∀x∈List.range (SetTable.runEnd mask i+1-i),¬(owner.getD (i+x) (some 0)).isNone=true:=by simpa using e
    have hm:0∈List.range (SetTable.runEnd mask i+1-i):=Yq.mpr (by unfold SetTable.runEnd;split<;>lia)
    exact absurd hn (h0 0 hm)
   |succ r=>exact qE4 f r _ _ (by lia) hn
def cnt (owner:Array (Option Nat)):Nat:=(owner.toList.filter Option.isSome).length
theorem qp3:∀(l:List (Option Nat)) (j k:Nat),l[j]?=some none->((l.set j (some k)).filter Option.isSome).length=(l.filter Option.isSome).length+1
 |[],j,k,h=>by simp at h
 |a::l,0,k,h=>by
  have:a=none:=by simpa using h
  subst this
  simp
 |a::l,j+1,k,h=>by
  have ih:=qp3 l j k (by simpa using h)
  rw[List.set_cons_succ,Xo,Xo]
  split
  ·rw[ZQ,ZQ,ih]
  ·exact ih
theorem q04:∀(l:List (Option Nat)),(l.filter Option.isSome).length<l.length->∃j:Nat,l[j]?=some none
 |[],h=>by simp at h
 |none::l,_=>⟨0,rfl⟩
 |some a::l,h=>by
  obtain⟨j,hj⟩:=q04 l (by simpa using h)
  exact⟨j+1,by simpa using hj⟩
structure Laid (mask:Nat) (owner:Array (Option Nat)) (K:Nat):Prop where
 sz:owner.size=mask+1
 ct:cnt owner=K
 lt:∀v,some v∈owner.toList->v<K
theorem Laid.step {mask k K:Nat}{owner:Array (Option Nat)}(hm:mask=2^k-1) (g:Laid mask owner K) (hK:K<=mask) (h:Int) :
  ∃j,SetTable.layClean.free mask owner (SetTable.turns mask) (SetTable.bits h%(mask+1)) (SetTable.bits h)=some j/\Laid mask (owner.setIfInBounds j (some K)) (K+1):=by
 have hk:=Xg k
 obtain⟨j0,hj0⟩:=q04 owner.toList (by
  have:=g.ct
  unfold cnt at this
  rw[this,ZL,g.sz]
  lia)
 have hl:j0<mask+1:=by
  have:=(gS_ hj0).1
  rw[ZL,g.sz] at this
  exact this
 have e1:mask+1=2^k:=by lia
 obtain⟨r,hr,er⟩:=qs9 k (SetTable.bits h%(mask+1)) (SetTable.bits h) j0 (by rw[<- e1];exact XC _ (Nat.succ_pos _)) (q00 h) (by lia)
 rw[<- hm] at er
 have hgd:∀j,(owner.getD j (some 0)).isNone=true<->owner.toList[j]?=some none:=λj=>by
  rw[Z6]
  by_cases hj:j<owner.size
  ·simp[Array.getD,hj]
  ·simp[Array.getD,hj]
 obtain⟨j,ej,hj⟩:=qE4 (mask:=mask) (owner:=owner) (SetTable.turns mask) r _ _ (by unfold SetTable.turns;lia) (by rw[er];exact (hgd j0).mpr hj0)
 have hj':=(hgd j).mp hj
 refine⟨j,ej,by rw[Array.size_setIfInBounds];exact g.sz,?_,λv hv=>?_⟩
 ·unfold cnt
  rw[Wj,qp3 _ _ _ hj']
  have:=g.ct
  unfold cnt at this
  rw[this]
 ·rw[Wj] at hv
  rcases List.mem_or_eq_of_mem_set hv with hv|hv
  ·have:=g.lt v hv;lia
  ·have:v=K:=by simpa using hv
   lia
theorem qN5 {mask k:Nat}(hm:mask=2^k-1):∀(hs:List Int) (owner:Array (Option Nat)) (K:Nat),Laid mask owner K->K+hs.length<=mask ->
  ∃owner',(hs.foldl (λ(acc:Option (Array (Option Nat)×Nat)) (h:Int)=>do
   let (owner,k) <- acc
   let j <- SetTable.layClean.free mask owner (SetTable.turns mask) (SetTable.bits h%(mask+1)) (SetTable.bits h)
   pure (owner.setIfInBounds j (some k),k+1)) (some (owner,K)))=some (owner',K+hs.length)/\Laid mask owner' (K+hs.length)
 |[],owner,K,g,_=>⟨owner,rfl,g⟩
 |h::hs,owner,K,g,hl=>by
  rw[ZQ] at hl
  obtain⟨j,ej,g'⟩:=g.step hm (by lia) h
  obtain⟨o',e',g''⟩:=qN5 hm hs _ (K+1) g' (by lia)
  refine⟨o',?_,by rw[ZQ,show K+(hs.length+1)=K+1+hs.length by lia];exact g''⟩
  rw[WK,ZQ,show K+(hs.length+1)=K+1+hs.length by lia,<- e']
  congr 1
  show (SetTable.layClean.free mask owner (SetTable.turns mask) (SetTable.bits h%(mask+1)) (SetTable.bits h)).bind _=_
  rw[ej]
  rfl
theorem xm0 {mask k:Nat}(hm:mask=2^k-1) (hs:Array Int) (hl:hs.size<=mask):∃owner,SetTable.layClean mask hs=some owner/\Laid mask owner hs.size:=by
 have g0:Laid mask (Array.replicate (mask+1) none) 0:=⟨by simp,by unfold cnt;simp,λv hv=>by simp at hv⟩
 obtain⟨o,e,g⟩:=qN5 hm hs.toList _ 0 g0 (by simpa using hl)
 refine⟨o,?_,by simpa using g⟩
 unfold SetTable.layClean
 rw[<- Array.foldl_toList,e]
 rfl
theorem qz7 {α β:Type}{f g:α->Option β}:∀(l:List α),(∀x∈l,f x=g x)->l.filterMap f=l.filterMap g
 |[],_=>rfl
 |a::l,h=>by
  rw[YZ,YZ,h a ZC,qz7 l λx hx=>h x (Zn _ hx)]
theorem qN6:∀(l:List (Option Nat)) (a:Nat),((List.range' a l.length).filterMap λj=>((l[j-a]?).getD none).map (λv=>(j,v))).length=(l.filter Option.isSome).length
 |[],a=>rfl
 |x::l,a=>by
  rw[ZQ,List.range'_succ,YZ]
  have ih:=qN6 l (a+1)
  have e:(List.range' (a+1) l.length).filterMap (λj=>(((x::l)[j-a]?).getD none).map (λv=>(j,v)))=(List.range' (a+1) l.length).filterMap λj=>((l[j-(a+1)]?).getD none).map (λv=>(j,v)):=by
   refine qz7 _ λj hj=>?_
   have:=(List.mem_range'_1.mp hj).1
   obtain⟨d,rfl⟩:∃d,j=a+1+d:=⟨j-(a+1),by lia⟩
   rw[show a+1+d-a=d+1 by lia,show a+1+d-(a+1)=d by lia,List.getElem?_cons_succ]
  rw[e,Ub]
  cases x with
  |none=>simpa using ih
  |some v=>simpa using ih
theorem q05 {mask k finger moves:Nat}{led plain:Bool}(hm:mask=2^k-1) (h1:1<=k) (hs:Array Int) (hl:hs.size<=mask) :
  ∃t order,SetTable.laid mask finger moves led plain hs=some (t,order)/\Grown t hs.size/\t.mask=mask/\t.led=led/\t.moves=moves/\order.size=hs.size/\∀v∈order,v<hs.size:=by
 obtain⟨owner,e,g⟩:=xm0 hm hs hl
 have el:∀a:Nat,(List.range (mask+1)).filterMap (λj=>(owner.getD j none).map (λv=>(j,v)))=(List.range' 0 owner.toList.length).filterMap λj=>((owner.toList[j-0]?).getD none).map (λv=>(j,v)):=λ_=>by
  rw[ZL,g.sz,<- List.range_eq_range']
  refine qz7 _ λj hj=>?_
  have hj':=Yq.mp hj
  rw[Nat.sub_zero,Z6]
  simp[Array.getD,g.sz,hj']
 have len:((List.range (mask+1)).filterMap (λj=>(owner.getD j none).map (λv=>(j,v)))).length=hs.size:=by
  rw[el 0,qN6,<- g.ct]
  rfl
 refine⟨_,_,by unfold SetTable.laid;rw[e];rfl,⟨?_,rfl,⟨k,hm,h1⟩,hl⟩,rfl,rfl,rfl,?_,λv hv=>?_⟩
 ·show ((((List.range (mask+1)).filterMap (λj=>(owner.getD j none).map (λv=>(j,v)))).map (·.1)).toArray).size=_
  rw[ZG,Zf,len]
 ·show ((((List.range (mask+1)).filterMap (λj=>(owner.getD j none).map (λv=>(j,v)))).map (·.2)).toArray).size=_
  rw[ZG,Zf,len]
 ·have hv':v∈((List.range (mask+1)).filterMap (λj=>(owner.getD j none).map (λv=>(j,v)))).map (·.2):=by simpa using hv
  obtain⟨q,hq,rfl⟩:=ZH.mp hv'
  obtain⟨j,hj,ej⟩:=VC.mp hq
  obtain⟨v',ev,rfl⟩:=Zj.mp ej
  refine g.lt v' ?_
  have hj':=Yq.mp hj
  have:owner[j]'(by rw[g.sz];exact hj')=some v':=by simpa [Array.getD,g.sz,hj'] using ev
  rw[<- this]
  simp
theorem qE5:∀(f k n:Nat),3<=k->n<2^(k+f)->∃k',SetTable.sizeAbove.go n f (2^k)=2^k'/\3<=k'/\n<2^k'/\(2^k<=2*n+8->2^k'<=2*n+8)
 |0,k,n,hk,h=>⟨k,rfl,hk,h,λz=>z⟩
 |f+1,k,n,hk,h=>by
  unfold SetTable.sizeAbove.go
  by_cases hc:2^k<=n
  ·rw[Zz hc,<- Yb]
   obtain⟨k',e,h1,h2,h3⟩:=qE5 f (k+1) n (by lia) (by rw[show k+1+f=k+(f+1) by lia];exact h)
   exact⟨k',e,h1,h2,λ_=>h3 (by rw[Yb];lia)⟩
  ·rw[Zq hc]
   exact⟨k,rfl,hk,by lia,λz=>z⟩
theorem qp4 {n:Nat}(h:n<2^60):∃k,SetTable.sizeAbove n=2^k/\3<=k/\n<2^k/\2^k<=2*n+8:=by
 obtain⟨k,e,h1,h2,h3⟩:=qE5 64 3 n (by decide) (Vz h (by decide))
 exact⟨k,e,h1,h2,h3 (by show 8<=2*n+8;lia)⟩
theorem qK3 {t:SetTable}{hs:Array Int}{wanted:Nat}(hw:wanted<2^60) (hl:hs.size<wanted) :
  ∃t' order,t.relaid hs wanted=some (t',order)/\Grown t' hs.size/\wanted<=t'.mask/\t'.mask<=2*wanted+8/\t'.led=t.led/\order.size=hs.size/\∀v∈order,v<hs.size:=by
 obtain⟨k,e,h1,h2,h3⟩:=qp4 hw
 have hk:=Xg k
 obtain⟨t',order,el,g,em,eled,_,eo,ev⟩:=q05 (mask:=2^k-1) (k:=k) (finger:=t.finger) (moves:=t.movedTo (2^k-1)) (led:=t.led) (plain:=t.plain) rfl (by lia) hs (by lia)
 refine⟨t',order,?_,g,by rw[em];lia,by rw[em];lia,eled,eo,ev⟩
 unfold SetTable.relaid
 rw[e]
 exact el
theorem q06 {α:Type}{es:Array α}{order:Array Nat}(h:∀v∈order,v<es.size):(order.filterMap (es[·]?)).size=order.size:=by
 rw[<- ZL,Array.toList_filterMap,<- ZL (xs:=order)]
 have:∀l:List Nat,(∀v∈l,v<es.size)->(l.filterMap (es[·]?)).length=l.length:=λl=>by
  induction l with
  |nil=>intro _;rfl
  |cons a l ih=>
   intro hh
   rw[YZ]
   have ha:=hh a ZC
   rw[show es[a]?=some es[a] by simp[ha]]
   simp[ih λv hv=>hh v (Zn _ hv)]
 exact this _ λv hv=>h v (by simpa using hv)
theorem xb0 {α:Type}{es:Array α}{order:Array Nat}{y:α}(h:y∈order.filterMap (es[·]?)):y∈es:=by
 obtain⟨v,_,e⟩:=Array.mem_filterMap.mp h
 exact Array.mem_of_getElem? e
end SetT
namespace SetT
open PySem PySem.Spec PyProof.Rows
section
variable {prog:Program}{w:World}{K:Type}[DecidableEq K]{knd:KeyKind prog w K}{A:Around}{E:Value->Shared->Prop}{s:Shared}
theorem qt2 (n:Nat){v:Value}(h:carriedByValue v=true):ofAClassStatement n v=pure false:=by
 cases v with
 |ref a=>simp[carriedByValue] at h
 |_=>first|rfl|(unfold ofAClassStatement;rfl)|(cases n<;>rfl)
theorem seqItems?_of {M:Model}{a:Addr}{o:Obj}{items:Array Value}{n:Nat}{Q:Option (Array Value)->Shared->Prop}(ho:s.heap.get? a=some o) (hd:o.data=.seq items n) (h:Q (some items) s) :
  wpAny M A (seqItems? (.ref a)) Q E s:=WX ho hd h
theorem qm3 {ks:List K}{a:Addr}{Q:Bool->Shared->Prop}(hk:IsTupleKey knd s.heap ks a) (h:Q false s):wpAny (model prog w) A (ofAClassStatement 8 (.ref a)) Q E s:=by
 have hT:=hk.typeIs
 obtain⟨o,items,n,ho,_,hd,hi⟩:=hk
 unfold ofAClassStatement
 refine Za (WS hT ?_)
 show wpAny _ _ ((if ("tuple" == "tuple")=true then pure true else isSubtype (.type "tuple") (.type "tuple")) >>= _) _ _ s
 rw[Zz (by decide)]
 refine Za (Zb ?_)
 simp only[YN,Zr,ZX]
 refine Za (seqItems?_of ho hd ?_)
 dsimp only
 refine Za ?_
 show wpAny _ _ (forIn items _ _) _ _ s
 rw[<- Array.forIn_toList]
 refine Wv _ (λrest r s'=>r.1=none/\s'=s/\∀v∈rest,carriedByValue v=true) _ ?_ ?_ _ _ ⟨rfl,rfl,hi.byValue⟩
 ·rintro v rest r s' ⟨hr,rfl,jZ⟩
  rw[qt2 _ (jZ v ZC)]
  refine Za (Zb ?_)
  simp only[Zr,ZX]
  exact Zb ⟨rfl,rfl,λu hu'=>jZ u (Zn _ hu')⟩
 ·rintro⟨r1,r2⟩ s' ⟨hr,rfl,_⟩
  simp only at hr
  subst hr
  exact Zb h
theorem xu2 {ks:List K}{a:Addr}{Q:Bool->Shared->Prop}(hk:IsTupleKey knd s.heap ks a) (h:Q false s){stored:List Value}(kB:∀y∈stored,∃b ks',y=.ref b/\IsTupleKey knd s.heap ks' b) :
  wpAny (model prog w) A (searchCouldBeSeen (.ref a) stored) Q E s:=by
 unfold searchCouldBeSeen
 refine Za ?_
 refine Wv _ (λrest r s'=>r.1=none/\s'=s/\∀y∈rest,∃b ks',y=.ref b/\IsTupleKey knd s.heap ks' b) _ ?_ ?_ _ _ ⟨rfl,rfl,kB⟩
 ·rintro y rest r s' ⟨hr,rfl,jZ⟩
  obtain⟨b,ks',rfl,hb⟩:=jZ y ZC
  have rest':∀y∈rest,∃b ks',y=.ref b/\IsTupleKey knd s'.heap ks' b:=λu hu'=>jZ u (Zn _ hu')
  dsimp only
  split
  ·exact Zb ⟨rfl,rfl,rest'⟩
  ·refine Za (wpAny_eqIsQuiet_tuple hk ?_)
   simp only[YN,Zr,ZX]
   refine Za (wpAny_eqIsQuiet_tuple hb ?_)
   simp only[YN,Zr,ZX]
   refine Za (qm3 hk ?_)
   simp only[Zr,ZX]
   refine Za (qm3 hb ?_)
   simp only[Zr,ZX]
   exact Zb ⟨rfl,rfl,rest'⟩
 ·rintro⟨r1,r2⟩ s' ⟨hr,rfl,_⟩
  simp only at hr
  subst hr
  exact Zb h
def Hb (v:Value):Prop:=∃b,∀n,hashByValue n v=pure b
theorem Hb.int (k:Int) (t:Tok):Hb (.int k t):=⟨true,λn=>by cases n<;>rfl⟩
theorem Hb.str (x:Str) (t:Tok):Hb (.str x t):=⟨false,λn=>by cases n<;>rfl⟩
theorem qE6 {a:Addr}{o:Obj}{items:Array Value}{n:Nat}{Q:Bool->Shared->Prop}(ho:s.heap.get? a=some o) (hc:o.cls=.type "tuple") (hd:o.data=.seq items n) (hi:∀v∈items.toList,Hb v) (h:∀b,Q b s) :
  wpAny (model prog w) A (hashByValue 8 (.ref a)) Q E s:=by
 have hT:s.TypeIs (.ref a) "tuple":=⟨o,ho,hc⟩
 unfold hashByValue
 refine Za (wpAny_specialOf hT F.slot_tuple_hash.lookup ?_)
 dsimp only
 refine Za (seqItems?_of ho hd ?_)
 dsimp only [Option.getD]
 refine Za ?_
 show wpAny _ _ (forIn items _ _) _ _ s
 rw[<- Array.forIn_toList]
 refine Wv _ (λrest r s'=>r.1=none/\s'=s/\∀v∈rest,Hb v) _ ?_ ?_ _ _ ⟨rfl,rfl,hi⟩
 ·rintro v rest r s' ⟨hr,rfl,jZ⟩
  obtain⟨b,hb⟩:=jZ v ZC
  rw[hb]
  refine Za (Zb ?_)
  cases b with
  |true=>
   simp only[YN,Zr,ZX]
   exact Zb ⟨rfl,rfl,λu hu'=>jZ u (Zn _ hu')⟩
  |false=>
   simp only[WY,Xx]
   exact Zb (Zb (h false))
 ·rintro⟨r1,r2⟩ s' ⟨hr,rfl,_⟩
  simp only at hr
  subst hr
  exact Zb (h true)
theorem Grown.fits {t:SetTable}{n:Nat}(g:Grown t n):t.fits n=true:=by
 unfold SetTable.fits
 rw[g.pl,g.fill]
 simp[g.le]
theorem qE7 {t:SetTable}{f:Nat->Int}{h:Int}{p:SetTable.Probe}{pr:Option SetTable.Met}{m:Nat}(hp:t.probe f h p=pr) (hd:t.dummies=#[]) (hm:m<10*SetTable.turns t.mask) (hdm:p.dummy=none) (he:t.slot (adv t m p).j=.empty) :
  (∃j,pr=some (.empty j none))\/(∃m' j i,m'<m/\pr=some (.candidate j i (adv t (m'+1) p))/\t.slot j=.live i/\t.place[i]?=some j):=by
 subst hp
 rcases q03 hd f h (10*SetTable.turns t.mask) m p hm hdm he with ⟨j,e⟩|⟨m',j,i,h1,e,h2,h3,_⟩
 ·exact .inl ⟨j,e⟩
 ·exact .inr ⟨m',j,i,h1,e,h2,h3⟩
theorem xu3 {a b:Addr}{o:Obj}{es:Array (Int×Value)}{ep:Nat}{t:SetTable}{ks:List K}{h:Int}{Q:SetFound->Shared->Prop}(hu:A.units<cLine)
  (ho:s.heap.get? a=some o) (hd:o.data=.set es ep t) (g:Grown t es.size) (hk:IsTupleKey knd s.heap ks b) (vM:∀e∈es,∃b' ks',e.2=.ref b'/\IsTupleKey knd s.heap ks' b'/\ks'≠ks) (q:∀j,Q (.free j false) s) :
  ∀(m fuel:Nat) (stand:Option SetTable.Probe),m<fuel->m<10*SetTable.turns t.mask->(stand.getD (t.probeStart h)).dummy=none->t.slot (adv t m (stand.getD (t.probeStart h))).j=.empty ->
   wpAny (model prog w) A (setSearchFrom a (.ref b) h true fuel stand) Q E s:=by
 intro m
 induction m using Nat.strongRecOn with
 |ind m ih=>
  intro fuel stand hf hm hdm he
  cases fuel with
  |zero=>exact absurd hf (Xh _)
  |succ fuel=>
   unfold setSearchFrom
   refine Za (Z0 ho hd g.fits ?_)
   dsimp only
   rw[g.way]
   simp only[Zr,ZX]
   split
   ·rename_i met hp
    rcases qE7 hp g.du hm hdm he with ⟨j,ej⟩|⟨m',j,i,hm',ej,sl,pl⟩
    ·cases ej
     dsimp only
     exact Zb (q j)
    ·cases ej
     dsimp only
     have hi:i<es.size:=by
      have:=(Wk.mp pl).1
      rw[g.pl] at this
      exact this
     obtain⟨b',ks',e2,hk',jJ⟩:=vM es[i] (VS hi)
     have hei:es[i]?=some (es[i].1,.ref b'):=by
      rw[<- e2]
      simp[hi]
     have sm:t.sameMemory t.moves t.mask=some true:=by
      unfold SetTable.sameMemory
      rw[Zz (by simp)]
     have nx:∀fuel',m<fuel'+1->wpAny (model prog w) A (setSearchFrom a (.ref b) h true fuel' (some (adv t (m'+1) (stand.getD (t.probeStart h))))) Q E s:=λfuel' hf'=>
      ih (m-(m'+1)) (by lia) fuel' _ (by lia) (by lia) (by show (adv t (m'+1) _).dummy=none;rw[qt1];exact hdm) (by
       show t.slot (adv t (m-(m'+1)) (adv t (m'+1) _)).j=.empty
       rw[<- qt0,show m'+1+(m-(m'+1))=m by lia]
       exact he)
     have seen:∀y∈(es.filter (·.1==h)).toList.map (·.2),∃b ks',y=.ref b/\IsTupleKey knd s.heap ks' b:=λy hy=>by
      obtain⟨e,he',rfl⟩:=ZH.mp hy
      have:e∈es:=by
       have:=(Array.mem_filter.mp (show e∈es.filter (·.1==h) by simpa using he')).1
       exact this
      obtain⟨b'',ks'',x1,x2,_⟩:=vM e this
      exact⟨b'',ks'',x1,x2⟩
     cases hl:t.led with
     |false=>
      simp only[WY,Xx]
      refine Za (xu2 hk ?_ seen)
      simp only[Zr,ZX]
      rw[hei]
      dsimp only
      refine Za (Z5 (wpAny_eqBool_tuple hu hk' hk ?_))
      rw[Zm jJ]
      refine Za (Z0 ho hd g.fits ?_)
      dsimp only
      simp only[WT,Zr,ZX]
      rw[sm]
      dsimp only
      simp only[Xx]
      rw[sl]
      dsimp only
      rw[hei]
      dsimp only
      refine Za (wpAny_isSame_ref_self ?_)
      refine Za (Zb ?_)
      simp only[Xx]
      exact nx fuel hf
     |true=>
      simp only[YN,Zr,ZX]
      rw[hei]
      dsimp only
      refine Za (Z5 (wpAny_eqBool_tuple hu hk' hk ?_))
      rw[Zm jJ]
      refine Za (Z0 ho hd g.fits ?_)
      dsimp only
      simp only[WT,Zr,ZX]
      rw[sm]
      dsimp only
      simp only[Xx]
      rw[sl]
      dsimp only
      rw[hei]
      dsimp only
      refine Za (wpAny_isSame_ref_self ?_)
      refine Za (Zb ?_)
      simp only[Xx]
      exact nx fuel hf
   ·rename_i hp
    exact Or.elim (qE7 rfl g.du hm hdm he) (λ⟨j,e⟩=>(hp _ e).elim) (λ⟨_,_,_,_,e,_⟩=>(hp _ e).elim)
structure SetR (knd:KeyKind prog w K) (h:Heap) (a:Addr) (Ks:List (List K)) (n:Nat):Prop where
 ex:∃o es ep t,h.get? a=some o/\o.ExactSet/\o.data=.set es ep t/\Grown t es.size/\t.tooFull=false/\t.mask<=8*n+8/\es.size=n/\∀e∈es,∃b ks,e.2=.ref b/\ks∈Ks/\IsTupleKey knd h ks b
theorem qE8 {h:Heap}{a b:Addr}{o:Obj}{ks:List K}{es:Array (Int×Value)}{ep:Nat}{t:SetTable}(x:IsTupleKey knd h ks b) (ho:h.get? a=some o) (hd:o.data=.set es ep t):b≠a:=by
 rintro rfl
 obtain⟨o',items,n,ho',_,hd',_⟩:=x
 obtain rfl:o'=o:=ZK (ho'.symm.trans ho)
 rw[hd] at hd';exact nomatch hd'
theorem qE9 {h h':Heap}{a b:Addr}{ks:List K}(x:IsTupleKey knd h ks b) (jJ:b≠a) (hs:Heap.SameBut a h h'):IsTupleKey knd h' ks b:=by
 obtain⟨o',items,n,ho',hc,hd',hi⟩:=x
 exact⟨o',items,n,(hs.2 b jJ).trans ho',hc,hd',hi⟩
theorem q07 {h:Heap}{a:Addr}{o:Obj}{es es':Array (Int×Value)}{ep:Nat}{t t':SetTable}(ho:h.get? a=some o) (hd:o.data=.set es ep t) :
  (h.update a (Obj.putSet es' t')).get? a=some { o with data:=.set es' (ep+1) t' }:=by
 have:=ZY (Obj.putSet es' t') ho (by rw[V5 es' t' hd];rfl)
 rw[V5 es' t' hd] at this;exact this
theorem xm1 {a b:Addr}{ks:List K}{Ks:List (List K)}{n:Nat}{h:Int}{Q:Bool->Shared->Prop}(hu:A.units<cLine) (S:SetR knd s.heap a Ks n) (hk:IsTupleKey knd s.heap ks b) (hHb:∀o items m,s.heap.get? b=some o->o.data=.seq items m->∀v∈items.toList,Hb v)
  (hn:ks∉Ks) (hsz:n<1200) (q:∀h',Heap.SameBut a s.heap h'->SetR knd h' a (ks::Ks) (n+1)->Q true { s with heap:=h' }) :
  wpAny (model prog w) A (setAddHashed a (.ref b) h) Q E s:=by
 obtain⟨o,es,ep,t,ho,kX,hd,g,hf,hmk,rfl,vM⟩:=S.ex
 unfold setAddHashed setAddHashedIn
 refine Z5 (Za (Z0 ho hd g.fits ?_))
 dsimp only
 have hby:byScan (.ref b) es=false:=rfl
 rw[hby]
 simp only[Zr,ZX]
 obtain⟨m,hm,hslot⟩:=g.meets h
 have hfu:m<100000:=by
  unfold SetTable.turns at hm
  lia
 refine Za (xu3 hu ho hd g hk (λe he=>?_) (λj=>?_) m 100000 none hfu hm rfl hslot)
 ·obtain⟨b',ks',e1,e2,e3⟩:=vM e he
  exact⟨b',ks',e1,e3,λz=>hn (by rw[<- z];exact e2)⟩
 dsimp only
 refine Za (Z0 ho hd g.fits ?_)
 dsimp only
 have g1:=g.put hf j
 generalize hp:t.put j=tp at g1
 obtain⟨t1,p⟩:=tp
 dsimp only at g1 ⊢
 have hmk1:t1.mask=t.mask:=by
  have:(t.put j).1.mask=t.mask:=rfl
  rw[hp] at this
  exact this
 have hba:b≠a:=qE8 hk ho hd
 have mem1:∀{h1:Heap},Heap.SameBut a s.heap h1->∀e∈SetTable.insertAt es p (h,Value.ref b),∃b' ks',e.2=.ref b'/\ks'∈ks::Ks/\IsTupleKey knd h1 ks' b':=λ{h1} hs e he=>by
  rcases qE3 he with rfl|he
  ·exact⟨b,ks,rfl,ZC,qE9 hk hba hs⟩
  ·obtain⟨b',ks',e1,e2,e3⟩:=vM e he
   exact⟨b',ks',e1,Zn _ e2,qE9 e3 (qE8 e3 ho hd) hs⟩
 have sz1:(SetTable.insertAt es p (h,Value.ref b)).size=es.size+1:=qm2 _ _ _
 have room:es.size+1<=sizeLine:=by rw[Wh];lia
 have tail:∀t2:SetTable,Grown t2 (es.size+1)->t2.mask=t.mask->wpAny (model prog w) A (do
   storeSet a (SetTable.insertAt es p (h,Value.ref b)) t2
   if (!false&&t2.tooFull)=true then do
     setRelay a (SetTable.grown (es.size+1))
     pure true
    else pure true) Q E s:=λt2 g2 hm2=>by
  refine Za (WZ ho hd ?_ (by rw[sz1];exact room))
  have vD:=q07 (es':=SetTable.insertAt es p (h,Value.ref b)) (t':=t2) ho hd
  have hs1:=ZV s.heap a (Obj.putSet (SetTable.insertAt es p (h,Value.ref b)) t2)
  cases ht:t2.tooFull with
  |false=>
   simp only[WT,Zr,ZX]
   refine Zb (q _ hs1 ⟨_,_,_,t2,vD,kX,rfl,by rw[sz1];exact g2,ht,by lia,sz1,mem1 hs1⟩)
  |true=>
   simp only[WY,Bool.and_self,Xx]
   refine Za ?_
   unfold setRelay
   refine Za (Z0 vD rfl (by rw[sz1];exact g2.fits) ?_)
   dsimp only
   have gw:SetTable.grown (es.size+1)=(es.size+1)*4:=by
    unfold SetTable.grown
    rw[Zq (by lia)]
   obtain⟨k,ek,_,_,hk3⟩:=qp4 (n:=SetTable.grown (es.size+1)) (by rw[gw];lia)
   rw[Zq (by rw[ek,Wh];rw[gw] at hk3;lia)]
   obtain⟨t3,order,er,g3,hw1,hw2,_,eo,ev⟩:=qK3 (t:=t2) (hs:=(SetTable.insertAt es p (h,Value.ref b)).map (·.1)) (wanted:=SetTable.grown (es.size+1)) (by rw[gw];lia) (by rw[Array.size_map,sz1,gw];lia)
   rw[Array.size_map] at g3 eo ev
   rw[er]
   have es2:(order.filterMap ((SetTable.insertAt es p (h,Value.ref b))[·]?)).size=es.size+1:=by rw[q06 ev,eo,sz1]
   refine Za ?_
   show wpAny _ _ (if ((order.filterMap ((SetTable.insertAt es p (h,Value.ref b))[·]?)).size != (SetTable.insertAt es p (h,Value.ref b)).size)=true then _ else _) _ _ _
   rw[Zq (by rw[es2,sz1];simp)]
   refine Zb ?_
   dsimp only
   refine WZ vD rfl ?_ (by rw[es2];exact room)
   have ho2:=q07 (es':=order.filterMap ((SetTable.insertAt es p (h,Value.ref b))[·]?)) (t':=t3) vD rfl
   have hs2:=hs1.trans (ZV _ a (Obj.putSet (order.filterMap ((SetTable.insertAt es p (h,Value.ref b))[·]?)) t3))
   refine Zb (q _ hs2 ⟨_,_,_,t3,ho2,kX,rfl,by rw[es2,<- sz1];exact g3,?_,?_,es2,λe he=>mem1 hs2 e (xb0 he)⟩)
   ·unfold SetTable.tooFull
    rw[g3.fill,sz1]
    rw[gw] at hw1
    exact Zm (by lia)
   ·rw[gw] at hw2
    lia
 cases jF:t1.plain with
 |false=>
  simp only[Zr,ZX]
  refine Za (Zb ?_)
  simp only[Xx]
  exact tail t1 g1 hmk1
 |true=>
  simp only[Xx]
  obtain⟨ob,items,nn,kZ,jW,hb3,_⟩:=id hk
  refine Za (qE6 kZ jW hb3 (hHb _ _ _ kZ hb3) λc=>?_)
  cases c with
  |true=>
   simp only[Xx]
   exact tail t1 g1 hmk1
  |false=>
   simp only[Zr,ZX]
   exact tail { t1 with plain:=false } ⟨g1.pl,g1.du,g1.ma,g1.le⟩ hmk1
end
section
variable {prog:Program}{w:World}{K:Type}[DecidableEq K]{knd:KeyKind prog w K}
def TupK (knd:KeyKind prog w K) (h:Heap) (ks:List K) (b:Addr):Prop:=∃o items n,h.get? b=some o/\o.cls=.type "tuple" /\ o.data=.seq items n/\ItemsAre knd ks items.toList/\∀v∈items.toList,Hb v
theorem TupK.key {h:Heap}{ks:List K}{b:Addr}(x:TupK knd h ks b):IsTupleKey knd h ks b:=let ⟨o,items,n,h1,h2,h3,h4,_⟩:=x;⟨o,items,n,h1,h2,h3,h4⟩
theorem TupK.hb {h:Heap}{ks:List K}{b:Addr}(x:TupK knd h ks b):∀o items m,h.get? b=some o->o.data=.seq items m->∀v∈items.toList,Hb v:=λo items m e1 e2=>by
 obtain⟨o',items',n',h1,_,h3,_,h5⟩:=x
 rw[e1] at h1;cases h1
 rw[e2] at h3;cases h3
 exact h5
theorem TupK.at {h h':Heap}{ks:List K}{b:Addr}(x:TupK knd h ks b) (k:∀o,h.get? b=some o->h'.get? b=some o):TupK knd h' ks b:=let ⟨o,items,n,h1,r⟩:=x;⟨o,items,n,k o h1,r⟩
theorem SetR.at {h h':Heap}{a:Addr}{Ks:List (List K)}{n:Nat}(S:SetR knd h a Ks n) (k:∀b o,h.get? b=some o->h'.get? b=some o\/b≠a/\¬∃ks,IsTupleKey knd h ks b):SetR knd h' a Ks n:=by
 obtain⟨o,es,ep,t,ho,kX,hd,g,hf,hmk,hn,vM⟩:=S.ex
 refine⟨o,es,ep,t,?_,kX,hd,g,hf,hmk,hn,λe he=>?_⟩
 ·rcases k a o ho with z|z
  ·exact z
  ·exact absurd rfl z.1
 ·obtain⟨b,ks,e1,e2,e3⟩:=vM e he
  refine⟨b,ks,e1,e2,?_⟩
  obtain⟨o',items,n',ho',r⟩:=id e3
  rcases k b o' ho' with z|z
  ·exact⟨o',items,n',z,r⟩
  ·exact absurd ⟨ks,e3⟩ z.2
variable {A:Around}{R:Result->Shared->Prop}{I:Addr}{fp wr:List Addr}{G:Array GenState->Array GenState->Prop}{n:Nat}{P:Nat->Value->Prop}{St:Nat->Shared->Prop}
def xu4 (knd:KeyKind prog w K) (S:Addr) (wr:List Addr) (P:Nat->Value->Prop) (val:Nat->List K) (h:Heap):Prop:=∀i v,P i v->∃b,v=.ref b/\b≠S/\b∉wr/\TupK knd h (val i) b
def xA0 (knd:KeyKind prog w K) (wr:List Addr) (h:Heap):Prop:=∀b∈wr,¬∃ks,IsTupleKey knd h ks b
theorem q08 (W:WalksS prog w A.in1 I fp wr G n P St) (S:Addr) (v0:S∉fp) (val:Nat->List K) (dist:∀i j,i<j->j<n->val i≠val j) (hn:n<=1200) (hu:A.in1.units<cLine)
  (nt:∀i s,St i s->xA0 knd wr s.heap) :
  ∀(k i:Nat) (s:Shared),n-i=k->i<=n->St i s->xu4 knd S wr P val s.heap->(∃Ks,SetR knd s.heap S Ks i/\∀ks∈Ks,∃j,j<i/\ks=val j) ->
   (∀s',Moved (S::wr) G s s'->(∃Ks,SetR knd s'.heap S Ks n)->R (.ok (.ret .none)) s') ->
   codeAny (model prog w) A (.builtin "set.update.loop" ⟨[.ref S,.ref I],[]⟩) R s:=by
 have hSw:S∉wr:=λz=>v0 (W.sub _ z)
 have up:∀b∈wr,b∈S::wr:=λb hb=>Zn _ hb
 have stays:∀{i:Nat}{s s':Shared}{Ks:List (List K)}{m:Nat},St i s->Moved wr G s s'->SetR knd s.heap S Ks m->SetR knd s'.heap S Ks m:=λ{i s s' Ks m} st mv S0=>S0.at λb o e=>by
  by_cases hb:b∈wr
  ·exact .inr ⟨λz=>hSw (by rw[<- z];exact hb),nt i s st b hb⟩
  ·exact .inl (mv.heap b o hb e)
 intro k
 induction k with
 |zero=>
  intro i s hk hi st its hS hR
  have k9:i=n:=by lia
  subst k9
  obtain⟨Ks,S0,_⟩:=hS
  refine Yn YJ ?_
  rw[Yi Z8 _]
  show wpAny _ A.in1 (pyNext (.ref I) >>= _) _ _ s
  refine Za (W.done s _ _ st λs' mv=>?_)
  show wpAny _ A.in1 (ret Value.none) _ _ s'
  exact Zb (hR s' (mv.mono up) ⟨Ks,stays st mv S0⟩)
 |succ k ih=>
  intro i s hk hi st its hS hR
  obtain⟨Ks,S0,hKs⟩:=hS
  have jB:i<n:=by lia
  refine Yn YJ ?_
  rw[Yi Z8 _]
  show wpAny _ A.in1 (pyNext (.ref I) >>= _) _ _ s
  refine Za (W.item i s _ _ jB st λv s' hP st' mv=>?_)
  obtain⟨b,rfl,hbS,hbw,hb⟩:=its i v hP
  have hb':TupK knd s'.heap (val i) b:=hb.at λo e=>mv.heap b o hbw e
  have S1:SetR knd s'.heap S Ks i:=stays st mv S0
  show wpAny _ A.in1 (holding [Value.ref b] (setAdd S (.ref b)) >>= _) _ _ s'
  refine Za (Z5 ?_)
  unfold setAdd
  refine Z5 ?_
  refine Za (wpAny_pyHash_tuple hu hb'.key ?_)
  refine xm1 (s:={ s' with toks:=s'.toks+((val i).length+1) }) hu S1 hb'.key hb'.hb (λz=>?_) (by lia) λh' wB S2=>?_
  ·obtain⟨j,hj,e⟩:=hKs _ z
   exact dist j i hj jB e.symm
  ·have its':xu4 knd S wr P val h':=λj u hPj=>by
    obtain⟨c,rfl,h1,h2,h3⟩:=its j u hPj
    exact⟨c,rfl,h1,h2,(h3.at λo e=>mv.heap c o h2 e).at λo e=>(wB.2 c h1).trans e⟩
   refine Zb ⟨XD Z8 _,ih (i+1) _ (by lia) jB (W.frame _ s' _ _ st' (Yu _ _) λc hc o e=>?_) its' ⟨val i::Ks,S2,λks hks=>?_⟩ λs'' mv'' fin=>?_⟩
   ·rw[wB.2 c (λz:c=S=>v0 (by rw[<- z];exact hc))];exact e
   ·rcases Zs.mp hks with rfl|hks
    ·exact⟨i,YT i,rfl⟩
    ·obtain⟨j,hj,e⟩:=hKs ks hks
     exact⟨j,by lia,e⟩
   ·refine hR s'' (Moved.trans W.gtrans ((mv.mono up).then_heap (Yu _ _) λc o hc e=>?_) mv'') fin
    rw[wB.2 c (λz:c=S=>hc (by rw[z];exact ZC))];exact e
end
end SetT
namespace SetT
open PySem PySem.Spec
section
variable {prog:Program}{w:World}{K:Type}[DecidableEq K]{knd:KeyKind prog w K}{A:Around}{E:Value->Shared->Prop}{s:Shared}
abbrev newS (led:Bool):Obj:={ cls:=.type "set",dict:=none,data:=.set #[] 0 (.fresh 0 0 led) }
theorem qT5 {h:Heap}{a:Addr}{led:Bool}(e:h.get? a=some (newS led)):SetR knd h a [] 0:=
 ⟨_,#[],0,.fresh 0 0 led,e,⟨rfl,rfl,rfl⟩,rfl,⟨rfl,rfl,⟨3,rfl,by decide⟩,Zo _⟩,by rfl,(by show 7<=8*0+8;decide),rfl,λe he=>by simp at he⟩
theorem call_set_tuple {l:Addr}{items:Array Value}{val:Nat->List K}{Q:Value->Shared->Prop}(hh:A.handled=none) (hu:A.units+8<cLine) (hl:s.heap.IsTuple l items)
  (hi:∀(i:Nat) (v:Value),items[i]?=some v->∃b,v=.ref b/\TupK knd s.heap (val i) b) (dist:∀i j,i<j->j<items.size->val i≠val j) (hb:items.size<=1200)
  (h:∀(h':Heap) (tk:Nat),(∃Ks,SetR knd h' s.heap.objs.size Ks items.size)->(∀b o,b<s.heap.objs.size->s.heap.get? b=some o->h'.get? b=some o)->Q (.ref s.heap.objs.size) { s with heap:=h',toks:=tk }) :
  wpAny (model prog w) A (call (.type "set") [.ref l]) Q E s:=by
 obtain⟨c,tl,hmro⟩:=F.called_set.mro
 have made0:=F.called_set.made
 have sub0:=F.called_set.sub
 refine wpAny_call (Vs ?_)
 show wpAny _ _ (callAny (.type "set") _) _ _ _
 refine Zb ⟨VG _ (by decide +kernel),Yn F.entry_type_call ?_⟩
 rw[Around.under_plain (weight_type_call_type "set" [.ref l] []) rfl]
 have f1:=F.called_set.notType
 have f2:=F.called_set.canCreate
 have f3:=F.typeCall_set_1 (.ref l)
 repeat (any_goals first|assumption|wp_step)
 refine Ws (code_set_new_1 (.ref l) (E:=E) (Q₁:=λobj s₁=>∃led:Bool,obj=.ref s.heap.objs.size/\s₁={ s with heap:=s.heap.push (newS led) }) λled=>⟨led,rfl,rfl⟩) λr s₁ hr=>?_
 cases r with
 |error e=>exact hr
 |ok fl=>
  cases fl with
  |ret obj=>
   obtain⟨led,rfl,rfl⟩:=hr
   have hS:(s.heap.push (newS led)).get? s.heap.objs.size=some (newS led):=Zh _ rfl
   have hT:Shared.TypeIs { s with heap:=s.heap.push (newS led) } (.ref s.heap.objs.size) "set":=⟨_,hS,rfl⟩
   have i1:=F.called_set.init.lookup
   have i2:=F.called_set.init.bind (.ref s.heap.objs.size)
   repeat (any_goals first|assumption|wp_step)
   refine Ws (Wl (R:=wants (λr s₂=>r=.none/\∃h' tk,s₂={ s with heap:=h',toks:=tk }/\(∃Ks,SetR knd h' s.heap.objs.size Ks items.size) /\
     (∀b o,b<s.heap.objs.size->s.heap.get? b=some o->h'.get? b=some o)) E) F.called_set.init.plain F.entry_set_init (check_set_init_1 hT ?_)) λr₂ s₂ hr₂=>?_
   ·obtain⟨ol,wE,hcl,nl,hdl⟩:=id hl
    obtain⟨ocls,odict,odata,oslots⟩:=ol
    simp only at hcl hdl
    subst hcl;subst hdl
    have hol':(s.heap.push (newS led)).get? l=some { cls:=.type "tuple",dict:=odict,data:=.seq items nl,slots:=oslots }:=Zc _ wE
    have st1:=F.sub_tuple_set
    have st2:=F.sub_tuple_frozenset
    have ned:(Value.type "tuple" == Value.type "dict")=false:=by decide
    have jV:(s.heap.push (newS led)).IsTuple l items:=⟨_,hol',rfl,nl,rfl⟩
    unfold Builtin.«set.__init__» noKeywords Builtin.Frozenset.updateFrom
    generalize hPI:pyIter=PI
    wp_walk
    subst hPI
    refine WM jV ?_
    refine Za (VH ?_)
    have hlS:l<s.heap.objs.size:=Zi wE
    have hsz:(s.heap.push (newS led)).objs.size=s.heap.objs.size+1:=Yh _ _
    have hneI:l≠(s.heap.push (newS led)).objs.size:=by rw[hsz];exact Zl (ZZ hlS)
    have v0:s.heap.objs.size∉[(s.heap.push (newS led)).objs.size,l]:=by
     rw[hsz];simp only[Zs,Ww,Ur,not_or]
     exact⟨Zl (YT _),XX hlS⟩
    refine q08 (knd:=knd) ((Walks.tuple (by simp[hh]) _ l hneI items).toS) s.heap.objs.size v0 val dist hb (by show A.units+1+1+1<cLine;lia) (λi s' st b hbw=>?_) (items.size-0) 0 _ (by lia) (Zo _)
     ⟨⟨_,Zh _ rfl,rfl,rfl⟩,jV.push _⟩ (λi v hv=>?_) ⟨[],qT5 (Zc _ hS),λks hks=>nomatch hks⟩ λs' mv fin=>?_
    ·rintro⟨ks,o',its',n',e1,e2,e3,_⟩
     have:b=(s.heap.push (newS led)).objs.size:=by simpa using hbw
     subst this
     obtain⟨oi,x1,x2,x3⟩:=st.1
     rw[x1] at e1;cases e1
     rw[x2] at e2
     injection e2 with e2
     exact absurd e2 (by decide)
    ·obtain⟨b,rfl,hb'⟩:=hi i v hv
     have jB:b<s.heap.objs.size:=by obtain⟨o',_,_,e1,_⟩:=hb';exact Zi e1
     refine⟨b,rfl,Zl jB,(by rw[hsz];simp only[Zs,Ww,Ur];exact Zl (ZZ jB)),hb'.at λo e=>Zc _ (Zc _ e)⟩
    ·obtain⟨h',g',d',tk',os'⟩:=s'
     have eg:g'=s.gens:=mv.gens
     have ed:d'=s.drawn:=mv.drawn
     have eo:os'=s.os:=mv.os
     subst eg;subst ed;subst eo
     show wpAny _ _ _ _ _ _
     refine Zb ?_
     show wpAny _ _ (ret Value.none) _ _ _
     refine Zb ⟨rfl,h',tk',rfl,fin,λb o jB e=>?_⟩
     exact mv.heap b o (by rw[hsz];simp only[Zs,Ww,Ur,not_or];exact⟨Zl jB,Zl (ZZ jB)⟩) (Zc _ (Zc _ e))
   ·cases r₂ with
    |error e=>exact hr₂
    |ok fl₂=>
     cases fl₂ with
     |ret r=>
      obtain⟨rfl,h',tk,rfl,fin,kp⟩:=hr₂
      repeat (any_goals first|assumption|wp_step)
      exact h _ _ fin kp
     |_=>exact hr₂.elim
  |_=>exact hr.elim
end
end SetT
namespace L2
open PySem PySem.Spec PyProof.Rows PySem.W
section
variable {M:Model}{A:Around}{E:Value->Shared->Prop}{s:Shared}{base:Heap}{env:Env}{outer:List Env}{L e:Addr}{oe:Obj}{vs:Array Value}{head:Value}{hadNext:Bool}
end
end L2
namespace L2
open PySem PySem.Spec PyProof.Rows
section
variable {P:Program}{w:World}{H H1 H':Hp}{h h1 h':Heap}{outer:List Env}{env:Env}{x L:Addr}{cls:Value}
end
section
variable {P:Program}{w:World}{K:PySem.W.Frag}{mg:Str->Option Value}{base:Heap}{N:List Str}{qual:Str}{scope:Scope}{f:Addr}{cd:Value}{A:Around}{outer:List Env}{s₀:Shared}{H₀:Hp}{E:XK}
end
def SetN (r:Addr) (n:Nat) (h:Heap):Prop:=∃o es ep t,h.get? r=some o/\o.ExactSet/\o.data=.set es ep t/\t.fits es.size=true/\es.size=n
section
variable {X:Cx}
theorem xA1 {k:Key}{u:Value}(r:RelV (kV k) u):SetT.Hb u:=by
 cases k with
 |inl i=>obtain⟨t,rfl⟩:=r;exact SetT.Hb.int i t
 |inr x=>obtain⟨t,rfl⟩:=r;exact SetT.Hb.str x t
theorem xi1:∀{ks:List Key}{us:List Value},Vals (ks.map kV) us->∀v∈us,SetT.Hb v
 |[],_,.nil,v,hv=>by cases hv
 |k::ks,_,.cons r t,v,hv=>by
  rcases Zs.mp hv with rfl|hv
  ·exact xA1 r
  ·exact xi1 t v hv
theorem xm2 {P:Program}{w:World}{H:Hp}{h:Heap}{b:Addr}{ks:List Key}(ok:HOk P w H h) (e:H b=some (.tup (ks.map kV))):SetT.TupK (qd3 P w) h ks b:=by
 obtain⟨_,its,r,o,ho,hc,n,hd⟩:=ok b _ e
 exact⟨o,its.toArray,n,ho,hc,hd,by simpa using qs7 r,λv hv=>xi1 r v (by simpa using hv)⟩
theorem q09 (hc:X.calm=true){k:Nat}(hr:Room k X.A):qe4 X (.type "set") (λxs H Q=>∃(p:Addr) (bs:List Addr) (rows:List (List Key)),xs=[.ref p]/\H p=some (.tup (bs.map V.ref))/\bs.length=rows.length /\
  (∀(i:Nat) b ks,bs[i]?=some b->rows[i]?=some ks->H b=some (.tup (ks.map kV)))/\rows.Nodup/\rows.length<=1200/\∀r,H r=none->Q (.ref r) (upd H r (.ext (SetN r rows.length)))):=by
 intro j8 s σ H xs us Q I rv h
 obtain⟨p,bs,rows,rfl,hp,j9,jE,kE,hsz,q⟩:=h
 obtain⟨u,rfl,ru⟩:=qe9 rv
 cases ru
 obtain⟨_,its,r2,isT⟩:=I.hok p _ hp
 have jM:its.length=bs.length:=by have:=r2.length;simpa using this.symm
 have un:=hr.units
 have item:∀(i:Nat) (v:Value),its[i]?=some v->∃b,bs[i]?=some b/\v=.ref b:=λi v hv=>by
  have hi:i<bs.length:=by rw[<- jM];exact (gS_ hv).1
  obtain⟨w',e1,e2⟩:=r2.get (i:=i) (x:=V.ref bs[i]) (by simp[hi])
  rw[hv] at e1;cases e1
  exact⟨bs[i],by simp[hi],e2⟩
 refine SetT.call_set_tuple (knd:=qd3 X.prog X.w) (items:=its.toArray) (val:=λi=>rows.getD i []) (I.ok.hd hc) (by lia) (show s.heap.IsTuple p its.toArray from isT) (λi v hv=>?_) (λi j k5 hj z=>?_) (by rw[ZG,jM,j9];exact hsz) λh' tk fin kp=>?_
 ·obtain⟨b,hb,rfl⟩:=item i v (by simpa using hv)
  have hi:i<rows.length:=by rw[<- j9];exact (gS_ hb).1
  have e:rows.getD i []=rows[i]:=by simp[List.getD,hi]
  show ∃b',Value.ref b=.ref b'/\SetT.TupK _ s.heap (rows.getD i []) b'
  rw[e]
  exact⟨b,rfl,xm2 I.hok (jE i b rows[i] hb (by simp[hi]))⟩
 ·rw[ZG,jM,j9] at hj
  have z':rows.getD i []=rows.getD j []:=z
  have hi:i<rows.length:=by lia
  have e1:rows.getD i []=rows[i]:=by simp[List.getD,hi]
  have e2:rows.getD j []=rows[j]:=by simp[List.getD,hj]
  rw[e1,e2] at z'
  have:=(List.getElem_inj kE).mp z'
  lia
 ·obtain⟨Ks,S⟩:=fin
  obtain⟨o,es,ep,t,ho,kX,hd,g,hf,_,hn,_⟩:=S.ex
  have hn':es.size=rows.length:=by rw[hn,ZG,jM,j9]
  refine⟨.ref s.heap.objs.size,_,I.laid (a:=s.heap.objs.size) (o:=.ext (SetN s.heap.objs.size rows.length)) (t':=tk) (λb o e=>kp b o (Zi e) e) (Zd _) ⟨⟨o,es,ep,t,ho,kX,hd,g.fits,hn'⟩,⟨o,ho⟩,λh1 h2 φ k=>?_⟩,rfl,q _ (I.hok.fresh (Zd _))⟩
  obtain⟨o',es',ep',t',ho',r⟩:=φ
  exact⟨o',es',ep',t',k o' ho',r⟩
theorem qK4:qe4 X (.builtin "len") (λxs H Q=>∃(r:Addr) (n:Nat),xs=[.ref r]/\H r=some (.ext (SetN r n))/\n<=1200/\Q (.int n) H):=by
 intro j8 s σ H xs us Q I rv h
 obtain⟨r,n,rfl,hr,hn,q⟩:=h
 obtain⟨u,rfl,ru⟩:=qe9 rv
 cases ru
 obtain⟨⟨o,es,ep,t,ho,kX,hd,hf,rfl⟩,_⟩:=I.hok r _ hr
 have hb:(es.size:Int)<=1200:=by lia
 exact call_len_set ho kX hd hf (Int.lt_of_le_of_lt hb (by decide)) ⟨.int es.size,H,I.tok _,⟨_,rfl⟩,q⟩
end
mutual
inductive DataAt (H:Hp):V->PyData->Prop
 |non:DataAt H .non .none
 |bl (b:Bool):DataAt H (.bl b) (.bool b)
 |int (i:Int):DataAt H (.int i) (.int i)
 |str (x:Str):DataAt H (.str x) (.str x)
 |lst {a:Addr}{xs:List V}{ds:List PyData}(h:H a=some (.lst xs)) (r:DatasAt H xs ds):DataAt H (.ref a) (.list ds)
 |tup {a:Addr}{xs:List V}{ds:List PyData}(h:H a=some (.tup xs)) (r:DatasAt H xs ds):DataAt H (.ref a) (.tuple ds)
inductive DatasAt (H:Hp):List V->List PyData->Prop
 |nil:DatasAt H [] []
 |cons {x:V}{xs:List V}{d:PyData}{ds:List PyData}(h:DataAt H x d) (r:DatasAt H xs ds):DatasAt H (x::xs) (d::ds)
end
section
variable {P:Program}{w:World}{H:Hp}{h:Heap}
mutual
theorem DataAt.reads (ok:HOk P w H h):∀{x:V}{d:PyData}{u:Value},DataAt H x d->RelV x u->∃as,Reads h u d as
 |_,_,u,.non,r=>⟨[],by cases (show u=Value.none from r);exact .none⟩
 |_,_,u,.bl b,r=>⟨[],by cases (show u=Value.bool b from r);exact .bool b⟩
 |_,_,u,.int i,r=>⟨[],by obtain⟨t,rfl⟩:=r;exact .int i t⟩
 |_,_,u,.str x,r=>⟨[],by obtain⟨t,rfl⟩:=r;exact .str x t⟩
 |_,_,u,.lst (a:=a) e rs,r=>by
  cases (show u=Value.ref a from r)
  obtain⟨_,its,n,rv,ho⟩:=ok a _ e
  obtain⟨as,ra⟩:=DatasAt.reads ok rs rv
  exact⟨a::as,.list ho rfl rfl (by simpa using ra)⟩
 |_,_,u,.tup (a:=a) e rs,r=>by
  cases (show u=Value.ref a from r)
  obtain⟨_,its,rv,o,ho,hc,n,hd⟩:=ok a _ e
  obtain⟨as,ra⟩:=DatasAt.reads ok rs rv
  exact⟨as,.tuple ho hc hd (by simpa using ra)⟩
theorem DatasAt.reads (ok:HOk P w H h):∀{xs:List V}{ds:List PyData}{us:List Value},DatasAt H xs ds->Vals xs us->∃as,ReadsAll h us ds as
 |_,_,_,.nil,.nil=>⟨[],.nil⟩
 |_,_,_,.cons h1 r1,.cons r rr=>by
  obtain⟨as,ra⟩:=DataAt.reads ok h1 r
  obtain⟨bs,rb⟩:=DatasAt.reads ok r1 rr
  exact⟨as++bs,.cons ra rb⟩
end
mutual
theorem DataAt.same {H':Hp}(s:∀b o,H b=some o->H' b=some o):∀{x:V}{d:PyData},DataAt H x d->DataAt H' x d
 |_,_,.non=>.non
 |_,_,.bl b=>.bl b
 |_,_,.int i=>.int i
 |_,_,.str x=>.str x
 |_,_,.lst e r=>.lst (s _ _ e) (DatasAt.same s r)
 |_,_,.tup e r=>.tup (s _ _ e) (DatasAt.same s r)
theorem DatasAt.same {H':Hp}(s:∀b o,H b=some o->H' b=some o):∀{xs:List V}{ds:List PyData},DatasAt H xs ds->DatasAt H' xs ds
 |_,_,.nil=>.nil
 |_,_,.cons h r=>.cons (DataAt.same s h) (DatasAt.same s r)
end
theorem DatasAt.ints:∀(ns:List Int),DatasAt H (ns.map V.int) (ns.map PyData.int)
 |[]=>.nil
 |n::ns=>.cons (.int n) (DatasAt.ints ns)
end
section
variable {X:Cx}
theorem q10 {k:Nat}(hr:Room k X.A):OpR X (compareOp .Eq) (λx y H Q=>∃d e,DataAt H x d/\DataAt H y e/\d.canLay0=true/\e.canLay0=true/\d.depth<=60/\Q (.bl (PyData.eqv d e)) H):=by
 intro j8 s σ H x y v u Q I rx ry h
 obtain⟨d,e,hd,he,c1,c2,dp,q⟩:=h
 obtain⟨as,ra⟩:=hd.reads I.hok rx
 obtain⟨bs,rb⟩:=he.reads I.hok ry
 have un:=hr.units
 exact SeqAt.rcAt_reads ra rb c1 c2 (by lia) X.prog X.w X.xe _ ⟨.bl _,H,I,rfl,q⟩
theorem qF0 {k:Nat}(hr:Room k X.A):OpR X (compareOp .NotEq) (λx y H Q=>∃d e,DataAt H x d/\DataAt H y e/\d.canLay0=true/\e.canLay0=true/\d.depth<=60/\Q (.bl (!PyData.eqv d e)) H):=by
 intro j8 s σ H x y v u Q I rx ry h
 obtain⟨d,e,hd,he,c1,c2,dp,q⟩:=h
 obtain⟨as,ra⟩:=hd.reads I.hok rx
 obtain⟨bs,rb⟩:=he.reads I.hok ry
 have un:=hr.units
 exact SeqAt.rcNeAt_reads ra rb c1 c2 (by lia) X.prog X.w X.xe _ ⟨.bl _,H,I,rfl,q⟩
end
theorem ql2:∀(a b:List Int),PyData.eqvAll (a.map PyData.int) (b.map PyData.int)=decide (a=b)
 |[],[]=>by simp[PyData.eqvAll]
 |x::a,[]=>by simp[PyData.eqvAll]
 |[],y::b=>by simp[PyData.eqvAll]
 |x::a,y::b=>by
  show (PyData.eqv (.int x) (.int y)&&PyData.eqvAll (a.map PyData.int) (b.map PyData.int))=_
  rw[ql2 a b,show PyData.eqv (.int x) (.int y)=(x==y) by simp[PyData.eqv]]
  rw[Y0]
  simp
theorem ql3:∀(a:List Int),PyData.canLayAll0 (a.map PyData.int)=true
 |[]=>by simp[PyData.canLayAll0]
 |x::a=>by
  show (PyData.canLay0 (.int x)&&PyData.canLayAll0 (a.map PyData.int))=true
  rw[ql3 a]
  simp[PyData.canLay0]
def dT (ns:List Int):PyData:=.tuple (ns.map PyData.int)
def dL (ns:List Int):PyData:=.list (ns.map PyData.int)
theorem q11 (ns:List Int):(dT ns).canLay0=true:=by
 show PyData.canLayAll0 (ns.map PyData.int)=true
 exact ql3 ns
theorem qN7 (ns:List Int):(dL ns).canLay0=true:=by
 show PyData.canLayAll0 (ns.map PyData.int)=true
 exact ql3 ns
theorem xu5 (a b:List Int):PyData.eqv (dT a) (dT b)=decide (a=b):=by
 show PyData.eqvAll _ _=_
 exact ql2 a b
theorem q12 (a b:List Int):PyData.eqv (dL a) (dL b)=decide (a=b):=by
 show PyData.eqvAll _ _=_
 exact ql2 a b
end L2
namespace EnumT
open PySem PySem.Spec
section
variable {prog:Program}{w:World}{A:Around}{E:Value->Shared->Prop}{s:Shared}
theorem qT6 {it t:Addr}{i:Nat}{items:Array Value}{x:Value}{Q:Value->Shared->Prop}(st:s.heap.IsTupleIter it t i) (ht:s.heap.IsTuple t items) (hx:items[i]?=some x)
  (q:∀h',h'.IsTupleIter it t (i+1)->Heap.SameBut it s.heap h'->Q x { s with heap:=h' }):wpAny (model prog w) A (Builtin.SmallTypes.nextOf (.ref it)) Q E s:=by
 obtain⟨o,e1,e2,e3⟩:=id st
 obtain⟨ot,f1,_,nt,f2⟩:=ht
 unfold Builtin.SmallTypes.nextOf
 refine Za (Z2 (name:=Str.ofString "__next__") st.typeIs Xp (Z3 Xp st.typeIs F.entry_tuple_iterator_next ?_ (F.args_tuple_iterator_next_1 _)))
 show wpAny _ _ (field (.ref it) 0 >>= _) _ _ s
 refine Za (Y2 e1 e3 (x:=.ref t) rfl ?_)
 show wpAny _ _ (if (Value.ref t==Value.none)=true then _ else _) _ _ s
 rw[Zq (show ¬((Value.ref t==Value.none)=true) from Zt)]
 show wpAny _ _ (field (.ref it) 1 >>= _) _ _ s
 refine Za (Y2 e1 e3 (x:=.int i 0) rfl ?_)
 show wpAny _ _ (seqItems? (.ref t) >>= _) _ _ s
 refine Za (WX f1 f2 ?_)
 simp only[Zy,hx]
 refine Za (Xq e1 e3 (by simp) (Zb ⟨x,rfl,Zb (q _ ⟨_,ZY _ e1 (Xs (Yp e3 _)),(W0 ..).trans e2,?_⟩ (ZV ..))⟩))
 rw[Yp e3];simp[rawInt]
theorem q13 {it t:Addr}{i:Nat}{items:Array Value}{Q:Value->Shared->Prop}(hh:A.handled=none) (st:s.heap.IsTupleIter it t i) (ht:s.heap.IsTuple t items) (hx:items[i]?=none)
  (q:∀h' e,Heap.ExtBut it s.heap h'->(∃o,h'.get? e=some o/\o.cls=.type "StopIteration")->E (.ref e) { s with heap:=h' }):wpAny (model prog w) A (Builtin.SmallTypes.nextOf (.ref it)) Q E s:=by
 obtain⟨o,e1,e2,e3⟩:=id st
 obtain⟨ot,f1,_,nt,f2⟩:=ht
 unfold Builtin.SmallTypes.nextOf
 refine Za (Z2 (name:=Str.ofString "__next__") st.typeIs Xp (Z3 Xp st.typeIs F.entry_tuple_iterator_next ?_ (F.args_tuple_iterator_next_1 _)))
 show wpAny _ _ (field (.ref it) 0 >>= _) _ _ s
 refine Za (Y2 e1 e3 (x:=.ref t) rfl ?_)
 show wpAny _ _ (if (Value.ref t==Value.none)=true then _ else _) _ _ s
 rw[Zq (show ¬((Value.ref t==Value.none)=true) from Zt)]
 show wpAny _ _ (field (.ref it) 1 >>= _) _ _ s
 refine Za (Y2 e1 e3 (x:=.int i 0) rfl ?_)
 show wpAny _ _ (seqItems? (.ref t) >>= _) _ _ s
 refine Za (WX f1 f2 ?_)
 simp only[Zy,hx]
 refine Za (Y5 (Za (Xq e1 e3 (by simp) ?_)))
 show wpAny _ _ (newExc (.type "StopIteration") [] >>= _) _ _ _
 refine Za ?_
 simp only[newExc,newTuple]
 refine Za (ZP ?_ (by size_fits))
 refine Za (m:=firstArgMember _ _) (VT (a:=Value.none) (by first|rfl|(simp only[firstArgMember];rfl)) ?_)
 refine ZP ?_ (by size_fits)
 simp only[raiseNew]
 refine Za (wpAny_handled ?_)
 first|rw[show A.in1.handled=none from hh]|rw[hh]
 refine Za (Zb (wpAny_throw ?_))
 exact q _ _ (((ZV ..).extBut.push _).push _) ⟨_,Zh _ rfl,rfl⟩
theorem q14 {e it:Addr}{i:Nat}{x old:Value}{St:Heap->Prop}{Q:Value->Shared->Prop}(he:IsEnum s.heap e it i old) (jJ:e≠it)
  (nx:∀Q':Value->Shared->Prop,(∀h',Heap.SameBut it s.heap h'->St h'->Q' x { s with heap:=h' })->wpAny (model prog w) A (Builtin.SmallTypes.nextOf (.ref it)) Q' E s)
  (q:∀h1 h',Heap.SameBut it s.heap h1->St h1->IsEnumOut h' e it ((i:Int)+1) x s.heap.objs.size->h'.get? s.heap.objs.size=some { cls:=.type "tuple",data:=.seq #[.int i s.toks,x] } ->
   (∀b o,b≠e->h1.get? b=some o->h'.get? b=some o)->Q (.ref s.heap.objs.size) { s with heap:=h',toks:=s.toks+1 }) :
  wpAny (model prog w) A (Builtin.«enumerate.__next__» ⟨[.ref e],[]⟩) (λfin s'=>∃v,fin=.done (.ret v)/\Q v s') E s:=by
 obtain⟨hp,g,d,tk,os⟩:=s
 show wpAny _ _ (field (.ref e) 2 >>= _) _ _ _
 refine Za (Y2 he rfl (x:=.ref it) rfl ?_)
 refine Za (nx _ λh₁ s1 st1=>?_)
 replace s1:Heap.SameBut it hp h₁:=s1
 have he₁:IsEnum h₁ e it i old:=(s1.2 e jJ).trans he
 show wpAny _ _ (field (.ref e) 3 >>= _) _ _ ⟨h₁,g,d,tk,os⟩
 refine Za (Y2 he₁ rfl (x:=rawInt i) rfl ?_)
 show wpAny _ _ (field (.ref e) 4 >>= _) _ _ ⟨h₁,g,d,tk,os⟩
 refine Za (Y2 he₁ rfl (x:=.none) rfl ?_)
 show wpAny _ _ (mkInt i >>= _) _ _ ⟨h₁,g,d,tk,os⟩
 refine Za (wpAny_mkInt ?_)
 show wpAny _ _ (setField (.ref e) 3 (rawInt ((i:Int)+1)) >>= _) _ _ ⟨h₁,g,d,tk+1,os⟩
 refine Za (XZ he₁ (by simp) λh₂ he₂ s2=>?_)
 replace s2:Heap.SameBut e h₁ h₂:=s2
 replace he₂:IsEnum h₂ e it ((i:Int)+1) old:=he₂
 show wpAny _ _ (setField (.ref e) 4 .none >>= _) _ _ ⟨h₂,g,d,tk+1,os⟩
 refine Za (XZ he₂ (by simp) λh₃ he₃ s3=>?_)
 replace s3:Heap.SameBut e h₂ h₃:=s3
 replace he₃:IsEnum h₃ e it ((i:Int)+1) old:=he₃
 show wpAny _ _ (newTuple [.int i tk,x] >>= _) _ _ ⟨h₃,g,d,tk+1,os⟩
 refine Za (wpAny_newTuple ?_)
 have z3:h₃.objs.size=hp.objs.size:=by rw[s3.1,s2.1,s1.1]
 have elt:e<hp.objs.size:=Zi he
 obtain⟨h₄,e4⟩:∃h₄,h₃.push { cls:=.type "tuple",data:=.seq #[.int i tk,x] }=h₄:=⟨_,rfl⟩
 have he₄:IsEnum h₄ e it ((i:Int)+1) old:=by rw[<- e4];exact Zc _ he₃
 have ht₄:h₄.get? hp.objs.size=some { cls:=.type "tuple",data:=.seq #[.int i tk,x] }:=by rw[<- e4,<- z3];exact Zh _ rfl
 have k4:∀b o,b≠e->h₁.get? b=some o->h₄.get? b=some o:=λb o hb eb=>by
  rw[<- e4];exact Zc _ (s3.extBut b o hb (s2.extBut b o hb eb))
 rw[e4]
 show wpAny _ _ (Builtin.SmallTypes.ownedTupleIsFree (.ref e) >>= _) _ _ ⟨h₄,g,d,tk+1,os⟩
 rw[z3]
 refine Za ?_
 unfold Builtin.SmallTypes.ownedTupleIsFree
 refine Za (Y2 he₄ rfl (x:=.none) rfl (Zb ?_))
 simp only[Xx]
 refine Za (Y5 ?_)
 refine Za (Y2 he₄ rfl (x:=old) rfl ?_)
 refine Za (XZ he₄ (by simp) λh₅ he₅ s5=>?_)
 replace s5:Heap.SameBut e h₄ h₅:=s5
 replace he₅:IsEnum h₅ e it ((i:Int)+1) x:=he₅
 show wpAny _ _ (Builtin.SmallTypes.ownedTupleHandOut (.ref e) (.ref hp.objs.size) >>= _) _ _ ⟨h₅,g,d,tk+1,os⟩
 refine Za ?_
 unfold Builtin.SmallTypes.ownedTupleHandOut
 refine Za (XZ he₅ (by simp) λh₆ he₆ s6=>?_)
 replace s6:Heap.SameBut e h₅ h₆:=s6
 replace he₆:IsEnumOut h₆ e it ((i:Int)+1) x hp.objs.size:=he₆
 refine XZ he₆ (by simp) λh₇ he₇ s7=>?_
 replace s7:Heap.SameBut e h₆ h₇:=s7
 replace he₇:IsEnumOut h₇ e it ((i:Int)+1) x hp.objs.size:=he₇
 have k7:∀b o,b≠e->h₄.get? b=some o->h₇.get? b=some o:=λb o hb eb=>s7.extBut b o hb (s6.extBut b o hb (s5.extBut b o hb eb))
 exact Za (wpAny_letGo (Zb ⟨_,rfl,q h₁ h₇ s1 st1 he₇ (k7 _ _ (XX elt) ht₄) λb o hb eb=>k7 b o hb (k4 b o hb eb)⟩))
theorem next_pair {e it t:Addr}{i:Nat}{items:Array Value}{x old:Value}{Q:Option Value->Shared->Prop}(he:IsEnum s.heap e it i old) (jJ:e≠it) (st:s.heap.IsTupleIter it t i) (ht:s.heap.IsTuple t items) (hx:items[i]?=some x)
  (q:∀h1 h',Heap.SameBut it s.heap h1->IsEnumOut h' e it ((i:Int)+1) x s.heap.objs.size->h'.IsTupleIter it t (i+1)->h'.get? s.heap.objs.size=some { cls:=.type "tuple",data:=.seq #[.int i s.toks,x] } ->
   (∀b o,b≠e->h1.get? b=some o->h'.get? b=some o)->Q (some (.ref s.heap.objs.size)) { s with heap:=h',toks:=s.toks+1 }):wpAny (model prog w) A (pyNext (.ref e)) Q E s:=by
 have hT:s.TypeIs (.ref e) "enumerate":=⟨_,he,rfl⟩
 unfold pyNext
 refine Za (XE (Z2 (name:=Str.ofString "__next__") hT Wc (Z3 Wc hT F.entry_enumerate_next
  (q14 (St:=λh=>h.IsTupleIter it t (i+1)) he jJ (λQ' q'=>qT6 st ht hx λh' st' sb=>q' h' sb st') λh1 h' sb st1 ho hT' kp=>Zb (q h1 h' sb ho ?_ hT' kp)) (F.args_enumerate_next_1 _))))
 obtain⟨o,x1,x2⟩:=st1
 exact⟨o,kp it o (Xr jJ) x1,x2⟩
theorem next_end {e it t:Addr}{i:Nat}{items:Array Value}{old:Value}{Q:Option Value->Shared->Prop}(hh:A.handled=none) (he:IsEnum s.heap e it i old) (st:s.heap.IsTupleIter it t i) (ht:s.heap.IsTuple t items) (hx:items[i]?=none)
  (q:∀h',Heap.ExtBut it s.heap h'->Q none { s with heap:=h' }):wpAny (model prog w) A (pyNext (.ref e)) Q E s:=by
 have hT:s.TypeIs (.ref e) "enumerate":=⟨_,he,rfl⟩
 unfold pyNext
 refine Za (XE (Z2 (name:=Str.ofString "__next__") hT Wc (Z3 Wc hT F.entry_enumerate_next ?_ (F.args_enumerate_next_1 _))))
 show wpAny _ _ (field (.ref e) 2 >>= _) _ _ _
 refine Za (Y2 he rfl (x:=.ref it) rfl ?_)
 refine Za (q13 hh st ht hx λh' x eb ⟨o,ho,hc⟩=>?_)
 exact Za (XS (T:= "StopIteration") (b:=true) ⟨o,ho,hc⟩ isSubtype_stop (Zb (q _ eb)))
theorem q15 (l:Addr) (items:Array Value) (n:Nat) (dct:Option Addr) (sl:Array (Option Value)) :
  Meets (Builtin.«enumerate.__new__» ⟨[.type "enumerate",.ref l],[]⟩) (λ_ R s=>s.heap.get? l=some { cls:=.type "tuple",dict:=dct,data:=.seq items n,slots:=sl } /\
   R (.ok (.ret (.ref (s.heap.push { cls:=.type "tuple_iterator",data:=.fields #[.ref l,.int 0 0] }).objs.size)))
    { s with heap:=(s.heap.push { cls:=.type "tuple_iterator",data:=.fields #[.ref l,.int 0 0] }).push { cls:=.type "enumerate",data:=.fields #[.none,.bool false,.ref s.heap.objs.size,rawInt 0,.none,.none] } }):=
 .of_wp λprog w A R s h=>by
  obtain⟨hp,g,d,tk,os⟩:=s;obtain⟨hl,h⟩:=h
  have f0:=sub_enumerate
  have hL:Heap.IsTuple (Shared.heap ⟨hp,g,d,tk,os⟩) l items:=⟨_,hl,rfl,n,rfl⟩
  wp_walk using WF hl
  refine wpAny_stack_any λst=>Zb ?_
  split
  ·rename_i c _ _ _ _ _
   cases (c==Value.type "enumerate")
   all_goals
    wp_walk using WF hl,WM hL
    exact⟨_,rfl,h⟩
  ·wp_walk using WF hl,WM hL
   exact⟨_,rfl,h⟩
theorem call_new {l:Addr}{items:Array Value}{Q:Value->Shared->Prop}(hL:s.heap.IsTuple l items)
  (q:∀h',IsEnum h' (s.heap.objs.size+1) s.heap.objs.size 0 .none->h'.IsTupleIter s.heap.objs.size l 0->(∀b o,s.heap.get? b=some o->h'.get? b=some o)->Q (.ref (s.heap.objs.size+1)) { s with heap:=h' }) :
  wpAny (model prog w) A (call (.type "enumerate") [.ref l]) Q E s:=by
 obtain⟨⟨c,dct,dt,sl⟩,hl,hc,n,hd⟩:=hL
 replace hc:c=.type "tuple":=hc
 replace hd:dt=.seq items n:=hd
 subst hc hd
 refine callType_new F.called_enumerate (by decide) (F.typeCall_enumerate_1 _) (F.newCall_enumerate_1 _) (λobj=>F.args_object_init_2 obj _) F.entry_enumerate_new (q15 l items n dct sl) ⟨hl,?_⟩
 have z1:(s.heap.push { cls:=.type "tuple_iterator",data:=.fields #[.ref l,.int 0 0] }).objs.size=s.heap.objs.size+1:=Yh ..
 show _/\_
 rw[z1]
 have he:=Zh (s.heap.push { cls:=.type "tuple_iterator",data:=.fields #[.ref l,.int 0 0] }) (o:={ cls:=.type "enumerate",data:=.fields #[.none,.bool false,.ref s.heap.objs.size,rawInt 0,.none,.none] }) rfl
 rw[z1] at he
 exact⟨⟨_,he,rfl⟩,q _ he ⟨_,Zc _ (Zh _ rfl),rfl,rfl⟩ λb o x=>Zc _ (Zc _ x)⟩
end
end EnumT
namespace L2
open PySem PySem.Spec PyProof.Rows
def Ite (K:PySem.W.Frag) (a:Addr):It:=
 ⟨λi H=>∃xs x,SqT K H a xs/\xs[i]?=some x,λi H y H'=>∃p x,H p=none/\(∀xs,SqT K H a xs->xs[i]?=some x)/\H'=upd H p (.tup [.int i,x])/\y=.ref p,λi H=>∃xs,SqT K H a xs/\xs.length<=i⟩
theorem qz8 {h:Heap}{o o':Obj}{b:Addr}(e:(h.push o).get? b=some o') (jB:b<h.objs.size):h.get? b=some o':=by
 unfold Heap.get? Heap.push at *
 simp only[Array.getElem?_push] at e
 rw[Zq (Zl jB)] at e
 exact e
theorem qT7 {P:Program}{w:World}{K:PySem.W.Frag}{elts:List Expr}{x1:Nat}{tpos:Pos}(a e it:Addr) (jJ:e≠it) :
  Turn P w K (.Tuple elts x1 tpos) (Ite K a) [e,it] e (λi h=>(∃old,IsEnum h e it i old)/\h.IsTupleIter it a i) where
 mem:=by simp
 obj:=λi h st b hb=>by
  rcases Zs.mp hb with rfl|hb
  ·obtain⟨⟨old,z⟩,_⟩:=st
   exact⟨_,z,λv q=>by
    have q':Data.fields _=Data.cell v:=q
    cases q'⟩
  ·have:b=it:=by simpa using hb
   subst this
   obtain⟨_,o,z,_,d⟩:=st
   exact⟨o,z,λv q=>by rw[d] at q;cases q⟩
 keep:=λi h h' st k=>by
  obtain⟨⟨old,z⟩,st2⟩:=st
  exact⟨⟨old,k e (by simp) _ z⟩,st2.at λo q=>k it (by simp) o q⟩
 item:=by
  intro X hP hw hK hc i j8 s σ H E I hf st hg
  subst hP hw hK
  obtain⟨⟨old,he⟩,st2⟩:=st
  obtain⟨xs,x,hq,hx⟩:=hg
  obtain⟨its,rv,p,hz⟩:=I.tuple hq
  obtain⟨u,hu,ru⟩:=rv.get hx
  obtain⟨e0,e1,e2,e3,e4,e5⟩:=hf e (by simp)
  obtain⟨f0,f1,f2,f3,f4,f5⟩:=hf it (by simp)
  refine EnumT.next_pair he jJ st2 (show s.heap.IsTuple a its.toArray from p) (x:=u) (by simpa using hu) λh1 h' sb ho st3 ht kp=>?_
  refine⟨_,rfl,wpAny_letOwnedTupleGo_enum ho λh2 kY sb2=>?_⟩
  have elt:e<s.heap.objs.size:=Zi he
  have ilt:it<s.heap.objs.size:=by obtain⟨o,z,_⟩:=st2;exact Zi z
  have fresh:H s.heap.objs.size=none:=I.hok.fresh (Zd _)
  have z1:h1.objs.size=s.heap.objs.size:=sb.1
  have J0:Inv X j8 σ (upd H s.heap.objs.size (.tup [.int i,x])) { s with heap:=s.heap.push { cls:=.type "tuple",data:=.seq #[.int i s.toks,u] },toks:=s.toks+1 }:=
   I.laid (λb o q=>Zc _ q) (Zd _) ⟨by show 2<=sizeLine;decide,[.int i s.toks,u],.cons ⟨_,rfl⟩ (.cons ru .nil),_,Zh _ rfl,rfl,⟨_,rfl⟩,rfl⟩
  have ne1:(upd H s.heap.objs.size (.tup [.int i,x])) it=none:=by rw[qb2 (Zl ilt)];exact f0
  have ne2:(upd H s.heap.objs.size (.tup [.int i,x])) e=none:=by rw[qb2 (Zl elt)];exact e0
  have J1:=J0.turned (it:=it) (h':=h1.push { cls:=.type "tuple",data:=.seq #[.int i s.toks,u] }) (t':=s.toks+1) (λb o hb q=>by
    have q:(s.heap.push { cls:=.type "tuple",data:=.seq #[.int i s.toks,u] }).get? b=some o:=q
    by_cases jB:b<s.heap.objs.size
    ·have q':s.heap.get? b=some o:=qz8 q jB
     exact Zc _ ((sb.2 b hb).trans q')
    ·have jW:b<s.heap.objs.size+1:=by have:=Zi q;rw[Yh] at this;exact this
     have eb:b=s.heap.objs.size:=WL (VU jW) (Vj jB)
     subst eb
     rw[Zh _ rfl] at q
     cases q
     have:=Zh h1 (o:={ cls:=.type "tuple",data:=.seq #[.int i s.toks,u] }) rfl
     rw[z1] at this
     exact this) ne1 f1 f3 f4 f5
  have J2:=J1.turned (it:=e) (h':=h') (t':=s.toks+1) (λb o hb q=>by
    have q:(h1.push { cls:=.type "tuple",data:=.seq #[.int i s.toks,u] }).get? b=some o:=q
    by_cases jB:b<s.heap.objs.size
    ·have q':h1.get? b=some o:=qz8 q (by rw[z1];exact jB)
     exact kp b o hb q'
    ·have jW:b<s.heap.objs.size+1:=by have:=Zi q;rw[Yh,z1] at this;exact this
     have eb:b=s.heap.objs.size:=WL (VU jW) (Vj jB)
     subst eb
     have:=Zh h1 (o:={ cls:=.type "tuple",data:=.seq #[.int i s.toks,u] }) rfl
     rw[z1] at this
     rw[this] at q
     cases q
     exact ht) ne2 e1 e3 e4 e5
  have J3:=J2.turned (it:=e) (h':=h2) (t':=s.toks+1) (λb o hb q=>(sb2.2 b hb).trans q) ne2 e1 e3 e4 e5
  refine⟨.ref s.heap.objs.size,_,J3,rfl,⟨_,x,fresh,λys hy=>by rw[I.tuple_inj hy hq];exact hx,rfl,rfl⟩,⟨⟨u,by
   have:(((i+1:Nat)):Int)=(i:Int)+1:=by lia
   rw[this];exact kY⟩,st3.at λo q=>(sb2.2 it (Xr jJ)).trans q⟩,λb hb=>?_⟩
  rcases Zs.mp hb with rfl|hb
  ·exact ne2
  ·have:b=it:=by simpa using hb
   subst this
   exact ne1
 done:=by
  intro X hP hw hK hc i j8 s σ H E I hf st hg
  subst hP hw hK
  obtain⟨⟨old,he⟩,st2⟩:=st
  obtain⟨xs,hq,hx⟩:=hg
  obtain⟨its,rv,p,hz⟩:=I.tuple hq
  obtain⟨f0,f1,f2,f3,f4,f5⟩:=hf it (by simp)
  have hl:=rv.length
  exact EnumT.next_end (I.ok.hd hc) he st2 (show s.heap.IsTuple a its.toArray from p) (by simp;lia) λh' eb=>⟨rfl,I.turned (t':=s.toks) (λb o hb e=>eb b o hb e) f0 f1 f3 f4 f5⟩
 self:=λ_ _ _ _ _ st h=>by
  obtain⟨⟨old,he⟩,_⟩:=st
  exact W1 he h
section
variable {X:Cx}{elts:List Expr}{x1:Nat}{tpos:Pos}
def xu6 (K:PySem.W.Frag) (ta:TA):TI:=λσ H R=>ta σ H λvs H1=>∃a,vs=[.ref a]/\(∃xs,SqT K H1 a xs)/\R (Ite K a) H1
theorem xb1 {e:Expr}{ta:TA}{p pos:Pos}(hg:Gl X "enumerate") (hm:X.mg "enumerate" = none) (ha:PA X [e] ta) (hs:starEach [e] X.env=[(false,eval e X.env)]:=by rfl):PI X (.Tuple elts x1 tpos) (.Call (.Name "enumerate" p) [e] [] pos) (xu6 X.K ta):=by
 intro j8 s σ H R I h
 refine Call_ (qs0 I hg hm VA (YU (thn (ha pos j8 s σ H _ I h) λus s1 ⟨vs,H1,I1,r1,q1⟩=>?_) hs rfl))
 obtain⟨a,rfl,⟨xs,hq⟩,q⟩:=q1
 obtain⟨u,rfl,ru⟩:=qe9 r1
 cases ru
 obtain⟨its,rv,pt,hz⟩:=I1.tuple hq
 refine EnumT.call_new (show s1.heap.IsTuple a its.toArray from pt) λh' he st kp=>?_
 refine W1 he ?_
 have J:Inv X j8 σ H1 { s1 with heap:=h' }:=I1.kept (t':=s1.toks) kp
 refine⟨s1.heap.objs.size+1,[s1.heap.objs.size+1,s1.heap.objs.size],_,_,H1,rfl,J,qT7 a _ _ (Nat.succ_ne_self _),⟨⟨.none,he⟩,st⟩,λb hb=>?_,q⟩
 rcases Zs.mp hb with rfl|hb
 ·exact I1.fpOk (Wm _) (I1.hok.fresh (Wm _))
 ·have:b=s1.heap.objs.size:=by simpa using hb
  subst this
  exact I1.fpOk (Zd _) (I1.hok.fresh (Zd _))
end
section
variable {X:Cx}
def qc1 (X:Cx) (scope:Scope) (cl:List (Str×Addr)) (C:Addr) (ns:List Str) (fp:List Addr) (s₀:Shared) (H₀:Hp):Cx:=
 { X with N:=ns++X.N,s₀:=s₀,H₀:=H₀,env:=compEnvC scope cl C X.env,outer:=X.stack,stack:=X.stack,ex:=fp,fn:=λ_=>false,pn:=[],xe:=λ_ _=>False }
def qF1 (n:Nat) (wi:TI) (g:TG) (tt:TT) (te:TE):TE:=λσ H Q=>wi σ H λJ H1=>∀D,H1 D=none->∃W:Nat->Nat->List V->Hp->Prop,(∃m,W 0 m [] (upd H1 D (.lst []))) /\
 ∀i m xs H2,W i m xs H2->H2 D=some (.lst xs)/\xs.length<sizeLine/\((J.stop i H2/\Q (.ref D) H2)\/(J.go i H2/\∀y H3,J.yld i H2 y H3->∀os:St,os.length=n ->
  g y (os++σ) H3 λσ4 H4=>tt σ4 H4 λb H5=>if b=true then te σ4 H5 λv H6=>H6 D=some (.lst xs)/\∃m',m'<m/\W (i+1) m' (xs++[v]) (upd H6 D (.lst (xs++[v]))) else ∃m',m'<m/\W (i+1) m' xs H5))
theorem qF2 {prog:Program}{w:World}{A:Around}{R:Result->Shared->Prop}{s:Shared}{elt target iter:Expr}{ifs:List Expr}{scope:Scope}{pos:Pos}{it acc:Value}{env:Env}(T:Sem Bool)
  (hT:compTurn (.ListComp elt [⟨target,iter,ifs,0⟩] scope pos) 0 it acc env=(standAt iter.pos >>= λ_=>pyNext it >>= λr=>match r with
   |none=>pure (.done .next)
   |some v=>letOwnedTupleGo target it v >>= λ_=>assign target env v >>= λ_=>T >>= λok=>(if ok=true then (eval elt env >>= λx=>call (.builtin "list.append") [acc,x] >>= λ_=>pure ()) else pure ()) >>= λ_=>
     again (.compLoop (.ListComp elt [⟨target,iter,ifs,0⟩] scope pos) 0 it acc env)))
  (I:Nat->Shared->Prop)
  (turn:∀n s,I n s->wpAny (model prog w) A (pyNext it) (λr s₁=>match r with
   |none=>R (.ok .next) s₁
   |some v=>wpAny (model prog w) A (letOwnedTupleGo target it v) (λ_ s₁'=>wpAny (model prog w) A (assign target env v) (λ_ s₂=>wpAny (model prog w) A T (λok s₃=>
     if ok=true then wpAny (model prog w) A (eval elt env) (λx s₄=>wpAny (model prog w) A (call (.builtin "list.append") [acc,x]) (λ_ s₅=>∃m,m<n/\I m s₅) (λ_ _=>False) s₄) (λ_ _=>False) s₃
     else ∃m,m<n/\I m s₃) (λ_ _=>False) s₂) (λ_ _=>False) s₁') (λ_ _=>False) s₁) (λ_ _=>False) s)
  (n:Nat) (h:I n s):codeAny (model prog w) A (.compLoop (.ListComp elt [⟨target,iter,ifs,0⟩] scope pos) 0 it acc env) R s:=by
 refine codeAny_loop rfl I (λn s hI=>?_) n h
 show wpAny _ A ((compTurn (.ListComp elt [⟨target,iter,ifs,0⟩] scope pos) 0 it acc env).onRaise (λx=>do noteFrame x env;theTreesLotGoes x)) _ _ s
 refine wpAny_noted ?_
 rw[hT]
 refine Za (V2 (Za (Yw (turn n s hI) (λr s₁ h₁=>?_) λ_ _ h'=>h'.elim)))
 cases r with
 |none=>exact Zb h₁
 |some v=>
  refine Za (Yw h₁ (λ_ s₁' h₁'=>?_) λ_ _ h'=>h'.elim)
  refine Za (Yw h₁' (λ_ s₂ h₂=>Za (Yw h₂ (λok s₃ h₃=>?_) λ_ _ h'=>h'.elim)) λ_ _ h'=>h'.elim)
  cases ok with
  |true=>
   rw[Zz rfl] at h₃
   simp only[Xx]
   exact Za (Za (Yw h₃ (λx s₄ h₄=>Za (Yw h₄ (λ_ s₅ h₅=>Zb (Zb ⟨rfl,h₅⟩)) λ_ _ h'=>h'.elim)) λ_ _ h'=>h'.elim))
  |false=>
   rw[Zq Zt] at h₃
   simp only[Zr,ZX]
   exact Za (Zb (Zb ⟨rfl,h₃⟩))
theorem q16 (elt target iter:Expr) (scope:Scope) (pos:Pos) (it acc:Value) (env:Env):compTurn (.ListComp elt [⟨target,iter,[],0⟩] scope pos) 0 it acc env=(standAt iter.pos >>= λ_=>pyNext it >>= λr=>match r with
   |none=>pure (.done .next)
   |some v=>letOwnedTupleGo target it v >>= λ_=>assign target env v >>= λ_=>(pure true:Sem Bool) >>= λok=>(if ok=true then (eval elt env >>= λx=>call (.builtin "list.append") [acc,x] >>= λ_=>pure ()) else pure ()) >>= λ_=>
     again (.compLoop (.ListComp elt [⟨target,iter,[],0⟩] scope pos) 0 it acc env)):=by
 rw[compTurn_list1]
 congr 1
theorem xb2 (elt target iter c:Expr) (scope:Scope) (pos:Pos) (it acc:Value) (env:Env):compTurn (.ListComp elt [⟨target,iter,[c],0⟩] scope pos) 0 it acc env=(standAt iter.pos >>= λ_=>pyNext it >>= λr=>match r with
   |none=>pure (.done .next)
   |some v=>letOwnedTupleGo target it v >>= λ_=>assign target env v >>= λ_=>isTrue c env (eval c env) >>= λok=>(if ok=true then (eval elt env >>= λx=>call (.builtin "list.append") [acc,x] >>= λ_=>pure ()) else pure ()) >>= λ_=>
     again (.compLoop (.ListComp elt [⟨target,iter,[c],0⟩] scope pos) 0 it acc env)):=by
 rw[compTurn_list]
 refine Uc λ_=>Uc λr=>?_
 cases r with
 |none=>rfl
 |some v=>
  refine Uc λ_=>Uc λ_=>?_
  simp only[Vr,List.forIn_nil,Xx,bind_assoc,WQ]
  refine Uc λok=>?_
  cases ok<;>simp
theorem qt3 {j8:List (Addr×Obj)}{σ:St}{H:Hp}{s:Shared}{h':Heap}{tk:Nat}{scope:Scope}{cl:List (Str×Addr)}{C:Addr}{nn:List Str}{fp:List Addr}{m:Str->Option Value}
  (I:Inv X j8 σ H s) (hC:C=s.heap.objs.size) (keep:∀b o,s.heap.get? b=some o->h'.get? b=some o) (ns:h'.Ns C m) (kP:∀b∈fp,FpOk X j8 H b) (hfs:∀b∈fp,b<s.heap.objs.size)
  (jC:scope.kind=.function) (jA:∀y∈scope.names,y.2≠.cell) (jK:∀y∈X.N,scope.names.lookup y≠some .local)
  (jG:∀y c,cl.lookup y=some c->X.env.cells.lookup y=some c) (jU:∀p∈scope.names,p.2=.free->(cl.lookup p.1).isSome=true)
  (jQ:∀p∈scope.names,p.2=.free->Vis X.env.scope p.1/\X.env.scope.names.lookup p.1≠some .local) :
  Inv (qc1 X scope cl C nn fp s H) [] ((nn.map λ_=>none)++σ) H { s with heap:=h',toks:=tk }:=by
 have cells:∀y c,cl.lookup y=some c->∃v,s.heap.IsCell c v:=λy c e=>I.cell y c (jG y c e)
 have celllt:∀y c,cl.lookup y=some c->c<s.heap.objs.size:=λy c e=>by
  obtain⟨v,q⟩:=cells y c e
  exact q.lt
 have cellk:∀c v,s.heap.IsCell c v->h'.IsCell c v:=λc v ⟨o,e,d⟩=>⟨o,keep c o e,d⟩
 have stkl:∀b∈frs X.stack,∃o,s.heap.get? b=some o:=λb hb=>by
  rcases Zs.mp (I.stkSub b hb) with e|hb
  ·obtain⟨_,⟨o,_,_,ho,_⟩,_⟩:=I.loc
   exact⟨o,by rw[e];exact ho⟩
  ·obtain⟨_,o,ho,_⟩:=I.funs.mem hb
   exact⟨o,ho⟩
 refine⟨⟨I.ok.mod,jC,I.ok.glob,I.ok.blt,Wt hC.symm,λy z c h1 h2=>I.ok.inj y z c (jG y c h1) (jG z c h2),λy hy=>?_,λy c h _=>Bool.noConfusion h,I.ok.hd,I.ok.frames,.inl rfl,λb hb=>⟨?_,λy c e z=>?_⟩,I.bs,
  ZE I.ok.bsz I.sz,λb o e hb=>?_,λb hb hf=>?_,I.stack,I.stkFree⟩,rfl,I.bare,Un.kept keep,⟨m,ns,λi y v h1 h2 h3=>?_⟩,λy c e=>?_,?_,λy c e=>?_,λp hp=>absurd hp (by simp[qc1]),I.hok.kept keep,?_⟩
 ·
  have hy:(relabel scope X.env).names.lookup y=some .cell\/(relabel scope X.env).names.lookup y=some .free:=hy
  obtain⟨p,hp,e1,e2⟩:∃p∈scope.names,p.1=y/\p.2=.free:=by
   rcases hy with hy|hy
   ·exact qd0 hy jA (.inl rfl)
   ·exact qd0 hy jA (.inr rfl)
  obtain⟨c,e⟩:=Y8.mp (jU p hp e2)
  exact⟨c,by rw[<- e1];exact e⟩
 ·show b≠C
  rw[hC];exact Zl (hfs b hb)
 ·exact (kP b hb).2.2.2.2.1 y c (jG y c e) z
 ·rcases (kP b hb).2.2.2.1 with z|z
  ·exact I.ok.noex b o e z
  ·exact absurd (ZN (Zi (I.ok.bs b o e).1) z) (Ys _)
 ·rcases Zs.mp (I.stkSub b hf) with z|z
  ·exact (kP b hb).2.1 z
  ·exact (kP b hb).2.2.1 z
 ·
  by_cases k9:i<nn.length
  ·rw[ZD (by simpa using k9)] at h2
   simp at h2
  ·obtain⟨j,rfl⟩:∃j,i=nn.length+j:=⟨i-nn.length,by lia⟩
   have h1:X.N[j]?=some y:=by
    have h1:(nn++X.N)[nn.length+j]?=some y:=h1
    rw[ZF (Yu _ _),XT] at h1
    exact h1
   have h2:σ[j]?=some (some v):=by
    rw[ZF (by simp)] at h2
    simpa using h2
   have h3:(relabel scope X.env).names.lookup y=some .local\/(relabel scope X.env).names.lookup y=some .cell\/(relabel scope X.env).names.lookup y=some .free:=h3
   rcases h3 with h3|h3
   ·exact absurd (qh5 h3) (jK y (Zv h1))
   ·obtain⟨p,hp,e1,e2⟩:∃p∈scope.names,p.1=y/\p.2=.free:=by
     rcases h3 with h3|h3
     ·exact qd0 h3 jA (.inl rfl)
     ·exact qd0 h3 jA (.inr rfl)
    obtain⟨hv,k8⟩:=jQ p hp e2
    rw[e1] at hv k8
    obtain⟨m0,_,hl0⟩:=I.loc
    obtain⟨u,ru,lk⟩:=hl0 j y v h1 h2 hv
    rcases lk with ⟨lk,_⟩|⟨_,c,hc,hcv⟩
    ·exact absurd lk k8
    ·obtain⟨c',e'⟩:=Y8.mp (jU p hp e2)
     rw[e1] at e'
     have:=jG y c' e'
     rw[hc] at this
     cases this
     refine⟨u,ru,.inr ⟨h3,c,e',cellk c _ hcv⟩⟩
 ·obtain⟨v,q⟩:=cells y c e
  exact⟨v,cellk c v q⟩
 ·show H C=none
  exact I.hok.fresh (Wt hC.symm)
 ·exact I.freeC y c (jG y c e)
 ·show ((nn.map λ_=>none)++σ).length=(nn++X.N).length
  simp[I.len]
theorem qF3 {j8:List (Addr×Obj)}{σ σ':St}{H H':Hp}{s s':Shared}{h':Heap}{scope:Scope}{cl:List (Str×Addr)}{C:Addr}{nn:List Str}{fp:List Addr}
  (I:Inv X j8 σ H s) (hC:C=s.heap.objs.size) (kP:∀b∈fp,FpOk X j8 H b) (J:Inv (qc1 X scope cl C nn fp s H) [] σ' H' s') (sb:Heap.SameBut C s'.heap h'):Inv X j8 σ H' { s' with heap:=h' }:=by
 have ne:∀b o,s.heap.get? b=some o->b≠C:=λb o e=>by rw[hC];exact Zl (Zi e)
 have B:Un (frs X.stack) fp H H' s.heap s'.heap:=J.base
 have U:Un (frs X.stack) fp H H' s.heap h':=
  ⟨λb o e n hb hx=>(sb.2 b (ne b o e)).trans (B.keep b o e n hb hx),λb o e n hb hx=>by
   obtain⟨sl,q⟩:=B.slot b o e n hb hx
   exact⟨sl,(sb.2 b (ne b o e)).trans q⟩,B.free,λb o e hx=>by
   obtain⟨o',q⟩:=B.there b o e hx
   exact⟨o',(sb.2 b (ne b o e)).trans q⟩,B.tups,B.frzs,B.tbls⟩
 have hf:H' C=none:=J.free
 have K:HOk X.prog X.w H' h':=λb o e=>(J.hok b o e).stay (λc u hc q=>(sb.2 c (by
  rintro rfl
  rcases hc with z|z
  ·rw[z,e] at hf;cases hf
  ·rw[hf] at z;cases z)).trans q) (λ_ q=>q) λ_ _ q=>q
 refine I.call' (s':={ s' with heap:=h' }) (ch:=fp) J.os U K J.bare λb hb=>?_
 obtain⟨_,h2,_,h4,h5,h6⟩:=kP b hb
 exact⟨h4,h2,h5,h6⟩
theorem qN8 {nn:List Str}{tg:Expr}{ifs:List Expr}{pos:Pos}{elt iter:Expr}{scope:Scope}{wi:TI}{g:TG}{tt:TT}{te:TE}(T:Env->Sem Bool) (hc:X.calm=true) (hi:PI X tg iter wi)
  (hturn:∀it acc env,compTurn (.ListComp elt [⟨tg,iter,ifs,0⟩] scope pos) 0 it acc env=(standAt iter.pos >>= λ_=>pyNext it >>= λr=>match r with
   |none=>pure (.done .next)
   |some v=>letOwnedTupleGo tg it v >>= λ_=>assign tg env v >>= λ_=>T env >>= λok=>(if ok=true then (eval elt env >>= λx=>call (.builtin "list.append") [acc,x] >>= λ_=>pure ()) else pure ()) >>= λ_=>
     again (.compLoop (.ListComp elt [⟨tg,iter,ifs,0⟩] scope pos) 0 it acc env)))
  (hgt:∀cl C fp s₀ H₀,PG (qc1 X scope cl C nn fp s₀ H₀) tg g)
  (hloc2:∀y (os σ:St) H R,os.length=nn.length->g y (os++σ) H R->g y (os++σ) H λσ' H'=>(∃os':St,os'.length=nn.length/\σ'=os'++σ)/\R σ' H')
  (htt:∀cl C fp s₀ H₀ (j8:List (Addr×Obj)) (s:Shared) (σ:St) (H:Hp) (Q:Bool->Hp->Prop),Inv (qc1 X scope cl C nn fp s₀ H₀) j8 σ H s->tt σ H Q->wpAny (model X.prog X.w) X.A (T (compEnvC scope cl C X.env)) (TP (qc1 X scope cl C nn fp s₀ H₀) j8 σ Q) (λ_ _=>False) s)
  (he:∀cl C fp s₀ H₀,PE (qc1 X scope cl C nn fp s₀ H₀) elt te)
  (jC:scope.kind=.function) (jA:∀y∈scope.names,y.2≠.cell) (jD:∀y∈scope.names,y.2=.local->scope.names.lookup y.1=some .local)
  (jK:∀y∈X.N,scope.names.lookup y≠some .local) (jQ:∀p∈scope.names,p.2=.free->Vis X.env.scope p.1/\X.env.scope.names.lookup p.1≠some .local)
  (hs:∀x,foldedSetIterable iter X.env x=pure x):PE X (.ListComp elt [⟨tg,iter,ifs,0⟩] scope pos) (qF1 nn.length wi g tt te):=by
 intro j8 s σ H Q I h
 rw[eval_ListComp]
 obtain⟨cl,hclos,jG,jU⟩:=qf7 (scope:=scope) (env:=X.env) (λp hp hk=>by
  obtain⟨hv,hn⟩:=jQ p hp hk
  refine I.ok.has p.1 ?_
  rcases hv with z|z
  ·exact absurd z hn
  ·exact z)
 refine WD (use:=none) rfl hs hclos jC jD (thn (hi j8 s σ H _ I h) λv s1 h1=>thn h1 λitv s2 h2=>?_)
 obtain⟨it,fp,tn,J,H2,rfl,I2,T',st2,f2,q⟩:=h2
 have hD:H2 s2.heap.objs.size=none:=I2.hok.fresh (Zd _)
 obtain⟨W,⟨m0,w0⟩,turn⟩:=q _ hD
 refine ZP (Vn jA (by intro y hy;simp at hy) (λh₁ hns₁ hsb₁=>?_) jC)
 dsimp only at hns₁ hsb₁ ⊢
 have I3:Inv X j8 σ (upd H2 s2.heap.objs.size (.lst [])) { s2 with heap:=s2.heap.push { cls:=.type "list",dict:=none,data:=.seq ([]:List Value).toArray } }:=
  I2.laid (t':=s2.toks) (λb u e=>Zc _ e) (Zd _) ⟨Zo _,[],0,.nil,Zh _ rfl⟩
 have fpn:∀b∈fp,b≠s2.heap.objs.size:=λb hb=>by
  obtain⟨o,e,_⟩:=T'.obj 0 s2.heap st2 b hb
  exact Zl (Zi e)
 have fplt:∀b∈fp,b<(s2.heap.push { cls:=.type "list",dict:=none,data:=.seq ([]:List Value).toArray }).objs.size:=λb hb=>by
  obtain⟨o,e,_⟩:=T'.obj 0 s2.heap st2 b hb
  rw[Yh];exact ZZ (Zi e)
 have f3:∀b∈fp,FpOk X j8 (upd H2 s2.heap.objs.size (.lst [])) b:=λb hb=>⟨by rw[qb2 (fpn b hb)];exact (f2 b hb).1,(f2 b hb).2⟩
 generalize hg2:s2.heap.push { cls:=.type "list",dict:=none,data:=.seq ([]:List Value).toArray }=g2 at hns₁ hsb₁ I3 fplt ⊢
 have keep:∀b o,g2.get? b=some o->h₁.get? b=some o:=λb o e=>(hsb₁.2 b (Zl (Zi e))).trans (Zc _ e)
 have J0:=qt3 (nn:=nn) (tk:=s2.toks+([]:List (Str×Value)).length) I3 (C:=g2.objs.size) rfl keep hns₁ f3 fplt jC jA jK jG jU jQ
 generalize hY:qc1 X scope cl g2.objs.size nn fp { s2 with heap:=g2 } (upd H2 s2.heap.objs.size (.lst []))=Y at J0
 have eY:PE Y elt te:=by rw[<- hY];exact he _ _ _ _ _
 have eG:PG Y tg g:=by rw[<- hY];exact hgt _ _ _ _ _
 have eT:∀(j8:List (Addr×Obj)) (s:Shared) (σ:St) (H:Hp) (Q:Bool->Hp->Prop),Inv Y j8 σ H s->tt σ H Q->wpAny (model Y.prog Y.w) Y.A (T Y.env) (TP Y j8 σ Q) Y.xe s:=by rw[<- hY];exact htt _ _ _ _ _
 have eP:Y.prog=X.prog:=by rw[<- hY];rfl
 have eW:Y.w=X.w:=by rw[<- hY];rfl
 have eK:Y.K=X.K:=by rw[<- hY];rfl
 have eA:Y.A=X.A:=by rw[<- hY];rfl
 have eC:Y.calm=true:=by rw[<- hY];exact hc
 have eE:Y.env=compEnvC scope cl g2.objs.size X.env:=by rw[<- hY];rfl
 have eX:Y.xe=λ_ _=>False:=by rw[<- hY];rfl
 have eN:Y.N=nn++X.N:=by rw[<- hY];rfl
 have eEx:Y.ex=fp:=by rw[<- hY];rfl
 have eFs:Y.fs=frs X.stack:=by rw[<- hY];rfl
 have ePn:Y.pn=[]:=by rw[<- hY];rfl
 have fpY:∀{H':Hp},(∀b∈fp,H' b=none)->∀b∈fp,FpOk Y [] H' b:=λhn b hb=>by
  have g:=f3 b hb
  refine⟨hn b hb,?_,?_,.inl (by rw[eEx];exact hb),?_,λp hp=>absurd hp (by rw[ePn];simp)⟩
  ·rw[eE];exact Zl (fplt b hb)
  ·rw[eFs]
   intro z
   rcases Zs.mp (I3.stkSub b z) with z|z
   ·exact g.2.1 z
   ·exact g.2.2.1 z
  ·rw[eE]
   exact λy c e=>g.2.2.2.2.1 y c (jG y c e)
 have loop:∀s₃:Shared,s₃={ s2 with heap:=h₁,toks:=s2.toks+([]:List (Str×Value)).length } ->
   codeAny (model X.prog X.w) X.A (.compLoop (.ListComp elt [⟨tg,iter,ifs,0⟩] scope pos) 0 (.ref it) (.ref s2.heap.objs.size) (compEnvC scope cl g2.objs.size X.env))
    (compPost (model X.prog X.w) X.A X.xe none (EP X j8 σ Q) (.ref s2.heap.objs.size) g2.objs.size) s₃:=by
  rintro s₃ rfl
  refine qF2 (T (compEnvC scope cl g2.objs.size X.env)) (hturn _ _ _) (λn s'=>∃i xs H' os,os.length=nn.length/\Inv Y [] (os++σ) H' s'/\tn i s'.heap/\(∀b∈fp,H' b=none)/\W i n xs H') ?_ m0
   ⟨0,[],_,nn.map λ_=>none,by simp,J0,T'.keep 0 _ _ st2 (λb hb o e=>keep b o (by rw[<- hg2];exact Zc _ e)),λb hb=>(f3 b hb).1,w0⟩
  rintro n s3 ⟨i,xs,H3,os,vC,I4,st3,fr3,w3⟩
  obtain⟨hDx,hlx,alt⟩:=turn i n xs H3 w3
  rcases alt with ⟨stop,qn⟩|⟨go,step⟩
  ·have D1:=T'.done Y eP eW eK eC i [] s3 _ H3 (λ_ _=>False) I4 (fpY fr3) st3 stop
   rw[eA] at D1
   refine thn D1 λr s4 ⟨hr,I5⟩=>?_
   subst hr
   obtain⟨m4,jT,_⟩:=id I5.loc
   rw[eE] at jT
   refine⟨m4,jT,λh' sb=>⟨.ref _,H3,?_,rfl,qn⟩⟩
   rw[<- hY] at I5
   exact qF3 I3 rfl f3 I5 sb
  ·have G1:=T'.item Y eP eW eK eC i [] s3 _ H3 (λ_ _=>False) I4 (fpY fr3) st3 go
   rw[eA] at G1
   refine thn G1 λr s4 ⟨u,hr,h4⟩=>?_
   subst hr
   refine thn h4 λ_ s5 ⟨y,H5,I5,r5,y5,st5,fr5⟩=>?_
   have I5':=I5.pinned (fpY fr5) (T'.obj _ _ st5)
   have S1:=eG _ s5 _ H5 y u _ I5' r5 (hloc2 y os σ H5 _ vC (step y _ y5 os vC))
   rw[eP,eW,eA,eE,eX] at S1
   refine thn S1 λ_ s6 ⟨σ6,H6,I6,⟨os6,hos6,e6⟩,q6⟩=>?_
   subst e6
   have S2:=eT _ s6 _ _ _ I6 q6
   rw[eP,eW,eA,eE,eX] at S2
   refine thn S2 λok s7 ⟨H7,I7,q7⟩=>?_
   have back:∀{s9:Shared}{H9:Hp}{m':Nat}{zs:List V},Inv Y ([]++qx7 fp s5.heap) (os6++σ) H9 s9->m'<n->W (i+1) m' zs H9->∃m,m<n/\∃i xs H' os,os.length=nn.length/\Inv Y [] (os++σ) H' s9/\tn i s9.heap/\(∀b∈fp,H' b=none)/\W i m xs H':=λ{s9 H9 m' zs} I9 hm' w9=>by
    have pin:∀b∈fp,∀ob,s5.heap.get? b=some ob->s9.heap.get? b=some ob/\H9 b=none:=λb hb ob e=>by
     have z:=I9.pin (b,ob) (ZI _ (ZI _ (qf1 hb e)))
     exact⟨z.1,z.2.1⟩
    refine⟨m',hm',i+1,zs,H9,os6,hos6,I9.unpinned,T'.keep _ _ _ st5 (λb hb ob e=>(pin b hb ob e).1),λb hb=>?_,w9⟩
    obtain⟨ob,e,_⟩:=T'.obj _ _ st5 b hb
    exact (pin b hb ob e).2
   cases ok with
   |true=>
    rw[Zz rfl] at q7
    rw[Zz rfl]
    have S3:=eY _ s7 _ _ _ I7 q7
    rw[eP,eW,eA,eE,eX] at S3
    refine thn S3 λxv s8 ⟨v8,H8,I8,r8,hD8,m',hm',w8⟩=>?_
    have S4:=qf6 (X:=Y) _ s8 _ H8 (.ref s2.heap.objs.size) [v8] (.ref s2.heap.objs.size) [xv] (λ_ H9=>H9=upd H8 s2.heap.objs.size (.lst (xs++[v8]))) I8 rfl (.cons r8 .nil) ⟨_,xs,v8,rfl,rfl,hD8,hlx,rfl⟩
    rw[eP,eW,eA,eX] at S4
    refine thn S4 λ_ s9 ⟨v9,H9,I9,_,e9⟩=>?_
    subst e9
    exact back I9 hm' w8
   |false=>
    rw[Zq Zt] at q7
    rw[Zq Zt]
    obtain⟨m',hm',w8⟩:=q7
    exact back I7 hm' w8
 exact WU (loop _ rfl) (T'.self _ 0 _ _ _ (T'.keep 0 _ _ st2 (λb hb o e=>keep b o (by rw[<- hg2];exact Zc _ e))) (loop _ rfl))
theorem qt4 {scope sc:Scope}{N:List Str}(w6:X.N=N) (kM:X.env.scope=sc)
  (jA:scope.names.all (λy=>y.2 != .cell)=true) (jD:scope.names.all (λy=>y.2 != .local||scope.names.lookup y.1==some .local)=true) (jK:N.all (λy=>scope.names.lookup y != some .local)=true)
  (jQ:scope.names.all (λp=>p.2 != .free||(sc.names.lookup p.1==some .cell||sc.names.lookup p.1==some .free))=true) :
  (∀y∈scope.names,y.2≠.cell)/\(∀y∈scope.names,y.2=.local->scope.names.lookup y.1=some .local)/\(∀y∈X.N,scope.names.lookup y≠some .local)/\(∀p∈scope.names,p.2=.free->Vis X.env.scope p.1/\X.env.scope.names.lookup p.1≠some .local):=by
 refine⟨λy hy=>?_,λy hy hl=>?_,λy hy=>?_,λp hp hk=>?_⟩
 ·have:=Ye.mp jA y hy
  simpa using this
 ·have:=Ye.mp jD y hy
  simpa [hl] using this
 ·have:=Ye.mp jK y (by rw[<- w6];exact hy)
  simpa using this
 ·have:=Ye.mp jQ p hp
  rw[hk] at this
  have z:sc.names.lookup p.1=some .cell\/sc.names.lookup p.1=some .free:=by simpa using this
  rw[kM]
  refine⟨.inr z,λq=>?_⟩
  rcases z with z|z<;>(rw[z] at q;cases q)
theorem loc1 {y:V}{os σ:St}{H:Hp}{R:St->Hp->Prop}(ho:os.length=1) (h:qh1 0 y (os++σ) H R):qh1 0 y (os++σ) H λσ' H'=>(∃os':St,os'.length=1/\σ'=os'++σ)/\R σ' H':=by
 match os,ho with
 |[o],_=>exact⟨⟨[some y],rfl,rfl⟩,h⟩
theorem loc2 {K:PySem.W.Frag}{y:V}{os σ:St}{H:Hp}{R:St->Hp->Prop}(ho:os.length=2) (h:gTup K 2 (qz3 (qh1 0) (qz3 (qh1 1) gNil)) y (os++σ) H R) :
  gTup K 2 (qz3 (qh1 0) (qz3 (qh1 1) gNil)) y (os++σ) H λσ' H'=>(∃os':St,os'.length=2/\σ'=os'++σ)/\R σ' H':=by
 match os,ho with
 |[o1,o2],_=>
  obtain⟨a,xs,e1,e2,e3,v,r,e4,v2,r2,e5,e6,q⟩:=h
  exact⟨a,xs,e1,e2,e3,v,r,e4,v2,r2,e5,e6,⟨[some v,some v2],rfl,rfl⟩,q⟩
theorem qF4 {x:Str}{px pos:Pos}{elt iter c:Expr}{scope:Scope}{wi:TI}{tt:TT}{te:TE}(N:List Str) (sc:Scope) (w6:X.N=N) (kM:X.env.scope=sc) (hc:X.calm=true) (hN:X.N.Nodup) (hi:PI X (.Name x px) iter wi)
  (ht:∀cl C fp s₀ H₀,PT (qc1 X scope cl C [x] fp s₀ H₀) c tt) (he:∀cl C fp s₀ H₀,PE (qc1 X scope cl C [x] fp s₀ H₀) elt te)
  (jC:scope.kind=.function:=by rfl) (jA:scope.names.all (λy=>y.2 != .cell)=true:=by decide +kernel) (jD:scope.names.all (λy=>y.2 != .local||scope.names.lookup y.1==some .local)=true:=by decide +kernel)
  (hx:scope.names.lookup x=some .local:=by rfl) (jK:N.all (λy=>scope.names.lookup y != some .local)=true:=by decide +kernel)
  (jQ:scope.names.all (λp=>p.2 != .free||(sc.names.lookup p.1==some .cell||sc.names.lookup p.1==some .free))=true:=by decide +kernel)
  (hs:∀x,foldedSetIterable iter X.env x=pure x:=by intro _;rfl):PE X (.ListComp elt [⟨.Name x px,iter,[c],0⟩] scope pos) (qF1 1 wi (qh1 0) tt te):=by
 obtain⟨s1,s2,s3,s4⟩:=qt4 w6 kM jA jD jK jQ
 refine qN8 (nn:=[x]) (λenv=>isTrue c env (eval c env)) hc hi (λit acc env=>xb2 elt _ iter c scope pos it acc env) (λcl C fp s₀ H₀=>?_) (λy os σ H R ho h=>loc1 ho h) (λcl C fp s₀ H₀ j8 s σ H Q I h=>ht cl C fp s₀ H₀ j8 s σ H Q I h) he jC s1 s2 s3 s4 hs
 have l:(qc1 X scope cl C [x] fp s₀ H₀).env.scope.names.lookup x=some .local:=Xy hx
 exact qn7 (i:=0) (Yg.mpr ⟨λz=>s3 x z hx,hN⟩) rfl (.inl l) (.inr l)
theorem xA2 {x y:Str}{p1 p2 tpos:Pos}{k:Nat}{scope:Scope}{cl:List (Str×Addr)}{C:Addr}{fp:List Addr}{s₀:Shared}{H₀:Hp}(hc:X.calm=true) (hN:X.N.Nodup) (hxy:x≠y) (s3:∀z∈X.N,scope.names.lookup z≠some .local) (hx:scope.names.lookup x=some .local) (hy:scope.names.lookup y=some .local) :
  PG (qc1 X scope cl C [x,y] fp s₀ H₀) (.Tuple [.Name x p1,.Name y p2] k tpos) (gTup X.K 2 (qz3 (qh1 0) (qz3 (qh1 1) gNil))):=by
 have lx:(qc1 X scope cl C [x,y] fp s₀ H₀).env.scope.names.lookup x=some .local:=Xy hx
 have ly:(qc1 X scope cl C [x,y] fp s₀ H₀).env.scope.names.lookup y=some .local:=Xy hy
 have nd:(qc1 X scope cl C [x,y] fp s₀ H₀).N.Nodup:=Yg.mpr ⟨λz=>by
  rcases Zs.mp z with z|z
  ·exact hxy z
  ·exact s3 x z hx,Yg.mpr ⟨λz=>s3 y z hy,hN⟩⟩
 exact ql8 (X:=qc1 X scope cl C [x,y] fp s₀ H₀) hc (qb4 (qn7 (i:=0) nd rfl (.inl lx) (.inr lx)) (qb4 (qn7 (i:=1) nd rfl (.inl ly) (.inr ly)) qh2))
def xm3:TT:=λ_ H Q=>Q true H
theorem qN9 {x y:Str}{p1 p2 tpos pos:Pos}{k:Nat}{elt iter:Expr}{scope:Scope}{wi:TI}{te:TE}(N:List Str) (sc:Scope) (w6:X.N=N) (kM:X.env.scope=sc) (hc:X.calm=true) (hN:X.N.Nodup) (hi:PI X (.Tuple [.Name x p1,.Name y p2] k tpos) iter wi)
  (he:∀cl C fp s₀ H₀,PE (qc1 X scope cl C [x,y] fp s₀ H₀) elt te) (hxy:x≠y:=by decide)
  (jC:scope.kind=.function:=by rfl) (jA:scope.names.all (λy=>y.2 != .cell)=true:=by decide +kernel) (jD:scope.names.all (λy=>y.2 != .local||scope.names.lookup y.1==some .local)=true:=by decide +kernel)
  (hx:scope.names.lookup x=some .local:=by rfl) (hy:scope.names.lookup y=some .local:=by rfl) (jK:N.all (λy=>scope.names.lookup y != some .local)=true:=by decide +kernel)
  (jQ:scope.names.all (λp=>p.2 != .free||(sc.names.lookup p.1==some .cell||sc.names.lookup p.1==some .free))=true:=by decide +kernel)
  (hs:∀x,foldedSetIterable iter X.env x=pure x:=by intro _;rfl):PE X (.ListComp elt [⟨.Tuple [.Name x p1,.Name y p2] k tpos,iter,[],0⟩] scope pos) (qF1 2 wi (gTup X.K 2 (qz3 (qh1 0) (qz3 (qh1 1) gNil))) xm3 te):=by
 obtain⟨s1,s2,s3,s4⟩:=qt4 w6 kM jA jD jK jQ
 exact qN8 (nn:=[x,y]) (λ_=>pure true) hc hi (λit acc env=>q16 elt _ iter scope pos it acc env) (λcl C fp s₀ H₀=>xA2 hc hN hxy s3 hx hy) (λy os σ H R ho h=>loc2 ho h) (λcl C fp s₀ H₀ j8 s σ H Q I h=>Zb ⟨H,I,h⟩) he jC s1 s2 s3 s4 hs
end
end L2
namespace L2
open PySem PySem.Spec PyProof.Rows PySem.W PySem.Builtin PySem.Builtin.ObjectAttr PySem.Builtin.Getset_descriptor
section
variable {prog:Program}{w:World}{A:Around}{E:Value->Shared->Prop}{s:Shared}{K:Frag}{x C:Addr}
def ExcAt (x C:Addr) (h:Heap):Prop:=∃ox vs,h.get? x=some ox/\ox.cls=.ref C/\ox.data=.fields vs/\vs[2]?=some .none
theorem ExcAt.type {M:Model}{h:Heap}(I:ExcAt x C h):Looks M h (typeOf (.ref x)) (.ref C):=by
 obtain⟨ox,_,h1,h2,_⟩:=I
 have z:=(Looks.ld (M:=M) (part:=none) h1).andThen (f:=λo=>pure o.cls) (Looks.now (a:=ox.cls))
 rw[h2] at z
 exact z
theorem xm4 {tp:Value}{R:Result->Shared->Prop}(X:K.In s.heap) (I:ExcAt x C s.heap) (hm:mroIn K C (.type "object")=some true) (h:R (.ok (.ret (.ref C))) s) :
  codeAny (model prog w) A (.call (.builtin "getset_descriptor.__get__") ⟨[.builtin "object.__class__",.ref x,tp],[]⟩) R s:=by
 obtain⟨h1,g1,d1,t1,o1⟩:=s
 have Lt:=I.type (M:=model prog w)
 have Lm:=looks_mroIn (M:=model prog w) X hm
 refine Wl KF.slot_gs.plain KF.entry_gs ?_
 refine KF.slot_gs.check _ _ _ _ _ _ _ _ KF.type_class (KF.args_gs _ _ _) ?_
 unfold Builtin.«getset_descriptor.__get__» descrGet
 rw[dga_obj]
 refine Za (Zb ?_)
 unfold descrGetter descrCheckInstance descrNameAndClass isInstance
 simp only[KF.owner_class]
 repeat lk
 refine⟨VG _ (by decide +kernel),Yn KF.entry_class ?_⟩
 unfold Builtin.«object.__class__» shownTypeOf
 repeat lk
 exact h
theorem q17 {tk:Tok}{Q:Fin->Shared->Prop}(X:K.In s.heap) (I:ExcAt x C s.heap)
  (ha:findIn K (.ref C) "__class__" = some (some (.builtin "object.__class__"))) (hn:specialIn K (.builtin "object.__class__") "__get__" = some (some (.builtin "getset_descriptor.__get__"))) (htk:takesIn K (.builtin "object.__class__")=some true)
  (hm:mroIn K C (.type "object")=some true) (hc:(clsIn K C).isSome=true) (h:Q (.done (.ret (.ref C))) s):wpAny (model prog w) A (Builtin.«object.__getattribute__» ⟨[.ref x,.str "__class__" tk],[]⟩) Q E s:=by
 obtain⟨hh,g,d,t,os⟩:=s
 have L0:=I.type (M:=model prog w)
 have L4:Looks (model prog w) hh (Builtin.ObjectAttr.find (.ref x) (.ref C) "__class__") (Builtin.ObjectAttr.Found.bind (.builtin "getset_descriptor.__get__") (.builtin "object.__class__")):=by
  have y1:=looks_findIn (M:=model prog w) X ha
  have y2:Looks (model prog w) hh (Builtin.ObjectAttr.getOf (some (.builtin "object.__class__"))) (some (.builtin "getset_descriptor.__get__")):=looks_specialIn X hn
  have y3:=looks_takesIn (M:=model prog w) X htk
  have y4:Looks (model prog w) hh (Builtin.ObjectAttr.dataDescriptor? (some (.builtin "object.__class__")) (some (.builtin "getset_descriptor.__get__"))) (some (.builtin "getset_descriptor.__get__",.builtin "object.__class__")):=y3.andThen .now
  exact y1.andThen (y2.andThen (y4.andThen (Looks.tag .now)))
 unfold Builtin.«object.__getattribute__»
 repeat (first|with_reducible refine L0.at ?_|with_reducible refine L4.at ?_|wp_step)
 refine xm4 X I hm ?_
 repeat (any_goals (first|assumption|wp_step))
theorem q18 {M:Model}{nameV:Value}{P:Unit->Shared->Prop}(X:K.In s.heap) (I:ExcAt x C s.heap) (hb:mroIn K C (.type "BaseException")=some true) (h:P () s) :
  wpAny M A (checkBuiltinCall "BaseException.__getattribute__" ⟨[.ref x,nameV],[]⟩) P E s:=by
 have hk:builtinKind "BaseException.__getattribute__" = some .slot:=by decide +kernel
 have hsplit:splitId "BaseException.__getattribute__" = some ("BaseException", "__getattribute__"):=by decide +kernel
 have hargs:=F.args_bexc_ga (.ref x) nameV
 obtain⟨hh,g,d,t,os⟩:=s
 have L0:=I.type (M:=M)
 have L3:=looks_mroIn (M:=M) X hb
 simp only[checkBuiltinCall,hk,hsplit]
 refine Za ?_
 unfold isInstance
 refine Za (L0.at (L3.at ?_))
 repeat (first|assumption|wp_step)
theorem xb3 {tk:Tok}{R:Result->Shared->Prop}(X:K.In s.heap) (I:ExcAt x C s.heap)
  (ha:findIn K (.ref C) "__class__" = some (some (.builtin "object.__class__"))) (hn:specialIn K (.builtin "object.__class__") "__get__" = some (some (.builtin "getset_descriptor.__get__"))) (htk:takesIn K (.builtin "object.__class__")=some true)
  (hm:mroIn K C (.type "object")=some true) (hb:mroIn K C (.type "BaseException")=some true) (hc:(clsIn K C).isSome=true) (h:R (.ok (.ret (.ref C))) s) :
  codeAny (model prog w) A (.call (.builtin "BaseException.__getattribute__") ⟨[.ref x,.str "__class__" tk],[]⟩) R s:=
 Wl F.excAttr_ValueError.ga.plain F.entry_bexc_ga (q18 X I hb (q17 X I ha hn htk hm hc h))
theorem q19 {Q:Option Value->Shared->Prop}(X:K.In s.heap) (I:ExcAt x C s.heap) (hga:findIn K (.ref C) "__getattribute__" = some (some (.builtin "BaseException.__getattribute__"))) (hgt:findIn K (.ref C) "__getattr__" = some none)
  (ha:findIn K (.ref C) "__class__" = some (some (.builtin "object.__class__"))) (hn:specialIn K (.builtin "object.__class__") "__get__" = some (some (.builtin "getset_descriptor.__get__"))) (htk:takesIn K (.builtin "object.__class__")=some true)
  (hm:mroIn K C (.type "object")=some true) (hb:mroIn K C (.type "BaseException")=some true) (hc:(clsIn K C).isSome=true) (h:Q (some (.ref C)) { s with toks:=s.toks+1 }) :
  wpAny (model prog w) A (getAttr? (.ref x) "__class__") Q E s:=by
 have go:=λ(A':Around) (R:Result->Shared->Prop) (tk:Tok)=>xb3 (prog:=prog) (w:=w) (A:=A') (R:=R) (s:={ s with toks:=s.toks+1 }) (tk:=tk) X I ha hn htk hm hb hc
 obtain⟨hh,g,d,t,os⟩:=s
 have L0:=I.type (M:=model prog w)
 have L1:=looks_findIn (M:=model prog w) X hga
 have L2:=looks_findIn (M:=model prog w) X hgt
 have f3:=F.excAttr_ValueError.ga.bind (.ref x)
 have hx2:(Value.builtin "BaseException.__getattribute__" == Value.builtin "object.__getattribute__")=false:=by decide +kernel
 have hx1:(onTheHeap (Value.ref C)&&Value.builtin "BaseException.__getattribute__" == Value.builtin "object.__getattribute__")=false:=by rw[hx2];rfl
 unfold getAttr? getAttrBy? getAttrBy
 refine Za (wpAny_mkText (Za (XE (Z5 (Za (L0.at (Za (L1.at ?_))))))))
 dsimp only
 rw[Zq (by rw[hx1];exact Zt)]
 unfold getAttrByItsOwn
 repeat (any_goals (first|assumption|with_reducible refine L0.at ?_|with_reducible refine L2.at ?_|wp_step))
 refine go _ _ _ ?_
 repeat (any_goals (first|assumption|wp_step))
structure ExcCls (K:Frag) (C:Addr):Prop where
 hga:findIn K (.ref C) "__getattribute__" = some (some (.builtin "BaseException.__getattribute__"))
 hgt:findIn K (.ref C) "__getattr__" = some none
 ha:findIn K (.ref C) "__class__" = some (some (.builtin "object.__class__"))
 hn:specialIn K (.builtin "object.__class__") "__get__" = some (some (.builtin "getset_descriptor.__get__"))
 htk:takesIn K (.builtin "object.__class__")=some true
 hm:mroIn K C (.type "object")=some true
 hb:mroIn K C (.type "BaseException")=some true
 hc:(clsIn K C).isSome=true
theorem xb4 (T:ExcCls K C):KitX K (.ref x) (.ref C) (ExcAt x C) where
 ty:=λ_ _ _ I=>I.type
 it:=λ_ _ X _=>by
  have hc:=T.hc
  unfold clsIn at hc
  split at hc
  ·rename_i c' d' cd' sl' ho
   intro A1 Q1 E1 s1 kp q1
   unfold isType loadHead
   refine Za (wpAny_loadPart (kp _ _ (X _ _ ho)) ?_)
   exact Zb q1
  ·cases hc
 ne:=λh tp dd its n sl X htp=>by
  have hc:=T.hc
  refine Yj.mpr λq=>?_
  have e:C=tp:=Value.ref.inj (X1.mp q)
  subst e
  unfold clsIn at hc
  split at hc
  ·rename_i c' d' cd' sl' ho
   have z:=(X _ _ ho).symm.trans htp
   cases z
  ·cases hc
 ca:=λX I k=>q19 X I T.hga T.hgt T.ha T.hn T.htk T.hm T.hb T.hc k
end
end L2
namespace L2
open PySem PySem.Spec PyProof.Rows PySem.W
section
variable {K:Frag}{h:Heap}{C:Addr}{bmB:List Value}{newId:String}
end
section
variable {X:Cx}{x:Str}{C:Addr}{E:XK}{e₀:Expr}{rest:List Expr}{t:TA}{np cpos pos:Pos}
end
section
variable {X:Cx}{j8:List (Addr×Obj)}{σ:St}{H:Hp}{s:Shared}
end
section
variable {prog:Program}{w:World}{A:Around}{E:Value->Shared->Prop}{s:Shared}{x C e:Addr}
end
end L2
namespace L2
open PySem PySem.Spec PyProof.Rows
section
variable {X:Cx}{k:Nat}{f xe:Addr}{fd:FuncData}{ps:List Str}{sp:SpH}{x:Str}{p pos:Pos}{e:Expr}{es:List Expr}{t:TA}
end
end L2
namespace L2
open PySem PySem.Spec PyProof.Rows PySem.W
section
variable {X:Cx}
def clsV:V->Option Value
 |.ty n=>some (.type n)
 |.ref a=>some (.ref a)
 |_=>none
theorem xm5 {c:V}{u cv:Value}(r:RelV c u) (e:clsV c=some cv):u=cv:=by
 cases c with
 |ty n=>cases e;exact r
 |ref a=>cases e;exact r
 |_=>cases e
def ExcT (K:Frag) (H:Hp) (x:V) (t:Value):Prop:=∃a C,x=.ref a/\H a=some (.ext (ExcAt a C))/\ExcCls K C/\t=.ref C
theorem qk0:qe4 X (.builtin "isinstance") (λxs H Q=>∃x c t cv b,xs=[x,c]/\clsV c=some cv/\(TyOf X.K H x t\/ExcT X.K H x t)/\kitOne X.K t cv=some b/\Q (.bl b) H):=by
 intro j8 s σ H xs us Q I r h
 obtain⟨x,c,t,cv,b,rfl,hc,ht,hk,q⟩:=h
 obtain⟨u,u',rfl,rx,rc⟩:=xk7 r
 cases xm5 rc hc
 rcases ht with ty|⟨a,C,rfl,e,T,rfl⟩
 ·exact qX7 I rx ty hk λtk=>⟨.bl b,H,I.tok _,rfl,q⟩
 ·cases (show u=Value.ref a from rx)
  have p:ExcAt a C s.heap:=(I.hok a _ e).1
  exact kia_one (xb4 T) I.kIn p hk (λz=>nomatch z) λtk=>⟨.bl b,H,I.tok _,rfl,q⟩
theorem qF5 {j8:List (Addr×Obj)}{σ:St}{H:Hp}{s s':Shared}{o₁:Obj}{wr:List Addr}(I:Inv X j8 σ H s) (mv:Moved wr (λa b=>b=a) { s with heap:=s.heap.push o₁ } s') (hn:∀b o,s.heap.get? b=some o->b∈wr->False):Inv X j8 σ H s':=by
 obtain⟨h',g',d',t',os'⟩:=s'
 obtain⟨m1,m2,m3,m4,m5⟩:=mv
 cases (show g'=s.gens from m2)
 cases (show d'=s.drawn from m3)
 cases (show os'=s.os from m4)
 exact I.kept (h':=h') (t':=t') λb o e=>m1 b o (λz=>hn b o e z) (Zc _ e)
theorem qt5 (hc:X.calm=true):qe4 X (.builtin "all") (λxs H Q=>∃(p:Addr) (bs:List Bool),xs=[.ref p]/\H p=some (.lst (bs.map V.bl))/\Q (.bl (bs.all id)) H):=by
 intro j8 s σ H xs us Q I r h
 obtain⟨p,bs,rfl,hp,q⟩:=h
 obtain⟨u,rfl,rx⟩:=qe9 r
 cases rx
 obtain⟨z,its,n,rv,hl⟩:=I.hok p _ hp
 have isl:s.heap.IsList p its.toArray:=⟨_,hl,rfl,_,rfl⟩
 have j9:its.length=bs.length:=by have:=rv.length;simpa using this.symm
 have np:p≠s.heap.objs.size:=Zl (Zi hl)
 refine call_all_walk (Xw isl ?_)
 refine⟨s.heap.objs.size,_,_,_,_,_,λi=>bs.getD i true,rfl,Ud (A:=X.A.in1) (I.ok.hd hc) s.heap.objs.size p np its.toArray,⟨⟨_,Zh _ rfl,rfl,rfl⟩,isl.at λo e=>Zc _ e⟩,?_,?_⟩
 ·intro i v s' Q' E' hv hq
  have hv':its[i]?=some v:=by simpa using hv
  have hi:i<bs.length:=by rw[<- j9];exact (gS_ hv').1
  obtain⟨w',e1,e2⟩:=rv.get (x:=V.bl (bs[i])) (i:=i) (by simp[hi])
  rw[hv'] at e1;cases e1
  cases (show v=Value.bool bs[i] from e2)
  have eg:bs.getD i true=bs[i]:=by simp[List.getD,hi]
  dsimp only at hq
  rw[eg] at hq
  exact Z1 hq
 ·intro h' tk k
  refine⟨.bl (bs.all id),H,I.kept (h':=h') (t':=tk) (λb o e=>k b o (λz=>?_) (Zc _ e)),?_,q⟩
  ·have:b=s.heap.objs.size:=by simpa using z
   exact Ys _ (by rw[this] at e;exact Zi e)
  ·have es:its.toArray.size=bs.length:=by simpa using j9
   rw[es]
   show Value.bool _=Value.bool _
   congr 1
   rw[Y0,Ye,Ye]
   constructor
   ·intro z b hb
    obtain⟨i,hi,e⟩:=ZJ.mp hb
    have:=z i (Yq.mpr hi)
    simpa [List.getD,hi,e] using this
   ·intro z i hi
    have hi':=Yq.mp hi
    have:=z bs[i] (Y6 hi')
    simpa [List.getD,hi'] using this
theorem q20:∀{ys:List Str}{us:List Value},Vals (ys.map V.str) us->StrsAre us ys
 |[],_,.nil=>.nil
 |y::ys,_,.cons r t=>by
  obtain⟨tk,rfl⟩:=r
  exact .cons y tk (q20 t)
theorem xm6:MtR X "str.join" (λx xs H Q=>∃(sep:Str) (p:Addr) (ys:List Str),x=.str sep/\xs=[.ref p]/\H p=some (.lst (ys.map V.str))/\(ys.map (·.length)).sum+ys.length*sep.length<=16777216/\Q (.str (Txt.join sep ys)) H):=by
 intro j8 s σ H x xs v us Q I rx rv h
 obtain⟨sep,p,ys,rfl,rfl,hp,hz,q⟩:=h
 obtain⟨t,rfl⟩:=rx
 obtain⟨u,rfl,ru⟩:=rv.one
 cases ru
 obtain⟨z,its,n,r2,hl⟩:=I.hok p _ hp
 exact join_list (D:=p) (items:=its.toArray) ⟨_,hl,rfl,_,rfl⟩ (by simpa using q20 r2) hz λt' k=>⟨.str _,H,I.tok _,⟨_,rfl⟩,q⟩
theorem qt6:qe4 X (.type "int") (λxs H Q=>∃z n,xs=[.str z]/\PySem.intText? z=some n/\z.length<=640/\Q (.int n) H):=by
 intro j8 s σ H xs us Q I r h
 obtain⟨z,n,rfl,hn,hz,q⟩:=h
 obtain⟨u,rfl,t,rfl⟩:=qe9 r
 exact KIN.call_text hn hz ⟨.int n,H,I.tok _,⟨_,rfl⟩,q⟩
theorem qF6 (hc:X.calm=true):qe4 X (.builtin "any") (λxs H Q=>∃(p:Addr) (bs:List Bool),xs=[.ref p]/\H p=some (.lst (bs.map V.bl))/\Q (.bl (bs.any id)) H):=by
 intro j8 s σ H xs us Q I r h
 obtain⟨p,bs,rfl,hp,q⟩:=h
 obtain⟨u,rfl,rx⟩:=qe9 r
 cases rx
 obtain⟨z,its,n,rv,hl⟩:=I.hok p _ hp
 have isl:s.heap.IsList p its.toArray:=⟨_,hl,rfl,_,rfl⟩
 have j9:its.length=bs.length:=by have:=rv.length;simpa using this.symm
 have np:p≠s.heap.objs.size:=Zl (Zi hl)
 refine call_any_walk (Xw isl ?_)
 refine⟨s.heap.objs.size,_,_,_,_,_,λi=>bs.getD i true,rfl,Ud (A:=X.A.in1) (I.ok.hd hc) s.heap.objs.size p np its.toArray,⟨⟨_,Zh _ rfl,rfl,rfl⟩,isl.at λo e=>Zc _ e⟩,?_,?_⟩
 ·intro i v s' Q' E' hv hq
  have hv':its[i]?=some v:=by simpa using hv
  have hi:i<bs.length:=by rw[<- j9];exact (gS_ hv').1
  obtain⟨w',e1,e2⟩:=rv.get (x:=V.bl (bs[i])) (i:=i) (by simp[hi])
  rw[hv'] at e1;cases e1
  cases (show v=Value.bool bs[i] from e2)
  have eg:bs.getD i true=bs[i]:=by simp[List.getD,hi]
  dsimp only at hq
  rw[eg] at hq
  exact Z1 hq
 ·intro h' tk k
  refine⟨.bl (bs.any id),H,I.kept (h':=h') (t':=tk) (λb o e=>k b o (λz=>?_) (Zc _ e)),?_,q⟩
  ·have:b=s.heap.objs.size:=by simpa using z
   exact Ys _ (by rw[this] at e;exact Zi e)
  ·have es:its.toArray.size=bs.length:=by simpa using j9
   rw[es]
   show Value.bool _=Value.bool _
   congr 1
   rw[Y0,XU,XU]
   constructor
   ·rintro⟨i,hi,e⟩
    have hi':=Yq.mp hi
    refine⟨bs[i],Y6 hi',?_⟩
    simpa [List.getD,hi'] using e
   ·rintro⟨b,hb,e⟩
    obtain⟨i,hi,e2⟩:=ZJ.mp hb
    refine⟨i,Yq.mpr hi,?_⟩
    have:bs.getD i true=bs[i]:=by simp[List.getD,hi]
    rw[this,e2]
    exact e
def best (ns:List Int):Nat->Int
 |0=>ns.getD 0 0
 |k+1=>if ns.getD (k+1) 0>best ns k then ns.getD (k+1) 0 else best ns k
theorem qO0 (ns:List Int):∀k,ns.getD (argBest (λi j=>decide (ns.getD i 0>ns.getD j 0)) k) 0=best ns k/\argBest (λi j=>decide (ns.getD i 0>ns.getD j 0)) k<=k
 |0=>⟨rfl,Zd _⟩
 |k+1=>by
  obtain⟨h1,h2⟩:=qO0 ns k
  unfold argBest best
  rw[<- h1]
  by_cases hc:ns.getD (k+1) 0>ns.getD (argBest (λi j=>decide (ns.getD i 0>ns.getD j 0)) k) 0
  ·rw[Zz (Zk hc),Zz hc]
   exact⟨rfl,Zd _⟩
  ·rw[Zq (by simpa using hc),Zq hc]
   exact⟨rfl,VV h2⟩
theorem q21 (hc:X.calm=true):qe4 X (.builtin "max") (λxs H Q=>∃(p:Addr) (ns:List Int),xs=[.ref p]/\H p=some (.lst (ns.map V.int))/\ns≠[]/\Q (.int (best ns (ns.length-1))) H):=by
 intro j8 s σ H xs us Q I r h
 obtain⟨p,ns,rfl,hp,jJ,q⟩:=h
 obtain⟨u,rfl,rx⟩:=qe9 r
 cases rx
 obtain⟨z,its,n,rv,hl⟩:=I.hok p _ hp
 have isl:s.heap.IsList p its.toArray:=⟨_,hl,rfl,_,rfl⟩
 have j9:its.length=ns.length:=by have:=rv.length;simpa using this.symm
 have np:p≠s.heap.objs.size:=Zl (Zi hl)
 have es:its.toArray.size=ns.length:=by simpa using j9
 have pos:0<ns.length:=Vw.mpr jJ
 have item:∀(i:Nat) (v:Value),its.toArray[i]?=some v->∃t,v=.int (ns.getD i 0) t:=λi v hv=>by
  have hv':its[i]?=some v:=by simpa using hv
  have hi:i<ns.length:=by rw[<- j9];exact (gS_ hv').1
  obtain⟨w',e1,t,e2⟩:=rv.get (x:=V.int (ns[i])) (i:=i) (by simp[hi])
  rw[hv'] at e1;cases e1
  exact⟨t,by rw[e2];simp[List.getD,hi]⟩
 refine call_max_walkS (Xw isl ?_)
 refine⟨s.heap.objs.size,_,_,_,_,_,_,λi j=>decide (ns.getD i 0>ns.getD j 0),rfl,(Ud (A:=X.A.in1) (I.ok.hd hc) s.heap.objs.size p np its.toArray).toS,⟨⟨_,Zh _ rfl,rfl,rfl⟩,isl.at λo e=>Zc _ e⟩,?_,by rw[es];exact pos,?_,?_⟩
 ·intro b hb
  rw[Yh]
  rcases Zs.mp hb with rfl|hb
  ·exact YT _
  ·have:b=p:=by simpa using hb
   subst this
   exact ZZ (Zi hl)
 ·intro i j vi vj s' Q' E' hi hj hq
  obtain⟨t,rfl⟩:=item i vi hi
  obtain⟨t',rfl⟩:=item j vj hj
  exact gt_int hq
 ·intro v s' hv mv
  rw[es] at hv
  obtain⟨t,rfl⟩:=item _ v hv
  rw[(qO0 ns (ns.length-1)).1]
  refine⟨.int _,H,qF5 I mv (λb o e hb=>?_),⟨t,rfl⟩,q⟩
  have:b=s.heap.objs.size:=by simpa using hb
  exact Ys _ (by rw[this] at e;exact Zi e)
theorem xA3 {P:Program}{w:World}{k:Key}{v:Value}(h:(qd3 P w).is k v=true):RelV (kV k) v:=by
 rcases qc5 (show qJ5 k v=true from h) with ⟨i,t,rfl,rfl⟩|⟨x,t,rfl,rfl⟩
 ·exact⟨t,rfl⟩
 ·exact⟨t,rfl⟩
theorem qt7:∀{xs:List V}{us:List Value},xs.length=us.length->(∀(i:Nat) x v,xs[i]?=some x->us[i]?=some v->RelV x v)->Vals xs us
 |[],[],_,_=>.nil
 |[],_::_,h,_=>by simp at h
 |_::_,[],h,_=>by simp at h
 |x::xs,u::us,h,f=>.cons (f 0 x u rfl rfl) (qt7 (by simpa using h) λi y v hy hv=>f (i+1) y v (by simpa using hy) (by simpa using hv))
theorem qT8 (hc:X.calm=true):qe4 X (.type "list") (λxs H Q=>∃(d:Addr) (kvs:List (Key×V)),xs=[.ref d]/\H d=some (.dK kvs)/\∀l,H l=none->Q (.ref l) (upd H l (.lst (kvs.map λkv=>kV kv.1)))):=by
 intro j8 s σ H xs us Q I r h
 obtain⟨d,kvs,rfl,hd,q⟩:=h
 obtain⟨u,rfl,ru⟩:=qe9 r
 cases ru
 obtain⟨z,lo,vs,rel,dd⟩:=xt7 I.hok hd
 obtain⟨ep,hat⟩:=dd.dictAt
 have hl:=rel.length
 refine kdl_call (kdl_dict (knd:=qd3 X.prog X.w) (kvs:=vs) (ep:=ep) lo) (I.ok.hd hc) hat (by rw[<- hl];exact z) λh' tk acc c kp ho jH=>?_
 refine⟨.ref s.heap.objs.size,_,I.laid (a:=s.heap.objs.size) (o:=.lst (kvs.map λkv=>kV kv.1)) (t':=tk) kp (Zd _) ⟨by simpa using z,acc.toList,c,?_,by simpa using ho⟩,rfl,q _ I.fresh⟩
 refine qt7 (by simp[hl,jH.1]) λi x v hx hv=>?_
 rw[Zg] at hx
 obtain⟨kv,hkv,rfl⟩:=Zj.mp hx
 obtain⟨k,y,hk,his⟩:=jH.2 i v (by simpa using hv)
 have e1:vs[i]?=some (k,y):=hk
 have e2:kv.1=k:=by
  have z1:(kvs.map (·.1))[i]?=some kv.1:=by rw[Zg,hkv];rfl
  have z2:(vs.map (·.1))[i]?=some k:=by rw[Zg,e1];rfl
  rw[rel.keys] at z1
  rw[z1] at z2
  exact ZK z2
 rw[e2]
 exact xA3 his
theorem qF7:qe4 X (.type "range") (λxs H Q=>∃n:Int,xs=[.int n]/\∀r,H r=none->Q (.ref r) (upd H r (.rng 0 n))):=by
 intro j8 s σ H xs us Q I r h
 obtain⟨n,rfl,q⟩:=h
 obtain⟨u,rfl,t,rfl⟩:=qe9 r
 exact call_range_1 ⟨.ref s.heap.objs.size,_,I.laid (a:=s.heap.objs.size) (o:=.rng 0 n) (λb o e=>Zc _ e) (Zd _) ⟨_,_,_,Zh _ rfl⟩,rfl,q _ I.fresh⟩
theorem qT9 (hc:X.calm=true):qe4 X (.type "list") (λxs H Q=>∃(r:Addr) (n:Nat),xs=[.ref r]/\H r=some (.rng 0 (n:Int))/\n<=1000000/\∀l,H l=none->Q (.ref l) (upd H l (.lst ((List.range n).map λ(i:Nat)=>V.int (i:Int))))):=by
 intro j8 s σ H xs us Q I rv h
 obtain⟨r,n,rfl,hr,hn,q⟩:=h
 obtain⟨u,rfl,ru⟩:=qe9 rv
 cases ru
 obtain⟨t,u,v,ho⟩:=I.hok r _ hr
 refine call_list_range (a:=0) (b:=n) (c:=1) (n:=n) (I.ok.hd hc) ho (small_one (by lia) (by lia) (by lia) (by lia)) (by rw[rangeSize_one];split<;>lia) (by lia) λh' tk acc c kp ho' jH=>?_
 refine⟨.ref s.heap.objs.size,_,I.laid (a:=s.heap.objs.size) (o:=.lst ((List.range n).map λ(i:Nat)=>V.int (i:Int))) (t':=tk) kp (Zd _) ⟨?_,acc.toList,c,?_,by simpa using ho'⟩,rfl,q _ I.fresh⟩
 ·rw[Zf,Yx,Wh]
  lia
 ·refine qt7 (by simp[jH.1]) λi x v hx hv=>?_
  rw[Zg] at hx
  obtain⟨j,hj,rfl⟩:=Zj.mp hx
  have e:j=i:=by
   obtain⟨_,e⟩:=gS_ hj
   simpa using e.symm
  subst e
  obtain⟨t',rfl⟩:=jH.2 j v (by simpa using hv)
  exact⟨t',by simp⟩
end
namespace TupMul
theorem noFill:fillsNumberSlot (.type "tuple") "mul" = pure false:=
 PySem.fillsNumberSlot_seq (id:= "tuple.__mul__") (r:=some (.builtin "tuple.__rmul__")) F.slot_tuple_mul.lookup (by decide +kernel) F.slot_tuple_rmul.lookup (by decide +kernel)
theorem rep:seqRepeat? (.type "tuple")=pure (some (.builtin "tuple.__mul__")):=by
 unfold seqRepeat?
 rw[PySem.seqSlot_of (T:= "tuple") (name:= "__mul__") (id:= "tuple.__mul__") F.slot_tuple_mul.lookup (by decide +kernel),PySem.seqSlot_of (T:= "tuple") (name:= "__rmul__") (id:= "tuple.__rmul__") F.slot_tuple_rmul.lookup (by decide +kernel)]
 rfl
theorem declines (a:Int) (t:Tok) (l:Addr) (items:Array Value) (n:Nat) (dct:Option Addr) (sl:Array (Option Value)) :
  Meets (Builtin.«int.__rmul__» ⟨[.int a t,.ref l],[]⟩) (λ_ R s=>s.heap.get? l=some { cls:=.type "tuple",dict:=dct,data:=.seq items n,slots:=sl }/\R (.ok (.ret Value.notImplemented)) s):=
 .of_wp λprog w A R s h=>by
  obtain⟨hp,g,d,tk,os⟩:=s
  obtain⟨hl,h⟩:=h
  wp_walk
  exact⟨_,rfl,h⟩
theorem mul (k:Int) (t:Tok) (l:Addr) (items:Array Value) (n:Nat) (dct:Option Addr) (sl:Array (Option Value)) (h1:1<k) (h2:k<=1000) (hs:items.size=1) :
  Meets (Builtin.«tuple.__mul__» ⟨[.ref l,.int k t],[]⟩) (λ_ R s=>s.heap.get? l=some { cls:=.type "tuple",dict:=dct,data:=.seq items n,slots:=sl } /\
   R (.ok (.ret (.ref s.heap.objs.size))) { s with heap:=s.heap.push { cls:=.type "tuple",data:=.seq ((List.replicate k.toNat items).foldl (·++·) #[]) } }):=
 .of_wp λprog w A R s h=>by
  obtain⟨hp,g,d,tk,os⟩:=s
  obtain⟨hl,h⟩:=h
  have c1:(decide (k < -2^63)||decide (k>=2^63))=false:=by simp;lia
  have c0:items.isEmpty=false:=by
   cases he:items.isEmpty with
   |false=>rfl
   |true=>rw[Array.isEmpty_iff.mp he] at hs;cases hs
  have c2:(items.isEmpty||k==1)=false:=by rw[c0];simp;lia
  have c3:(decide (k<=0)||items.isEmpty)=false:=by rw[c0];simp;lia
  have c4:¬((items.size:Int)*k>(2^63-1)/8):=by rw[hs];lia
  have c5:Builtin.Tuple.tupleTooMany ((items.size:Int)*k)=false:=by
   rw[hs]
   show decide (((1:Nat):Int)*k>(sizeLine:Int))=false
   rw[Wh]
   exact Zm (by lia)
  wp_walk
  refine ZO (λz=>by rw[c1] at z;cases z) λ_=>?_
  wp_walk
  refine ZO (λz=>by rw[c2] at z;cases z) λ_=>?_
  refine ZO (λz=>by rw[c3] at z;cases z) λ_=>?_
  refine ZO (λz=>absurd z c4) λ_=>?_
  refine ZO (λz=>by rw[c5] at z;cases z) λ_=>?_
  wp_walk
  refine ZO (λz=>absurd z ?_) λ_=>?_
  ·have f:∀(m:Nat) (acc:Array Value),(List.foldl (λx1 x2=>x1++x2) acc (List.replicate m items)).size=acc.size+m:=λm=>by
    induction m with
    |zero=>intro acc;rfl
    |succ m ih=>
     intro acc
     rw[Vx,WK,ih,Array.size_append,hs]
     lia
   rw[f,Wh]
   simp
   lia
  wp_walk
  exact⟨_,rfl,h⟩
end TupMul
section
variable {X:Cx}
theorem xm7:OpR X (binaryOp .Mult) (λx y H Q=>∃(l:Addr) (k:Int) (v:V),x=.ref l/\y=.int k/\H l=some (.tup [v])/\1<k/\k<=1000/\∀p,H p=none->Q (.ref p) (upd H p (.tup (List.replicate k.toNat v)))):=by
 intro j8 s σ H x y v u Q I rx ry h
 obtain⟨l,k,v1,rfl,rfl,hH,h1,h2,q⟩:=h
 cases rx
 obtain⟨t,rfl⟩:=ry
 obtain⟨_,its,r,o,ho,hc,⟨n,hdn⟩,hd⟩:=I.hok l _ hH
 obtain⟨oc,od,odt,osl⟩:=o
 replace hc:oc=.type "tuple":=hc
 replace hd:odt=.seq its.toArray n:=hd
 subst hc hd
 cases r with
 |cons r1 rr=>
  cases rr
  rename_i u1
  have hnew:List.foldl (λx1 x2=>x1++x2) #[] (List.replicate k.toNat #[u1])=(List.replicate k.toNat u1).toArray:=by
   have f:∀(m:Nat) (acc:List Value),List.foldl (λx1 x2=>x1++x2) acc.toArray (List.replicate m #[u1])=(acc++List.replicate m u1).toArray:=λm=>by
    induction m with
    |zero=>intro acc;simp
    |succ m ih=>
     intro acc
     rw[Vx,WK,show acc.toArray++#[u1]=(acc++[u1]).toArray by simp,ih]
     simp[Vx]
   have:=f k.toNat []
   simpa using this
  refine wpAny_binaryOp_repeat_ref (T:= "tuple") (U:= "int") (by decide) ⟨_,ho,rfl⟩ (λs'=>typeIs_int s' k t) TupMul.noFill F.fills_int_mul F.slot_int_rmul TupMul.rep F.slot_int_index.lookup
   (call_meets F.slot_int_rmul (typeIs_int s k t) F.entry_int_rmul (F.args_int_rmul_2 _ _) (TupMul.declines k t l _ n od osl)
    ⟨ho,rfl,⟨_,ho,rfl⟩,call_meets F.slot_tuple_mul ⟨_,ho,rfl⟩ F.entry_tuple_mul (F.args_tuple_mul_2 _ _) (TupMul.mul k t l _ n od osl h1 h2 rfl) ⟨ho,?_⟩⟩)
  rw[hnew]
  refine⟨.ref _,_,I.laid (a:=s.heap.objs.size) (o:=.tup (List.replicate k.toNat v1)) (t':=s.toks) (λb o e=>Zc _ e) (Zd _) ⟨?_,List.replicate k.toNat u1,?_,_,Zh _ rfl,rfl,⟨_,rfl⟩,rfl⟩,rfl,q _ I.fresh⟩
  ·rw[List.length_replicate,Wh];lia
  ·generalize k.toNat=m
   induction m with
   |zero=>exact .nil
   |succ m ih=>exact .cons r1 ih
end
end L2
namespace Qf
abbrev Row:=List Nat
def mx:List Nat->Nat
 |[]=>0
 |a::l=>max a (mx l)
theorem q22 {x:Nat}:∀{l:List Nat},x∈l->x<=mx l
 |a::l,h=>by
  rcases Zs.mp h with rfl|h
  ·exact Nat.le_max_left _ _
  ·exact ZE (q22 h) (Nat.le_max_right _ _)
theorem xu7 {b:Nat}:∀{l:List Nat},(∀x∈l,x<=b)->mx l<=b
 |[],_=>Zo _
 |a::l,h=>Nat.max_le.mpr ⟨h a ZC,xu7 λx hx=>h x (Zn _ hx)⟩
theorem xb5 {f g:Nat->Nat}{l:List Nat}(h:∀x∈l,f x=g x):mx (l.map f)=mx (l.map g):=by
 rw[Ym h]
def xu8 (p:Nat) (r:Row):Prop:=r.length=4/\∀x∈r,x<p+2
def qd2 (rows:List Row):Prop:=∀p r,rows[p]?=some r->xu8 p r
def xm8 (ds:List Nat) (r:Row):List Nat:=ds++[1+mx (r.map (ds.getD · 0))]
def deps (rows:List Row):List Nat:=rows.foldl xm8 [0,0]
def dp (rows:List Row) (x:Nat):Nat:=(deps rows).getD x 0
theorem qm4 (rows:List Row) (r:Row):deps (rows++[r])=deps rows++[1+mx (r.map (dp rows))]:=by
 unfold deps dp deps
 rw[List.foldl_append]
 rfl
theorem qO1 {P:List Row->Prop}(h0:P []) (h1:∀l a,P l->P (l++[a])) (l:List Row):P l:=by
 have:∀m:List Row,P m.reverse:=λm=>by
  induction m with
  |nil=>exact h0
  |cons a m ih=>rw[List.reverse_cons];exact h1 _ _ ih
 have h:=this l.reverse
 rwa [List.reverse_reverse] at h
theorem qm5 (rows:List Row):(deps rows).length=rows.length+2:=by
 induction rows using qO1 with
 |h0=>rfl
 |h1 l a ih=>rw[qm4,Zw,ih,Zw];simp
theorem qU0 {rows:List Row}{r:Row}{x:Nat}(h:x<rows.length+2):dp (rows++[r]) x=dp rows x:=by
 unfold dp
 rw[qm4,ZS,ZS,ZD (by rw[qm5];exact h)]
theorem qU1 {rows:List Row}{r:Row}:dp (rows++[r]) (rows.length+2)=1+mx (r.map (dp rows)):=by
 unfold dp
 rw[qm4,ZS,ZF (by rw[qm5];exact Zd _),qm5]
 simp only[Ub,List.getElem?_cons_zero,Option.getD_some]
 rfl
theorem qj2 {rows more:List Row}{x:Nat}(h:x<rows.length+2):dp (rows++more) x=dp rows x:=by
 induction more using qO1 with
 |h0=>simp
 |h1 l a ih=>
  rw[<- YX,qU0 (by simp;lia),ih]
theorem xi2 {rows:List Row}{x:Nat}(h:x<2):dp rows x=0:=by
 have:=qj2 (rows:=[]) (more:=rows) (x:=x) (by simpa using h)
 rw[Uh] at this
 rw[this]
 match x,h with
 |0,_=>rfl
 |1,_=>rfl
theorem q23 {rows:List Row}{p:Nat}{r:Row}(hp:rows[p]?=some r):rows=rows.take p++[r]++rows.drop (p+1):=by
 have jB:=(gS_ hp).1
 have he:=(gS_ hp).2
 rw[<- he,XF jB,YK]
theorem qK5 {rows:List Row}(ok:qd2 rows){p:Nat}{r:Row}(hp:rows[p]?=some r):dp rows (p+2)=1+mx (r.map (dp rows)):=by
 have jB:=(gS_ hp).1
 have hl:(rows.take p).length=p:=by simp;lia
 have e:=q23 hp
 have h1:dp rows (p+2)=dp (rows.take p++[r]) (p+2):=by
  have:=qj2 (rows:=rows.take p++[r]) (more:=rows.drop (p+1)) (x:=p+2) (by simp;lia)
  rw[<- e] at this
  exact this
 have h2:=qU1 (rows:=rows.take p) (r:=r)
 rw[hl] at h2
 rw[h1,h2]
 congr 1
 refine xb5 λx hx=>?_
 have hx2:=(ok p r hp).2 x hx
 have:=qj2 (rows:=rows.take p) (more:=[r]++rows.drop (p+1)) (x:=x) (by rw[hl];exact hx2)
 rw[<- YX,<- e] at this
 exact this.symm
def dfs (rows:List Row):Nat->List Nat->Nat->List Nat
 |0,e,_=>e
 |d+1,e,x=>if x<2\/x-2∈e then e else (rows.getD (x-2) []).foldl (dfs rows d) e++[x-2]
theorem qt8 {f:List Nat->Nat->List Nat}(h:∀e x,∃s,f e x=e++s):∀(l:List Nat) (e:List Nat),∃s,l.foldl f e=e++s
 |[],e=>⟨[],by simp⟩
 |a::l,e=>by
  obtain⟨s,hs⟩:=h e a
  obtain⟨s',hs'⟩:=qt8 h l (f e a)
  exact⟨s++s',by rw[WK,hs',hs,YX]⟩
theorem q24 (rows:List Row):∀(d:Nat) (e:List Nat) (x:Nat),∃s,dfs rows d e x=e++s
 |0,e,x=>⟨[],by simp[dfs]⟩
 |d+1,e,x=>by
  unfold dfs
  split
  ·exact⟨[],by simp⟩
  ·obtain⟨s,hs⟩:=qt8 (q24 rows d) (rows.getD (x-2) []) e
   exact⟨s++[x-2],by rw[hs,YX]⟩
structure Post (rows:List Row) (e:List Nat):Prop where
 nd:e.Nodup
 lt:∀p∈e,p<rows.length
 ch:∀(i p:Nat),e[i]?=some p->∀q∈rows.getD p [],q<2\/∃j:Nat,j<i/\e[j]?=some (q-2)
theorem qq7 (rows:List Row):Post rows []:=⟨YM,λp hp=>(nomatch hp),λi p h=>by simp at h⟩
theorem q25 {e s:List Nat}{j a:Nat}(h:e[j]?=some a):(e++s)[j]?=some a:=by
 have:=(gS_ h).1
 rw[ZD this];exact h
theorem qh6 {rows:List Row}(ok:qd2 rows):∀(d:Nat) (e:List Nat) (x:Nat),Post rows e->x<rows.length+2->dp rows x<=d->Post rows (dfs rows d e x)/\(x<2\/x-2∈dfs rows d e x)
 |0,e,x,pe,hx,hd=>by
  refine⟨pe,?_⟩
  by_cases h:x<2
  ·exact .inl h
  ·exfalso
   obtain⟨p,rfl⟩:∃p,x=p+2:=⟨x-2,by lia⟩
   have hp:rows[p]?=some (rows[p]'(by lia)):=by simp[show p<rows.length by lia]
   rw[qK5 ok hp] at hd
   lia
 |d+1,e,x,pe,hx,hd=>by
  unfold dfs
  split
  ·rename_i h
   exact⟨pe,h⟩
  ·rename_i h
   obtain⟨h1,h2⟩:=not_or.mp h
   obtain⟨p,rfl⟩:∃p,x=p+2:=⟨x-2,by lia⟩
   rw[VI] at h2 ⊢
   have jB:p<rows.length:=by lia
   have hp:rows[p]?=some rows[p]:=by simp[jB]
   have eg:rows.getD p []=rows[p]:=by simp[List.getD,jB]
   rw[eg]
   have hdp:=qK5 ok hp
   have rk:=ok p _ hp
   have key:∀(l:List Nat) (e0:List Nat),(∀q∈l,q<p+2/\dp rows q<=d)->Post rows e0->Post rows (l.foldl (dfs rows d) e0)/\(∀q∈l,q<2\/q-2∈l.foldl (dfs rows d) e0)/\(∀a∈l.foldl (dfs rows d) e0,a∈e0\/a<p):=λl=>by
    induction l with
    |nil=>exact λe0 _ pe0=>⟨pe0,λq hq=>(nomatch hq),λa ha=>.inl ha⟩
    |cons q l ih=>
     intro e0 hl pe0
     obtain⟨hq1,hq2⟩:=hl q ZC
     obtain⟨p1,m1⟩:=qh6 ok d e0 q pe0 (by lia) hq2
     obtain⟨p2,m2,n2⟩:=ih (dfs rows d e0 q) (λq' hq'=>hl q' (Zn _ hq')) p1
     obtain⟨s,hs⟩:=qt8 (q24 rows d) l (dfs rows d e0 q)
     refine⟨p2,λq' hq'=>?_,λa ha=>?_⟩
     ·rcases Zs.mp hq' with rfl|hq'
      ·rcases m1 with z|z
       ·exact .inl z
       ·rw[WK,hs];exact .inr (Wf _ z)
      ·exact m2 q' hq'
     ·rcases n2 a ha with z|z
      ·
       have below:∀(d0:Nat) (e1:List Nat) (y:Nat),y<rows.length+2->∀a∈dfs rows d0 e1 y,a∈e1\/a+2<=y:=λd0=>by
        induction d0 with
        |zero=>exact λe1 y _ a ha=>.inl ha
        |succ d0 ihd=>
         intro e1 y hy a ha
         unfold dfs at ha
         split at ha
         ·exact .inl ha
         ·rename_i hh
          obtain⟨hh1,hh2⟩:=not_or.mp hh
          rcases ZW.mp ha with ha|ha
          ·have hy2:y-2<rows.length:=by lia
           have eg2:rows.getD (y-2) []=rows[y-2]:=by simp[List.getD,hy2]
           rw[eg2] at ha
           have rk2:=ok (y-2) rows[y-2] (by simp[hy2])
           have kk:∀(l2:List Nat) (e2:List Nat),(∀q∈l2,q<y-2+2)->∀a∈l2.foldl (dfs rows d0) e2,a∈e2\/a+2<=y:=λl2=>by
            induction l2 with
            |nil=>exact λe2 _ a ha=>.inl ha
            |cons q2 l2 ih2=>
             intro e2 jM a ha
             rcases ih2 _ (λq' hq'=>jM q' (Zn _ hq')) a ha with z|z
             ·have hq2:=jM q2 ZC
              rcases ihd e2 q2 (by lia) a z with z|z
              ·exact .inl z
              ·exact .inr (by lia)
             ·exact .inr z
           exact kk _ _ rk2.2 a ha
          ·have:a=y-2:=by simpa using ha
           exact .inr (by lia)
       rcases below d e0 q (by lia) a z with z|z
       ·exact .inl z
       ·exact .inr (by lia)
      ·exact .inr z
   obtain⟨k1,k2,k3⟩:=key rows[p] e (λq hq=>⟨rk.2 q hq,by
    have:dp rows q<=mx (rows[p].map (dp rows)):=q22 (ZH.mpr ⟨q,hq,rfl⟩)
    lia⟩) pe
   refine⟨⟨?_,?_,?_⟩,.inr (ZI _ (by simp))⟩
   ·rw[Xc]
    refine⟨k1.nd,by simp,λa ha b hb=>?_⟩
    have:b=p:=by simpa using hb
    subst this
    intro z
    subst z
    rcases k3 a ha with z|z
    ·exact h2 z
    ·exact Ys _ z
   ·intro a ha
    rcases ZW.mp ha with ha|ha
    ·exact k1.lt a ha
    ·have:a=p:=by simpa using ha
     lia
   ·intro i a hi q hq
    by_cases j9:i<(rows[p].foldl (dfs rows d) e).length
    ·rw[ZD j9] at hi
     rcases k1.ch i a hi q hq with z|⟨j,hj,ej⟩
     ·exact .inl z
     ·exact .inr ⟨j,hj,q25 ej⟩
    ·rw[ZF (by lia)] at hi
     have hi0:i-(rows[p].foldl (dfs rows d) e).length=0:=by
      have:=(gS_ hi).1
      simp at this
      lia
     rw[hi0] at hi
     have:a=p:=by simpa using hi.symm
     subst this
     rw[eg] at hq
     rcases k2 q hq with z|z
     ·exact .inl z
     ·obtain⟨j,hj,ej⟩:=ZJ.mp z
      exact .inr ⟨j,by lia,q25 (by simp[hj,ej])⟩
theorem nd_iff {α:Type}{l:List α}:l.Nodup<->∀i j:Nat,i<j->j<l.length->l[i]?≠l[j]?:=by
 unfold List.Nodup
 rw[Xv]
 constructor
 ·intro h i j k5 hj z
  rw[Ze (by lia),Ze hj] at z
  exact h i j (by lia) hj k5 (ZK z)
 ·intro h i j hi hj k5 z
  refine h i j k5 hj ?_
  rw[Ze hi,Ze hj,z]
theorem q26 {rows:List Row}{p:Nat}(h:p<rows.length):rows[p]?=some (rows.getD p []):=by
 simp[List.getD,h]
def qF8 (r:Row):Prop:=r=[0,0,0,0]\/r=[1,1,1,1]
instance (r:Row):Decidable (qF8 r):=by unfold qF8;infer_instance
structure Canon (n top:Nat) (rows:List Row):Prop where
 size:n<=12
 rok:qd2 rows
 inn:top<rows.length+2
 deep:dp rows top<=n
 unplain:∀r∈rows,¬qF8 r
 unlike:rows.Nodup
 ends:dfs rows n [] top=List.range rows.length
end Qf
namespace L2
open PySem PySem.Spec PyProof.Rows PySem.W
section
variable {X:Cx}
def Its (z:Str):It:=⟨λi _=>i<z.cps.size,λi H x H'=>H'=H/\∃c,z.cps[i]?=some c/\x=.str ⟨#[c]⟩,λi _=>z.cps.size<=i⟩
theorem qO2 {P:Program}{w:World}{K:PySem.W.Frag}{x:Str}{px:Pos}(it:Addr) (z:Str) (t:Tok) (kind:String) (hkd:kind = "str_ascii_iterator" \/ kind = "str_iterator")
  (W:∀A:Around,A.handled=none->Walks P w A it [it] [it] z.cps.size (SignAt z) (λi h=>h.IsStrIter it kind z t i)):Turn P w K (.Name x px) (Its z) [it] it (λi h=>i<=z.cps.size/\h.IsStrIter it kind z t i) where
 mem:=by simp
 obj:=λi h st b hb=>by
  have e:b=it:=by simpa using hb
  subst e
  obtain⟨_,o,e,c,d⟩:=st
  exact⟨o,e,λv q=>by rw[d] at q;cases q⟩
 keep:=λi h h' st k=>⟨st.1,by
  obtain⟨_,o,e,r⟩:=st
  exact⟨o,k it (by simp) o e,r⟩⟩
 item:=by
  intro X hP hw hK hc i j8 s σ H E I hf st hg
  subst hP hw hK
  obtain⟨f0,f1,f2,f3,f4,f5⟩:=hf it (by simp)
  have hg':i<z.cps.size:=hg
  refine (W X.A (I.ok.hd hc)).item i s _ _ hg' st.2 λv h' tk hv st' kk=>?_
  obtain⟨c,u,e1,rfl⟩:=hv
  have I1:Inv X j8 σ H { s with heap:=h',toks:=tk }:=I.turned (λb o hb e=>kk b o (by simpa using hb) e) f0 f1 f3 f4 f5
  exact⟨_,rfl,Zb ⟨.str ⟨#[c]⟩,H,I1,⟨_,rfl⟩,⟨rfl,c,e1,rfl⟩,⟨hg',st'⟩,λb hb=>(hf b hb).1⟩⟩
 done:=by
  intro X hP hw hK hc i j8 s σ H E I hf st hg
  subst hP hw hK
  obtain⟨f0,f1,f2,f3,f4,f5⟩:=hf it (by simp)
  have hi:i=z.cps.size:=WL st.1 hg
  subst hi
  exact (W X.A (I.ok.hd hc)).done s _ _ st.2 λh' tk kk=>⟨rfl,I.turned (λb o hb e=>kk b o (by simpa using hb) e) f0 f1 f3 f4 f5⟩
 self:=λA i s Q E st h=>by
  rcases hkd with ha|ha
  ·subst ha;exact wpAny_pyIter_striter_ascii st.2 h
  ·subst ha;exact wpAny_pyIter_striter_wide st.2 h
def iStr (te:TE):TI:=λσ H R=>te σ H λx H1=>∃z,x=.str z/\R (Its z) H1
theorem xi3 {e:Expr}{te:TE}{x:Str}{px:Pos}(he:PE X e te):PI X (.Name x px) e (iStr te):=by
 intro j8 s σ H R I h
 refine thn (he j8 s σ H _ I h) λv s1 ⟨y,H1,I1,r1,z,ez,q⟩=>?_
 subst ez
 obtain⟨t,rfl⟩:=r1
 have fp:∀b∈[s1.heap.objs.size],FpOk X j8 H1 b:=λb hb=>by
  have e:b=s1.heap.objs.size:=by simpa using hb
  subst e
  exact I1.fpOk (Zd _) (I1.hok.fresh (Zd _))
 cases ha:z.cps.all (·<128) with
 |true=>
  refine wpAny_pyIter_ascii ha ?_
  exact⟨s1.heap.objs.size,[s1.heap.objs.size],_,_,H1,rfl,I1.kept (t':=s1.toks) (λb o e=>Zc _ e),qO2 _ z t "str_ascii_iterator" (.inl rfl) (λA hA=>Walks.strAscii hA _ z t),⟨Zo _,_,Zh _ rfl,rfl,rfl⟩,fp,q⟩
 |false=>
  refine wpAny_pyIter_wide ha ?_
  exact⟨s1.heap.objs.size,[s1.heap.objs.size],_,_,H1,rfl,I1.kept (t':=s1.toks) (λb o e=>Zc _ e),qO2 _ z t "str_iterator" (.inr rfl) (λA hA=>Walks.strWide hA _ z t),⟨Zo _,_,Zh _ rfl,rfl,rfl⟩,fp,q⟩
def Itd (lo:Int) (n:Nat):It:=⟨λi _=>i<n,λi H x H'=>H'=H/\x=.int (lo-i),λi _=>n<=i⟩
theorem q27 {P:Program}{w:World}{K:PySem.W.Frag}{x:Str}{px:Pos}(it:Addr) (lo:Int) (n:Nat):Turn P w K (.Name x px) (Itd lo n) [it] it (λi h=>IsRangeIter h it (lo+(i:Nat)*(-1)) ((n:Int)-(i:Nat)) (-1)) where
 mem:=by simp
 obj:=λi h st b hb=>by
  have e:b=it:=by simpa using hb
  subst e
  exact⟨_,st,λv z=>by
   have z':Data.fields _=Data.cell v:=z
   cases z'⟩
 keep:=λi h h' st k=>k it (by simp) _ st
 item:=by
  intro X hP hw hK hc i j8 s σ H E I hf st hg
  subst hP hw hK
  obtain⟨f0,f1,f2,f3,f4,f5⟩:=hf it (by simp)
  refine (Walks.range (prog:=X.prog) (w:=X.w) (I.ok.hd hc) it lo (-1) n).item i s _ _ hg st λv h' tk hv st' kk=>?_
  obtain⟨t,rfl⟩:=hv
  have I1:Inv X j8 σ H { s with heap:=h',toks:=tk }:=I.turned (λb o hb e=>kk b o (by simpa using hb) e) f0 f1 f3 f4 f5
  refine⟨_,rfl,Zb ⟨.int (lo-i),H,I1,⟨t,?_⟩,⟨rfl,rfl⟩,st',λb hb=>(hf b hb).1⟩⟩
  rw[show lo+(i:Int)*(-1)=lo-i by lia]
 done:=by
  intro X hP hw hK hc i j8 s σ H E I hf st hg
  subst hP hw hK
  obtain⟨f0,f1,f2,f3,f4,f5⟩:=hf it (by simp)
  exact wpAny_pyNext_range_end (I.ok.hd hc) st (by have:n<=i:=hg;lia) λh' eb=>⟨rfl,I.turned (t':=s.toks) (λb o hb e=>eb b o hb e) f0 f1 f3 f4 f5⟩
 self:=λ_ _ _ _ _ st h=>wpAny_pyIter_rangeiter st h
def xA4 (ta:TA):TI:=λσ H R=>ta σ H λvs H1=>∃i j:Int,vs=[.int i,.int j,.int (-1)]/\(-1000000<=i/\i<=1000000/\-1000000<=j/\j<=1000000)/\R (Itd i (i-j).toNat) H1
theorem qk7 (a b:Int):Builtin.Range.rangeSize a b (-1)=(((a-b).toNat:Nat):Int):=by
 unfold Builtin.Range.rangeSize
 rw[Zq (by decide)]
 by_cases h:a>b
 ·rw[Zz h,show (-(-1:Int))=1 by decide,Int.ediv_one]
  lia
 ·rw[Zq h]
  lia
theorem qU2 {a b:Int}(h1:-1000000<=a) (h2:a<=1000000) (h3:-1000000<=b) (h4:b<=1000000):Builtin.Range.small a b (-1)=true:=by
 unfold Builtin.Range.small
 rw[qk7]
 simp only[Builtin.Range.rangeFitsLong,V3,Vt,Wd,X1,show ¬((-1:Int)>0) by decide,ZX]
 lia
theorem q28 {a b c:Expr}{ta:TA}{p pos px:Pos}{x:Str}(hg:Gl X "range") (hm:X.mg "range" = none) (ha:PA X [a,b,c] ta)
  (hs:starEach [a,b,c] X.env=[(false,eval a X.env),(false,eval b X.env),(false,eval c X.env)]:=by rfl) (hs2:starEach [b,c] X.env=[(false,eval b X.env),(false,eval c X.env)]:=by rfl) :
  PI X (.Name x px) (.Call (.Name "range" p) [a,b,c] [] pos) (xA4 ta):=by
 intro j8 s σ H R I h
 refine Call_ (qs0 I hg hm boot_range (YU (thn (ha pos j8 s σ H _ I h) λus s1 ⟨vs,H1,I1,r1,q1⟩=>?_) (by rw[hs,hs2]) (by rw[hs2];rfl)))
 obtain⟨i,j,e,⟨b1,b2,b3,b4⟩,q⟩:=q1
 subst e
 cases r1 with
 |cons r rr=>
  cases rr with
  |cons r' rr=>
   cases rr with
   |cons r'' rr=>
    cases rr
    obtain⟨t,rfl⟩:=r
    obtain⟨t',rfl⟩:=r'
    obtain⟨t'',rfl⟩:=r''
    refine call_range_3 (by decide) ?_ (Or.inl (PyProof.noPylong_small (by lia)))
    refine wpAny_pyIter_range (IsRange.new ..) ?_ ?_
    ·exact qU2 b1 b2 b3 b4
    ·have I2:Inv X j8 σ H1 { s1 with heap:=s1.heap.push { cls:=.type "range",data:=.fields #[.int i t,.int j t',.int (-1) t''] } }:=I1.kept (t':=s1.toks) λb o e=>Zc _ e
     refine⟨(s1.heap.push { cls:=.type "range",data:=.fields #[.int i t,.int j t',.int (-1) t''] }).objs.size,[(s1.heap.push { cls:=.type "range",data:=.fields #[.int i t,.int j t',.int (-1) t''] }).objs.size],_,_,H1,rfl,
      I2.kept (t':=s1.toks) λb o e=>Zc _ e,q27 _ i (i-j).toNat,?_,λb hb=>?_,q⟩
     ·have e1:i+((0:Nat):Int)*(-1)=i:=by simp
      have e2:(((i-j).toNat:Nat):Int)-((0:Nat):Int)=Builtin.Range.rangeSize i j (-1):=by rw[qk7];simp
      show IsRangeIter _ _ (i+((0:Nat):Int)*(-1)) ((((i-j).toNat:Nat):Int)-((0:Nat):Int)) (-1)
      rw[e1,e2]
      exact Zh _ rfl
     ·have e:b=(s1.heap.push { cls:=.type "range",data:=.fields #[.int i t,.int j t',.int (-1) t''] }).objs.size:=by simpa using hb
      subst e
      exact I2.fpOk (Zd _) (I2.hok.fresh (Zd _))
def xA5 (te:TE) (g1 g2:TG):TS:=λD σ H=>te σ H λx H1=>g1 x σ H1 λσ2 H2=>g2 x σ2 H2 D.nx
theorem xm9 {t1 t2 e:Expr}{te:TE}{g1 g2:TG}{pos:Pos}(he:PE X e te) (h1:PG X t1 g1) (h2:PG X t2 g2) (hw:swappedStores [t1,t2] e X.env=pure none:=by rfl)
  (h3:(assignEach [t1,t2] X.env).map (·.2)=[assign t1 X.env,assign t2 X.env]:=by rfl):PS X (.Assign [t1,t2] e pos) (xA5 te g1 g2):=by
 intro j8 s σ H D I h
 refine wpAny_Assign_two (thn (he j8 s σ H _ I h) λv s1 ⟨x,H1,I1,r1,q1⟩=>?_) h3 hw
 refine thn (h1 j8 s1 σ H1 x v _ I1 r1 q1) λ_ s2 ⟨σ2,H2,I2,q2⟩=>?_
 exact thn (h2 j8 s2 σ2 H2 x v _ I2 r1 q2) λ_ s3 q=>q
def xu9:TE:=λ_ H Q=>∀p,H p=none->Q (.ref p) (upd H p (.dK []))
theorem xb6 {pos:Pos}:PE X (.Dict [] [] pos) xu9:=λj8 s σ H Q I h=>by
 have hb:sysModules<s.heap.objs.size:=Vz (by decide) (I.mod.glob.keeps I.bk).lt
 exact wpAny_Dict_empty ⟨.ref s.heap.objs.size,_,I.laid (a:=s.heap.objs.size) (o:=.dK []) (t':=s.toks) (λ_ _ q=>Zc _ q) (Zd _) ⟨Zo _,WB.mpr (Xr (Zl hb)),[],.nil,Heap.DictOf.new _⟩,rfl,h _ (I.hok.fresh (Zd _))⟩
theorem qe7 {x:Str}{px pos:Pos}{elt iter:Expr}{scope:Scope}{wi:TI}{te:TE}(N:List Str) (sc:Scope) (w6:X.N=N) (kM:X.env.scope=sc) (hc:X.calm=true) (hN:X.N.Nodup) (hi:PI X (.Name x px) iter wi) (he:∀cl C fp s₀ H₀,PE (qs5 X scope cl C x fp s₀ H₀) elt te)
  (jC:scope.kind=.function:=by rfl) (jA:scope.names.all (λy=>y.2 != .cell)=true:=by decide +kernel) (jD:scope.names.all (λy=>y.2 != .local||scope.names.lookup y.1==some .local)=true:=by decide +kernel)
  (hx:scope.names.lookup x=some .local:=by rfl) (jK:N.all (λy=>scope.names.lookup y != some .local)=true:=by decide +kernel)
  (jQ:scope.names.all (λp=>p.2 != .free||(sc.names.lookup p.1==some .cell||sc.names.lookup p.1==some .free))=true:=by decide +kernel)
  (hs:∀x,foldedSetIterable iter X.env x=pure x:=by intro _;rfl):PE X (.ListComp elt [⟨.Name x px,iter,[],0⟩] scope pos) (xl3 wi te):=by
 refine xl4 hc hN hi he jC (λy hy=>?_) (λy hy hl=>?_) hx (λy hy=>?_) (λp hp hk=>?_) hs
 ·have:=Ye.mp jA y hy
  simpa using this
 ·have:=Ye.mp jD y hy
  simpa [hl] using this
 ·have:=Ye.mp jK y (by rw[<- w6];exact hy)
  simpa using this
 ·have:=Ye.mp jQ p hp
  rw[hk] at this
  have z:sc.names.lookup p.1=some .cell\/sc.names.lookup p.1=some .free:=by simpa using this
  rw[kM]
  refine⟨.inr z,λq=>?_⟩
  rcases z with z|z<;>(rw[z] at q;cases q)
end
end L2
namespace L2
open PySem
theorem qe5 {H:Hp}{a b:Addr}{o u:HO}(e:H a=some o) (hn:H b=none):upd H b u a=some o:=by rw[qb2 (qa7 e hn)];exact e
theorem qb7 {H:Hp}{a:Addr}{o:HO}(h:H a=none):Same H (upd H a o):=λb u e=>qe5 e h
def Tups (H H':Hp):Prop:=∀b u,H b=some (.tup u)->H' b=some (.tup u)
theorem Same.tups {H H':Hp}(s:Same H H'):Tups H H':=λb u e=>s b _ e
structure Goes (J:It) (H:Hp) (n:Nat) (item:Nat->V->Hp->Prop):Prop where
 go:∀i H2,i<n->Same H H2->J.go i H2
 yl:∀i H2 y H3,i<n->Same H H2->J.yld i H2 y H3->Same H2 H3/\item i y H3
 st:∀H2,Same H H2->J.stop n H2
theorem qq8 {K:PySem.W.Frag}{H:Hp}{a:Addr}{xs:List V}(ha:H a=some (.tup xs)):Goes (Itt K a) H xs.length (λi y _=>xs[i]?=some y) where
 go:=λi H2 hi s=>⟨xs,xs[i],SqT.of (s _ _ ha),by simp[hi]⟩
 yl:=λi H2 y H3 hi s h=>by
  obtain⟨e,h⟩:=h
  subst e
  exact⟨Same.refl _,h xs (SqT.of (s _ _ ha))⟩
 st:=λH2 s=>⟨xs,SqT.of (s _ _ ha),Zd _⟩
theorem qq9 {K:PySem.W.Frag}{H:Hp}{a:Addr}{xs:List V}(ha:H a=some (.lst xs)):Goes (Itl K a) H xs.length (λi y _=>xs[i]?=some y) where
 go:=λi H2 hi s=>⟨xs,xs[i],SqL.of (s _ _ ha),by simp[hi]⟩
 yl:=λi H2 y H3 hi s h=>by
  obtain⟨e,h⟩:=h
  subst e
  exact⟨Same.refl _,h xs (SqL.of (s _ _ ha))⟩
 st:=λH2 s=>⟨xs,SqL.of (s _ _ ha),Zd _⟩
theorem xb7 {H:Hp}{n:Nat}:Goes (Itr 0 n) H n (λi y _=>y=.int (i:Int)) where
 go:=λi H2 hi s=>hi
 yl:=λi H2 y H3 hi s h=>by
  obtain⟨e,h⟩:=h
  subst e
  exact⟨Same.refl _,by rw[h,Ue]⟩
 st:=λH2 s=>Zd n
theorem q29 {K:PySem.W.Frag}{H:Hp}{a:Addr}{xs:List V}(ha:H a=some (.tup xs)):Goes (Ite K a) H xs.length (λi y H3=>∃p x,y=.ref p/\xs[i]?=some x/\H3 p=some (.tup [.int i,x])) where
 go:=λi H2 hi s=>⟨xs,xs[i],SqT.of (s _ _ ha),by simp[hi]⟩
 yl:=λi H2 y H3 hi s h=>by
  obtain⟨p,x,hp,hx,rfl,rfl⟩:=h
  exact⟨qb7 hp,p,x,rfl,hx xs (SqT.of (s _ _ ha)),qa2⟩
 st:=λH2 s=>⟨xs,SqT.of (s _ _ ha),Zd _⟩
theorem qf8 {J:It}{H:Hp}{n:Nat}{item:Nat->V->Hp->Prop}{te:TE}{σ:St}{Fin:Hp->Prop}{D:Addr}(hD:H D=none) (Rel:Nat->V->Hp->Prop) (G:Goes J H n item) (hsz:n<sizeLine)
  (mono:∀i y H1 H2,i<n->Tups H1 H2->Rel i y H1->Rel i y H2)
  (step:∀i x H2,i<n->item i x H2->Same H H2->∀Q':VK,(∀y H3,Same H2 H3->Rel i y H3->Q' y H3)->te (some x::σ) H2 Q')
  (fin:∀ys H2,Same H H2->H2 D=some (.lst ys)->ys.length=n->(∀i y,ys[i]?=some y->Rel i y H2)->Fin H2) :
  ∃W:Nat->Nat->List V->Hp->Prop,(∃m,W 0 m [] (upd H D (.lst []))) /\
   ∀i m xs H2,W i m xs H2->H2 D=some (.lst xs)/\xs.length<sizeLine/\((J.stop i H2/\Fin H2)\/(J.go i H2/\∀y H3,J.yld i H2 y H3 ->
    te (some y::σ) H3 λv H4=>H4 D=some (.lst xs)/\∃m',m'<m/\W (i+1) m' (xs++[v]) (upd H4 D (.lst (xs++[v]))))):=by
 refine⟨λi m ys H2=>i<=n/\m=n-i/\ys.length=i/\H2 D=some (.lst ys)/\Same H H2/\∀j y,ys[j]?=some y->Rel j y H2,⟨n,Zo _,rfl,rfl,qa2,qb7 hD,λj y h=>by simp at h⟩,?_⟩
 rintro i m ys H2 ⟨hi,rfl,hl,hd,s2,rel⟩
 refine⟨hd,by lia,?_⟩
 by_cases he:i=n
 ·subst he
  exact .inl ⟨G.st H2 s2,fin ys H2 s2 hd hl rel⟩
 ·refine .inr ⟨G.go i H2 (by lia) s2,λy H3 hy=>?_⟩
  obtain⟨s3,it⟩:=G.yl i H2 y H3 (by lia) s2 hy
  refine step i y H3 (by lia) it (s2.trans s3) _ λv H4 s4 r4=>?_
  have jY:=s4 _ _ (s3 _ _ hd)
  refine⟨jY,n-(i+1),by lia,by lia,rfl,by rw[Zw,hl];rfl,qa2,?_,?_⟩
  ·intro b o e
   rw[qb2 (qa7 e hD)]
   exact s4 _ _ (s3 _ _ (s2 _ _ e))
  ·have tk:Tups H4 (upd H4 D (.lst (ys++[v]))):=λb u e=>by
    have:b≠D:=λz=>by subst z;rw[jY] at e;cases e
    rw[qb2 this];exact e
   intro j z hz
   by_cases hj:j<i
   ·rw[ZD (by lia)] at hz
    exact mono j z H4 _ (by lia) tk (mono j z H2 H4 (by lia) (s3.trans s4).tups (rel j z hz))
   ·rw[ZF (by lia)] at hz
    have:j-ys.length=0:=by
     have:=(gS_ hz).1
     simp at this
     lia
    rw[this] at hz
    have:z=v:=by simpa using hz.symm
    subst this
    have:j=i:=by lia
    subst this
    exact mono _ _ H4 _ (by lia) tk r4
theorem qy2 {J:It}{H:Hp}{n k:Nat}{item:Nat->V->Hp->Prop}{g:TG}{tt:TT}{te:TE}{σ:St}{Fin:Hp->Prop}{D:Addr}(hD:H D=none) (yes:Nat->Bool) (val:Nat->V) (G:Goes J H n item) (hsz:n<sizeLine)
  (step:∀i x H2,i<n->item i x H2->Same H H2->∀os:St,os.length=k->∀(Q1:Hp->Prop) (Q2:VK),(yes i=false->∀H3,Same H2 H3->Q1 H3)->(yes i=true->∀H3,Same H2 H3->Q2 (val i) H3) ->
   g x (os++σ) H2 λσ4 H4=>tt σ4 H4 λb H5=>if b=true then te σ4 H5 Q2 else Q1 H5)
  (fin:∀H2,Same H H2->H2 D=some (.lst (((List.range n).filter yes).map val))->Fin H2) :
  ∃W:Nat->Nat->List V->Hp->Prop,(∃m,W 0 m [] (upd H D (.lst []))) /\
   ∀i m xs H2,W i m xs H2->H2 D=some (.lst xs)/\xs.length<sizeLine/\((J.stop i H2/\Fin H2)\/(J.go i H2/\∀y H3,J.yld i H2 y H3->∀os:St,os.length=k ->
    g y (os++σ) H3 λσ4 H4=>tt σ4 H4 λb H5=>if b=true then te σ4 H5 λv H6=>H6 D=some (.lst xs)/\∃m',m'<m/\W (i+1) m' (xs++[v]) (upd H6 D (.lst (xs++[v]))) else ∃m',m'<m/\W (i+1) m' xs H5)):=by
 refine⟨λi m ys H2=>i<=n/\m=n-i/\ys=((List.range i).filter yes).map val/\H2 D=some (.lst ys)/\Same H H2,⟨n,Zo _,rfl,rfl,qa2,qb7 hD⟩,?_⟩
 rintro i m ys H2 ⟨hi,rfl,hl,hd,s2⟩
 have j9:ys.length<=i:=by
  rw[hl,Zf]
  exact ZE (W9 _ _) (by simp)
 refine⟨hd,by lia,?_⟩
 by_cases he:i=n
 ·subst he
  exact .inl ⟨G.st H2 s2,fin H2 s2 (hl▸hd)⟩
 ·refine .inr ⟨G.go i H2 (by lia) s2,λy H3 hy os ho=>?_⟩
  obtain⟨s3,it⟩:=G.yl i H2 y H3 (by lia) s2 hy
  refine step i y H3 (by lia) it (s2.trans s3) os ho _ _ (λwN H4 s4=>?_) (λhyes H4 s4=>?_)
  ·refine⟨n-(i+1),by lia,by lia,rfl,?_,s4 _ _ (s3 _ _ hd),(s2.trans s3).trans s4⟩
   rw[hl,Xi,WO]
   simp[wN]
  ·have jY:=s4 _ _ (s3 _ _ hd)
   refine⟨jY,n-(i+1),by lia,by lia,rfl,?_,qa2,λb o e=>?_⟩
   ·rw[hl,Xi,WO]
    simp[hyes]
   ·rw[qb2 (qa7 e hD)]
    exact s4 _ _ (s3 _ _ (s2 _ _ e))
theorem ixL {X:Cx}(K:PySem.W.Frag) (h:X.K=K):IxR X (rIxL K):=h▸qh4
theorem ixT {X:Cx}(K:PySem.W.Frag) (h:X.K=K):IxR X (rIxT K):=h▸qc8
theorem tupO {X:Cx}(K:PySem.W.Frag) (h:X.K=K):qe4 X (.type "tuple") (λxs H Q=>∃p ys,xs=[.ref p]/\((SqL K H p ys/\∀l,H l=none->Q (.ref l) (upd H l (.tup ys)))\/(SqT K H p ys/\Q (.ref p) H))):=h▸qz5
theorem piT {X:Cx}{tg l:Expr}{tl:TE}(K:PySem.W.Frag) (h:X.K=K) (hl:PE X l tl):PI X tg l (iTup K tl):=h▸qs2 hl
end L2
namespace Pr
open PySem L2
abbrev qt9:Stmt:=top 8
abbrev qO3:Stmt:=top 9
abbrev q30:Stmt:=top 10
abbrev sEnd:Stmt:=top 11
abbrev qz9:Stmt:=top 12
abbrev xb8:Stmt:=top 15
abbrev q31:Stmt:=top 16
abbrev xb9:Stmt:=top 17
abbrev qO4:Stmt:=top 18
abbrev q32:Stmt:=top 19
abbrev qO5:Stmt:=top 20
abbrev qO6:Stmt:=top 21
abbrev qu0:Stmt:=top 22
abbrev qu1:Stmt:=top 24
abbrev sRow:Stmt:=top 25
abbrev q33:Stmt:=top 26
abbrev qr0:Stmt:=top 27
abbrev qF9:Stmt:=top 28
abbrev qO7:Stmt:=top 29
abbrev qu2:Stmt:=top 32
abbrev qO8:Stmt:=top 33
abbrev qA0:Stmt:=top 34
abbrev qA1:Stmt:=top 37
abbrev xc0:Stmt:=top 38
abbrev qO9:Stmt:=top 39
abbrev xc1:Stmt:=top 40
abbrev qr1:Stmt:=top 41
abbrev lPot:Stmt:=top 43
abbrev qu3:Stmt:=top 44
abbrev qG0:Stmt:=top 45
abbrev lBox:Stmt:=top 46
abbrev qG1:Stmt:=top 47
abbrev qy3:Stmt:=top 48
abbrev lHas:Stmt:=top 49
abbrev qj3:Stmt:=top 50
abbrev qP0:Stmt:=top 51
abbrev q34:Stmt:=top 52
abbrev qP1:Stmt:=top 53
abbrev q35:Stmt:=top 54
abbrev qG2:Stmt:=top 55
abbrev lLaw:Stmt:=top 56
end Pr
namespace L2
open PySem PySem.Spec PyProof.Rows
theorem qc6 {N P:List Str}{sc:Scope}(a:sc.kind=.function:=by rfl) (b:sc.isCoroutine=false:=by rfl) (c:sc.isGenerator=false:=by rfl) (d:N.Nodup:=by decide +kernel) (e:N.take P.length=P:=by rfl) (f:∀x∈P,sc.names.lookup x=some .local\/sc.names.lookup x=some .cell:=by decide +kernel) (g:∀y∈sc.names,y.2≠.free:=by decide +kernel):FnScope N P sc:=⟨a,b,c,d,e,f,g⟩
section
variable {X:Cx}
theorem psN (i:Nat){x:Str}{e:Expr}{te:TE}{pos pos':Pos}(hN:X.N.Nodup) (he:PE X e te) (hi:X.N[i]?=some x:=by rfl) (hx:Loc X.env.scope x:=by first|left;rfl|right;rfl) (hs:swapsWith e (some (.Name x pos')) pos.line X.env=pure false:=by rfl) (hf:X.fn x=true\/X.env.scope.names.lookup x=some .local:=by first|left;rfl|right;rfl|assumption):PS X (.Assign [.Name x pos'] e pos) (tAsg te (qh1 i)):=xs6 hN hi hx he hs hf
theorem pgN (i:Nat){x:Str}{pos:Pos}(hN:X.N.Nodup) (hi:X.N[i]?=some x:=by rfl) (hx:Loc X.env.scope x:=by first|left;rfl|right;rfl) (hf:X.fn x=true\/X.env.scope.names.lookup x=some .local:=by first|left;rfl|right;rfl|assumption):PG X (.Name x pos) (qh1 i):=qn7 hN hi hx hf
theorem pcN {k:Nat}{f:Addr}{fd:FuncData}{ps:List Str}{sp:Sp}{x:Str}{p pos:Pos}{e:Expr}{es:List Expr}{t:TA}(F:FnOk X.prog X.w X.K X.mg X.base CX0 k f fd ps sp) (hr:Room k X.A) (hm:X.mg x=some (.ref f)) (hk:PySem.W.keepIn X.K (.ref f)=true) (hb:Binds X.K fd ps []) (ha:PA X (e::es) t) (hg:Gl X x:=by rfl) (vG:(x==("__debug__" : Str))=false:=by decide) (he:starEach (e::es) X.env=(false,eval e X.env)::starEach es X.env:=by rfl) (jF:(backTo pos (starEach es X.env)).any (·.1)=false:=by rfl) :
  PE X (.Call (.Name x p) (e::es) [] pos) (xa4 sp [] E0 t):=qX9 F hr hg hm hk hb .nil xt5 ha vG he jF
theorem pxN {r:R2}{a b:Expr}{pos:Pos}{ta tb:TE}(hr:IxR X r) (ha:PE X a ta) (hb:PE X b tb) (hs:qY5 b:=by intro _ _;rfl):PE X (.Subscript a b pos) (tOp r ta tb):=xz3 hr ha hb hs
end
end L2
namespace Pr
open PySem L2 Qf
structure Blt (mg:Str->Option Value):Prop where
 isi:mg "isinstance" = none
 int:mg "int" = none
 bool:mg "bool" = none
 tuple:mg "tuple" = none
 list:mg "list" = none
 set:mg "set" = none
 len:mg "len" = none
 all:mg "all" = none
 any:mg "any" = none
 enum:mg "enumerate" = none
 range:mg "range" = none
 max:mg "max" = none
 min:mg "min" = none
structure Cst (mg:Str->Option Value):Prop where
 first:∃t,mg "FIRST" = some (.int 2 t)
 great:∃t,mg "GREATEST_SIZE" = some (.int 12 t)
def vN (r:List Nat):List V:=r.map λn:Nat=>V.int (n:Int)
theorem qk8 (r:List Nat):(vN r).length=r.length:=Zf ..
theorem qG3 {r:List Nat}{i:Nat}{x:V}(h:(vN r)[i]?=some x):∃n:Nat,r[i]?=some n/\x=.int (n:Int):=by
 unfold vN at h
 rw[Zg] at h
 obtain⟨n,h1,h2⟩:=Zj.mp h
 exact⟨n,h1,h2.symm⟩
theorem xA6 {r:List Nat}{i n:Nat}(h:r[i]?=some n):(vN r)[i]?=some (.int (n:Int)):=by
 unfold vN
 rw[Zg,h];rfl
theorem qu4 {r:List Nat}{i n:Nat}(h:r[i]?=some n):atI (vN r) (i:Int)=some (.int (n:Int)):=qj1 (xA6 h)
theorem qp5 (r:List Nat):vN r=(r.map λn:Nat=>(n:Int)).map V.int:=by unfold vN;rw[YH];rfl
def RowsAt (H:Hp) (p:Addr) (rows:List Row):Prop:=∃bs:List Addr,H p=some (.tup (bs.map V.ref))/\bs.length=rows.length/\∀(i:Nat) b r,bs[i]?=some b->rows[i]?=some r->H b=some (.tup (vN r))
theorem RowsAt.mono {H H':Hp}{p:Addr}{rows:List Row}(h:RowsAt H p rows) (t:Tups H H'):RowsAt H' p rows:=by
 obtain⟨bs,h1,h2,h3⟩:=h
 exact⟨bs,t _ _ h1,h2,λi b r e1 e2=>t _ _ (h3 i b r e1 e2)⟩
theorem RowsAt.same {H H':Hp}{p:Addr}{rows:List Row}(h:RowsAt H p rows) (t:Same H H'):RowsAt H' p rows:=h.mono t.tups
def RowsS (H:Hp) (p:Addr) (rows:List Row):Prop:=∃bs:List Addr,(H p=some (.tup (bs.map V.ref))\/H p=some (.lst (bs.map V.ref)))/\bs.length=rows.length/\∀(i:Nat) b r,bs[i]?=some b->rows[i]?=some r->H b=some (.tup (vN r))
theorem RowsAt.s {H:Hp}{p:Addr}{rows:List Row}(h:RowsAt H p rows):RowsS H p rows:=let ⟨bs,a,b,c⟩:=h;⟨bs,.inl a,b,c⟩
theorem RowsS.same {H H':Hp}{p:Addr}{rows:List Row}(h:RowsS H p rows) (s:Same H H'):RowsS H' p rows:=by
 obtain⟨bs,h1,h2,h3⟩:=h
 exact⟨bs,h1.imp (s _ _) (s _ _),h2,λi b r e1 e2=>s _ _ (h3 i b r e1 e2)⟩
def rIxS (K:PySem.W.Frag):R2:=λx y H Q=>rIxL K x y H Q\/rIxT K x y H Q
theorem ixS {X:Cx}(K:PySem.W.Frag) (h:X.K=K):IxR X (rIxS K):=(ixL K h).or (ixT K h)
section
variable {P:Program}{w:World}{K:PySem.W.Frag}{mg:Str->Option Value}{base:Heap}
theorem xn0:FnScope ["thing"] ["thing"] (qa3 qt9):=qc6
def qu5:Sp:=λvs H Q _=>∃i:Int,vs=[.int i]/\Q (.bl true) H
theorem qr2 {f:Addr}{fd:FuncData}(F:Fun K "is_whole" "is_whole" qt9 f fd) (B:Blt mg):FnOk P w K mg base CX0 1 f fd ["thing"] qu5:=by
 refine F.ok xn0 (λvs H Q E h=>?_) (λcdv A outer s H vs Q E hr h=>?_)
 ·obtain⟨i,rfl,_⟩:=h
  rfl
 ·obtain⟨i,rfl,q⟩:=h
  refine⟨_,qa6 (qa9 (qi2 (qa8 qk0 (by rfl) B.isi Yr (qa0 (pv 0) (qa0 (qn5 (v:=.ty "int") (by rfl) B.int Xu rfl) qa1)))
   (ql7 (xs4 (qa8 qk0 (by rfl) B.isi Yr (qa0 (pv 0) (qa0 (qn5 (v:=.ty "bool") (by rfl) B.bool PyProof.Rows.boot_bool rfl) qa1))))))),?_⟩
  exact⟨_,rfl,_,_,_,_,true,rfl,rfl,.inl (.int i),rfl,_,rfl,iteT ⟨_,rfl,_,_,_,_,false,rfl,rfl,.inl (.int i),rfl,_,rfl,q⟩⟩
theorem xv0:FnScope ["thing"] ["thing"] (qa3 xb8):=qc6
def xi4:Sp:=λvs H Q _=>∃n:Nat,vs=[.int n]/\n<=12/\Q (.bl true) H
theorem xn1 {f fW:Addr}{fd fdW:FuncData}(F:Fun K "is_size" "is_size" xb8 f fd) (B:Blt mg) (T:Cst mg) (hW:mg "is_whole" = some (.ref fW)) (FW:Fun K "is_whole" "is_whole" qt9 fW fdW) (bW:Binds K fdW ["thing"] []):FnOk P w K mg base CX0 2 f fd ["thing"] xi4:=by
 have GW:FnOk P w K mg base CX0 1 fW fdW ["thing"] qu5:=qr2 FW B
 obtain⟨tg,hgr⟩:=T.great
 refine F.ok xv0 (λvs H Q E h=>?_) (λcdv A outer s H vs Q E hr h=>?_)
 ·obtain⟨x,rfl,_⟩:=h
  rfl
 ·obtain⟨n,rfl,hn,q⟩:=h
  refine⟨_,qa6 (qa9 (qi2 (pcN GW hr hW FW.kp bW (qa0 (pv 0) qa1)) (ql7 (qq4 qq0 qq0 qa4 (pv 0) (qd4 (v:=.int 12) (by rfl) hgr ⟨_,rfl⟩))))),?_⟩
  refine⟨_,rfl,n,rfl,_,rfl,iteT ⟨_,rfl,_,_,rfl,rfl,_,rfl,?_⟩⟩
  have e:decide ((n:Int)<=12)=true:=Zk (by lia)
  refine ite2 (λ_=>⟨_,_,rfl,rfl,?_⟩) (λh1=>absurd (Zk (VD n)) h1)
  show Q (V.bl (decide ((n:Int)<=12))) H
  rw[e];exact q
theorem xc2:FnScope ["thing", "many"] ["thing", "many"] (qa3 qu1):=qc6
def qA2:Sp:=λvs H Q _=>∃n m:Nat,vs=[.int n,.int m]/\n<m+2/\Q (.bl true) H
theorem q36 {f fW:Addr}{fd fdW:FuncData}(F:Fun K "is_number" "is_number" qu1 f fd) (B:Blt mg) (T:Cst mg) (hW:mg "is_whole" = some (.ref fW)) (FW:Fun K "is_whole" "is_whole" qt9 fW fdW) (bW:Binds K fdW ["thing"] []):FnOk P w K mg base CX0 2 f fd ["thing", "many"] qA2:=by
 have GW:FnOk P w K mg base CX0 1 fW fdW ["thing"] qu5:=qr2 FW B
 obtain⟨tf,hf⟩:=T.first
 refine F.ok xc2 (λvs H Q E h=>?_) (λcdv A outer s H vs Q E hr h=>?_)
 ·obtain⟨n,m,rfl,_⟩:=h
  rfl
 ·obtain⟨n,m,rfl,hn,q⟩:=h
  refine⟨_,qa6 (qa9 (qi2 (pcN GW hr hW FW.kp bW (qa0 (pv 0) qa1)) (ql7 (qq4 qq0 qh3 qa4 (pv 0) (qa5 qd1 (pv 1) (qd4 (v:=.int 2) (by rfl) hf ⟨_,rfl⟩)))))),?_⟩
  refine⟨_,rfl,n,rfl,_,rfl,iteT ⟨_,rfl,_,_,rfl,rfl,_,rfl,?_⟩⟩
  have e:decide ((n:Int)<(m:Int)+2)=true:=Zk (by lia)
  refine ite2 (λ_=>⟨_,rfl,_,_,rfl,rfl,_,_,rfl,rfl,?_⟩) (λh1=>absurd (Zk (VD n)) h1)
  show Q (V.bl (decide ((n:Int)<(m:Int)+2))) H
  rw[e];exact q
theorem xn2:FnScope ["row"] ["row"] (qa3 qO3):=qc6
def q37:Sp:=λvs H Q _=>∃(b:Addr) (r:Row),vs=[.ref b]/\H b=some (.tup (vN r))/\r.length=4/\∀H',Same H H'->Q (.bl (decide (qF8 r))) H'
theorem q38 {l m:List Nat}(h:(l.map λn:Nat=>(n:Int))=m.map λn:Nat=>(n:Int)):l=m:=by
 induction l generalizing m with
 |nil=>cases m with
  |nil=>rfl
  |cons b m=>simp at h
 |cons a l ih=>cases m with
  |nil=>simp at h
  |cons b m=>
   rw[ZA,ZA] at h
   injection h with h1 h2
   rw[ih h2,Int.ofNat.inj h1]
theorem xc3 {f:Addr}{fd:FuncData}(F:Fun K "is_plain" "is_plain" qO3 f fd) (T:Cst mg):FnOk P w K mg base CX0 2 f fd ["row"] q37:=by
 obtain⟨tf,hf⟩:=T.first
 refine F.ok xn2 (λvs H Q E h=>?_) (λcdv A outer s H vs Q E hr h=>?_)
 ·obtain⟨b,r,rfl,_⟩:=h
  rfl
 ·obtain⟨b,r,rfl,hb,hl,q⟩:=h
  refine⟨_,qa6 (qa9 (qi2 (qf5 qh3 (pxN qc8 (pv 0) qa4) (qd4 (v:=.int 2) (by rfl) hf ⟨_,rfl⟩) (qb5 _))
   (ql7 (qf5 (q10 hr) (pv 0) (qa5 xm7 (qi4 (qa0 (pxN qc8 (pv 0) qa4) qa1)) qa4) (qb5 _))))),?_⟩
  match r,hl with
  |[x0,x1,x2,x3],_=>
   refine⟨_,rfl,b,_,0,.int x0,rfl,rfl,SqT.of hb,rfl,_,_,rfl,rfl,_,rfl,?_⟩
   refine ite2 (λhc=>?_) (λhc=>?_)
   ·have h2:x0<2:=by have:=ZB hc;lia
    refine⟨_,rfl,_,rfl,b,_,0,.int x0,rfl,rfl,SqT.of hb,rfl,(by show 1<=sizeLine;decide),λp hp=>⟨p,4,.int x0,rfl,rfl,qa2,by decide,by decide,λp2 jP=>?_⟩⟩
    have jW:=qe5 (u:=.tup (List.replicate 4 (V.int x0))) (qe5 (u:=.tup [V.int x0]) hb hp) jP
    refine⟨dT [(x0:Int),(x1:Int),(x2:Int),(x3:Int)],dT [(x0:Int),(x0:Int),(x0:Int),(x0:Int)],.tup jW (DatasAt.ints [(x0:Int),(x1:Int),(x2:Int),(x3:Int)]),.tup qa2 (DatasAt.ints [(x0:Int),(x0:Int),(x0:Int),(x0:Int)]),q11 _,q11 _,(by show 1<=60;decide),?_⟩
    rw[xu5]
    have e:decide (([(x0:Int),(x1:Int),(x2:Int),(x3:Int)]:List Int)=([(x0:Int),(x0:Int),(x0:Int),(x0:Int)]:List Int))=decide (qF8 [x0,x1,x2,x3]):=by
     congr 1
     apply propext
     unfold qF8
     constructor
     ·intro z
      have:[x0,x1,x2,x3]=[x0,x0,x0,x0]:=q38 (l:=[x0,x1,x2,x3]) (m:=[x0,x0,x0,x0]) z
      have:x0=0\/x0=1:=by lia
      rcases this with rfl|rfl
      ·exact .inl ‹_›
      ·exact .inr ‹_›
     ·rintro (z|z)<;>(cases z;rfl)
    rw[e]
    exact q _ ((qb7 hp).trans (qb7 jP))
   ·have h2:¬x0<2:=λz=>hc (Zk (by lia))
    have e:decide (qF8 [x0,x1,x2,x3])=false:=Zm (by
     rintro (z|z)<;>(cases z;lia))
    have:=q H (Same.refl H)
    rw[e] at this
    exact this
end
end Pr
namespace Qf
theorem xn3 (l:List Nat) (a:Nat):mx (l++[a])=max (mx l) a:=by
 induction l with
 |nil=>show max a 0=max 0 a;lia
 |cons b l ih=>show max b (mx (l++[a]))=max (max b (mx l)) a;rw[ih];lia
theorem q39 (l:List Nat):∀k,k<l.length->L2.best (l.map λn:Nat=>(n:Int)) k=(mx (l.take (k+1)):Nat)
 |0,h=>by
  cases l with
  |nil=>simp at h
  |cons a l=>show ((a:Nat):Int)=((max a 0:Nat):Int);simp
 |k+1,h=>by
  have ih:=q39 l k (by lia)
  have e:(l.map λn:Nat=>(n:Int)).getD (k+1) 0=((l[k+1]:Nat):Int):=by simp[List.getD,h]
  have t:l.take (k+1+1)=l.take (k+1)++[l[k+1]]:=by rw[XF h]
  unfold L2.best
  rw[e,ih,t,xn3]
  split<;>lia
theorem xc4 {l:List Nat}(h:l≠[]):L2.best (l.map λn:Nat=>(n:Int)) ((l.map λn:Nat=>(n:Int)).length-1)=(mx l:Nat):=by
 have hl:0<l.length:=Vw.mpr h
 rw[Zf,q39 l (l.length-1) (by lia),show l.length-1+1=l.length by lia,Wx]
theorem q40 {rows:List Row}{i:Nat}{r:Row}(h:rows[i]?=some r):deps (rows.take (i+1))=deps (rows.take i)++[1+mx (r.map (dp (rows.take i)))]:=by
 have hl:=(gS_ h).1
 have he:=(gS_ h).2
 rw[<- qm4,<- he,XF hl]
theorem xi5 {rows:List Row}{x:Nat}(h:x<rows.length+2):(deps rows)[x]?=some (dp rows x):=by
 unfold dp
 rw[ZS]
 have:x<(deps rows).length:=by rw[qm5];exact h
 rw[Ze this];rfl
end Qf
namespace Pr
open PySem L2 Qf
theorem qk1 {xs ys:List V}(hl:xs.length=ys.length) (h:∀(i:Nat) x,xs[i]?=some x->ys[i]?=some x):xs=ys:=by
 refine Xd λi=>?_
 cases e:xs[i]? with
 |some x=>exact (h i x e).symm
 |none=>
  have:xs.length<=i:=List.getElem?_eq_none_iff.mp e
  exact (Yk (by lia)).symm
section
variable {P:Program}{w:World}{K:PySem.W.Frag}{mg:Str->Option Value}{base:Heap}
theorem scDeps:FnScope ["rows", "depths", "row"] ["rows"] (qa3 q30):=qc6
def xi6:Sp:=λvs H Q _=>∃(p:Addr) (rows:List Row),vs=[.ref p]/\RowsAt H p rows/\qd2 rows/\rows.length<=900/\∀H' D,Same H H'->H' D=some (.lst (vN (deps rows)))->Q (.ref D) H'
theorem xn4 {f:Addr}{fd:FuncData}(F:Fun K "depths_of" "depths_of" q30 f fd) (B:Blt mg):FnOk P w K mg base CX0 1 f fd ["rows"] xi6:=by
 refine F.ok scDeps (λvs H Q E h=>?_) (λcdv A outer s H vs Q E hr h=>?_)
 ·obtain⟨p,rows,rfl,_⟩:=h
  rfl
 ·obtain⟨p,rows,rfl,hR,ok,hn,q⟩:=h
  refine⟨_,qb0 (psN 1 scDeps.nd (qj0 (qa0 qa4 (qa0 qa4 qa1))))
   (qb0 (qk6 YO rfl (qs2 (pv 0)) (pgN 2 scDeps.nd)
    (qa6 (qd9 (qK0 Xe XG XH qf6 (pv 1) (qa0 (qa5 qd1 qa4 (qa8 (q21 rfl) (by rfl) B.max Va
     (qa0 (qe7 ["rows", "depths", "row"] (qa3 q30) rfl rfl rfl scDeps.nd (qs2 (pv 2)) (λcl C fp s₀ H₀=>pxN (ixL K rfl) (pv 2) (pv 0))) qa1))) qa1)))))
   (qa6 (qa9 (pv 1)))),?_⟩
  refine⟨(by show 2<=sizeLine;decide),λD hD=>?_⟩
  obtain⟨bs,hp,j9,jE⟩:=id hR
  have kU:=qe5 (u:=.lst [.int 0,.int 0]) hp hD
  have jN:(bs.map V.ref).length=rows.length:=by rw[Zf];exact j9
  refine⟨_,rfl,p,rfl,⟨_,SqT.of kU⟩,qz4 (K:=K) (a:=p) (xs:=bs.map V.ref) (λi σ H2=>Same H H2/\H2 D=some (.lst (vN (deps (rows.take i))))/\∃v2,σ=[some (.ref p),some (.ref D),v2])
   ⟨qb7 hD,qa2,none,rfl⟩ (λi σ H2 _ ⟨s2,_⟩=>SqT.of (s2 _ _ hp)) ?_ ?_⟩
  ·rintro i y σ H2 hy ⟨s2,k6,v2,rfl⟩
   have hi:i<rows.length:=by rw[<- jN];exact (gS_ hy).1
   rw[Zg] at hy
   obtain⟨b,hb,rfl⟩:=Zj.mp hy
   have jL:rows[i]?=some rows[i]:=by simp[hi]
   have vQ:=s2 _ _ (jE i b rows[i] hb jL)
   have rk:=ok i _ jL
   have tl:(rows.take i).length=i:=by rw[Xm];lia
   have jO:∀x,x<i+2->(deps (rows.take i))[x]?=some (dp (rows.take i) x):=λx hx=>xi5 (by rw[tl];exact hx)
   generalize rows[i]=r at jL vQ rk
   refine⟨_,rfl,.inl ⟨rfl,_,SqL.of k6⟩,_,rfl,b,rfl,⟨_,SqT.of vQ⟩,λD2 wU=>qf8 wU (λj z _=>∃x,r[j]?=some x/\z=.int (dp (rows.take i) x:Nat)) (qq8 (K:=K) vQ) (by rw[qk8,rk.1];decide) (λ_ _ _ _ _ _ h=>h) ?_ ?_⟩
   ·intro j x H3 hj hx s3 Q' hq
    obtain⟨m,hm,rfl⟩:=qG3 hx
    have jB:=rk.2 m (Zv hm)
    exact⟨_,rfl,_,rfl,D,_,(m:Int),.int (dp (rows.take i) m:Nat),rfl,rfl,SqL.of (s3 _ _ k6),qu4 (jO m jB),hq _ _ (Same.refl _) ⟨m,hm,rfl⟩⟩
   ·intro ys H3 s3 w5 kW vJ
    have ey:ys=(r.map (dp (rows.take i))).map (λn:Nat=>V.int (n:Int)):=by
     refine qk1 (by rw[kW,qk8,Zf,Zf]) λj x hx=>?_
     obtain⟨m,hm,rfl⟩:=vJ j x hx
     rw[Zg,Zg,hm];rfl
    have e2:ys=((r.map (dp (rows.take i))).map (λn:Nat=>(n:Int))).map V.int:=ey.trans (qp5 _)
    have jJ:r.map (dp (rows.take i))≠[]:=λz=>by
     have:=Yd List.length z
     rw[Zf,rk.1] at this
     cases this
    refine⟨D2,(r.map (dp (rows.take i))).map (λn:Nat=>(n:Int)),rfl,e2▸w5,λz=>jJ (List.map_eq_nil_iff.mp z),_,_,rfl,rfl,?_⟩
    rw[xc4 jJ]
    have jY:=s3 _ _ k6
    refine⟨D,_,_,rfl,rfl,jY,?_,?_⟩
    ·rw[qk8,qm5,tl];exact qc4 (by lia)
    ·have nD:∀b o,H b=some o->b≠D:=λb o e=>qa7 e hD
     refine⟨λb o e=>by rw[qb2 (nD b o e)];exact s3 _ _ (s2 _ _ e),?_,_,rfl⟩
     rw[qa2,q40 jL]
     unfold vN
     rw[ZU]
     rfl
  ·rintro σ H2 ⟨s2,k6,v2,rfl⟩
   refine⟨_,rfl,q H2 D s2 ?_⟩
   rw[jN,Wx] at k6
   exact k6
end
end Pr
namespace Qf
theorem xc5 {rows:List Row}{e:List Nat}(h:Post rows e):e.length<=rows.length:=by
 have:=h.nd.length_le_of_subset (l₂:=List.range rows.length) λp hp=>Yq.mpr (h.lt p hp)
 simpa using this
theorem qu6 {rows:List Row}(ok:qd2 rows){d p:Nat}{r:Row}(hp:rows[p]?=some r) (hd:dp rows (p+2)<=d+1):∀(l e:List Nat),(∀q∈l,q∈r)->Post rows e->Post rows (l.foldl (dfs rows d) e)
 |[],_,_,pe=>pe
 |q::l,e,hl,pe=>by
  have hq:=hl q ZC
  have jB:=(ok p r hp).2 q hq
  have jF:=(gS_ hp).1
  have hdq:dp rows q<=d:=by
   have:=q22 (ZH.mpr ⟨q,hq,rfl⟩:dp rows q∈r.map (dp rows))
   have e:=qK5 ok hp
   lia
  exact qu6 ok hp hd l _ (λz hz=>hl z (Zn _ hz)) (qh6 ok d e q pe (by lia) hdq).1
theorem qf2 {rows:List Row}(ok:qd2 rows){d p:Nat}{r:Row}(hp:rows[p]?=some r) (hd:dp rows (p+2)<=d+1){q:Nat}(hq:q∈r):q<rows.length+2/\dp rows q<=d:=by
 have jB:=(ok p r hp).2 q hq
 have jF:=(gS_ hp).1
 have:=q22 (ZH.mpr ⟨q,hq,rfl⟩:dp rows q∈r.map (dp rows))
 have e:=qK5 ok hp
 exact⟨by lia,by lia⟩
theorem qG4 {rows:List Row}(ok:qd2 rows){x:Nat}(hx:x<rows.length+2) (h:dp rows x<=0):x<2:=by
 by_cases z:x<2
 ·exact z
 ·exfalso
  have hp:x-2<rows.length:=by lia
  have:=qK5 ok (q26 hp)
  rw[show x-2+2=x by lia] at this
  lia
end Qf
namespace Pr
open PySem L2 Qf
theorem qu7 {n:Nat}(h:n<=1191000):n<sizeLine:=Y4 h (by decide)
def But (e:Addr) (H H':Hp):Prop:=∀b o,H b=some o->b≠e->H' b=some o
theorem But.refl (e:Addr) (H:Hp):But e H H:=λ_ _ h _=>h
theorem But.trans {e:Addr}{H H1 H2:Hp}(a:But e H H1) (b:But e H1 H2):But e H H2:=λc o h n=>b c o (a c o h n) n
theorem But.upd {e:Addr}{H:Hp}{o:HO}:But e H (upd H e o):=λb u h n=>by rw[qb2 n];exact h
theorem But.of {e:Addr}{H H':Hp}(h:Same H H'):But e H H':=λb o q _=>h b o q
theorem But.tups {e:Addr}{H H':Hp}(h:But e H H'){o:HO}(he:H e=some o) (no:∀u,o≠.tup u):Tups H H':=λb u q=>h b _ q λz=>by
 subst z
 rw[q] at he
 exact no u (ZK he).symm
def eK (es:List Nat):List (Key×V):=es.map λp:Nat=>(Sum.inl (p:Int),V.bl true)
theorem xi7 (es:List Nat) (p:Nat):(valV (eK es) (Sum.inl (p:Int))).isSome=decide (p∈es):=by
 rw[<- qm1]
 unfold eK
 rw[List.any_map]
 by_cases h:p∈es
 ·rw[Zk h,XU]
  exact⟨p,h,by simp⟩
 ·rw[Zm h,VQ]
  intro q hq
  simp only[Function.comp,Wd]
  intro z
  have:(q:Int)=p:=Sum.inl.inj z
  exact h (by rw[<- Int.ofNat.inj this];exact hq)
theorem xv1 {es:List Nat}{p:Nat}(h:p∉es):putK (eK es) (Sum.inl (p:Int)) (.bl true)=eK (es++[p]):=by
 unfold putK
 have:=xi7 es p
 rw[<- qm1,Zm h] at this
 rw[Zq (by rw[this];decide)]
 unfold eK
 rw[ZU];rfl
section
variable {P:Program}{w:World}{K:PySem.W.Frag}{mg:Str->Option Value}{base:Heap}
theorem scEnd:FnScope ["rows", "number", "ended", "quarter"] ["rows", "number", "ended"] (qa3 sEnd):=qc6
def xv2 (d:Nat):Sp:=λvs H Q _=>∃(p e:Addr) (x:Nat) (rows:List Row) (es:List Nat),vs=[.ref p,.int (x:Nat),.ref e]/\RowsS H p rows/\qd2 rows/\rows.length<=1190900/\x<rows.length+2/\dp rows x<=d/\Post rows es /\
 H e=some (.dK (eK es))/\∀H',But e H H'->H' e=some (.dK (eK (dfs rows d es x)))->Q .non H'
theorem xv3 {f:Addr}{fd:FuncData}(F:Fun K "end_rows" "end_rows" sEnd f fd) (T:Cst mg) (hE:mg "end_rows" = some (.ref f)) (bE:Binds K fd ["rows", "number", "ended"] []):∀d,FnOk P w K mg base CX0 (d+1) f fd ["rows", "number", "ended"] (xv2 d):=by
 obtain⟨tf,hf⟩:=T.first
 intro d
 induction d with
 |zero=>
  refine F.ok scEnd (λvs H Q E h=>?_) (λcdv A outer s H vs Q E hr h=>?_)
  ·obtain⟨p,e,x,rows,es,rfl,_⟩:=h
   rfl
  ·obtain⟨p,e,x,rows,es,rfl,hR,ok,hn,hx,hd,pe,he,q⟩:=h
   have hu:A.units+3+1<cLine:=by have:=hr.un;exact Y4 (Yu _ _) (show A.units+3+1+199<cLine from by simpa using this)
   have x2:=qG4 ok hx hd
   refine⟨_,qb0 (qd8 (qn6 (qb6 qh3 (pv 1) (qd4 (v:=.int 2) (by rfl) hf ⟨_,rfl⟩) (qb5 _)) (qi1 (qW5 (xh9 hu (qa5 qf0 (pv 1) (qd4 (v:=.int 2) (by rfl) hf ⟨_,rfl⟩)) (pv 2))))).pt (qa6 qz2) qb3) qg5,?_⟩
   refine⟨_,rfl,_,_,rfl,rfl,_,rfl,?_⟩
   rw[Zk (show (x:Int)<2 by lia)]
   exact iteT (iteT (q H (But.refl e H) he))
 |succ d ih=>
  refine F.ok scEnd (λvs H Q E h=>?_) (λcdv A outer s H vs Q E hr h=>?_)
  ·obtain⟨p,e,x,rows,es,rfl,_⟩:=h
   rfl
  ·obtain⟨p,e,x,rows,es,rfl,hR,ok,hn,hx,hd,pe,he,q⟩:=h
   have hu:A.units+3+1<cLine:=by have:=hr.un;exact Y4 (Yu _ (16*(d+1)+199)) (show A.units+3+1+(16*(d+1)+199)<cLine from by
    have h2:A.units+3+16*(d+1)+200<cLine:=this
    lia)
   refine⟨_,qb0 (qd8 (qn6 (qb6 qh3 (pv 1) (qd4 (v:=.int 2) (by rfl) hf ⟨_,rfl⟩) (qb5 _)) (qi1 (qW5 (xh9 hu (qa5 qf0 (pv 1) (qd4 (v:=.int 2) (by rfl) hf ⟨_,rfl⟩)) (pv 2))))).pt (qa6 qz2) qb3)
    (qb0 (qk6 YO rfl (qs2 (pxN (ixS K rfl) (pv 0) (qa5 qf0 (pv 1) (qd4 (v:=.int 2) (by rfl) hf ⟨_,rfl⟩)))) (pgN 3 scEnd.nd)
     (qa6 (qd9 (pcN ih hr hE F.kp bE (qa0 (pv 0) (qa0 (pv 3) (qa0 (pv 2) qa1)))))))
    (qa6 (qK2 hu (pv 2) (qa5 qf0 (pv 1) (qd4 (v:=.int 2) (by rfl) hf ⟨_,rfl⟩)) qp9 (by rfl)))),?_⟩
   refine⟨_,rfl,_,_,rfl,rfl,_,rfl,?_⟩
   unfold dfs at q
   refine ite2 (λhc=>?_) (λhc=>?_)
   ·have x2:x<2:=by have:=ZB hc;lia
    rw[Zz (.inl x2)] at q
    exact iteT (q H (But.refl e H) he)
   ·have x2:¬x<2:=λz=>hc (Zk (by lia))
    have ex:(x:Int)-2=((x-2:Nat):Int):=by lia
    have dg:DGet H e (.int ((x:Int)-2)) (valV (eK es) (Sum.inl ((x-2:Nat):Int))):=by rw[ex];exact DGet.k (k:=Sum.inl ((x-2:Nat):Int)) he
    refine⟨_,rfl,_,_,rfl,rfl,_,rfl,e,_,rfl,dg,_,rfl,?_⟩
    rw[xi7]
    refine ite2 (λhm=>?_) (λhm=>?_)
    ·rw[Zz (.inr (ZB hm))] at q
     exact q H (But.refl e H) he
    ·have hnm:x-2∉es:=λz=>hm (Zk z)
     rw[Zq (by rintro (z|z);exact x2 z;exact hnm z)] at q
     have jB:x-2<rows.length:=by lia
     have hg:=q26 jB
     generalize rows.getD (x-2) []=r at q hg
     obtain⟨bs,hp,j9,jE⟩:=id hR
     have hdx:dp rows (x-2+2)<=d+1:=by rw[show x-2+2=x by lia];exact hd
     have hbx:bs[x-2]?=some (bs[x-2]'(by lia)):=by simp[show x-2<bs.length by lia]
     have vQ:=jE (x-2) _ r hbx hg
     have nbe:∀b∈bs,b≠e:=λb hb z=>by
      obtain⟨j,hj,ej⟩:=ZJ.mp hb
      have:=jE j b (rows[j]'(by lia)) (by rw[Ze hj,ej]) (Ze (by lia))
      rw[z,he] at this
      cases this
     have npe:p≠e:=λz=>by
      rw[z,he] at hp
      rcases hp with hp|hp<;>cases hp
     have hRm:∀H2,But e H H2->RowsS H2 p rows:=λH2 s2=>⟨bs,hp.imp (λh=>s2 _ _ h npe) (λh=>s2 _ _ h npe),j9,λi b r e1 e2=>s2 _ _ (jE i b r e1 e2) (nbe b (Zv e1))⟩
     have ixx:∀Q':VK,Q' (.ref (bs[x-2]'(by lia))) H->rIxS K (.ref p) (.int ((x:Int)-2)) H Q':=λQ' hQ=>by
      rcases hp with h|h
      ·exact .inr ⟨p,_,((x-2:Nat):Int),.ref (bs[x-2]'(by lia)),rfl,Yd V.int ex,SqT.of h,qj1 (by rw[Zg,hbx];rfl),hQ⟩
      ·exact .inl ⟨p,_,((x-2:Nat):Int),.ref (bs[x-2]'(by lia)),rfl,Yd V.int ex,SqL.of h,qj1 (by rw[Zg,hbx];rfl),hQ⟩
     refine⟨_,rfl,_,rfl,_,_,rfl,rfl,ixx _ ⟨_,rfl,⟨_,SqT.of vQ⟩,
      qz4 (K:=K) (xs:=vN r) (λi σ H2=>But e H H2/\H2 e=some (.dK (eK ((r.take i).foldl (dfs rows d) es)))/\∃v3,σ=[some (.ref p),some (.int (x:Nat)),some (.ref e),v3])
      ⟨But.refl e H,he,none,rfl⟩ (λi σ H2 _ ⟨s2,_⟩=>SqT.of (s2.tups he (λu z=>by cases z) _ _ vQ)) ?_ ?_⟩⟩
     ·rintro i y σ H2 hy ⟨s2,kY,v3,rfl⟩
      obtain⟨m,hm,rfl⟩:=qG3 hy
      have hq:=Zv hm
      obtain⟨b1,b2⟩:=qf2 ok hg hdx hq
      refine⟨_,rfl,_,rfl,_,rfl,p,e,m,rows,(r.take i).foldl (dfs rows d) es,rfl,hRm H2 s2,ok,hn,b1,b2,qu6 ok hg hdx _ es (λz hz=>List.mem_of_mem_take hz) pe,kY,λH3 s3 he3=>⟨s2.trans s3,?_,_,rfl⟩⟩
      have hml:=(gS_ hm).1
      have hme:=(gS_ hm).2
      rw[<- XF hml,List.foldl_append,hme]
      exact he3
     ·rintro σ H2 ⟨s2,kY,v3,rfl⟩
      rw[qk8,Wx] at kY
      have pf:=qu6 ok hg hdx r es (λz hz=>hz) pe
      have fin:=(qh6 ok (d+1) es x pe hx hd).1
      unfold dfs at fin
      rw[Zq (by rintro (z|z);exact x2 z;exact hnm z)] at fin
      have eg:rows.getD (x-2) []=r:=by
       rw[ZS,hg];rfl
      rw[eg] at fin
      have hni:x-2∉r.foldl (dfs rows d) es:=λz=>by
       have:=(Xc.mp fin.nd).2.2 (x-2) z (x-2) (by simp)
       exact this rfl
      have dq:DPut H2 e (.int ((x:Int)-2)) (.bl true) (upd H2 e (.dK (eK (r.foldl (dfs rows d) es++[x-2])))):=by
       rw[ex,<- xv1 hni]
       refine DPut.k (k:=Sum.inl ((x-2:Nat):Int)) kY ?_
       unfold eK
       rw[Zf]
       exact qu7 (by have:=xc5 pf;lia)
      exact⟨_,rfl,_,rfl,_,_,rfl,rfl,e,_,rfl,dq,q _ (s2.trans But.upd) qa2⟩
theorem scPlaces:FnScope ["rows", "top", "ended"] ["rows", "top"] (qa3 qz9):=qc6
def qA3 (d:Nat):Sp:=λvs H Q _=>∃(p:Addr) (x:Nat) (rows:List Row),vs=[.ref p,.int (x:Nat)]/\RowsS H p rows/\qd2 rows/\rows.length<=1190900/\x<rows.length+2/\dp rows x<=d /\
 ∀H' D,Same H H'->H' D=some (.lst (vN (dfs rows d [] x)))->Q (.ref D) H'
theorem q41 {f fE:Addr}{fd fdE:FuncData}(F:Fun K "places_as_ended" "places_as_ended" qz9 f fd) (B:Blt mg) (T:Cst mg) (hE:mg "end_rows" = some (.ref fE)) (FE:Fun K "end_rows" "end_rows" sEnd fE fdE) (bE:Binds K fdE ["rows", "number", "ended"] []) (d:Nat):FnOk P w K mg base CX0 (d+2) f fd ["rows", "top"] (qA3 d):=by
 have GE:FnOk P w K mg base CX0 (d+1) fE fdE ["rows", "number", "ended"] (xv2 d):=xv3 FE T hE bE d
 refine F.ok scPlaces (λvs H Q E h=>?_) (λcdv A outer s H vs Q E hr h=>?_)
 ·obtain⟨p,x,rows,rfl,_⟩:=h
  rfl
 ·obtain⟨p,x,rows,rfl,hR,ok,hn,hx,hd,q⟩:=h
  refine⟨_,qb0 (psN 2 scPlaces.nd xb6)
   (qb0 (qd9 (pcN GE hr hE FE.kp bE (qa0 (pv 0) (qa0 (pv 1) (qa0 (pv 2) qa1)))))
   (qa6 (qa9 (qc3 (qT8 rfl) (by rfl) B.list PyProof.Rows.boot_list (qa0 (pv 2) qa1))))),?_⟩
  refine λe he=>⟨_,rfl,_,rfl,_,rfl,p,e,x,rows,[],rfl,hR.same (qb7 he),ok,hn,hx,hd,qq7 rows,qa2,λH2 s2 kY=>?_⟩
  refine⟨_,rfl,e,_,rfl,kY,λl hl=>q _ l ?_ ?_⟩
  ·intro b o z
   have nb:b≠e:=qa7 z he
   exact qe5 (s2 b o (qe5 z he) nb) hl
  ·rw[qa2]
   unfold eK vN
   rw[YH]
   rfl
end
end Pr
namespace Qf
inductive Tr
 |z|o|nd (a b c d:Tr) deriving DecidableEq
namespace Tr
def kids:Tr->List Tr
 |nd a b c d=>[a,b,c,d]
 |_=>[]
def dep:Tr->Nat
 |nd a b c d=>1+mx [dep a,dep b,dep c,dep d]
 |_=>0
def Red:Tr->Prop
 |nd a b c d=>¬(a=z/\b=z/\c=z/\d=z)/\¬(a=o/\b=o/\c=o/\d=o)/\Red a/\Red b/\Red c/\Red d
 |_=>True
def post:Tr->List Tr->List Tr
 |nd a b c d,e=>if nd a b c d∈e then e else post d (post c (post b (post a e)))++[nd a b c d]
 |_,e=>e
def In (L:List Tr) (t:Tr):Prop:=t=z\/t=o\/t∈L
theorem In.app {L s:List Tr}{t:Tr}(h:In L t):In (L++s) t:=h.imp id λh=>h.imp id λh=>Wf _ h
structure Ord (L:List Tr):Prop where
 nd:L.Nodup
 ch:∀(i:Nat) t,L[i]?=some t->(∃a b c d,t=.nd a b c d)/\∀s∈kids t,s=z\/s=o\/∃j:Nat,j<i/\L[j]?=some s
theorem ord_nil:Ord []:=⟨YM,λi t h=>by simp at h⟩
theorem post_ext:∀(t:Tr) (e:List Tr),∃s,post t e=e++s
 |z,e=>⟨[],by simp[post]⟩
 |o,e=>⟨[],by simp[post]⟩
 |nd a b c d,e=>by
  unfold post
  split
  ·exact⟨[],by simp⟩
  ·obtain⟨s1,h1⟩:=post_ext a e
   obtain⟨s2,h2⟩:=post_ext b (post a e)
   obtain⟨s3,h3⟩:=post_ext c (post b (post a e))
   obtain⟨s4,h4⟩:=post_ext d (post c (post b (post a e)))
   exact⟨s1++s2++s3++s4++[nd a b c d],by rw[h4,h3,h2,h1];simp⟩
theorem In.post {L:List Tr}{t:Tr}(s:Tr) (h:In L t):In (post s L) t:=by
 obtain⟨u,e⟩:=post_ext s L
 rw[e];exact h.app
theorem qg0:∀(t:Tr) (e:List Tr) (s:Tr),s∈post t e->s∈e\/sizeOf s<=sizeOf t
 |z,e,s,h=>.inl h
 |o,e,s,h=>.inl h
 |nd a b c d,e,s,h=>by
  unfold post at h
  split at h
  ·exact .inl h
  ·have sz:sizeOf (nd a b c d)=1+sizeOf a+sizeOf b+sizeOf c+sizeOf d:=by simp
   rcases ZW.mp h with h|h
   ·rcases qg0 d _ s h with h|h
    ·rcases qg0 c _ s h with h|h
     ·rcases qg0 b _ s h with h|h
      ·rcases qg0 a _ s h with h|h
       ·exact .inl h
       ·exact .inr (by lia)
      ·exact .inr (by lia)
     ·exact .inr (by lia)
    ·exact .inr (by lia)
   ·have:s=nd a b c d:=by simpa using h
    rw[this]
    exact .inr (Zd _)
theorem not_below {a b c d:Tr}{e:List Tr}(h:nd a b c d∉e):nd a b c d∉post d (post c (post b (post a e))):=λh2=>by
 have sz:sizeOf (nd a b c d)=1+sizeOf a+sizeOf b+sizeOf c+sizeOf d:=by simp
 rcases qg0 d _ _ h2 with h2|h2
 ·rcases qg0 c _ _ h2 with h2|h2
  ·rcases qg0 b _ _ h2 with h2|h2
   ·rcases qg0 a _ _ h2 with h2|h2
    ·exact h h2
    ·lia
   ·lia
  ·lia
 ·lia
theorem post_ord:∀(t:Tr) (e:List Tr),Ord e->Ord (post t e)/\In (post t e) t
 |z,e,h=>⟨h,.inl rfl⟩
 |o,e,h=>⟨h,.inr (.inl rfl)⟩
 |nd a b c d,e,h=>by
  unfold post
  split
  ·rename_i hm
   exact⟨h,.inr (.inr hm)⟩
  ·rename_i hm
   obtain⟨o1,i1⟩:=post_ord a e h
   obtain⟨o2,i2⟩:=post_ord b _ o1
   obtain⟨o3,i3⟩:=post_ord c _ o2
   obtain⟨o4,i4⟩:=post_ord d _ o3
   have i1:=((i1.post b).post c).post d
   have i2:=(i2.post c).post d
   have i3:=i3.post d
   have nb:=not_below hm
   generalize post d (post c (post b (post a e)))=L at o4 i1 i2 i3 i4 nb
   refine⟨⟨?_,?_⟩,.inr (.inr (by simp))⟩
   ·rw[Xc]
    exact⟨o4.nd,by simp,λx hx y hy e=>nb (by
     have:y=nd a b c d:=by simpa using hy
     rw[<- this,<- e];exact hx)⟩
   ·intro i t ht
    by_cases hi:i<L.length
    ·rw[ZD hi] at ht
     obtain⟨h1,h2⟩:=o4.ch i t ht
     refine⟨h1,λs hs=>(h2 s hs).imp id λh=>h.imp id λ⟨j,hj,e⟩=>⟨j,hj,?_⟩⟩
     rw[ZD (by lia)];exact e
    ·have j9:=(gS_ ht).1
     rw[Zw] at j9
     have vZ:i=L.length:=by simp at j9;lia
     subst vZ
     have et:t=nd a b c d:=by simpa using ht.symm
     subst et
     refine⟨⟨a,b,c,d,rfl⟩,λs hs=>?_⟩
     have k9:In L s:=by
      have:s=a\/s=b\/s=c\/s=d:=by simpa [kids] using hs
      rcases this with rfl|rfl|rfl|rfl<;>assumption
     refine k9.imp id λh=>h.imp id λhm=>?_
     obtain⟨j,hj,e⟩:=ZJ.mp hm
     exact⟨j,hj,by rw[ZD hj,Ze hj,e]⟩
def name (L:List Tr):Tr->Nat
 |z=>0
 |o=>1
 |t=>L.idxOf t+2
def rowsOf (L:List Tr):List Row:=L.map λt=>(kids t).map (name L)
theorem qu8 (L:List Tr) (a b c d:Tr):name L (.nd a b c d)=L.idxOf (.nd a b c d)+2:=rfl
theorem name_at {L:List Tr}(h:Ord L){i:Nat}{t:Tr}(e:L[i]?=some t):name L t=i+2:=by
 obtain⟨⟨a,b,c,d,rfl⟩,_⟩:=h.ch i t e
 rw[qu8]
 congr 1
 have hl:=(gS_ e).1
 have he:=(gS_ e).2
 rw[<- he]
 exact h.nd.idxOf_getElem i hl
theorem qj4 {L:List Tr}(h:Ord L){t:Tr}(hi:In L t):(t=z/\name L t=0)\/(t=o/\name L t=1)\/∃i:Nat,L[i]?=some t/\name L t=i+2:=by
 rcases hi with rfl|rfl|hm
 ·exact .inl ⟨rfl,rfl⟩
 ·exact .inr (.inl ⟨rfl,rfl⟩)
 ·obtain⟨j,hj,e⟩:=ZJ.mp hm
  have e':L[j]?=some t:=by rw[Ze hj,e]
  exact .inr (.inr ⟨j,e',name_at h e'⟩)
theorem xc6 {L:List Tr}(h:Ord L){s t:Tr}(hs:In L s) (ht:In L t) (e:name L s=name L t):s=t:=by
 rcases qj4 h hs with ⟨rfl,e1⟩|⟨rfl,e1⟩|⟨i,e0,e1⟩
 ·rcases qj4 h ht with ⟨rfl,e2⟩|⟨rfl,e2⟩|⟨j,e3,e2⟩
  ·rfl
  ·lia
  ·lia
 ·rcases qj4 h ht with ⟨rfl,e2⟩|⟨rfl,e2⟩|⟨j,e3,e2⟩
  ·lia
  ·rfl
  ·lia
 ·rcases qj4 h ht with ⟨rfl,e2⟩|⟨rfl,e2⟩|⟨j,e3,e2⟩
  ·lia
  ·lia
  ·have:i=j:=by lia
   subst this
   rw[e0] at e3
   exact ZK e3
theorem name_app {L s:List Tr}{t:Tr}(h:In L t) (hz:Ord L):name (L++s) t=name L t:=by
 rcases qj4 hz h with ⟨rfl,_⟩|⟨rfl,_⟩|⟨i,e,_⟩
 ·rfl
 ·rfl
 ·obtain⟨⟨a,b,c,d,rfl⟩,_⟩:=hz.ch i t e
  rw[qu8,qu8,List.idxOf_append,Zz (Zv e)]
theorem kid_in {L:List Tr}(h:Ord L){i:Nat}{t s:Tr}(e:L[i]?=some t) (hs:s∈kids t):In L s/\name L s<i+2:=by
 rcases (h.ch i t e).2 s hs with rfl|rfl|⟨j,hj,e2⟩
 ·exact⟨.inl rfl,by show 0<_;lia⟩
 ·exact⟨.inr (.inl rfl),by show 1<_;lia⟩
 ·exact⟨.inr (.inr (Zv e2)),by rw[name_at h e2];lia⟩
theorem rowsOf_len (L:List Tr):(rowsOf L).length=L.length:=by simp[rowsOf]
theorem rowsOf_at {L:List Tr}{i:Nat}{t:Tr}(e:L[i]?=some t):(rowsOf L)[i]?=some ((kids t).map (name L)):=by
 unfold rowsOf;rw[Zg,e];rfl
theorem qn9 {L:List Tr}{i:Nat}{r:Row}(e:(rowsOf L)[i]?=some r):∃t,L[i]?=some t/\r=(kids t).map (name L):=by
 unfold rowsOf at e
 rw[Zg] at e
 obtain⟨t,h1,h2⟩:=Zj.mp e
 exact⟨t,h1,h2.symm⟩
theorem qu9 {L:List Tr}(h:Ord L):qd2 (rowsOf L):=λp r hp=>by
 obtain⟨t,ht,rfl⟩:=qn9 hp
 obtain⟨⟨a,b,c,d,rfl⟩,_⟩:=h.ch p t ht
 refine⟨rfl,λx hx=>?_⟩
 obtain⟨s,hs,rfl⟩:=ZH.mp hx
 exact (kid_in h ht hs).2
theorem qj5 {L:List Tr}(h:Ord L):∀{k l:List Tr},(∀s∈k,In L s)->(∀s∈l,In L s)->k.map (name L)=l.map (name L)->k=l
 |[],[],_,_,_=>rfl
 |[],_::_,_,_,e=>by simp at e
 |_::_,[],_,_,e=>by simp at e
 |a::k,b::l,h1,h2,e=>by
  simp only[ZA,Y3] at e
  rw[xc6 h (h1 a ZC) (h2 b ZC) e.1,qj5 h (λs hs=>h1 s (Zn _ hs)) (λs hs=>h2 s (Zn _ hs)) e.2]
theorem qP2 {s t:Tr}(hs:∃a b c d,s=.nd a b c d) (ht:∃a b c d,t=.nd a b c d) (e:kids s=kids t):s=t:=by
 obtain⟨a,b,c,d,rfl⟩:=hs
 obtain⟨a',b',c',d',rfl⟩:=ht
 simpa [kids] using e
theorem qp6 {L:List Tr}(h:Ord L):(rowsOf L).Nodup:=by
 rw[nd_iff]
 intro i j k5 hj e
 rw[rowsOf_len] at hj
 have ei:L[i]?=some L[i]:=Ze (by lia)
 have ej:L[j]?=some L[j]:=Ze hj
 rw[rowsOf_at ei,rowsOf_at ej] at e
 have:=qP2 (h.ch i _ ei).1 (h.ch j _ ej).1 (qj5 h (λs hs=>(kid_in h ei hs).1) (λs hs=>(kid_in h ej hs).1) (ZK e))
 have h2:=nd_iff.mp h.nd i j k5 hj
 rw[ei,ej] at h2
 exact h2 (by rw[this])
end Tr
open Tr
def tr (rows:List Row):Nat->Nat->Tr
 |0,x=>if x=1 then .o else .z
 |d+1,x=>if x=0 then .z else if x=1 then .o else .nd (tr rows d ((rows.getD (x-2) []).getD 0 0)) (tr rows d ((rows.getD (x-2) []).getD 1 0)) (tr rows d ((rows.getD (x-2) []).getD 2 0)) (tr rows d ((rows.getD (x-2) []).getD 3 0))
theorem qv0 (rows:List Row) (d:Nat):tr rows d 0=.z:=by cases d<;>rfl
theorem qG5 (rows:List Row) (d:Nat):tr rows d 1=.o:=by cases d<;>rfl
theorem qo0 {r:Row}(h:r.length=4):∃a b c d,r=[a,b,c,d]:=by
 match r,h with
 |[a,b,c,d],_=>exact⟨a,b,c,d,rfl⟩
theorem q42 {rows:List Row}{d p a b c e:Nat}(hp:rows[p]?=some [a,b,c,e]):tr rows (d+1) (p+2)=.nd (tr rows d a) (tr rows d b) (tr rows d c) (tr rows d e):=by
 have:rows.getD p []=[a,b,c,e]:=by rw[ZS,hp];rfl
 show (if p+2=0 then _ else if p+2=1 then _ else _)=_
 rw[Zq (by lia),Zq (by lia),show p+2-2=p by lia,this]
 rfl
theorem qm6 {rows:List Row}(ok:qd2 rows){x:Nat}(hx:x<rows.length+2) (h:¬x<2):∃p a b c d,x=p+2/\rows[p]?=some [a,b,c,d]:=by
 have hp:x-2<rows.length:=by lia
 have hg:rows[x-2]?=some rows[x-2]:=Ze hp
 obtain⟨a,b,c,d,e⟩:=qo0 (ok _ _ hg).1
 exact⟨x-2,a,b,c,d,by lia,by rw[hg,e]⟩
theorem qm7 {rows:List Row}(ok:qd2 rows):∀(d d' x:Nat),dp rows x<=d->dp rows x<=d'->x<rows.length+2->tr rows d x=tr rows d' x:=by
 intro d
 induction d with
 |zero=>
  intro d' x h1 h2 hx
  have x2:=qG4 ok hx h1
  match x,x2 with
  |0,_=>rw[qv0,qv0]
  |1,_=>rw[qG5,qG5]
 |succ d ih=>
  intro d' x h1 h2 hx
  by_cases x2:x<2
  ·match x,x2 with
   |0,_=>rw[qv0,qv0]
   |1,_=>rw[qG5,qG5]
  ·obtain⟨p,a,b,c,e,rfl,hp⟩:=qm6 ok hx x2
   match d',h2 with
   |0,h2=>exact absurd (qG4 ok hx h2) x2
   |d'+1,h2=>
    have q:=λy (hy:y∈[a,b,c,e])=>qf2 ok hp h1 hy
    have q':=λy (hy:y∈[a,b,c,e])=>qf2 ok hp h2 hy
    rw[q42 hp,q42 hp,ih d' a (q a (by simp)).2 (q' a (by simp)).2 (q a (by simp)).1,ih d' b (q b (by simp)).2 (q' b (by simp)).2 (q b (by simp)).1,ih d' c (q c (by simp)).2 (q' c (by simp)).2 (q c (by simp)).1,ih d' e (q e (by simp)).2 (q' e (by simp)).2 (q e (by simp)).1]
def T (rows:List Row) (x:Nat):Tr:=tr rows (dp rows x) x
theorem qi5 (rows:List Row):T rows 0=.z:=qv0 _ _
theorem qq2 (rows:List Row):T rows 1=.o:=qG5 _ _
theorem qm8 {rows:List Row}(ok:qd2 rows){p a b c e:Nat}(hp:rows[p]?=some [a,b,c,e]):T rows (p+2)=.nd (T rows a) (T rows b) (T rows c) (T rows e):=by
 have jF:=(gS_ hp).1
 obtain⟨d,hd⟩:∃d,dp rows (p+2)=d+1:=⟨_,by rw[qK5 ok hp];exact VB _ _⟩
 have q:=λy (hy:y∈[a,b,c,e])=>qf2 ok hp (Wt hd) hy
 unfold T
 rw[hd,q42 hp,qm7 ok d _ a (q a (by simp)).2 (Zd _) (q a (by simp)).1,qm7 ok d _ b (q b (by simp)).2 (Zd _) (q b (by simp)).1,qm7 ok d _ c (q c (by simp)).2 (Zd _) (q c (by simp)).1,qm7 ok d _ e (q e (by simp)).2 (Zd _) (q e (by simp)).1]
theorem xA7 {rows:List Row}(ok:qd2 rows) (nd:rows.Nodup):∀(d x y:Nat),dp rows x<=d->x<rows.length+2->y<rows.length+2->T rows x=T rows y->x=y:=by
 intro d
 have low:∀x y,x<2->y<rows.length+2->T rows x=T rows y->x=y:=λx y x2 hy e=>by
  by_cases y2:y<2
  ·match x,y,x2,y2 with
   |0,0,_,_=>rfl
   |1,1,_,_=>rfl
   |0,1,_,_=>rw[qi5,qq2] at e;cases e
   |1,0,_,_=>rw[qi5,qq2] at e;cases e
  ·obtain⟨p,a,b,c,f,rfl,hp⟩:=qm6 ok hy y2
   rw[qm8 ok hp] at e
   match x,x2 with
   |0,_=>rw[qi5] at e;cases e
   |1,_=>rw[qq2] at e;cases e
 induction d with
 |zero=>exact λx y h hx hy e=>low x y (qG4 ok hx h) hy e
 |succ d ih=>
  intro x y h hx hy e
  by_cases x2:x<2
  ·exact low x y x2 hy e
  ·by_cases y2:y<2
   ·exact (low y x y2 hx e.symm).symm
   ·obtain⟨p,a,b,c,f,rfl,hp⟩:=qm6 ok hx x2
    obtain⟨p',a',b',c',f',rfl,hp'⟩:=qm6 ok hy y2
    rw[qm8 ok hp,qm8 ok hp'] at e
    have q:=λy (hy:y∈[a,b,c,f])=>qf2 ok hp h hy
    have q':∀y∈[a',b',c',f'],y<rows.length+2:=λy hy=>by
     have:=(ok _ _ hp').2 y hy
     have:=(gS_ hp').1
     lia
    injection e with e1 e2 e3 e4
    have h1:=ih a a' (q a (by simp)).2 (q a (by simp)).1 (q' a' (by simp)) e1
    have h2:=ih b b' (q b (by simp)).2 (q b (by simp)).1 (q' b' (by simp)) e2
    have h3:=ih c c' (q c (by simp)).2 (q c (by simp)).1 (q' c' (by simp)) e3
    have h4:=ih f f' (q f (by simp)).2 (q f (by simp)).1 (q' f' (by simp)) e4
    subst h1 h2 h3 h4
    have:p=p':=by
     rcases VW p p' with z|z|z
     ·exact absurd (hp.trans hp'.symm) (nd_iff.mp nd p p' z (gS_ hp').1)
     ·exact z
     ·exact absurd (hp'.trans hp.symm) (nd_iff.mp nd p' p z (gS_ hp).1)
    rw[this]
def tau (rows:List Row) (p:Nat):Tr:=T rows (p+2)
theorem xn5 {rows:List Row}(ok:qd2 rows) (nd:rows.Nodup){e:List Nat}(pe:Post rows e){p:Nat}(hp:p<rows.length):tau rows p∈e.map (tau rows)<->p∈e:=by
 constructor
 ·intro h
  obtain⟨q,hq,e2⟩:=ZH.mp h
  have:=xA7 ok nd _ (q+2) (p+2) (Zd _) (by have:=pe.lt q hq;lia) (by lia) e2
  have:q=p:=by lia
  rw[<- this];exact hq
 ·exact λh=>ZH.mpr ⟨p,h,rfl⟩
theorem qP3 {rows:List Row}(ok:qd2 rows) (nd:rows.Nodup):∀(d:Nat) (e:List Nat) (x:Nat),Post rows e->x<rows.length+2->dp rows x<=d->(dfs rows d e x).map (tau rows)=post (T rows x) (e.map (tau rows)):=by
 intro d
 induction d with
 |zero=>
  intro e x pe hx hd
  have x2:=qG4 ok hx hd
  match x,x2 with
  |0,_=>rw[qi5];rfl
  |1,_=>rw[qq2];rfl
 |succ d ih=>
  intro e x pe hx hd
  by_cases x2:x<2
  ·have:dfs rows (d+1) e x=e:=by
    show (if x<2\/x-2∈e then e else _)=e
    rw[Zz (.inl x2)]
   rw[this]
   match x,x2 with
   |0,_=>rw[qi5];rfl
   |1,_=>rw[qq2];rfl
  ·obtain⟨p,a,b,c,f,rfl,hp⟩:=qm6 ok hx x2
   have jF:=(gS_ hp).1
   have hm:=xn5 ok nd pe jF
   have hg:rows.getD p []=[a,b,c,f]:=by rw[ZS,hp];rfl
   have et:tau rows p=.nd (T rows a) (T rows b) (T rows c) (T rows f):=qm8 ok hp
   rw[qm8 ok hp]
   show (if p+2<2\/p+2-2∈e then e else (rows.getD (p+2-2) []).foldl (dfs rows d) e++[p+2-2]).map (tau rows)=(if _∈e.map (tau rows) then _ else _)
   rw[show p+2-2=p by lia,<- et,hg]
   by_cases hpe:p∈e
   ·rw[Zz (.inr hpe),Zz (hm.mpr hpe)]
   ·rw[Zq (by rintro (z|z);lia;exact hpe z),Zq (λz=>hpe (hm.mp z))]
    have q:=λy (hy:y∈[a,b,c,f])=>qf2 ok hp hd hy
    obtain⟨qa,qa'⟩:=q a (by simp)
    obtain⟨qb,qb'⟩:=q b (by simp)
    obtain⟨qc,qc'⟩:=q c (by simp)
    obtain⟨qf,qf'⟩:=q f (by simp)
    have p1:=(qh6 ok d e a pe qa qa').1
    have p2:=(qh6 ok d _ b p1 qb qb').1
    have p3:=(qh6 ok d _ c p2 qc qc').1
    show (dfs rows d (dfs rows d (dfs rows d (dfs rows d e a) b) c) f++[p]).map (tau rows)=_
    rw[ZU,ih _ f p3 qf qf',ih _ c p2 qc qc',ih _ b p1 qb qb',ih _ a pe qa qa',et]
    show _++[tau rows p]=_
    rw[et]
theorem qU3 {n top:Nat}{rows:List Row}(c:Canon n top rows):rows=rowsOf (post (T rows top) [])/\top=name (post (T rows top) []) (T rows top):=by
 have h:=qP3 c.rok c.unlike n [] top (qq7 rows) c.inn c.deep
 rw[c.ends] at h
 have hord:Ord (post (T rows top) [])/\In (post (T rows top) []) (T rows top):=post_ord _ _ ord_nil
 have hpost:post (T rows top) []=(List.range rows.length).map (tau rows):=h.symm
 obtain⟨ho,hi⟩:=hord
 generalize post (T rows top) []=L at ho hi hpost
 have lat:∀p,p<rows.length->L[p]?=some (tau rows p):=λp hp=>by
  rw[hpost,Zg,Xj hp];rfl
 have hL:L.length=rows.length:=by rw[hpost];simp
 have nmq:∀q,q<rows.length+2->name L (T rows q)=q:=λq hq=>by
  by_cases q2:q<2
  ·match q,q2 with
   |0,_=>rw[qi5];rfl
   |1,_=>rw[qq2];rfl
  ·have:=name_at ho (lat (q-2) (by lia))
   unfold tau at this
   rw[show q-2+2=q by lia] at this
   exact this
 refine⟨?_,(nmq top c.inn).symm⟩
 refine Xd λp=>?_
 by_cases hp:p<rows.length
 ·have hg:rows[p]?=some rows[p]:=Ze hp
  obtain⟨a,b,e,f,er⟩:=qo0 (c.rok p _ hg).1
  rw[er] at hg
  rw[hg,rowsOf_at (lat p hp)]
  have et:tau rows p=.nd (T rows a) (T rows b) (T rows e) (T rows f):=qm8 c.rok hg
  have lt:∀y∈[a,b,e,f],y<rows.length+2:=λy hy=>by
   have:=(c.rok _ _ hg).2 y hy
   lia
  rw[et]
  show some [a,b,e,f]=some [name L (T rows a),name L (T rows b),name L (T rows e),name L (T rows f)]
  rw[nmq a (lt a (by simp)),nmq b (lt b (by simp)),nmq e (lt e (by simp)),nmq f (lt f (by simp))]
 ·rw[Yk (by lia),Yk (by rw[rowsOf_len];lia)]
theorem qo1 {L:List Tr}(h:Ord L):∀t:Tr,In L t->dp (rowsOf L) (name L t)=dep t
 |.z,_=>xi2 (by decide:(0:Nat)<2)
 |.o,_=>xi2 (by decide:(1:Nat)<2)
 |.nd a b c d,hi=>by
  rcases qj4 h hi with ⟨e,_⟩|⟨e,_⟩|⟨i,e,e2⟩
  ·cases e
  ·cases e
  ·have hk:=λs (hs:s∈kids (.nd a b c d))=>(kid_in h e hs).1
   rw[e2,qK5 (qu9 h) (rowsOf_at e)]
   show 1+mx [_,_,_,_]=1+mx [dep a,dep b,dep c,dep d]
   rw[qo1 h a (hk a (by simp[kids])),qo1 h b (hk b (by simp[kids])),qo1 h c (hk c (by simp[kids])),qo1 h d (hk d (by simp[kids]))]
theorem qv1 {L:List Tr}(h:Ord L):∀t:Tr,In L t->T (rowsOf L) (name L t)=t
 |.z,_=>qi5 _
 |.o,_=>qq2 _
 |.nd a b c d,hi=>by
  rcases qj4 h hi with ⟨e,_⟩|⟨e,_⟩|⟨i,e,e2⟩
  ·cases e
  ·cases e
  ·have hk:=λs (hs:s∈kids (.nd a b c d))=>(kid_in h e hs).1
   rw[e2,qm8 (qu9 h) (rowsOf_at e),qv1 h a (hk a (by simp[kids])),qv1 h b (hk b (by simp[kids])),qv1 h c (hk c (by simp[kids])),qv1 h d (hk d (by simp[kids]))]
def q43 (L:List Tr):Prop:=∀t∈L,Red t
theorem qm9:∀(t:Tr) (e:List Tr),Red t->q43 e->q43 (post t e)
 |.z,_,_,h=>h
 |.o,_,_,h=>h
 |.nd a b c d,e,hr,h=>by
  unfold post
  split
  ·exact h
  ·have h4:=qm9 d _ hr.2.2.2.2.2 (qm9 c _ hr.2.2.2.2.1 (qm9 b _ hr.2.2.2.1 (qm9 a e hr.2.2.1 h)))
   intro s hs
   rcases ZW.mp hs with hs|hs
   ·exact h4 s hs
   ·have:s=.nd a b c d:=by simpa using hs
    rw[this];exact hr
theorem qe8 {L:List Tr}{t:Tr}(h:name L t=0):t=.z:=by
 cases t with
 |z=>rfl
 |o=>cases h
 |nd a b c d=>rw[qu8] at h;lia
theorem qg1 {L:List Tr}{t:Tr}(h:name L t=1):t=.o:=by
 cases t with
 |z=>cases h
 |o=>rfl
 |nd a b c d=>rw[qu8] at h;lia
theorem qx0 {L:List Tr}(h:Ord L) (hr:q43 L):∀r∈rowsOf L,¬qF8 r:=λr hm=>by
 obtain⟨i,hi,e⟩:=ZJ.mp hm
 obtain⟨t,ht,rfl⟩:=qn9 (i:=i) (r:=r) (by rw[Ze hi,e])
 obtain⟨⟨a,b,c,d,rfl⟩,_⟩:=h.ch i t ht
 have rd:=hr _ (Zv ht)
 rintro (z|z)
 ·have z':[name L a,name L b,name L c,name L d]=[0,0,0,0]:=z
  simp only[Y3,Ul] at z'
  exact rd.1 ⟨qe8 z'.1,qe8 z'.2.1,qe8 z'.2.2.1,qe8 z'.2.2.2⟩
 ·have z':[name L a,name L b,name L c,name L d]=[1,1,1,1]:=z
  simp only[Y3,Ul] at z'
  exact rd.2.1 ⟨qg1 z'.1,qg1 z'.2.1,qg1 z'.2.2.1,qg1 z'.2.2.2⟩
theorem qU4 {n:Nat}(hn:n<=12){t:Tr}(hr:Red t) (hd:dep t<=n):Canon n (name (post t []) t) (rowsOf (post t [])):=by
 obtain⟨ho,hi⟩:=post_ord t [] ord_nil
 have hred:=qm9 t [] hr (λs hs=>nomatch hs)
 have hT:=qv1 ho t hi
 have hdp:=qo1 ho t hi
 have hpost:post t []=post t []:=rfl
 generalize hL:post t []=L at ho hi hred hT hdp
 have ok:=qu9 ho
 have ndr:=qp6 ho
 have k9:name L t<(rowsOf L).length+2:=by
  rw[rowsOf_len]
  rcases qj4 ho hi with ⟨_,e⟩|⟨_,e⟩|⟨i,e,e2⟩
  ·lia
  ·lia
  ·have:=(gS_ e).1
   lia
 refine⟨hn,ok,k9,by rw[hdp];exact hd,qx0 ho hred,ndr,?_⟩
 have vF:=qP3 ok ndr n [] (name L t) (qq7 _) k9 (by rw[hdp];exact hd)
 rw[hT] at vF
 have e2:(dfs (rowsOf L) n [] (name L t)).map (tau (rowsOf L))=L:=by rw[vF];exact hL
 have pe:=(qh6 ok n [] (name L t) (qq7 _) k9 (by rw[hdp];exact hd)).1
 generalize dfs (rowsOf L) n [] (name L t)=E at e2 pe
 have hE:E.length=L.length:=by rw[<- e2];simp
 refine Xd λi=>?_
 by_cases vZ:i<E.length
 ·have hg:E[i]?=some E[i]:=Ze vZ
  have jB:=pe.lt E[i] (Y6 vZ)
  rw[rowsOf_len] at jB
  have e3:L[i]?=some (tau (rowsOf L) E[i]):=by
   conv=>lhs;rw[<- e2]
   rw[Zg,hg];rfl
  have e4:tau (rowsOf L) E[i]=L[E[i]]:=by
   have ea:L[E[i]]?=some L[E[i]]:=Ze jB
   have:=qv1 ho L[E[i]] (.inr (.inr (Y6 jB)))
   rw[name_at ho ea] at this
   exact this
  rw[e4] at e3
  have:E[i]=i:=by
   rcases VW E[i] i with z|z|z
   ·exact absurd (by rw[e3];exact Ze jB) (nd_iff.mp ho.nd E[i] i z (by lia))
   ·exact z
   ·exact absurd (by rw[e3];exact (Ze jB).symm) (nd_iff.mp ho.nd i E[i] z jB)
  rw[hg,this,Xj (by rw[rowsOf_len];lia)]
 ·rw[Yk (by lia),Yk (by rw[Yx,rowsOf_len];lia)]
end Qf
namespace Pr
open PySem L2 Qf
def TellAt (H:Hp) (t:Addr) (n top:Nat) (rows:List Row):Prop:=∃p:Addr,H t=some (.tup [.int (n:Nat),.int (top:Nat),.ref p])/\RowsAt H p rows
theorem TellAt.mono {H H':Hp}{t:Addr}{n top:Nat}{rows:List Row}(h:TellAt H t n top rows) (s:Tups H H'):TellAt H' t n top rows:=by
 obtain⟨p,h1,h2⟩:=h
 exact⟨p,s _ _ h1,h2.mono s⟩
theorem xn6 {ys:List V}(h:∀(i:Nat) y,ys[i]?=some y->y=.bl true):ys=(List.replicate ys.length true).map V.bl:=by
 refine qk1 (by simp) λi x hx=>?_
 have hi:=(gS_ hx).1
 rw[h i x hx]
 simp[hi]
theorem q44 (k:Nat):(List.replicate k true).all id=true:=by
 rw[Ye]
 intro x hx
 exact (List.mem_replicate.mp hx).2
section
variable {P:Program}{w:World}{K:PySem.W.Frag}{mg:Str->Option Value}{base:Heap}
theorem scRow:FnScope ["thing", "before"] ["thing", "before"] (qa3 sRow):=qc6
def xv4:Sp:=λvs H Q _=>∃(b:Addr) (i:Nat) (r:Row),vs=[.ref b,.int (i:Nat)]/\H b=some (.tup (vN r))/\xu8 i r/\∀H',Same H H'->Q (.bl true) H'
theorem xv5 {f fN:Addr}{fd fdN:FuncData}(F:Fun K "is_row" "is_row" sRow f fd) (B:Blt mg) (hN:mg "is_number" = some (.ref fN)) (FN:Fun K "is_number" "is_number" qu1 fN fdN) (bN:Binds K fdN ["thing", "many"] []) (GN:FnOk P w K mg base CX0 2 fN fdN ["thing", "many"] qA2):FnOk P w K mg base CX0 3 f fd ["thing", "before"] xv4:=by
 refine F.ok scRow (λvs H Q E h=>?_) (λcdv A outer s H vs Q E hr h=>?_)
 ·obtain⟨b,i,r,rfl,_⟩:=h
  rfl
 ·obtain⟨b,i,r,rfl,hb,rk,q⟩:=h
  refine⟨_,qb0 (qd8 (qn6 (qi9 (qf9 (qa8 qk0 (by rfl) B.isi Yr (qa0 (pv 0) (qa0 (qn5 (v:=.ty "tuple") (by rfl) B.tuple Yy rfl) qa1)))))
    (qi1 (qb6 xk5 (qa8 qc9 (by rfl) B.len YA (qa0 (pv 0) qa1)) qa4 (qb5 _)))).pt (qa6 (qa9 qp9)) qb3)
   (qa6 (qa9 (qa8 (qt5 rfl) (by rfl) B.all Vb (qa0 (qe7 ["thing", "before"] (qa3 sRow) rfl rfl rfl scRow.nd (piT K rfl (pv 0)) (λcl C fp s₀ H₀=>pcN GN hr hN FN.kp bN (qa0 (pv 0) (qa0 (pv 2) qa1)))) qa1)))),?_⟩
  refine⟨_,rfl,_,_,_,_,true,rfl,rfl,.inl (.tup hb),rfl,_,rfl,iteF ⟨_,rfl,b,_,rfl,.inr (SqT.of hb),rfl,_,rfl,xz5 (by rw[qk8,rk.1];rfl) ?_⟩⟩
  refine⟨_,rfl,b,rfl,⟨_,SqT.of hb⟩,λD hD=>qf8 hD (λ_ z _=>z=.bl true) (qq8 (K:=K) hb) (by rw[qk8,rk.1];decide) (λ_ _ _ _ _ _ h=>h) ?_ ?_⟩
  ·intro j x H3 hj hx s3 Q' hq
   obtain⟨m,hm,rfl⟩:=qG3 hx
   exact⟨_,rfl,_,rfl,m,i,rfl,rk.2 m (Zv hm),hq _ _ (Same.refl _) rfl⟩
  ·intro ys H3 s3 w5 kW vJ
   have e:=xn6 vJ
   refine⟨D,List.replicate ys.length true,rfl,by rw[<- e];exact w5,?_⟩
   rw[q44]
   exact q H3 s3
theorem scRows:FnScope ["thing"] ["thing"] (qa3 q33):=qc6
def xi8:Sp:=λvs H Q _=>∃(p:Addr) (rows:List Row),vs=[.ref p]/\RowsAt H p rows/\qd2 rows/\rows.length<=900/\∀H',Same H H'->Q (.bl true) H'
theorem xn7 {f fR:Addr}{fd fdR:FuncData}(F:Fun K "are_rows" "are_rows" q33 f fd) (B:Blt mg) (hR:mg "is_row" = some (.ref fR)) (FR:Fun K "is_row" "is_row" sRow fR fdR) (bR:Binds K fdR ["thing", "before"] []) (GR:FnOk P w K mg base CX0 3 fR fdR ["thing", "before"] xv4):FnOk P w K mg base CX0 4 f fd ["thing"] xi8:=by
 refine F.ok scRows (λvs H Q E h=>?_) (λcdv A outer s H vs Q E hr h=>?_)
 ·obtain⟨p,rows,rfl,_⟩:=h
  rfl
 ·obtain⟨p,rows,rfl,jR,ok,hn,q⟩:=h
  obtain⟨bs,hp,j9,jE⟩:=id jR
  refine⟨_,qa6 (qa9 (qi2 (qa8 qk0 (by rfl) B.isi Yr (qa0 (pv 0) (qa0 (qn5 (v:=.ty "tuple") (by rfl) B.tuple Yy rfl) qa1)))
   (ql7 (qa8 (qt5 rfl) (by rfl) B.all Vb (qa0 (qN9 ["thing"] (qa3 q33) rfl rfl rfl scRows.nd (xb1 (by rfl) B.enum (qa0 (pv 0) qa1)) (λcl C fp s₀ H₀=>pcN GR hr hR FR.kp bR (qa0 (pv 1) (qa0 (pv 0) qa1)))) qa1))))),?_⟩
  refine⟨_,rfl,_,_,_,_,true,rfl,rfl,.inl (.tup hp),rfl,_,rfl,iteT ?_⟩
  have jN:(bs.map V.ref).length=rows.length:=by rw[Zf];exact j9
  refine⟨_,rfl,p,rfl,⟨_,SqT.of hp⟩,λD hD=>qy2 hD (λ_=>true) (λ_=>.bl true) (q29 (K:=K) hp) (by rw[jN];exact qc4 (by lia)) ?_ ?_⟩
  ·rintro i x H2 hi ⟨t,y,rfl,hy,ht⟩ s2 os ho Q1 Q2 q1 q2
   match os,ho with
   |[o1,o2],_=>
    have vZ:i<rows.length:=by rw[<- jN];exact hi
    rw[Zg] at hy
    obtain⟨b,hb,rfl⟩:=Zj.mp hy
    have jL:rows[i]?=some rows[i]:=by simp[vZ]
    refine⟨t,_,rfl,SqT.of ht,rfl,_,_,rfl,_,_,rfl,rfl,?_⟩
    refine iteT (B:=Q1 H2) ?_
    exact⟨_,rfl,_,rfl,b,i,rows[i],rfl,s2 _ _ (jE i b _ hb jL),ok i _ jL,λH3 s3=>q2 rfl H3 s3⟩
  ·intro H2 s2 k6
   refine⟨D,List.replicate (bs.map V.ref).length true,rfl,?_,?_⟩
   ·rw[k6]
    congr 2
    rw[List.map_replicate,List.filter_eq_self.mpr (λ_ _=>rfl)]
    refine qk1 (by simp) λi x hx=>?_
    have hi:=(gS_ hx).1
    rw[Zg] at hx
    obtain⟨_,_,rfl⟩:=Zj.mp hx
    simp at hi
    rw[Zf,List.getElem?_replicate,Zz hi]
   ·rw[q44]
    exact q H2 s2
theorem scTelling:FnScope ["thing", "n", "top", "rows"] ["thing"] (qa3 qr0):=qc6
def qG6:Sp:=λvs H Q _=>∃(t:Addr) (n tp:Nat) (rows:List Row),vs=[.ref t]/\TellAt H t n tp rows/\n<=12/\qd2 rows/\rows.length<=900/\tp<rows.length+2/\dp rows tp<=n/\∀H',Same H H'->Q (.bl true) H'
theorem qU5 {f fS fR fN fD:Addr}{fd fdS fdR fdN fdD:FuncData}(F:Fun K "is_telling" "is_telling" qr0 f fd) (B:Blt mg)
  (hS:mg "is_size" = some (.ref fS)) (FS:Fun K "is_size" "is_size" xb8 fS fdS) (bS:Binds K fdS ["thing"] []) (GS:FnOk P w K mg base CX0 2 fS fdS ["thing"] xi4)
  (hR:mg "are_rows" = some (.ref fR)) (FR:Fun K "are_rows" "are_rows" q33 fR fdR) (bR:Binds K fdR ["thing"] []) (GR:FnOk P w K mg base CX0 4 fR fdR ["thing"] xi8)
  (hN:mg "is_number" = some (.ref fN)) (FN:Fun K "is_number" "is_number" qu1 fN fdN) (bN:Binds K fdN ["thing", "many"] []) (GN:FnOk P w K mg base CX0 2 fN fdN ["thing", "many"] qA2)
  (hD:mg "depths_of" = some (.ref fD)) (FD:Fun K "depths_of" "depths_of" q30 fD fdD) (bD:Binds K fdD ["rows"] []):FnOk P w K mg base CX0 5 f fd ["thing"] qG6:=by
 have GD:FnOk P w K mg base CX0 1 fD fdD ["rows"] xi6:=xn4 FD B
 refine F.ok scTelling (λvs H Q E h=>?_) (λcdv A outer s H vs Q E hr h=>?_)
 ·obtain⟨t,n,tp,rows,rfl,_⟩:=h
  rfl
 ·obtain⟨t,n,tp,rows,rfl,⟨p,ht,jR⟩,hn,ok,hl,htp,hd,q⟩:=h
  have jL:Room 1 _:=hr.mono (by decide)
  have kC:Room 2 _:=hr.mono (by decide)
  refine⟨_,qb0 (qd8 (qn6 (qi9 (qf9 (qa8 qk0 (by rfl) B.isi Yr (qa0 (pv 0) (qa0 (qn5 (v:=.ty "tuple") (by rfl) B.tuple Yy rfl) qa1)))))
    (qi1 (qb6 xk5 (qa8 qc9 (by rfl) B.len YA (qa0 (pv 0) qa1)) qa4 (qb5 _)))).pt (qa6 (qa9 qp9)) qb3)
   (qb0 (ql9 (pv 0) (ql8 rfl (qb4 (pgN 1 scTelling.nd) (qb4 (pgN 2 scTelling.nd) (qb4 (pgN 3 scTelling.nd) qh2)))))
   (qb0 (qd8 (qn6 (qi9 (qf9 (pcN GS kC hS FS.kp bS (qa0 (pv 1) qa1))))
    (qn6 (qi9 (qf9 (pcN GR hr hR FR.kp bR (qa0 (pv 3) qa1))))
    (qi1 (qi9 (qf9 (pcN GN kC hN FN.kp bN (qa0 (pv 2) (qa0 (qa8 qc9 (by rfl) B.len YA (qa0 (pv 3) qa1)) qa1)))))))).pt (qa6 (qa9 qp9)) qb3)
   (qa6 (qa9 (qf5 qq0 (pxN qh4 (pcN GD jL hD FD.kp bD (qa0 (pv 3) qa1)) (pv 2)) (pv 1) (qb5 _)))))),?_⟩
  refine⟨_,rfl,_,_,_,_,true,rfl,rfl,.inl (.tup ht),rfl,_,rfl,iteF ⟨_,rfl,t,_,rfl,.inr (SqT.of ht),rfl,_,rfl,iteF ?_⟩⟩
  refine⟨_,rfl,t,_,rfl,SqT.of ht,rfl,_,_,rfl,_,_,rfl,_,_,rfl,rfl,?_⟩
  refine⟨_,rfl,n,rfl,hn,_,rfl,iteF ⟨_,rfl,p,rows,rfl,jR,ok,hl,λH2 s2=>⟨_,rfl,iteF ?_⟩⟩⟩
  obtain⟨bs,hp,j9,jE⟩:=id jR
  refine⟨_,rfl,_,rfl,p,_,rfl,.inr (SqT.of (s2 _ _ hp)),tp,rows.length,by rw[Zf,j9];rfl,htp,_,rfl,iteF ?_⟩
  refine⟨_,rfl,p,rows,rfl,jR.same s2,ok,hl,λH3 D s3 w5=>?_⟩
  refine⟨_,rfl,D,_,(tp:Int),.int (dp rows tp:Nat),rfl,rfl,SqL.of w5,qu4 (xi5 htp),_,rfl,_,_,rfl,rfl,?_⟩
  show Q (V.bl (decide ((dp rows tp:Int)<=(n:Int)))) H3
  rw[Zk (by lia)]
  exact q H3 (s2.trans s3)
end
def qd6 (H:Hp) (t:Addr) (n top:Nat) (rows:List Row):Prop:=TellAt H t n top rows/\Canon n top rows/\rows.length<=900
def keyN (r:List Nat):List Key:=r.map λn:Nat=>Sum.inl (n:Int)
theorem qv2 (r:List Nat):(keyN r).map kV=vN r:=by unfold keyN vN;rw[YH];rfl
theorem qA4 {l m:List Nat}(h:keyN l=keyN m):l=m:=by
 have:vN l=vN m:=by rw[<- qv2,<- qv2,h]
 rw[qp5,qp5] at this
 exact q38 ((List.map_inj_right (λ_ _ z=>V.int.inj z)).mp this)
theorem qU6 {rows:List Row}(h:rows.Nodup):(rows.map keyN).Nodup:=by
 rw[nd_iff] at h ⊢
 intro i j k5 hj z
 rw[Zf] at hj
 refine h i j k5 hj ?_
 rw[Zg,Zg,Ze (by lia),Ze hj] at z
 rw[Ze (by lia),Ze hj]
 congr 1
 exact qA4 (ZK z)
theorem qU7 (ns:List Int):PyData.depthAll (ns.map PyData.int)<=1:=by
 induction ns with
 |nil=>simp[PyData.depthAll]
 |cons a ns ih=>
  rw[ZA]
  simp only[PyData.depthAll,PyData.depth]
  lia
theorem qP4 (ns:List Int):(dL ns).depth<=2:=by
 have:=qU7 ns
 unfold dL
 simp only[PyData.depth]
 lia
section
variable {P:Program}{w:World}{K:PySem.W.Frag}{mg:Str->Option Value}{base:Heap}
theorem scShape:FnScope ["thing", "top", "rows"] ["thing"] (qa3 qF9):=qc6
def q45:Sp:=λvs H Q _=>∃(t:Addr) (n tp:Nat) (rows:List Row),vs=[.ref t]/\qd6 H t n tp rows/\∀H',Same H H'->Q (.bl true) H'
theorem xc7 {f fT fP fA:Addr}{fd fdT fdP fdA:FuncData}(F:Fun K "is_shape" "is_shape" qF9 f fd) (B:Blt mg) (T:Cst mg)
  (hT:mg "is_telling" = some (.ref fT)) (FT:Fun K "is_telling" "is_telling" qr0 fT fdT) (bT:Binds K fdT ["thing"] []) (GT:FnOk P w K mg base CX0 5 fT fdT ["thing"] qG6)
  (hP:mg "is_plain" = some (.ref fP)) (FP:Fun K "is_plain" "is_plain" qO3 fP fdP) (bP:Binds K fdP ["row"] [])
  (hA:mg "places_as_ended" = some (.ref fA)) (FA:Fun K "places_as_ended" "places_as_ended" qz9 fA fdA) (bA:Binds K fdA ["rows", "top"] []) (GA:∀d,FnOk P w K mg base CX0 (d+2) fA fdA ["rows", "top"] (qA3 d)):FnOk P w K mg base CX0 15 f fd ["thing"] q45:=by
 have GP:FnOk P w K mg base CX0 2 fP fdP ["row"] q37:=xc3 FP T
 refine F.ok scShape (λvs H Q E h=>?_) (λcdv A outer s H vs Q E hr h=>?_)
 ·obtain⟨t,n,tp,rows,rfl,_⟩:=h
  rfl
 ·obtain⟨t,n,tp,rows,rfl,⟨hTell,cn,hl⟩,q⟩:=h
  obtain⟨p,ht,jR⟩:=id hTell
  obtain⟨bs,hp,j9,jE⟩:=id jR
  have kC:Room 2 _:=hr.mono (by decide)
  have hr5:Room 5 _:=hr.mono (by decide)
  have hrA:Room (n+2) _:=hr.mono (by have:=cn.size;lia)
  refine⟨_,qb0 (qd8 (qi9 (qf9 (pcN GT hr5 hT FT.kp bT (qa0 (pv 0) qa1)))) (qa6 (qa9 qp9)) qb3)
   (qb0 (ql9 (qN1 xt2 (pv 0) (qY3 qa4) qY2) (ql8 rfl (qb4 (pgN 1 scShape.nd) (qb4 (pgN 2 scShape.nd) qh2))))
   (qb0 (qd8 (PW.pt (qn6 (qf9 (qa8 (qF6 rfl) (by rfl) B.any PyProof.Rows.boot_any (qa0 (qe7 ["thing", "top", "rows"] (qa3 qF9) rfl rfl rfl scShape.nd (piT K rfl (pv 2)) (λcl C fp s₀ H₀=>pcN GP kC hP FP.kp bP (qa0 (pv 0) qa1))) qa1)))
    (qi1 (qb6 qh3 (qa8 qK4 (by rfl) B.len YA (qa0 (qc3 (q09 rfl hr) (by rfl) B.set PyProof.Rows.boot_set (qa0 (pv 2) qa1)) qa1)) (qa8 qc9 (by rfl) B.len YA (qa0 (pv 2) qa1)) (qb5 _))))) (qa6 (qa9 qp9)) qb3)
   (qa6 (qa9 (qf5 (q10 hr) (pcN (GA n) hrA hA FA.kp bA (qa0 (pv 2) (qa0 (pv 1) qa1)))
    (qc3 (qT9 rfl) (by rfl) B.list PyProof.Rows.boot_list (qa0 (qc3 qF7 (by rfl) B.range PyProof.Rows.boot_range (qa0 (qa8 qc9 (by rfl) B.len YA (qa0 (pv 2) qa1)) qa1)) qa1)) (qb5 _)))))),?_⟩
  refine⟨_,rfl,t,n,tp,rows,rfl,hTell,cn.size,cn.rok,hl,cn.inn,cn.deep,λH1 s1=>⟨_,rfl,iteF ?_⟩⟩
  have ht1:=s1 _ _ ht
  refine⟨_,rfl,_,rfl,t,_,rfl,SqT.of ht1,(λz=>absurd (show HT.sIx 3 0 (some 1)=0 from z.1) (by decide)),λu hu=>?_⟩
  refine⟨u,_,rfl,SqT.of qa2,rfl,_,_,rfl,_,_,rfl,rfl,?_⟩
  have sA:Same H (upd H1 u (.tup [.int (tp:Nat),.ref p])):=s1.trans (qb7 hu)
  refine (λ(go:∀H2,Same H H2->_)=>go _ sA) ?_
  intro H2 s2
  have jP:=s2 _ _ hp
  have jN:(bs.map V.ref).length=rows.length:=by rw[Zf];exact j9
  refine⟨_,rfl,p,rfl,⟨_,SqT.of jP⟩,λD hD=>qf8 hD (λ_ z _=>z=.bl false) (qq8 (K:=K) jP) (by rw[jN];exact qc4 (by lia)) (λ_ _ _ _ _ _ h=>h) ?_ ?_⟩
  ·intro j x H3 hj hx s3 Q' hq
   have vW:j<rows.length:=by rw[<- jN];exact hj
   rw[Zg] at hx
   obtain⟨b,hb,rfl⟩:=Zj.mp hx
   have jL:rows[j]?=some rows[j]:=by simp[vW]
   refine⟨_,rfl,b,rows[j],rfl,s3 _ _ (s2 _ _ (jE j b _ hb jL)),(cn.rok j _ jL).1,λH4 s4=>hq _ _ s4 ?_⟩
   rw[Zm (cn.unplain _ (Y6 vW))]
  ·intro ys H3 s3 w5 kW vJ
   have e:ys=(List.replicate ys.length false).map V.bl:=by
    refine qk1 (by simp) λi x hx=>?_
    have hi:=(gS_ hx).1
    rw[vJ i x hx]
    simp[hi]
   have s23:Same H H3:=s2.trans s3
   refine⟨D,List.replicate ys.length false,rfl,by rw[<- e];exact w5,_,rfl,?_⟩
   have na:(List.replicate ys.length false).any id=false:=by
    rw[VQ]
    intro x hx
    rw[(List.mem_replicate.mp hx).2]
    decide
   rw[na]
   refine iteF ?_
   have kS:=s23 _ _ hp
   refine⟨_,rfl,p,bs,rows.map keyN,rfl,kS,by rw[Zf];exact j9,λi b ks e1 e2=>?_,qU6 cn.unlike,by rw[Zf];lia,λr hr'=>?_⟩
   ·rw[Zg] at e2
    obtain⟨r0,hr0,rfl⟩:=Zj.mp e2
    rw[qv2]
    exact s23 _ _ (jE i b r0 e1 hr0)
   ·have s4:Same H (upd H3 r (.ext (SetN r (rows.map keyN).length))):=s23.trans (qb7 hr')
    have vS:=s4 _ _ hp
    refine⟨r,_,rfl,qa2,by rw[Zf];lia,_,rfl,p,_,rfl,.inr (SqT.of vS),_,_,rfl,rfl,_,rfl,?_⟩
    have nl:decide (((rows.map keyN).length:Int)<((bs.map V.ref).length:Int))=false:=Zm (by rw[jN,Zf];lia)
    rw[nl]
    refine iteF ?_
    refine (λ(go:∀H5,Same H H5->_)=>go _ s4) ?_
    intro H5 s5
    refine⟨_,rfl,_,rfl,p,tp,rows,rfl,(jR.same s5).s,cn.rok,(ZE hl (by decide)),cn.inn,cn.deep,λH6 D6 s6 wF=>?_⟩
    have hp6:=s6 _ _ (s5 _ _ hp)
    refine⟨_,rfl,p,_,rfl,.inr (SqT.of hp6),_,rfl,λg hg=>⟨g,rows.length,rfl,by rw[qa2,jN],by lia,λl hl'=>?_⟩⟩
    have wP:=qe5 (u:=.lst ((List.range rows.length).map λ(i:Nat)=>V.int (i:Int))) (qe5 (u:=.rng 0 ((bs.map V.ref).length:Int)) wF hg) hl'
    rw[cn.ends,qp5] at wP
    have e9:((List.range rows.length).map λ(i:Nat)=>V.int (i:Int))=((List.range rows.length).map λn:Nat=>(n:Int)).map V.int:=qp5 _
    refine⟨dL ((List.range rows.length).map λn:Nat=>(n:Int)),dL ((List.range rows.length).map λn:Nat=>(n:Int)),.lst wP (DatasAt.ints _),.lst qa2 (e9▸DatasAt.ints _),qN7 _,qN7 _,?_,?_⟩
    ·exact ZE (qP4 _) (by decide)
    ·rw[q12,Zk rfl]
     exact q _ (s5.trans (s6.trans ((qb7 hg).trans (qb7 hl'))))
theorem xn8:FnScope ["shape"] ["shape"] (qa3 qO7):=qc6
def q46:Sp:=λvs H Q _=>∃(t:Addr) (n tp:Nat) (rows:List Row),vs=[.ref t]/\qd6 H t n tp rows/\∀H',Same H H'->Q .non H'
theorem xc8 {f fS:Addr}{fd fdS:FuncData}(F:Fun K "want_shape" "want_shape" qO7 f fd)
  (hS:mg "is_shape" = some (.ref fS)) (FS:Fun K "is_shape" "is_shape" qF9 fS fdS) (bS:Binds K fdS ["thing"] []) (GS:FnOk P w K mg base CX0 15 fS fdS ["thing"] q45):FnOk P w K mg base CX0 16 f fd ["shape"] q46:=by
 refine F.ok xn8 (λvs H Q E h=>?_) (λcdv A outer s H vs Q E hr h=>?_)
 ·obtain⟨t,n,tp,rows,rfl,_⟩:=h
  rfl
 ·obtain⟨t,n,tp,rows,rfl,wS,q⟩:=h
  refine⟨_,qa6 (qd8 (qi9 (qf9 (pcN GS hr hS FS.kp bS (qa0 (pv 0) qa1)))) qg5 qb3),?_⟩
  exact⟨_,rfl,t,n,tp,rows,rfl,wS,λH1 s1=>⟨_,rfl,iteF (q H1 s1)⟩⟩
end
end Pr
namespace L2
open PySem PySem.Spec PyProof.Rows
section
variable {prog:Program}{w:World}{κ:Type}[DecidableEq κ]{hk:HeapKind prog w κ}{A:Around}{E:Value->Shared->Prop}{s:Shared}{d a:Addr}{k:κ}{xs:List (κ×Addr×Value)}
end
section
variable {X:Cx}
end
end L2
namespace L2
open PySem PySem.Spec PyProof.Rows PySem.W
def Bare (h:Heap) (d:Addr) (tab:Array DictEntry) (ep:Nat):Prop:=∃o,h.get? d=some o/\o.ExactDict/\o.data=.dict tab ep
theorem Bare.stay {h h':Heap}{d:Addr}{tab:Array DictEntry}{ep:Nat}(x:Bare h d tab ep) (k:∀o,h.get? d=some o->h'.get? d=some o):Bare h' d tab ep:=let ⟨o,ho,r⟩:=x;⟨o,k o ho,r⟩
theorem Bare.ty {s:Shared}{d:Addr}{tab:Array DictEntry}{ep:Nat}(x:Bare s.heap d tab ep):s.TypeIs (.ref d) "dict":=let ⟨o,ho,hc,_⟩:=x;⟨o,ho,hc.1⟩
theorem Bare.lt {h:Heap}{d:Addr}{tab:Array DictEntry}{ep:Nat}(x:Bare h d tab ep):d<h.objs.size:=let ⟨_,ho,_⟩:=x;Zi ho
section
variable {prog:Program}{w:World}{A:Around}{E:Value->Shared->Prop}{s:Shared}{d it:Addr}{tab:Array DictEntry}{ep i:Nat}
theorem q47 {Q:Value->Shared->Prop}(lo:(d==sysModules)=false) (x:Bare s.heap d tab ep)
  (q:Q (.ref s.heap.objs.size) { s with heap:=s.heap.push { cls:=.type "dict_keyiterator",data:=.fields #[.ref d,.int 0 0,.int tab.size 0,.int ep 0] } }):wpAny (model prog w) A (pyIter (.ref d)) Q E s:=by
 obtain⟨o,ho,hc,jX⟩:=id x
 refine VX x.ty F.slot_dict_iter (Z3 F.slot_dict_iter x.ty F.entry_dict_iter ?_ (F.args_dict_iter_1 _))
 show wpAny _ _ (Builtin.Dict.dictSlotNone _ _ >>= _) _ _ _
 unfold Builtin.Dict.dictSlotNone;refine Za (Za (wpAny_notOrdered_dict x.ty (Zb ?_)))
 show wpAny _ _ (Builtin.Dict.showsAll d >>= _) _ _ s;unfold Builtin.Dict.showsAll
 rw[Zq (by rw[lo];decide)];refine Za (Zb (Za (W2 ho jX (Za (wpAny_dictEpoch ho jX ?_)))))
 refine Za (ZP (Zb ⟨_,rfl, "dict_keyiterator",_,⟨_,Zh _ rfl,rfl⟩,YQ.lookup,?_⟩));simpa [rawInt] using q
theorem q48 {Q:Option Value->Shared->Prop}(st:s.heap.IsKeyIter it d i tab.size ep) (x:Bare s.heap d tab ep) (hi:i<tab.size)
  (q:∀h',h'.IsKeyIter it d (i+1) tab.size ep->Heap.SameBut it s.heap h'->Q (some tab[i].key) { s with heap:=h' }):wpAny (model prog w) A (pyNext (.ref it)) Q E s:=by
 obtain⟨o,ho,hc,hd⟩:=id st;obtain⟨od,hod,kQ,vO⟩:=id x
 unfold pyNext;refine Za (XE (Z2 (name:=Str.ofString "__next__") st.typeIs YQ (Z3 YQ st.typeIs F.entry_dict_keyiterator_next ?_ (F.args_dict_keyiterator_next_1 _))))
 refine Za (Zb (Za (Za ?_)))
 first|(refine Za (Xb st.typeIs (Zb (Za (Wn ho hd ?_)))))|(refine Za (XI st.typeIs (Zb (Za (Wn ho hd ?_)))))
 simp only[show Builtin.Dict_items.ownsTuple "dict_keyiterator" = false by decide,Zr,ZX]
 show wpAny _ _ (if (Value.ref d==Value.none)=true then _ else _) _ _ s;rw[Zq (show ¬((Value.ref d==Value.none)=true) by exact Zt)]
 refine Za (Zb (Za (W2 hod vO ?_)));rw[Zq (by simp)]
 refine Za (Zb (Za (wpAny_dictEpoch hod vO ?_)));rw[Zq (by simp)];refine Zb ?_
 simp only[show ¬((i:Int)<0) by lia,ZX,Zy,Yo hi];refine Za ?_
 first|(refine Za (Xb st.typeIs (Zb (Za (Vc st.typeIs ?_)))))|(refine Za (XI st.typeIs (Zb (Za (Vc st.typeIs ?_)))))
 show wpAny _ _ (setField (.ref it) 1 (rawInt ((i:Int)+1)) >>= _) _ _ s;refine Za (Xq ho hd (by simp) ?_)
 have st':(s.heap.update it (Obj.mapFields (·.setIfInBounds 1 (rawInt ((i:Int)+1))))).IsKeyIter it d (i+1) tab.size ep:=⟨_,ZY _ ho (Xs (Yp hd _)),(W0 ..).trans hc,by rw[Yp hd];simp[rawInt]⟩
 refine Za (Z5 (Za (Vc (s:={ s with heap:=s.heap.update it (Obj.mapFields (·.setIfInBounds 1 (rawInt ((i:Int)+1)))) }) st'.typeIs ?_)))
 show wpAny _ _ (pure tab[i].key) _ _ _
 exact Zb (Zb ⟨_,rfl,Zb (q _ st' (ZV ..))⟩)
theorem xc9 {Q:Option Value->Shared->Prop}(hh:A.handled=none) (st:s.heap.IsKeyIter it d tab.size tab.size ep) (x:Bare s.heap d tab ep)
  (q:∀h',Heap.ExtBut it s.heap h'->Q none { s with heap:=h' }):wpAny (model prog w) A (pyNext (.ref it)) Q E s:=by
 obtain⟨o,ho,hc,hd⟩:=id st;obtain⟨od,hod,kQ,vO⟩:=id x
 unfold pyNext;refine Za (XE (Z2 (name:=Str.ofString "__next__") st.typeIs YQ (Z3 YQ st.typeIs F.entry_dict_keyiterator_next ?_ (F.args_dict_keyiterator_next_1 _))))
 refine Za (Zb (Za (Za ?_)))
 first|(refine Za (Xb st.typeIs (Zb (Za (Wn ho hd ?_)))))|(refine Za (XI st.typeIs (Zb (Za (Wn ho hd ?_)))))
 simp only[show Builtin.Dict_items.ownsTuple "dict_keyiterator" = false by decide,Zr,ZX]
 show wpAny _ _ (if (Value.ref d==Value.none)=true then _ else _) _ _ s;rw[Zq (show ¬((Value.ref d==Value.none)=true) by exact Zt)]
 refine Za (Zb (Za (W2 hod vO ?_)));rw[Zq (by simp)]
 refine Za (Zb (Za (wpAny_dictEpoch hod vO ?_)));rw[Zq (by simp)];refine Zb ?_
 simp only[show ¬((tab.size:Int)<0) by lia,ZX,Zy,X4 (Zd tab.size)];refine Za ?_
 first|(refine Za (Xb st.typeIs (Zb ?_)))|(refine Za (XI st.typeIs (Zb ?_)))
 show wpAny _ _ (setField (.ref it) 0 .none >>= _) _ _ s;refine Za (Xq ho hd (by simp) ?_)
 show wpAny _ _ (newExc (.type "StopIteration") [] >>= _) _ _ _;refine Za ?_
 simp only[newExc,newTuple];refine Za (ZP ?_ (by size_fits))
 refine Za (m:=firstArgMember _ _) (VT (a:=Value.none) (by first|rfl|(simp only[firstArgMember];rfl)) (ZP ?_ (by size_fits)))
 simp only[raiseNew];refine Za (wpAny_handled ?_);rw[show A.in1.handled=none by exact hh]
 refine Za (Zb (wpAny_throw ?_));refine Za (XS (T:= "StopIteration") (b:=true) ⟨_,Zh _ rfl,rfl⟩ isSubtype_stop ?_)
 exact Zb (q _ (((ZV ..).extBut.push _).push _))
theorem qU8 (hh:A.handled=none) (jJ:d≠it):Walks prog w A it [it,d] [it] tab.size (λi v=>∃e,tab[i]?=some e/\v=e.key) (λi h=>h.IsKeyIter it d i tab.size ep/\Bare h d tab ep) where
 sub:=λb hb=>by simp at hb;simp[hb]
 frame:=λ_ _ _ st k=>⟨st.1.at λo e=>k it (by simp) o e,st.2.stay λo e=>k d (by simp) o e⟩
 item:=λi s Q E hi st q=>q48 st.1 st.2 hi λh' st' sb=>q _ h' s.toks ⟨tab[i],by simp[hi],rfl⟩ ⟨st',st.2.stay λo e=>sb.extBut d o jJ e⟩ λb o hb e=>sb.extBut b o (λh=>hb (by simp[h])) e
 done:=λs Q E st q=>xc9 hh st.1 st.2 λh' eb=>q h' s.toks λb o hb e=>eb b o (λh=>hb (by simp[h])) e
 self:=λ_ _ _ _ st q=>wpAny_pyIter_keyiter st.1 q
theorem qP5 (lo:(d==sysModules)=false):KdlSrc prog w "dict" d d tab.size (λi v=>∃e,tab[i]?=some e/\v=e.key) (λh=>Bare h d tab ep) where
 type:=λ_ x=>x.ty
 there:=λ_ x=>⟨x.lt,x.lt⟩
 keep:=λ_ _ x k=>x.stay λo e=>k d (.inl rfl) o e
 notList:=by decide
 notTuple:=by decide
 hint:=λ_ _ _ _ x q=>kdl_hint_dict x.ty q
 iter:=λ_ _ hh x=>⟨_,_,(λ_ _ q=>q47 lo x q),qU8 hh (Zl x.lt),⟨⟨_,Zh _ rfl,rfl,rfl⟩,x.stay λo e=>Zc _ e⟩⟩
theorem q49 (lo:(d==sysModules)=false):MeetsIn prog w (Builtin.«dict.__len__» ⟨[.ref d],[]⟩) (λ_ R s=>∃tab ep,Bare s.heap d tab ep/\R (.ok (.ret (.int tab.size s.toks))) { s with toks:=s.toks+1 }):=
 .of_wp λA R s ⟨tab,ep,⟨o,ho,hx,jX⟩,q⟩=>by
  show wpAny _ _ (dictSize d >>= _) _ _ s;unfold dictSize
  refine Za (Za (W2 ho jX (Zb ?_)));show wpAny _ _ (Builtin.Dict.pendingCount d >>= _) _ _ s
  exact Za (wpAny_pendingCount_other lo (wpAny_ret_mkInt (by rw[Wu];exact q)))
theorem xd0 {Q:Value->Shared->Prop}(lo:(d==sysModules)=false) (x:Bare s.heap d tab ep) (fit:(tab.size:Int)<2^63) (q:Q (.int tab.size (s.toks+1)) { s with toks:=s.toks+1+1 }) :
  wpAny (model prog w) A (call (.builtin "len") [.ref d]) Q E s:=by
 refine Calls.call_function_entry kind_len plain_len entry_len (args_len1 _) ?_
 unfold Builtin.«len»;refine Za (m:=oneArg "len" _) (Zb ?_)
 refine Za (m:=callSpecial? (.ref d) (Str.ofString "__len__")) (Z2 (name:=Str.ofString "__len__") x.ty F.slot_dict_len (call_meetsIn F.slot_dict_len x.ty F.entry_dict_len (F.args_dict_len_1 _) (q49 lo) ⟨tab,ep,x,?_⟩))
 show wpAny _ _ _ _ _ { s with toks:=s.toks+1 };refine Za (Z5 (Zb (Za (wpAny_letGo ?_))))
 show wpAny _ _ (if ((tab.size:Nat):Int)<0 then _ else _) _ _ _;rw[Zq (by lia)]
 show wpAny _ _ (if ((tab.size:Nat):Int)>=2^63 then _ else _) _ _ _;rw[Zq (by lia)];exact Za (wpAny_mkInt (Zb ⟨_,rfl,q⟩))
end
section
variable {X:Cx}
theorem q50:qe4 X (.builtin "len") (λxs H Q=>∃d kvs,xs=[V.ref d]/\H d=some (.dT kvs)/\Q (.int kvs.length) H):=by
 intro j8 s σ H xs us Q I r h
 obtain⟨d,kvs,rfl,hd,q⟩:=h
 obtain⟨u,rfl,ru⟩:=qe9 r
 cases ru
 obtain⟨z,lo,ys,rel,o,tab,ep,ho,hx,jX,ent,uni⟩:=(show ObjOk X.prog X.w H s.heap d (.dT kvs) from I.hok d _ hd)
 have hl:tab.size=kvs.length:=(size_of_entries ent).trans (YD rel).symm
 have fit:(tab.size:Int)<2^63:=by rw[hl];rw[Wh] at z;lia
 refine xd0 lo ⟨o,ho,hx,jX⟩ fit ⟨.int kvs.length,H,I.tok _,?_,q⟩
 rw[hl]
 exact⟨_,rfl⟩
end
section
variable {prog:Program}{w:World}{A:Around}{E:Value->Shared->Prop}{s:Shared}{T:String}{r d:Addr}{n:Nat}{P:Nat->Value->Prop}{OK:Heap->Prop}
theorem qv3 {Q:List Value->Shared->Prop}(K:KdlSrc prog w T r d n P OK) (hh:A.handled=none) (hok:OK s.heap) (hn:n<=sizeLine)
  (hQ:∀(h':Heap) tk acc',(∀b o,s.heap.get? b=some o->h'.get? b=some o)->ItemsOf P acc' n->Q acc'.toList { s with heap:=h',toks:=tk }):wpAny (model prog w) A (collect (.ref r)) Q E s:=by
 have jB:=K.there _ hok
 unfold collect
 refine Za (VH (Yn F.entry_proto_collect ?_))
 rw[Yi F.plain_proto_collect _]
 show wpAny _ A.in1 (newList [] >>= λl=>again (.builtin "list.__iadd__" ⟨[l,.ref r],[]⟩)) _ _ s
 refine Za (ZP ?_)
 refine Zb ⟨XD F.plain_list_iadd _,Yn F.entry_list_iadd ?_⟩
 rw[Yi F.plain_list_iadd _]
 have hS₁:(s.heap.push { cls:=.type "list",data:=.seq ([]:List Value).toArray }).get? s.heap.objs.size=some { cls:=.type "list",data:=.seq ([]:List Value).toArray }:=Zh _ rfl
 show wpAny _ A.in1 (Builtin.List.listExtendWith (.ref s.heap.objs.size) (.ref r) (.ref s.heap.objs.size)) _ _ _
 refine kdl_extend (R:=wants (λv s'=>wpAny (model prog w) A (match v with|.ref a=>(do let ob <- load a;match ob.data with|.seq xs _=>pure xs.toList|_=>unsupported "internal:collect")|_=>unsupported "internal:collect") Q E s') E) (s:={ s with heap:=s.heap.push { cls:=.type "list",data:=.seq ([]:List Value).toArray } }) K hh (K.keep _ _ hok λb _ o e=>Zc _ e) s.heap.objs.size (XX jB.1) (XX jB.2) _ _ hS₁ (λh' tk acc' c' hk hS' jH=>?_) hn
 show wpAny _ A (load s.heap.objs.size >>= _) _ _ _
 refine Za (wpAny_load hS' ?_)
 exact Zb (hQ h' tk acc' (λb o e=>hk b o (Zl (Zi e)) (Zc _ e)) jH)
theorem qx1 {Q₁:Value->Shared->Prop}(K:KdlSrc prog w T r d n P OK) (hh:A.handled=none) (hok:OK s.heap) (hn:n<=sizeLine)
  (h:∀(h':Heap) tk acc,(∀b o,s.heap.get? b=some o->h'.get? b=some o)->ItemsOf P acc n->Q₁ (.ref h'.objs.size) { s with heap:=h'.push { cls:=.type "tuple",data:=.seq acc },toks:=tk }) :
  codeAny (model prog w) A (.call (.builtin "tuple.__new__") ⟨[.type "tuple",.ref r],[]⟩) (wants Q₁ E) s:=by
 refine Vs ?_
 show wpAny _ A.in1 (do checkBuiltinCall "tuple.__new__" ⟨[.type "tuple",.ref r],[]⟩;again (.builtin "tuple.__new__" ⟨[.type "tuple",.ref r],[]⟩)) _ _ s
 refine Za (VT (F.newCall_tuple_1 _) (Zb ⟨XD F.plain_tuple_new _,Yn F.entry_tuple_new ?_⟩))
 rw[Yi F.plain_tuple_new _]
 have hsub:=sub_tuple_self
 have hinit:=init_tuple_lookup
 have hmh:=madeHere_tuple
 have hTI:=K.type s hok
 have hnt:=K.notTuple
 wp_walk using WS hTI,qv3 (A:=A.in1) K hh hok hn
 intro h' tk acc hk jH
 show wpAny _ _ (Builtin.Tuple.tupleExact acc.toList.toArray >>= λv=>ret v) _ _ _
 unfold Builtin.Tuple.tupleExact
 refine Za (ZP ?_ (by show acc.toList.toArray.size<=sizeLine;simp only[Array.toArray_toList];rw[jH.1];exact hn))
 refine Zb ?_
 have e:acc.toList.toArray=acc:=by simp
 rw[e]
 exact h h' tk acc hk jH
theorem q51 {Q:Value->Shared->Prop}(K:KdlSrc prog w T r d n P OK) (hh:A.handled=none) (hok:OK s.heap) (hn:n<=sizeLine)
  (h:∀(h':Heap) tk acc,(∀b o,s.heap.get? b=some o->h'.get? b=some o)->ItemsOf P acc n->Q (.ref h'.objs.size) { s with heap:=h'.push { cls:=.type "tuple",data:=.seq acc },toks:=tk }) :
  wpAny (model prog w) A (call (.type "tuple") [.ref r]) Q E s:=by
 refine callType_codes (Q₁:=λobj s₁=>s₁.TypeIs obj "tuple" /\ Q obj s₁) F.called_tuple (F.typeCall_tuple_1 _) F.entry_object_init
  (qx1 K hh hok hn λh' tk acc hk jH=>⟨⟨_,Zh _ rfl,rfl⟩,h h' tk acc hk jH⟩) λobj s₁ h₁=>?_
 exact⟨h₁.1,F.args_object_init_2 obj _,object_init_meets F.called_tuple.init.lookup F.called_tuple.made (by decide) prog w A.in1 _ s₁ ⟨h₁.1,rfl,h₁.2⟩⟩
end
section
variable {X:Cx}
theorem qG7 (hc:X.calm=true):qe4 X (.type "tuple") (λxs H Q=>∃(d:Addr) (kvs:List (List Key×V)),xs=[.ref d]/\H d=some (.dT kvs) /\
  ∀(l:Addr) (bs:List Addr),H l=none->bs.length=kvs.length->(∀(i:Nat) b kv,bs[i]?=some b->kvs[i]?=some kv->H b=some (.tup (kv.1.map kV)))->Q (.ref l) (upd H l (.tup (bs.map V.ref)))):=by
 intro j8 s σ H xs us Q I r h
 obtain⟨d,kvs,rfl,hd,q⟩:=h
 obtain⟨u,rfl,ru⟩:=qe9 r
 cases ru
 obtain⟨z,lo,ys,rel,o,tab,ep,ho,hx,jX,ent,uni⟩:=(show ObjOk X.prog X.w H s.heap d (.dT kvs) from I.hok d _ hd)
 have hl:kvs.length=ys.length:=YD rel
 have ht:tab.size=ys.length:=size_of_entries ent
 refine q51 (qP5 (tab:=tab) (ep:=ep) lo) (I.ok.hd hc) ⟨o,ho,hx,jX⟩ (by lia) λh' tk acc kp jH=>?_
 have at_:∀(i:Nat) p y,kvs[i]?=some p->ys[i]?=some y->H y.2.1=some (.tup (p.1.map kV)):=by
  have gen:∀{l:List (List Key×V)}{m:List (List Key×Addr×Value)},Paired (λ(p:List Key×V) (q:List Key×Addr×Value)=>p.1=q.1/\H q.2.1=some (.tup (p.1.map kV))/\RelV p.2 q.2.2) l m->∀(i:Nat) p y,l[i]?=some p->m[i]?=some y->H y.2.1=some (.tup (p.1.map kV)):=by
   intro l m pr
   induction pr with
   |nil=>intro i p y h1;simp at h1
   |cons a1 a2 ih=>
    intro i p y h1 h2
    cases i with
    |zero=>simp at h1 h2;subst h1;subst h2;exact a1.2.1
    |succ i=>exact ih i p y (by simpa using h1) (by simpa using h2)
  exact gen rel
 have jN:(ys.map (·.2.1)).length=kvs.length:=by rw[Zf,hl]
 have I1:=I.kept (t':=tk) kp
 have hf:H h'.objs.size=none:=I1.hok.fresh (Zd _)
 refine⟨.ref h'.objs.size,_,I1.laid (a:=h'.objs.size) (o:=.tup ((ys.map (·.2.1)).map V.ref)) (t':=tk) (λb o e=>Zc _ e) (Zd _) (show ObjOk X.prog X.w _ _ _ (.tup ((ys.map (·.2.1)).map V.ref)) from ⟨by rw[Zf,jN];exact z,acc.toList,?_,by have:=IsTupX.new h' acc.toList.toArray;simpa using this⟩),rfl,q _ _ hf jN λi b kv e1 e2=>?_⟩
 ·refine qt7 (by simp[jH.1,ht]) λi x v h1 h2=>?_
  rw[Zg,Zg] at h1
  obtain⟨b,hb,rfl⟩:=Zj.mp h1
  obtain⟨y,hy,rfl⟩:=Zj.mp hb
  obtain⟨e,he,rfl⟩:=jH.2 i v (by simpa using h2)
  rw[entry_at ent i,hy] at he
  have:=ZK he
  subst this
  rfl
 ·rw[Zg] at e1
  obtain⟨y,hy,rfl⟩:=Zj.mp e1
  exact at_ i kv y e2 hy
open Classical in
noncomputable def qK6 (h:Heap) (d:PyData) (w:Value):Bool:=decide (∃(e:PyData) (bs:List Addr),Reads h w e bs/\e.canLay0=true/\PyData.eqv e d=true)
open Classical in
theorem xd1 {h:Heap}{d d':PyData}{w:Value}{bs:List Addr}(rb:Reads h w d' bs) (c:d'.canLay0=true):qK6 h d w=PyData.eqv d' d:=by
 unfold qK6
 cases hb:PyData.eqv d' d with
 |true=>exact Zk ⟨d',bs,rb,c,hb⟩
 |false=>
  refine Zm λ⟨e,bs',re,_,he⟩=>?_
  have:=SeqAt.Reads.unique d' e w bs bs' c rb re
  rw[<- this,hb] at he
  cases he
theorem q52 {j8:List (Addr×Obj)}{s:Shared}{σ:St}{H:Hp}{v:Value}{d:PyData}{as:List Addr}(I:Inv X j8 σ H s) (un:X.A.units+64<cLine) (ra:Reads s.heap v d as) (c1:d.canLay0=true) (dd:d.depth<=50) :
  ∀{xs:List V}{ds:List PyData}{us:List Value},DatasAt H xs ds->Vals xs us->PyData.canLayAll0 ds=true->(∀w∈us,SeqAt.EqAt X.A.in1 s w v (qK6 s.heap d w))/\us.any (qK6 s.heap d)=ds.any λe=>PyData.eqv e d
 |_,_,_,.nil,.nil,_=>⟨λw hw=>(nomatch hw),rfl⟩
 |_,d'::ds',u0::us0,.cons hx hxs,.cons r0 rs,h3=>by
  have h3':d'.canLay0=true/\PyData.canLayAll0 ds'=true:=by simpa [PyData.canLayAll0] using h3
  obtain⟨e1,e2⟩:=q52 I un ra c1 dd hxs rs h3'.2
  obtain⟨bs,rb⟩:=hx.reads I.hok r0
  have eb:=xd1 (d:=d) rb h3'.1
  refine⟨λw hw=>?_,?_⟩
  ·rcases Zs.mp hw with rfl|hw
   ·rw[eb]
    exact SeqAt.eqAt_reads d' d X.A.in1 s w v bs as rb ra h3'.1 c1 (by
     have:X.A.in1.units=X.A.units+1:=rfl
     lia)
   ·exact e1 w hw
  ·rw[Wa,Wa,eb,e2]
theorem xv6 {k:Nat}(hr:Room k X.A):OpR X (compareOp .In) (λx y H Q=>∃(p:Addr) (xs:List V) (ds:List PyData) (d:PyData),y=.ref p/\H p=some (.tup xs)/\DatasAt H xs ds/\DataAt H x d/\d.canLay0=true/\PyData.canLayAll0 ds=true/\d.depth<=50 /\
  Q (.bl (ds.any λe=>PyData.eqv e d)) H):=by
 intro j8 s σ H x y v u Q I rx ry h
 obtain⟨p,xs,ds,d,rfl,hp,jO,hd,c1,c2,dd,q⟩:=h
 cases ry
 obtain⟨as,ra⟩:=hd.reads I.hok rx
 obtain⟨its,rv,pl,hz⟩:=I.tuple (SqT.of hp)
 have un:=hr.units
 obtain⟨k1,k2⟩:=q52 (X:=X) I un ra c1 dd jO rv c2
 refine SeqAt.in_tupleAt (qK6 s.heap d) pl (λw hw=>k1 w (by simpa using hw)) ⟨.bl _,H,I,rfl,?_⟩
 rw[show its.toArray.any (qK6 s.heap d)=its.any (qK6 s.heap d) by simp,k2]
 exact q
end
end L2
namespace L2
open PySem PySem.Spec PyProof.Rows
section
variable {X:Cx}
theorem xd2 {i0:Nat}{x0:Str}{px0 spos:Pos}{nn:List Str}{tg:Expr}{ifs:List Expr}{pos:Pos}{elt iter:Expr}{scope:Scope}{wi:TI}{g:TG}{tt:TT}{te:TE}(T:Env->Sem Bool) (hc:X.calm=true) (hi:PI X tg iter wi)
  (hturn:∀it acc env,compTurn (.ListComp elt [⟨tg,iter,ifs,0⟩] scope pos) 0 it acc env=(standAt iter.pos >>= λ_=>pyNext it >>= λr=>match r with
   |none=>pure (.done .next)
   |some v=>letOwnedTupleGo tg it v >>= λ_=>assign tg env v >>= λ_=>T env >>= λok=>(if ok=true then (eval elt env >>= λx=>call (.builtin "list.append") [acc,x] >>= λ_=>pure ()) else pure ()) >>= λ_=>
     again (.compLoop (.ListComp elt [⟨tg,iter,ifs,0⟩] scope pos) 0 it acc env)))
  (hgt:∀cl C fp s₀ H₀,PG (qc1 X scope cl C nn fp s₀ H₀) tg g)
  (hloc2:∀y (os σ:St) H R,os.length=nn.length->g y (os++σ) H R->g y (os++σ) H λσ' H'=>(∃os':St,os'.length=nn.length/\σ'=os'++σ)/\R σ' H')
  (htt:∀cl C fp s₀ H₀ (j8:List (Addr×Obj)) (s:Shared) (σ:St) (H:Hp) (Q:Bool->Hp->Prop),Inv (qc1 X scope cl C nn fp s₀ H₀) j8 σ H s->tt σ H Q->wpAny (model X.prog X.w) X.A (T (compEnvC scope cl C X.env)) (TP (qc1 X scope cl C nn fp s₀ H₀) j8 σ Q) (λ_ _=>False) s)
  (he:∀cl C fp s₀ H₀,PE (qc1 X scope cl C nn fp s₀ H₀) elt te)
  (jC:scope.kind=.function) (jA:∀y∈scope.names,y.2≠.cell) (jD:∀y∈scope.names,y.2=.local->scope.names.lookup y.1=some .local)
  (jK:∀y∈X.N,scope.names.lookup y≠some .local) (jQ:∀p∈scope.names,p.2=.free->Vis X.env.scope p.1/\X.env.scope.names.lookup p.1≠some .local)
  (hs:∀x,foldedSetIterable iter X.env x=pure x) (hN0:X.N.Nodup) (hi0:X.N[i0]?=some x0) (hx0:X.env.scope.names.lookup x0=some .local) (hsw:swapsWith (.ListComp elt [⟨tg,iter,ifs,0⟩] scope pos) (some (.Name x0 px0)) spos.line X.env=pure true) :
  PS X (.Assign [.Name x0 px0] (.ListComp elt [⟨tg,iter,ifs,0⟩] scope pos) spos) (tAsg (qF1 nn.length wi g tt te) (qh1 i0)):=by
 intro j8 s σ H EE I h
 rw[exec_Assign_Name_used _ _ _ _ hsw]
 refine Za (V2 (Za ?_))
 show wpAny _ X.A (do let _ <- comprehension (.ListComp elt [⟨tg,iter,ifs,0⟩] scope pos) scope X.env _ (newList []) false (eval iter X.env) (some (assign (.Name x0 px0) X.env))) _ _ s
 obtain⟨cl,hclos,jG,jU⟩:=qf7 (scope:=scope) (env:=X.env) (λp hp hk=>by
  obtain⟨hv,hn⟩:=jQ p hp hk
  refine I.ok.has p.1 ?_
  rcases hv with z|z
  ·exact absurd z hn
  ·exact z)
 refine Za (Yw (WD (use:=some (assign (.Name x0 px0) X.env)) (Q:=λ_ s'=>SP X j8 EE .next s') rfl hs hclos jC jD (thn (hi j8 s σ H _ I h) λv s1 h1=>thn h1 λitv s2 h2=>?_)) (λ_ s' hq=>Zb (Zb hq)) λ_ _ e=>e)
 obtain⟨it,fp,tn,J,H2,rfl,I2,T',st2,f2,q⟩:=h2
 have hD:H2 s2.heap.objs.size=none:=I2.hok.fresh (Zd _)
 obtain⟨W,⟨m0,w0⟩,turn⟩:=q _ hD
 refine ZP (Vn jA (by intro y hy;simp at hy) (λh₁ hns₁ hsb₁=>?_) jC)
 dsimp only at hns₁ hsb₁ ⊢
 have I3:Inv X j8 σ (upd H2 s2.heap.objs.size (.lst [])) { s2 with heap:=s2.heap.push { cls:=.type "list",dict:=none,data:=.seq ([]:List Value).toArray } }:=
  I2.laid (t':=s2.toks) (λb u e=>Zc _ e) (Zd _) ⟨Zo _,[],0,.nil,Zh _ rfl⟩
 have fpn:∀b∈fp,b≠s2.heap.objs.size:=λb hb=>by
  obtain⟨o,e,_⟩:=T'.obj 0 s2.heap st2 b hb
  exact Zl (Zi e)
 have fplt:∀b∈fp,b<(s2.heap.push { cls:=.type "list",dict:=none,data:=.seq ([]:List Value).toArray }).objs.size:=λb hb=>by
  obtain⟨o,e,_⟩:=T'.obj 0 s2.heap st2 b hb
  rw[Yh];exact ZZ (Zi e)
 have f3:∀b∈fp,FpOk X j8 (upd H2 s2.heap.objs.size (.lst [])) b:=λb hb=>⟨by rw[qb2 (fpn b hb)];exact (f2 b hb).1,(f2 b hb).2⟩
 generalize hg2:s2.heap.push { cls:=.type "list",dict:=none,data:=.seq ([]:List Value).toArray }=g2 at hns₁ hsb₁ I3 fplt ⊢
 have keep:∀b o,g2.get? b=some o->h₁.get? b=some o:=λb o e=>(hsb₁.2 b (Zl (Zi e))).trans (Zc _ e)
 have J0:=qt3 (nn:=nn) (tk:=s2.toks+([]:List (Str×Value)).length) I3 (C:=g2.objs.size) rfl keep hns₁ f3 fplt jC jA jK jG jU jQ
 generalize hY:qc1 X scope cl g2.objs.size nn fp { s2 with heap:=g2 } (upd H2 s2.heap.objs.size (.lst []))=Y at J0
 have eY:PE Y elt te:=by rw[<- hY];exact he _ _ _ _ _
 have eG:PG Y tg g:=by rw[<- hY];exact hgt _ _ _ _ _
 have eT:∀(j8:List (Addr×Obj)) (s:Shared) (σ:St) (H:Hp) (Q:Bool->Hp->Prop),Inv Y j8 σ H s->tt σ H Q->wpAny (model Y.prog Y.w) Y.A (T Y.env) (TP Y j8 σ Q) Y.xe s:=by rw[<- hY];exact htt _ _ _ _ _
 have eP:Y.prog=X.prog:=by rw[<- hY];rfl
 have eW:Y.w=X.w:=by rw[<- hY];rfl
 have eK:Y.K=X.K:=by rw[<- hY];rfl
 have eA:Y.A=X.A:=by rw[<- hY];rfl
 have eC:Y.calm=true:=by rw[<- hY];exact hc
 have eE:Y.env=compEnvC scope cl g2.objs.size X.env:=by rw[<- hY];rfl
 have eX:Y.xe=λ_ _=>False:=by rw[<- hY];rfl
 have eN:Y.N=nn++X.N:=by rw[<- hY];rfl
 have eEx:Y.ex=fp:=by rw[<- hY];rfl
 have eFs:Y.fs=frs X.stack:=by rw[<- hY];rfl
 have ePn:Y.pn=[]:=by rw[<- hY];rfl
 have fpY:∀{H':Hp},(∀b∈fp,H' b=none)->∀b∈fp,FpOk Y [] H' b:=λhn b hb=>by
  have g:=f3 b hb
  refine⟨hn b hb,?_,?_,.inl (by rw[eEx];exact hb),?_,λp hp=>absurd hp (by rw[ePn];simp)⟩
  ·rw[eE];exact Zl (fplt b hb)
  ·rw[eFs]
   intro z
   rcases Zs.mp (I3.stkSub b z) with z|z
   ·exact g.2.1 z
   ·exact g.2.2.1 z
  ·rw[eE]
   exact λy c e=>g.2.2.2.2.1 y c (jG y c e)
 have loop:∀s₃:Shared,s₃={ s2 with heap:=h₁,toks:=s2.toks+([]:List (Str×Value)).length } ->
   codeAny (model X.prog X.w) X.A (.compLoop (.ListComp elt [⟨tg,iter,ifs,0⟩] scope pos) 0 (.ref it) (.ref s2.heap.objs.size) (compEnvC scope cl g2.objs.size X.env))
    (compPost (model X.prog X.w) X.A X.xe (some (assign (.Name x0 px0) X.env)) (λ_ s'=>SP X j8 EE .next s') (.ref s2.heap.objs.size) g2.objs.size) s₃:=by
  rintro s₃ rfl
  refine qF2 (T (compEnvC scope cl g2.objs.size X.env)) (hturn _ _ _) (λn s'=>∃i xs H' os,os.length=nn.length/\Inv Y [] (os++σ) H' s'/\tn i s'.heap/\(∀b∈fp,H' b=none)/\W i n xs H') ?_ m0
   ⟨0,[],_,nn.map λ_=>none,by simp,J0,T'.keep 0 _ _ st2 (λb hb o e=>keep b o (by rw[<- hg2];exact Zc _ e)),λb hb=>(f3 b hb).1,w0⟩
  rintro n s3 ⟨i,xs,H3,os,vC,I4,st3,fr3,w3⟩
  obtain⟨hDx,hlx,alt⟩:=turn i n xs H3 w3
  rcases alt with ⟨stop,qn⟩|⟨go,step⟩
  ·have D1:=T'.done Y eP eW eK eC i [] s3 _ H3 (λ_ _=>False) I4 (fpY fr3) st3 stop
   rw[eA] at D1
   refine thn D1 λr s4 ⟨hr,I5⟩=>?_
   subst hr
   obtain⟨m4,jT,_⟩:=id I5.loc
   rw[eE] at jT
   have hC0:H3 g2.objs.size=none:=by
    have:=I5.free
    rw[eE] at this
    exact this
   have fC:FpOk X j8 H3 g2.objs.size:=I3.fpOk (Zd _) hC0
   rw[<- hY] at I5
   have IX:Inv X j8 σ H3 s4:=qF3 I3 rfl f3 I5 (We _ _)
   have jT:s4.heap.Ns g2.objs.size m4:=jT
   obtain⟨oC,esC,epC,hoC,rC⟩:=id jT
   have IP:=IX.pinned (fp:=[g2.objs.size]) (λb hb=>by
    have:b=g2.objs.size:=by simpa using hb
    subst this
    exact fC) (λb hb=>by
    have:b=g2.objs.size:=by simpa using hb
    subst this
    exact⟨oC,hoC,λv z=>by rw[rC.1] at z;cases z⟩)
   show wpAny _ X.A (assign (.Name x0 px0) X.env (.ref s2.heap.objs.size)) _ _ s4
   refine wpAny_assign_Name (qq3 (v:=.ref s2.heap.objs.size) IP hN0 hi0 (.inl hx0) rfl (λs5 I6=>?_) (.inr hx0))
   have pC:=I6.pin (g2.objs.size,oC) (ZI _ (ZI _ (qf1 (by simp) hoC)))
   refine⟨m4,jT.at' (λo e=>by rw[hoC] at e;cases e;exact pC.1),λh' sb=>⟨_,H3,?_,qn⟩⟩
   exact I6.unpinned.turned (t':=s5.toks) (λb o hb e=>(sb.2 b hb).trans e) fC.1 fC.2.1 fC.2.2.2.1 fC.2.2.2.2.1 fC.2.2.2.2.2
  ·have G1:=T'.item Y eP eW eK eC i [] s3 _ H3 (λ_ _=>False) I4 (fpY fr3) st3 go
   rw[eA] at G1
   refine thn G1 λr s4 ⟨u,hr,h4⟩=>?_
   subst hr
   refine thn h4 λ_ s5 ⟨y,H5,I5,r5,y5,st5,fr5⟩=>?_
   have I5':=I5.pinned (fpY fr5) (T'.obj _ _ st5)
   have S1:=eG _ s5 _ H5 y u _ I5' r5 (hloc2 y os σ H5 _ vC (step y _ y5 os vC))
   rw[eP,eW,eA,eE,eX] at S1
   refine thn S1 λ_ s6 ⟨σ6,H6,I6,⟨os6,hos6,e6⟩,q6⟩=>?_
   subst e6
   have S2:=eT _ s6 _ _ _ I6 q6
   rw[eP,eW,eA,eE,eX] at S2
   refine thn S2 λok s7 ⟨H7,I7,q7⟩=>?_
   have back:∀{s9:Shared}{H9:Hp}{m':Nat}{zs:List V},Inv Y ([]++qx7 fp s5.heap) (os6++σ) H9 s9->m'<n->W (i+1) m' zs H9->∃m,m<n/\∃i xs H' os,os.length=nn.length/\Inv Y [] (os++σ) H' s9/\tn i s9.heap/\(∀b∈fp,H' b=none)/\W i m xs H':=λ{s9 H9 m' zs} I9 hm' w9=>by
    have pin:∀b∈fp,∀ob,s5.heap.get? b=some ob->s9.heap.get? b=some ob/\H9 b=none:=λb hb ob e=>by
     have z:=I9.pin (b,ob) (ZI _ (ZI _ (qf1 hb e)))
     exact⟨z.1,z.2.1⟩
    refine⟨m',hm',i+1,zs,H9,os6,hos6,I9.unpinned,T'.keep _ _ _ st5 (λb hb ob e=>(pin b hb ob e).1),λb hb=>?_,w9⟩
    obtain⟨ob,e,_⟩:=T'.obj _ _ st5 b hb
    exact (pin b hb ob e).2
   cases ok with
   |true=>
    rw[Zz rfl] at q7
    rw[Zz rfl]
    have S3:=eY _ s7 _ _ _ I7 q7
    rw[eP,eW,eA,eE,eX] at S3
    refine thn S3 λxv s8 ⟨v8,H8,I8,r8,hD8,m',hm',w8⟩=>?_
    have S4:=qf6 (X:=Y) _ s8 _ H8 (.ref s2.heap.objs.size) [v8] (.ref s2.heap.objs.size) [xv] (λ_ H9=>H9=upd H8 s2.heap.objs.size (.lst (xs++[v8]))) I8 rfl (.cons r8 .nil) ⟨_,xs,v8,rfl,rfl,hD8,hlx,rfl⟩
    rw[eP,eW,eA,eX] at S4
    refine thn S4 λ_ s9 ⟨v9,H9,I9,_,e9⟩=>?_
    subst e9
    exact back I9 hm' w8
   |false=>
    rw[Zq Zt] at q7
    rw[Zq Zt]
    obtain⟨m',hm',w8⟩:=q7
    exact back I7 hm' w8
 exact WU (loop _ rfl) (T'.self _ 0 _ _ _ (T'.keep 0 _ _ st2 (λb hb o e=>keep b o (by rw[<- hg2];exact Zc _ e))) (loop _ rfl))
theorem xn9 {i0:Nat}{x0:Str}{px0 spos:Pos}{x:Str}{px pos:Pos}{elt iter:Expr}{scope:Scope}{wi:TI}{te:TE}(N:List Str) (sc:Scope) (w6:X.N=N) (kM:X.env.scope=sc) (hc:X.calm=true) (hN:X.N.Nodup) (hi0:X.N[i0]?=some x0) (hx0:X.env.scope.names.lookup x0=some .local) (hi:PI X (.Name x px) iter wi)
  (he:∀cl C fp s₀ H₀,PE (qc1 X scope cl C [x] fp s₀ H₀) elt te)
  (jC:scope.kind=.function:=by rfl) (jA:scope.names.all (λy=>y.2 != .cell)=true:=by decide +kernel) (jD:scope.names.all (λy=>y.2 != .local||scope.names.lookup y.1==some .local)=true:=by decide +kernel)
  (hx:scope.names.lookup x=some .local:=by rfl) (jK:N.all (λy=>scope.names.lookup y != some .local)=true:=by decide +kernel)
  (jQ:scope.names.all (λp=>p.2 != .free||(sc.names.lookup p.1==some .cell||sc.names.lookup p.1==some .free))=true:=by decide +kernel)
  (hs:∀x,foldedSetIterable iter X.env x=pure x:=by intro _;rfl) (hsw:swapsWith (.ListComp elt [⟨.Name x px,iter,[],0⟩] scope pos) (some (.Name x0 px0)) spos.line X.env=pure true:=by rfl) :
  PS X (.Assign [.Name x0 px0] (.ListComp elt [⟨.Name x px,iter,[],0⟩] scope pos) spos) (tAsg (qF1 1 wi (qh1 0) xm3 te) (qh1 i0)):=by
 obtain⟨s1,s2,s3,s4⟩:=qt4 w6 kM jA jD jK jQ
 refine xd2 (nn:=[x]) (λ_=>pure true) hc hi (λit acc env=>q16 elt _ iter scope pos it acc env) (λcl C fp s₀ H₀=>?_) (λy os σ H R ho h=>loc1 ho h) (λcl C fp s₀ H₀ j8 s σ H Q I h=>Zb ⟨H,I,h⟩) he jC s1 s2 s3 s4 hs hN hi0 hx0 hsw
 have l:(qc1 X scope cl C [x] fp s₀ H₀).env.scope.names.lookup x=some .local:=Xy hx
 exact qn7 (i:=0) (Yg.mpr ⟨λz=>s3 x z hx,hN⟩) rfl (.inl l) (.inr l)
end
end L2
namespace L2
open PySem
theorem xd3 {α:Type}{i1 i2:BEq α}(h1:@LawfulBEq α i1) (h2:@LawfulBEq α i2):i1=i2:=by
 have:∀a b,@BEq.beq α i1 a b=@BEq.beq α i2 a b:=λa b=>by
  rw[Y0,@X1 α i1 h1,@X1 α i2 h2]
 cases i1;cases i2
 congr 1
 funext a b
 exact this a b
structure PEb (X:Cx) (e:Expr) (t:TE):Prop where
 go:PE X e t
structure PSb (X:Cx) (st:Stmt) (t:TS):Prop where
 go:PS X st t
inductive StB (X:Cx):List Stmt->TS->Prop
 |one {st:Stmt}{t:TS}(h:PSb X st t):StB X [st] t
 |cons {st:Stmt}{rest:List Stmt}{t u:TS}(h:PSb X st t) (r:StB X rest u):StB X (st::rest) (tSeq t u)
theorem StB.go {X:Cx}:∀{l:List Stmt}{t:TS},StB X l t->PSs X l t
 |_,_,.one h=>qa6 h.go
 |_,_,.cons h r=>qb0 h.go r.go
theorem seqE {X:Cx}{st:Stmt}{rest:List Stmt}{R:TS->Prop}(h:∃t,PSb X st t/\∃u,PSs X rest u/\R (tSeq t u)):∃t,PSs X (st::rest) t/\R t:=by
 obtain⟨t,h1,u,h2,h3⟩:=h
 exact⟨_,qb0 h1.go h2,h3⟩
theorem qh7 {X:Cx}{st:Stmt}{R:TS->Prop}(h:∃t,PSb X st t/\R t):∃t,PSs X [st] t/\R t:=by
 obtain⟨t,h1,h3⟩:=h
 exact⟨_,qa6 h1.go,h3⟩
inductive Ars2 (X:Cx):List Expr->TA->Prop
 |nil:Ars2 X [] tNil
 |cons {e:Expr}{es:List Expr}{te:TE}{t:TA}(h:PEb X e te) (r:Ars2 X es t) (hs:starEach (e::es) X.env=(false,eval e X.env)::starEach es X.env):Ars2 X (e::es) (qD4 te t)
theorem Ars2.go {X:Cx}:∀{es:List Expr}{t:TA},Ars2 X es t->PA X es t
 |_,_,.nil=>qa1
 |_,_,.cons h r hs=>qa0 h.go r.go hs
theorem xv7 {X:Cx}{T id:String}{name:Str}{r:V->List V->Hp->VK->Prop}{o e:Expr}{es:List Expr}{to:TE}{t:TA}{apos cpos:Pos}(pa:PlainAttrs T) (slot:Slot T name id) (hty:typeOf (.builtin id)=pure (.type "method_descriptor")) (hm:MtR X id r) (ho:PEb X o to) (ha:Ars2 X (e::es) t)
  (hbase:attributeBase o name X.env (eval o X.env)=eval o X.env:=by rfl)
  (hfew:((backTo cpos (starEach (e::es) X.env)).all (λx=>!x.1)&&(backToKw cpos (keywordEach [] X.env)).all (λx=>x.1.isSome)
   && decide ((e::es).length+([]:List Keyword).length+(if ([]:List Keyword).isEmpty then 0 else 1)<30))=true:=by rfl)
  (hline:(apos.endLine==cpos.line)=true:=by rfl) (hs:starEach (e::es) X.env=(false,eval e X.env)::starEach es X.env:=by rfl) (hplain:(backTo cpos (starEach es X.env)).any (·.1)=false:=by rfl) :
  PEb X (.Call (.Attribute o name apos) (e::es) [] cpos) (tBM X.K T r to t):=⟨qK0 pa slot hty hm ho.go ha.go hbase hfew hline hs hplain⟩
theorem qg4 {X:Cx}{i:Int}{j:Nat}{pos:Pos}:PEb X (.Constant (.int i) j pos) (tC (.int i)):=⟨qa4⟩
end L2
namespace Pr
open PySem L2 Qf
def PurseAt (H:Hp) (p:Addr):Prop:=∃a b:Int,H p=some (.lst [.int a,.int b])/\0<=a/\0<=b/\b<2^40
theorem PurseAt.same {H H':Hp}{p:Addr}(h:PurseAt H p) (s:Same H H'):PurseAt H' p:=by
 obtain⟨a,b,e,r⟩:=h
 exact⟨a,b,s _ _ e,r⟩
def RowsL (H:Hp) (p:Addr) (rows:List Row):Prop:=∃bs:List Addr,H p=some (.lst (bs.map V.ref))/\bs.length=rows.length/\∀(i:Nat) b r,bs[i]?=some b->rows[i]?=some r->H b=some (.tup (vN r))
theorem RowsL.same {H H':Hp}{p:Addr}{rows:List Row}(h:RowsL H p rows) (s:Same H H'):RowsL H' p rows:=by
 obtain⟨bs,h1,h2,h3⟩:=h
 exact⟨bs,s _ _ h1,h2,λi b r e1 e2=>s _ _ (h3 i b r e1 e2)⟩
def tabl {α κ:Type}(key:α->κ) (l:List α) (k:Nat):List (κ×V):=(l.zipIdx k).map λp=>(key p.1,V.int (p.2:Nat))
section
variable {α κ:Type}[DecidableEq α] [DecidableEq κ]{key:α->κ}
theorem qr3 (l:List α) (k:Nat):(tabl key l k).length=l.length:=by simp[tabl]
theorem q53 (a:α) (l:List α) (k:Nat):tabl key (a::l) k=(key a,V.int (k:Nat))::tabl key l (k+1):=by simp[tabl]
theorem q54 (l:List α) (a:α) (k:Nat):tabl key (l++[a]) k=tabl key l k++[(key a,V.int (k+l.length:Nat))]:=by simp[tabl,List.zipIdx_append]
theorem qA5 (inj:∀a b,key a=key b->a=b) (a:α):∀(l:List α) (k:Nat),valV (tabl key l k) (key a)=if a∈l then some (.int (k+l.idxOf a:Nat)) else none
 |[],k=>by simp[tabl,valV]
 |b::l,k=>by
  rw[q53]
  by_cases h:b=a
  ·subst h
   rw[qq5 rfl,Zz ZC,List.idxOf_cons_self]
   rfl
  ·rw[qq6 (λz=>h (inj _ _ z)),qA5 inj a l (k+1)]
   by_cases hm:a∈l
   ·have e:(b::l).idxOf a=l.idxOf a+1:=by
     rw[List.idxOf_cons,beq_false_of_ne h]
     rfl
    rw[Zz hm,Zz (Zn _ hm),e]
    congr 3
    lia
   ·rw[Zq hm,Zq (λz=>by rcases Zs.mp z with z|z;exact h z.symm;exact hm z)]
theorem xd4 (inj:∀a b,key a=key b->a=b){l:List α}{a:α}{k:Nat}(h:a∉l):putK (tabl key l k) (key a) (.int (k+l.length:Nat))=tabl key (l++[a]) k:=by
 unfold putK
 rw[qm1,qA5 inj,Zq h,Zq (by decide),q54]
end
theorem RowsL.but {H H':Hp}{p e:Addr}{rows:List Row}{o:HO}(h:RowsL H p rows) (b:But e H H') (hpe:p≠e) (he:H e=some o) (no:∀u,o≠.tup u):RowsL H' p rows:=by
 obtain⟨bs,h1,h2,h3⟩:=h
 exact⟨bs,b _ _ h1 hpe,h2,λi c r e1 e2=>b.tups he no _ _ (h3 i c r e1 e2)⟩
theorem qy4 {H:Hp}:∀{bs:List Addr}{rows:List Row},bs.length=rows.length->(∀(i:Nat) b r,bs[i]?=some b->rows[i]?=some r->H b=some (.tup (vN r))) ->
  DatasAt H (bs.map V.ref) (rows.map λr=>dT (r.map λx:Nat=>(x:Int)))
 |[],[],_,_=>.nil
 |b::bs,r::rows,hl,h=>by
  refine .cons ?_ (qy4 (by simpa using hl) λi c q e1 e2=>h (i+1) c q (by simpa using e1) (by simpa using e2))
  have h0:=h 0 b r rfl rfl
  rw[qp5] at h0
  exact .tup h0 (DatasAt.ints _)
theorem qr4:∀rows:List Row,PyData.canLayAll0 (rows.map λr=>dT (r.map λx:Nat=>(x:Int)))=true
 |[]=>rfl
 |r::rows=>by
  rw[ZA,PyData.canLayAll0,q11,qr4 rows];rfl
theorem qy5:∀ns:List Int,PyData.depthAll (ns.map PyData.int)=0
 |[]=>rfl
 |n::ns=>by rw[ZA,PyData.depthAll,qy5 ns];rfl
theorem qy6:∀rows:List Row,PyData.depthAll (rows.map λr=>dT (r.map λx:Nat=>(x:Int)))<=1
 |[]=>by decide
 |r::rows=>by
  have:=qy6 rows
  have e:(dT (r.map λx:Nat=>(x:Int))).depth=1:=by
   show PyData.depthAll _+1=1
   rw[qy5]
  rw[ZA,PyData.depthAll,e]
  lia
theorem xd5 (cs:List Addr) (t:Addr):cs.map V.ref++[.ref t]=(cs++[t]).map V.ref:=by rw[ZU];rfl
def q55 (rows:List Row):List PyData:=rows.map λr=>dT (r.map λx:Nat=>(x:Int))
theorem q56 (m:List Row):PyData.eqv (.list (q55 m)) (.list [])=m.isEmpty:=by
 cases m with
 |nil=>rfl
 |cons a l=>simp[q55,PyData.eqv,PyData.eqvAll]
theorem qo2 {H:Hp}{p:Addr}{rows:List Row}(h:RowsL H p rows):DataAt H (.ref p) (.list (q55 rows)):=by
 obtain⟨bs,hp,hl,hr⟩:=h
 exact .lst hp (qy4 hl hr)
theorem ql4 (rows:List Row):(PyData.list (q55 rows)).depth<=60:=by
 have:=qy6 rows
 show PyData.depthAll _+1<=60
 unfold q55
 lia
def tK (rows:List Row):List (List Key×V):=tabl keyN rows 2
theorem xd6 {α:Type}{i1 i2:BEq α}(h1:@LawfulBEq α i1) (h2:@LawfulBEq α i2) (l:List α) (a:α):@List.idxOf α i1 a l=@List.idxOf α i2 a l:=by
 cases xd3 h1 h2
 rfl
theorem xi9 (rows:List Row) (r:Row):valV (tK rows) (keyN r)=if r∈rows then some (.int (rows.idxOf r+2:Nat)) else none:=by
 unfold tK
 rw[qA5 (λa b=>qA4)]
 split
 ·rw[VB]
  exact Yd (λn:Nat=>some (V.int ((n+2:Nat):Int))) (xd6 (by infer_instance) (by infer_instance) _ _)
 ·rfl
theorem qh8 {H1 H2:Hp}{t n tp:Nat}{rows:List Row}(h:qd6 H1 t n tp rows) (s:Same H1 H2):qd6 H2 t n tp rows:=let ⟨⟨p,a,b⟩,c,d⟩:=h;⟨⟨p,s _ _ a,b.same s⟩,c,d⟩
end Pr
namespace Qf
open Tr
theorem qv4 {L:List Tr}{t:Tr}(h:In L t):post t L=L:=by
 cases t with
 |z=>rfl
 |o=>rfl
 |nd a b c d=>
  have hm:Tr.nd a b c d∈L:=by rcases h with h|h|h;cases h;cases h;exact h
  unfold post
  rw[Zz hm]
theorem qy7 {L:List Tr}(h:Ord L){t:Tr}(hk:∀s∈kids t,In L s):rowsOf (L++[t])=rowsOf L++[(kids t).map (name L)]:=by
 unfold rowsOf
 rw[ZU]
 congr 1
 ·refine Ym λu hu=>?_
  obtain⟨i,hi,e⟩:=ZJ.mp hu
  exact Ym λs hs=>name_app (kid_in h (i:=i) (t:=u) (by rw[Ze hi,e]) hs).1 h
 ·show[(kids t).map (name (L++[t]))]=_
  congr 1
  exact Ym λs hs=>name_app (hk s hs) h
theorem xo0 {L:List Tr}(h:Ord L){a b c d:Tr}(hk:∀s∈kids (.nd a b c d),In L s):(kids (.nd a b c d)).map (name L)∈rowsOf L<->Tr.nd a b c d∈L:=by
 constructor
 ·intro hm
  obtain⟨i,hi,e⟩:=ZJ.mp hm
  obtain⟨t,ht,er⟩:=qn9 (i:=i) (r:=(kids (.nd a b c d)).map (name L)) (by rw[Ze hi,e])
  have:=qP2 ⟨a,b,c,d,rfl⟩ (h.ch i t ht).1 (qj5 h hk (λs hs=>(kid_in h ht hs).1) er)
  rw[this]
  exact Zv ht
 ·intro hm
  obtain⟨i,hi,e⟩:=ZJ.mp hm
  exact Zv (rowsOf_at (i:=i) (t:=.nd a b c d) (by rw[Ze hi,e]))
theorem xo1 {L:List Tr}(h:Ord L){i:Nat}{t:Tr}(e:L[i]?=some t):(rowsOf L).idxOf ((kids t).map (name L))=i:=by
 have hl:=(gS_ e).1
 have e2:=rowsOf_at e
 have jM:i<(rowsOf L).length:=by rw[rowsOf_len];exact hl
 have e3:=(gS_ e2).2
 rw[<- e3]
 exact (qp6 h).idxOf_getElem i jM
end Qf
namespace Pr
open PySem L2 Qf
theorem xj0 {H:Hp}{e u:Addr}{L:List Tr}(hO:Tr.Ord L){a b c d:Tr}(hm:Tr.nd a b c d∈L) (he:H e=some (.dT (tK (Tr.rowsOf L)))) (hu:H u=some (.tup (vN [Tr.name L a,Tr.name L b,Tr.name L c,Tr.name L d]))) :
  DGet H e (.ref u) (some (.int (Tr.name L (.nd a b c d):Nat))):=by
 obtain⟨i,hi,ei⟩:=ZJ.mp hm
 have ei':L[i]?=some (.nd a b c d):=by rw[Ze hi,ei]
 have hix:=xo1 hO ei'
 have hmr:(Tr.kids (.nd a b c d)).map (Tr.name L)∈Tr.rowsOf L:=Zv (Tr.rowsOf_at ei')
 have:=DGet.t (k:=keyN ((Tr.kids (.nd a b c d)).map (Tr.name L))) he (by rw[qv2];exact hu)
 rw[xi9,Zz hmr,hix] at this
 rw[Tr.name_at hO ei']
 exact this
end Pr
namespace Qf
open Tr
theorem q57 {rows:List Row}(ok:qd2 rows){q:Nat}(hq:q<rows.length+2):(T rows q=z<->q=0)/\(T rows q=o<->q=1):=by
 by_cases q2:q<2
 ·match q,q2 with
  |0,_=>rw[qi5];exact⟨⟨λ_=>rfl,λ_=>rfl⟩,⟨λh=>(nomatch h),λh=>(nomatch h)⟩⟩
  |1,_=>rw[qq2];exact⟨⟨λh=>(nomatch h),λh=>(nomatch h)⟩,⟨λ_=>rfl,λ_=>rfl⟩⟩
 ·obtain⟨p',a',b',c',d',rfl,hp'⟩:=qm6 ok hq q2
  rw[qm8 ok hp']
  exact⟨⟨λh=>(nomatch h),λh=>by lia⟩,⟨λh=>(nomatch h),λh=>by lia⟩⟩
theorem qv5 {n top:Nat}{rows:List Row}(c:Canon n top rows):dep (T rows top)<=n:=by
 obtain⟨er,et⟩:=qU3 c
 obtain⟨ho,hi⟩:=post_ord (T rows top) [] ord_nil
 have h:=qo1 ho _ hi
 rw[<- er,<- et] at h
 rw[<- h]
 exact c.deep
def qr (i:Nat):Tr->Tr
 |.nd a b c d=>[a,b,c,d].getD i .z
 |t=>t
theorem T_qr {rows:List Row}(ok:qd2 rows){p i:Nat}{r:Row}{x:Nat}(hp:rows[p]?=some r) (hi:i<4) (hx:r[i]?=some x):T rows x=qr i (T rows (p+2)):=by
 obtain⟨a,b,c,d,rfl⟩:=qo0 (ok p r hp).1
 rw[qm8 ok hp]
 match i,hi with
 |0,_=>cases hx;rfl
 |1,_=>cases hx;rfl
 |2,_=>cases hx;rfl
 |3,_=>cases hx;rfl
theorem qi6 {i k:Nat}(hi:i<4):∀(t:Tr),dep t<=k+1->dep (qr i t)<=k
 |.z,_=>Zo _
 |.o,_=>Zo _
 |.nd a b c d,h=>by
  have h':mx [dep a,dep b,dep c,dep d]<=k:=by
   have:1+mx [dep a,dep b,dep c,dep d]<=k+1:=h
   lia
  have m:∀x∈[dep a,dep b,dep c,dep d],x<=k:=λx hx=>ZE (q22 hx) h'
  match i,hi with
  |0,_=>exact m (dep a) (by simp)
  |1,_=>exact m (dep b) (by simp)
  |2,_=>exact m (dep c) (by simp)
  |3,_=>exact m (dep d) (by simp)
theorem dep0:∀{t:Tr},dep t<=0->t=.z\/t=.o
 |.z,_=>.inl rfl
 |.o,_=>.inr rfl
 |.nd a b c d,h=>by
  have:1+mx [dep a,dep b,dep c,dep d]<=0:=h
  lia
def wdn:Tr->List Nat->Tr×List Nat
 |.nd a b c d,x::ds=>((wdn (qr x (.nd a b c d)) ds).1,x::(wdn (qr x (.nd a b c d)) ds).2)
 |t,_=>(t,[])
theorem ql5 (t:Tr):wdn t []=(t,[]):=by cases t<;>rfl
theorem qd7 {t:Tr}(h:t=.z\/t=.o) (ds:List Nat):wdn t ds=(t,[]):=by rcases h with rfl|rfl<;>cases ds<;>rfl
def lvs (a b:Nat):Nat->Tr->List (List Nat)
 |k+1,.nd p q r s=>(lvs a b k (qr a (.nd p q r s))).map (a::·)++(lvs a b k (qr b (.nd p q r s))).map (b::·)
 |_,_=>[[]]
theorem qe0 {a b:Nat}{t:Tr}(h:t=.z\/t=.o):∀k,lvs a b k t=[[]]
 |0=>rfl
 |k+1=>by rcases h with rfl|rfl<;>rfl
def bd (a b:Nat):Nat->Nat->List Nat
 |0,_=>[]
 |k+1,p=>(if p/2^k%2=0 then a else b)::bd a b k p
theorem qP6 (a b:Nat):∀(k p:Nat),bd a b k p=bd a b k (p%2^k)
 |0,_=>rfl
 |k+1,p=>by
  show (if p/2^k%2=0 then a else b)::bd a b k p=(if p%2^(k+1)/2^k%2=0 then a else b)::bd a b k (p%2^(k+1))
  have e1:p%2^(k+1)/2^k%2=p/2^k%2:=by
   rw[Yb,Nat.mod_mul_right_div_self]
   exact Nat.mod_mod _ _
  have e2:p%2^(k+1)%2^k=p%2^k:=Nat.mod_mod_of_dvd p (Nat.pow_dvd_pow 2 (Wm k))
  rw[e1,qP6 a b k p,qP6 a b k (p%2^(k+1)),e2]
def cof (f:Nat->Nat):Nat->List Nat->Nat
 |k+1,d::ds=>2^k*f d+cof f k ds
 |_,_=>0
theorem qo3 (f:Nat->Nat):∀(n:Nat) (l m:List Nat),l.length<=n->cof f n (l++m)=cof f n l+cof f (n-l.length) m
 |n,[],m,_=>by
  have:cof f n []=0:=by cases n<;>rfl
  rw[this];simp
 |n+1,d::l,m,h=>by
  have h':l.length<=n:=by simpa using h
  show 2^n*f d+cof f n (l++m)=2^n*f d+cof f n l+cof f (n+1-(l.length+1)) m
  rw[qo3 f n l m h',Vd]
  lia
def pos (k:Nat) (L:List (List Nat)) (i:Nat):Nat:=((L.take i).map λds=>2^(k-ds.length)).sum
theorem xd7 {k i:Nat}{L M:List (List Nat)}(h:i<=L.length):pos k (L++M) i=pos k L i:=by
 unfold pos
 rw[List.take_append_of_le_length h]
theorem qP7 {k i:Nat}{L M:List (List Nat)}:pos k (L++M) (L.length+i)=pos k L L.length+pos k M i:=by
 unfold pos
 rw[List.take_append,Yc (by lia),Yc (Zd _),XT,ZU,Ui]
theorem qv6 {k i a:Nat}{L:List (List Nat)}:pos (k+1) (L.map (a::·)) i=pos k L i:=by
 unfold pos
 rw[<- List.map_take,YH]
 congr 1
 refine Ym λds _=>?_
 show 2^(k+1-(ds.length+1))=_
 rw[Vd]
theorem qP8 {k i:Nat}{L:List (List Nat)}{ds:List Nat}(h:L[i]?=some ds):pos k L (i+1)=pos k L i+2^(k-ds.length):=by
 unfold pos
 rw[Um,h,ZU,Ui]
 simp
structure Alg (a b k:Nat) (t:Tr) (L:List (List Nat)):Prop where
 short:∀ds∈L,ds.length<=k
 whole:pos k L L.length=2^k
 lf:∀(i:Nat) ds,L[i]?=some ds->(wdn t (bd a b k (pos k L i))).2=ds/\pos k L i<2^k/\∀f:Nat->Nat,f a=0->f b=1->cof f k ds=pos k L i
 figs:∀ds∈L,∀d∈ds,d=a\/d=b
theorem qK7 {a b k:Nat}{t:Tr}(h:t=.z\/t=.o):Alg a b k t [[]] where
 short:=λds hd=>by
  have:ds=[]:=by simpa using hd
  rw[this];exact Zo _
 whole:=by simp[pos]
 lf:=λi ds hi=>by
  match i,hi with
  |0,hi=>
   cases hi
   refine⟨by rw[qd7 h],by show 0<2^k;exact Z7 (by decide),λf _ _=>by cases k<;>rfl⟩
  |i+1,hi=>simp at hi
 figs:=λds hd d hx=>by
  have:ds=[]:=by simpa using hd
  rw[this] at hx;cases hx
theorem qA6 (a b:Nat):∀(k:Nat) (t:Tr),dep t<=k->a<4->b<4->Alg a b k t (lvs a b k t)
 |0,t,h,_,_=>qK7 (dep0 h)
 |k+1,.z,_,_,_=>qK7 (.inl rfl)
 |k+1,.o,_,_,_=>qK7 (.inr rfl)
 |k+1,.nd p q r s,h,ha,hb=>by
  have A:=qA6 a b k (qr a (.nd p q r s)) (qi6 ha _ h) ha hb
  have B:=qA6 a b k (qr b (.nd p q r s)) (qi6 hb _ h) ha hb
  show Alg a b (k+1) (.nd p q r s) ((lvs a b k (qr a (.nd p q r s))).map (a::·)++(lvs a b k (qr b (.nd p q r s))).map (b::·))
  generalize hs:Tr.nd p q r s=t at *
  have hw:∀x ds,wdn t (x::ds)=((wdn (qr x t) ds).1,x::(wdn (qr x t) ds).2):=λx ds=>by rw[<- hs];rfl
  generalize lvs a b k (qr a t)=L at A
  generalize lvs a b k (qr b t)=M at B
  have lL:(L.map (a::·)).length=L.length:=Zf _
  have lM:(M.map (b::·)).length=M.length:=Zf _
  have e2:2^(k+1)=2^k+2^k:=by rw[Yb];lia
  have pk:0<2^k:=Z7 (by decide)
  refine⟨λds hd=>?_,?_,λi ds hi=>?_,λds hd d hx=>?_⟩
  ·rcases ZW.mp hd with hd|hd
   ·obtain⟨e,he,rfl⟩:=ZH.mp hd
    exact V6 (A.short e he)
   ·obtain⟨e,he,rfl⟩:=ZH.mp hd
    exact V6 (B.short e he)
  ·rw[Zw,qP7,qv6,qv6,lL,lM,A.whole,B.whole,e2]
  ·by_cases hl:i<L.length
   ·rw[ZD (by rw[lL];exact hl),Zg] at hi
    obtain⟨e,he,rfl⟩:=Zj.mp hi
    obtain⟨g1,g2,g3⟩:=A.lf i e he
    rw[xd7 (by rw[lL];lia),qv6]
    refine⟨?_,by lia,λf fa fb=>?_⟩
    ·show (wdn t ((if pos k L i/2^k%2=0 then a else b)::bd a b k (pos k L i))).2=_
     rw[Xn g2,Zz (by decide),hw]
     show a::(wdn (qr a t) (bd a b k (pos k L i))).2=a::e
     rw[g1]
    ·show 2^k*f a+cof f k e=_
     rw[fa,g3 f fa fb];lia
   ·obtain⟨j,rfl⟩:∃j,i=L.length+j:=⟨i-L.length,by lia⟩
    rw[ZF (by rw[lL];lia),lL,XT,Zg] at hi
    obtain⟨e,he,rfl⟩:=Zj.mp hi
    obtain⟨g1,g2,g3⟩:=B.lf j e he
    have ep:pos (k+1) (L.map (a::·)++M.map (b::·)) (L.length+j)=2^k+pos k M j:=by
     have:=qP7 (k:=k+1) (i:=j) (L:=L.map (a::·)) (M:=M.map (b::·))
     rw[lL] at this
     rw[this,qv6,qv6,A.whole]
    rw[ep]
    refine⟨?_,by lia,λf fa fb=>?_⟩
    ·show (wdn t ((if (2^k+pos k M j)/2^k%2=0 then a else b)::bd a b k (2^k+pos k M j))).2=_
     have e1:(2^k+pos k M j)/2^k=1:=by rw[Nat.add_div_left _ pk,Xn g2]
     have e3:bd a b k (2^k+pos k M j)=bd a b k (pos k M j):=by
      rw[qP6 a b k (2^k+pos k M j),Nat.add_mod_left,<- qP6]
     rw[e1,Zq (by decide),e3,hw]
     show b::(wdn (qr b t) (bd a b k (pos k M j))).2=b::e
     rw[g1]
    ·show 2^k*f b+cof f k e=_
     rw[fb,g3 f fa fb];lia
  ·rcases ZW.mp hd with hd|hd
   ·obtain⟨e,he,rfl⟩:=ZH.mp hd
    rcases Zs.mp hx with rfl|hx
    ·exact .inl rfl
    ·exact A.figs e he d hx
   ·obtain⟨e,he,rfl⟩:=ZH.mp hd
    rcases Zs.mp hx with rfl|hx
    ·exact .inr rfl
    ·exact B.figs e he d hx
theorem qh9:∀(t:Tr) (l m:List Nat),((wdn t l).2=l/\wdn t (l++m)=((wdn (wdn t l).1 m).1,l++(wdn (wdn t l).1 m).2))\/(((wdn t l).1=.z\/(wdn t l).1=.o)/\wdn t (l++m)=wdn t l)
 |t,[],m=>by
  left
  rw[ql5]
  exact⟨rfl,by simp⟩
 |.z,x::l,m=>.inr ⟨.inl rfl,rfl⟩
 |.o,x::l,m=>.inr ⟨.inr rfl,rfl⟩
 |.nd a b c d,x::l,m=>by
  rcases qh9 (qr x (.nd a b c d)) l m with ⟨h1,h2⟩|⟨h1,h2⟩
  ·left
   refine⟨?_,?_⟩
   ·show x::(wdn (qr x (.nd a b c d)) l).2=x::l
    rw[h1]
   ·show ((wdn (qr x (.nd a b c d)) (l++m)).1,x::(wdn (qr x (.nd a b c d)) (l++m)).2)=_
    rw[h2]
    rfl
  ·right
   refine⟨h1,?_⟩
   show ((wdn (qr x (.nd a b c d)) (l++m)).1,x::(wdn (qr x (.nd a b c d)) (l++m)).2)=_
   rw[h2]
   rfl
theorem qK8:∀(t:Tr) (l:List Nat),(wdn t l).2 <+: l
 |.z,l=>by cases l<;>exact Uj
 |.o,l=>by cases l<;>exact Uj
 |.nd a b c d,[]=>Uj
 |.nd a b c d,x::l=>(List.prefix_cons_inj x).mpr (qK8 _ l)
def dgp (r c k:Nat):Nat->List Nat
 |0=>[]
 |j+1=>(2*(r/2^(k+j)%2)+c/2^(k+j)%2)::dgp r c k j
theorem qA7 (r c k:Nat):∀j,(dgp r c k j).length=j
 |0=>rfl
 |j+1=>by show (dgp r c k j).length+1=_;rw[qA7]
theorem qP9 (r c k:Nat):∀j,∀d∈dgp r c k j,d<4
 |0,d,h=>by cases h
 |j+1,d,h=>by
  rcases Zs.mp h with rfl|h
  ·lia
  ·exact qP9 r c k j d h
theorem q58 (r c k:Nat):∀j,dgp r c 0 (k+j)=dgp r c k j++dgp r c 0 k
 |0=>rfl
 |j+1=>by
  show (2*(r/2^(0+(k+j))%2)+c/2^(0+(k+j))%2)::dgp r c 0 (k+j)=_
  rw[q58 r c k j,Xz]
  rfl
theorem qG8 {r c r' c' k:Nat}(hr:r/2^k=r'/2^k) (hc:c/2^k=c'/2^k):∀j,dgp r c k j=dgp r' c' k j
 |0=>rfl
 |j+1=>by
  show (2*(r/2^(k+j)%2)+c/2^(k+j)%2)::dgp r c k j=_
  have e:∀x:Nat,x/2^(k+j)=x/2^k/2^j:=λx=>by rw[Xl,WV]
  rw[qG8 hr hc j,e r,e c,hr,hc,<- e r',<- e c']
  rfl
theorem qK9 {r c p ρ:Nat}:∀k,(∀j,j<k->r/2^j%2=ρ)->(∀j,j<k->c/2^j%2=p/2^j%2)->dgp r c 0 k=bd (2*ρ) (2*ρ+1) k p
 |0,_,_=>rfl
 |k+1,h1,h2=>by
  show (2*(r/2^(0+k)%2)+c/2^(0+k)%2)::dgp r c 0 k=(if p/2^k%2=0 then 2*ρ else 2*ρ+1)::bd _ _ k p
  rw[Xz,h1 k (by lia),h2 k (by lia),qK9 k (λj hj=>h1 j (by lia)) (λj hj=>h2 j (by lia))]
  congr 1
  split<;>lia
theorem qL0 {r c p γ:Nat}:∀k,(∀j,j<k->c/2^j%2=γ)->(∀j,j<k->r/2^j%2=p/2^j%2)->dgp r c 0 k=bd γ (2+γ) k p
 |0,_,_=>rfl
 |k+1,h1,h2=>by
  show (2*(r/2^(0+k)%2)+c/2^(0+k)%2)::dgp r c 0 k=(if p/2^k%2=0 then γ else 2+γ)::bd _ _ k p
  rw[Xz,h1 k (by lia),h2 k (by lia),qL0 k (λj hj=>h1 j (by lia)) (λj hj=>h2 j (by lia))]
  congr 1
  split<;>lia
theorem qL1 {f:Nat->Nat}{g:Nat->Nat->Nat}(hf:∀x y,x<2->y<2->f (2*x+y)=g x y) (r c k:Nat) (x:Nat) (hx:∀j,g (r/2^(k+j)%2) (c/2^(k+j)%2)=x/2^(k+j)%2):∀j,cof f (k+j) (dgp r c k j)=x/2^k%2^j*2^k
 |0=>by
  have:cof f (k+0) (dgp r c k 0)=0:=by show cof f k []=0;cases k<;>rfl
  rw[this,Nat.pow_zero,Nat.mod_one,Nat.zero_mul]
 |j+1=>by
  show 2^(k+j)*f (2*(r/2^(k+j)%2)+c/2^(k+j)%2)+cof f (k+j) (dgp r c k j)=_
  rw[hf _ _ (by lia) (by lia),hx j,qL1 hf r c k x hx j]
  have e:x/2^(k+j)=x/2^k/2^j:=by rw[Xl,WV]
  rw[e]
  generalize x/2^k=y
  have e2:y%2^(j+1)=y%2^j+2^j*(y/2^j%2):=by rw[Yb,Nat.mod_mul]
  rw[e2,Vo,Xl]
  rw[VB]
  congr 1
  rw[Yl (2^k) (2^j),Yt,Yt,Yl (2^k)]
end Qf
namespace L2
open PySem PySem.Spec PyProof.Rows
theorem xo2 {z:Str}{g:TG}{tb:TS}{D:Ends}{σ:St}{H:Hp}(Pv:Nat->St->Hp->Prop) (h0:Pv 0 σ H)
  (hs:∀i c σ H,z.cps[i]?=some c->Pv i σ H->g (.str ⟨#[c]⟩) σ H λσ2 H2=>tb { D with nx:=Pv (i+1),ct:=Pv (i+1),bk:=D.nx } σ2 H2) (hd:∀σ H,Pv z.cps.size σ H->D.nx σ H) :
  ∃W:Nat->Nat->St->Hp->Prop,(∃m,W 0 m σ H)/\∀i m σ H,W i m σ H ->
   ((Its z).stop i H/\D.nx σ H)\/((Its z).go i H/\∃N:St->Hp->Prop,(∀σ' H',N σ' H'->∃m',m'<m/\W (i+1) m' σ' H')/\∀x H',(Its z).yld i H x H'->g x σ H' λσ2 H2=>tb { D with nx:=N,ct:=N,bk:=D.nx } σ2 H2):=by
 refine⟨λi m σ H=>m=z.cps.size-i/\i<=z.cps.size/\Pv i σ H,⟨z.cps.size,by simp,Zo _,h0⟩,?_⟩
 rintro i m σ H ⟨rfl,hi,p⟩
 by_cases jB:i<z.cps.size
 ·refine .inr ⟨jB,Pv (i+1),λσ' H' p'=>⟨z.cps.size-(i+1),by lia,rfl,jB,p'⟩,λx H' y=>?_⟩
  obtain⟨e,c,e1,e2⟩:=y
  subst e e2
  exact hs i c σ _ e1 p
 ·have e:i=z.cps.size:=by lia
  subst e
  exact .inl ⟨Zd _,hd σ H p⟩
end L2
namespace Pr
open PySem L2 Qf
def txt (ds:List Nat):Str:=⟨(ds.map (48+·)).toArray⟩
theorem qi0 (ds:List Nat):(txt ds).length=ds.length:=by simp[txt,Str.length]
theorem qQ0 (ds:List Nat):(txt ds).cps.size=ds.length:=by simp[txt]
theorem q59 {ds:List Nat}{i c:Nat}(h:(txt ds).cps[i]?=some c):∃d,ds[i]?=some d/\c=48+d:=by
 have hc':(ds.map (48+·))[i]?=some c:=by simpa [txt] using h
 rw[Zg] at hc'
 obtain⟨d,hd,rfl⟩:=Zj.mp hc'
 exact⟨d,hd,rfl⟩
theorem qL2 {d:Nat}(h:d<4):PySem.intText? ⟨#[48+d]⟩=some (d:Int):=by
 match d,h with
 |0,_|1,_|2,_|3,_=>decide +kernel
def four (c:Nat):Bool:=!(Builtin.Str.occurrences "0123" ⟨#[c]⟩ 0 ("0123" : Str).length 1).isEmpty
theorem xd8 {d:Nat}(h:d<4):four (48+d)=true:=by
 match d,h with
 |0,_|1,_|2,_|3,_=>decide +kernel
theorem qA8 {d:Nat}(h:d<4):((toString (d:Int):String):Str)=⟨#[48+d]⟩:=by
 match d,h with
 |0,_|1,_|2,_|3,_=>decide +kernel
theorem xd9 (ds:List Nat):Txt.join "" (ds.map λd=>(⟨#[48+d]⟩:Str))=txt ds:=by
 have hs:PyProof.Rows.signs (txt ds)=ds.map λd=>(⟨#[48+d]⟩:Str):=by simp[PyProof.Rows.signs,txt]
 rw[<- hs]
 have h:=X1.mp (PyProof.Rows.join_closes (sep:= "") (sep':=⟨#[]⟩) (ys:=PyProof.Rows.signs (txt ds)) (by decide +kernel))
 rw[h]
 exact PyProof.Rows.join_nil_signs (txt ds)
def qd (r c k:Nat):Nat:=2*(r/2^k%2)+c/2^k%2
theorem xo3 (r c k:Nat):qd r c k<4:=by unfold qd;lia
theorem qA9 (r k:Nat):Builtin.bitAnd ((r:Int)/2^((k:Nat):Int).toNat) 1=((r/2^k%2:Nat):Int):=by
 rw[PyProof.Rows.bitAnd_m1,Zy]
 have e:((2:Int)^k)=((2^k:Nat):Int):=by simp
 rw[e]
 lia
theorem qv7 (r c k:Nat):∀j,dgp r c k j=(List.range j).map λi=>qd r c (k+j-1-i)
 |0=>rfl
 |j+1=>by
  rw[List.range_succ_eq_map,ZA,YH]
  show qd r c (k+j)::dgp r c k j=_
  rw[qv7 r c k j]
  congr 1
  refine Ym λi _=>?_
  show qd r c (k+j-1-i)=qd r c (k+(j+1)-1-(i+1))
  congr 1
  lia
theorem qv8 {ds:List Nat}{i d:Nat}(h:ds[i]?=some d):ds.take (i+1)=ds.take i++[d]:=by rw[Um,h];rfl
theorem qQ1 {f:Nat->Nat}{n i d:Nat}{ds:List Nat}(h:ds[i]?=some d) (hl:ds.length<=n):cof f n (ds.take (i+1))=cof f n (ds.take i)+2^(n-i-1)*f d:=by
 have hi:=(gS_ h).1
 have ht:(ds.take i).length=i:=by rw[Xm];lia
 rw[qv8 h,qo3 f n _ _ (by lia),ht]
 congr 1
 obtain⟨k,hk⟩:∃k,n-i=k+1:=⟨n-i-1,by lia⟩
 rw[hk]
 show 2^k*f d+cof f k []=_
 have:cof f k []=0:=by cases k<;>rfl
 rw[this]
 rfl
theorem xe0 {n i:Nat}(h:i<n):((2^(n-i):Nat):Int)/2=((2^(n-i-1):Nat):Int):=by
 have e:2^(n-i)=2^(n-i-1)*2:=by
  rw[<- Yb]
  congr 1
  lia
 rw[e]
 lia
theorem qB0 {n:Nat}(h:n<=12):2^n<=4096:=YB (n:=2) (by decide) h
section
variable {P:Program}{w:World}{K:PySem.W.Frag}{mg:Str->Option Value}{base:Heap}
theorem xv8:FnScope ["n"] ["n"] (qa3 q32):=qc6
def q60:Sp:=λvs H Q _=>∃n:Nat,vs=[.int (n:Nat)]/\n<=12/\Q (.int ((2^n:Nat):Int)) H
theorem q61 {f:Addr}{fd:FuncData}(F:Fun K "side_of" "side_of" q32 f fd):FnOk P w K mg base CX0 1 f fd ["n"] q60:=by
 refine F.ok xv8 (λvs H Q E h=>?_) (λcdv A outer s H vs Q E hr h=>?_)
 ·obtain⟨n,rfl,_⟩:=h
  rfl
 ·obtain⟨n,rfl,h1,q⟩:=h
  refine⟨_,qa6 (qa9 (qa5 qi3 qa4 (pv 0))),?_⟩
  refine⟨_,rfl,_,_,rfl,rfl,⟨by lia,by lia,by decide⟩,?_⟩
  show Q (V.int (1*2^((n:Nat):Int).toNat)) H
  rw[Uo,Zy]
  have e:((2:Int)^n)=((2^n:Nat):Int):=by simp
  rw[e]
  exact q
theorem xo4:FnScope ["row", "column", "k"] ["row", "column", "k"] (qa3 qO5):=qc6
def q62:Sp:=λvs H Q _=>∃r c k:Nat,vs=[.int (r:Nat),.int (c:Nat),.int (k:Nat)]/\Q (.int (qd r c k:Nat)) H
theorem xe1 {f:Addr}{fd:FuncData}(F:Fun K "quarter_of" "quarter_of" qO5 f fd):FnOk P w K mg base CX0 1 f fd ["row", "column", "k"] q62:=by
 refine F.ok xo4 (λvs H Q E h=>?_) (λcdv A outer s H vs Q E hr h=>?_)
 ·obtain⟨r,c,k,rfl,_⟩:=h
  rfl
 ·obtain⟨r,c,k,rfl,q⟩:=h
  refine⟨_,qa6 (qa9 (qa5 qd1 (qa5 qf4 qa4 (qa5 qD2 (qa5 qM8 (pv 0) (pv 2)) qa4)) (qa5 qD2 (qa5 qM8 (pv 1) (pv 2)) qa4))),?_⟩
  refine⟨_,rfl,_,rfl,_,_,rfl,rfl,by lia,_,_,rfl,rfl,_,_,rfl,rfl,.inl ⟨by decide,by decide⟩,_,rfl,_,rfl,_,_,rfl,rfl,by lia,_,_,rfl,rfl,_,_,rfl,rfl,?_⟩
  rw[qA9,qA9]
  have e:(2:Int)*((r/2^k%2:Nat):Int)+((c/2^k%2:Nat):Int)=((qd r c k:Nat):Int):=by unfold qd;lia
  have qq:=q
  rw[<- e] at qq
  exact qq
theorem scAddr:FnScope ["n", "thing"] ["n", "thing"] (qa3 q31):=qc6
def xj1:Sp:=λvs H Q _=>∃(n:Nat) (ds:List Nat),vs=[.int (n:Nat),.str (txt ds)]/\n<=12/\(∀d∈ds,d<4)/\ds.length<=n/\∀H',Same H H'->Q (.bl true) H'
theorem xo5 {f:Addr}{fd:FuncData}(F:Fun K "is_address" "is_address" q31 f fd) (B:Blt mg) (kB:mg "str" = none):FnOk P w K mg base CX0 2 f fd ["n", "thing"] xj1:=by
 refine F.ok scAddr (λvs H Q E h=>?_) (λcdv A outer s H vs Q E hr h=>?_)
 ·obtain⟨n,x,rfl,_⟩:=h
  rfl
 ·obtain⟨n,ds,rfl,hn,jO,hl,q⟩:=h
  refine⟨_,qa6 (qa9 (qi2 (qa8 qk0 (by rfl) B.isi Yr (qa0 (pv 1) (qa0 (qn5 (v:=.ty "str") (by rfl) kB Ve rfl) qa1)))
   (qi2 (qf5 qq0 (qa8 qp2 (by rfl) B.len YA (qa0 (pv 1) qa1)) (pv 0) (qb5 _))
   (ql7 (qa8 (qt5 rfl) (by rfl) B.all Vb (qa0 (qe7 ["n", "thing"] (qa3 q31) rfl rfl rfl scAddr.nd (xi3 (pv 1)) (λcl C fp s₀ H₀=>qf5 qX4 (pv 0) qM7 (by first|exact qb5 _|rfl|decide))) qa1)))))),?_⟩
  have wQ:(txt ds).cps.size=ds.length:=qQ0 ds
  refine⟨_,rfl,_,_,_,_,true,rfl,rfl,.inl (.str _),rfl,_,rfl,iteT ?_⟩
  refine⟨_,rfl,txt ds,rfl,by rw[qi0];exact Xk (qc4 (by lia)),_,rfl,_,_,rfl,rfl,_,rfl,?_⟩
  rw[qi0,Zk (by lia)]
  refine iteT ?_
  refine⟨_,rfl,txt ds,rfl,λD hD=>⟨λi m xs H2=>i<=ds.length/\m=ds.length-i/\xs=(List.replicate i true).map V.bl/\H2=upd H D (.lst xs),⟨_,Zo _,rfl,rfl,rfl⟩,?_⟩⟩
  rintro i m xs H2 ⟨hi,rfl,rfl,rfl⟩
  refine⟨qa2,qc4 (by simp;lia),?_⟩
  by_cases he:i=ds.length
  ·refine .inl ⟨by show (txt ds).cps.size<=i;lia,D,List.replicate i true,rfl,qa2,?_⟩
   have e1:(List.replicate i true).all id=true:=by simp
   rw[e1]
   exact q _ λb o e=>by rw[qb2 (qa7 e hD)];exact e
  ·refine .inr ⟨show i<(txt ds).cps.size by lia,?_⟩
   rintro y H3 ⟨rfl,c,hcc,rfl⟩
   obtain⟨d,hd,rfl⟩:=q59 hcc
   refine⟨_,rfl,_,_,rfl,rfl,qa2,ds.length-(i+1),by lia,by lia,rfl,?_,qW1⟩
   have e4:(!(Builtin.Str.occurrences "0123" ⟨#[48+d]⟩ 0 ("0123" : Str).length 1).isEmpty)=true:=xd8 (jO d (Zv hd))
   rw[e4,List.replicate_succ',ZU]
   rfl
theorem xo6:FnScope ["n", "address"] ["n", "address"] (qa3 qO4):=qc6
def q63:Sp:=λvs H Q _=>∃(n:Nat) (ds:List Nat),vs=[.int (n:Nat),.str (txt ds)]/\n<=12/\(∀d∈ds,d<4)/\ds.length<=n/\∀H',Same H H'->Q .non H'
theorem xe2 {f fA:Addr}{fd fdA:FuncData}(F:Fun K "want_address" "want_address" qO4 f fd) (hA:mg "is_address" = some (.ref fA)) (FA:Fun K "is_address" "is_address" q31 fA fdA) (bA:Binds K fdA ["n", "thing"] []) (GA:FnOk P w K mg base CX0 2 fA fdA ["n", "thing"] xj1) :
  FnOk P w K mg base CX0 3 f fd ["n", "address"] q63:=by
 refine F.ok xo6 (λvs H Q E h=>?_) (λcdv A outer s H vs Q E hr h=>?_)
 ·obtain⟨n,x,rfl,_⟩:=h
  rfl
 ·obtain⟨n,ds,rfl,hn,jO,hl,q⟩:=h
  refine⟨_,qa6 (qd8 (qi9 (qf9 (pcN GA hr hA FA.kp bA (qa0 (pv 0) (qa0 (pv 1) qa1))))) qg5 qb3),?_⟩
  exact⟨_,rfl,_,rfl,n,ds,rfl,hn,jO,hl,λH' sm=>⟨_,rfl,iteF (q H' sm)⟩⟩
theorem scCell:FnScope ["n", "row", "column", "side"] ["n", "row", "column"] (qa3 xb9):=qc6
def xj2:Sp:=λvs H Q _=>∃(n:Nat) (r c:Int),vs=[.int (n:Nat),.int r,.int c]/\n<=12/\Q (.bl (decide ((0<=r/\r<((2^n:Nat):Int))/\0<=c/\c<((2^n:Nat):Int)))) H
theorem xo7 {f fW fS:Addr}{fd fdW fdS:FuncData}(F:Fun K "is_cell" "is_cell" xb9 f fd) (B:Blt mg) (hW:mg "is_whole" = some (.ref fW)) (FW:Fun K "is_whole" "is_whole" qt9 fW fdW) (bW:Binds K fdW ["thing"] [])
  (hS:mg "side_of" = some (.ref fS)) (FS:Fun K "side_of" "side_of" q32 fS fdS) (bS:Binds K fdS ["n"] []):FnOk P w K mg base CX0 2 f fd ["n", "row", "column"] xj2:=by
 have GW:FnOk P w K mg base CX0 1 fW fdW ["thing"] qu5:=qr2 FW B
 have GS:FnOk P w K mg base CX0 1 fS fdS ["n"] q60:=q61 FS
 refine F.ok scCell (λvs H Q E h=>?_) (λcdv A outer s H vs Q E hr h=>?_)
 ·obtain⟨n,x,y,rfl,_⟩:=h
  rfl
 ·obtain⟨n,r,c,rfl,hn,q⟩:=h
  refine⟨_,qb0 (psN 3 scCell.nd (pcN GS hr hS FS.kp bS (qa0 (pv 0) qa1)))
   (qa6 (qa9 (qi2 (pcN GW hr hW FW.kp bW (qa0 (pv 1) qa1))
    (qi2 (pcN GW hr hW FW.kp bW (qa0 (pv 2) qa1))
    (qi2 (qq4 qq0 qh3 qa4 (pv 1) (pv 3)) (ql7 (qq4 qq0 qh3 qa4 (pv 2) (pv 3)))))))),?_⟩
  refine⟨_,rfl,n,rfl,hn,?_⟩
  refine⟨_,rfl,r,rfl,_,rfl,iteT ?_⟩
  refine⟨_,rfl,c,rfl,_,rfl,iteT ?_⟩
  refine⟨_,rfl,_,_,rfl,rfl,_,rfl,?_⟩
  generalize ((2^n:Nat):Int)=m at q ⊢
  have q':Q (.bl ((decide (0<=r)&&decide (r<m))&&(decide (0<=c)&&decide (c<m)))) H:=by
   simpa only [Bool.decide_and] using q
  refine ite2 (λa1=>⟨_,rfl,_,_,rfl,rfl,_,rfl,?_⟩) (λa1=>⟨_,rfl,iteF ?_⟩)
  ·rw[a1,Bool.true_and] at q'
   refine ite2 (λa2=>⟨_,rfl,_,_,rfl,rfl,_,rfl,?_⟩) (λa2=>?_)
   ·rw[a2,Bool.true_and] at q'
    refine ite2 (λa3=>⟨_,rfl,_,_,rfl,rfl,?_⟩) (λa3=>?_)
    ·rw[a3,Bool.true_and] at q'
     exact q'
    ·rw[Yj.mpr a3,Wg] at q'
     exact q'
   ·rw[Yj.mpr a2,Wg] at q'
    exact q'
  ·rw[Yj.mpr a1,Wg,Wg] at q'
   exact q'
theorem scBoxAt:FnScope ["n", "address", "row", "column", "side", "figure"] ["n", "address"] (qa3 qO6):=qc6
abbrev rwo (n:Nat) (ds:List Nat):Nat:=cof (· / 2) n ds
abbrev clo (n:Nat) (ds:List Nat):Nat:=cof (·%2) n ds
def q64:Sp:=λvs H Q _=>∃(n:Nat) (ds:List Nat),vs=[.int (n:Nat),.str (txt ds)]/\n<=12/\(∀d∈ds,d<4)/\ds.length<=n /\
 ∀p,H p=none->Q (.ref p) (upd H p (.tup (vN [rwo n ds,clo n ds,2^(n-ds.length)])))
theorem xe3 {f fS:Addr}{fd fdS:FuncData}(F:Fun K "box_at" "box_at" qO6 f fd) (B:Blt mg)
  (hS:mg "side_of" = some (.ref fS)) (FS:Fun K "side_of" "side_of" q32 fS fdS) (bS:Binds K fdS ["n"] []):FnOk P w K mg base CX0 2 f fd ["n", "address"] q64:=by
 have GS:FnOk P w K mg base CX0 1 fS fdS ["n"] q60:=q61 FS
 refine F.ok scBoxAt (λvs H Q E h=>?_) (λcdv A outer s H vs Q E hr h=>?_)
 ·obtain⟨m,ds,rfl,_⟩:=h
  rfl
 ·obtain⟨n,ds,rfl,hn,jO,hl,q⟩:=h
  refine⟨_,(qb0 (xm9 qa4 (pgN 2 scBoxAt.nd) (pgN 3 scBoxAt.nd))
   (qb0 (psN 4 scBoxAt.nd (pcN GS hr hS FS.kp bS (qa0 (pv 0) qa1)))
   (qb0 (qk6 YO rfl (xi3 (pv 1)) (pgN 5 scBoxAt.nd)
    (qb0 (psN 4 scBoxAt.nd (qa5 qg3 (pv 4) qa4))
    (qb0 (xh5 (i:=2) scBoxAt.nd rfl (Or.inl rfl) (qa5 qf4 (pv 4) (qa5 qg3 (qc3 qt6 (by rfl) B.int Xu (qa0 (pv 5) qa1)) qa4)) qW9)
    (qa6 (xh5 (i:=3) scBoxAt.nd rfl (Or.inl rfl) (qa5 qf4 (pv 4) (qa5 qD2 (qc3 qt6 (by rfl) B.int Xu (qa0 (pv 5) qa1)) qa4)) qW9)))))
   (qa6 (qa9 (qi4 (qa0 (pv 2) (qa0 (pv 3) (qa0 (pv 4) qa1)))))))) ),?_⟩
  refine⟨_,rfl,n,rfl,hn,?_⟩
  have c0:∀g:Nat->Nat,cof g n []=0:=λg=>by cases n<;>rfl
  refine⟨_,rfl,txt ds,rfl,xo2 (λi σ H2=>H2=H/\∃v,σ=[some (.int (n:Nat)),some (.str (txt ds)),some (.int ((rwo n (ds.take i):Nat):Int)),some (.int ((clo n (ds.take i):Nat):Int)),some (.int ((2^(n-i):Nat):Int)),v]) ⟨rfl,none,by
   rw[W3]
   show _=[some (V.int (n:Nat)),some (.str (txt ds)),some (.int ((cof (· / 2) n []:Nat):Int)),some (.int ((cof (·%2) n []:Nat):Int)),some (.int ((2^(n-0):Nat):Int)),none]
   rw[c0,c0]
   rfl⟩ ?_ ?_⟩
  ·rintro i c σ H2 hc ⟨rfl,v,rfl⟩
   obtain⟨d,hd,rfl⟩:=q59 hc
   have hi:=(gS_ hd).1
   have jY:d<4:=jO d (Zv hd)
   have h1:rwo n (ds.take (i+1))=rwo n (ds.take i)+2^(n-i-1)*(d/2):=qQ1 hd hl
   have h2:clo n (ds.take (i+1))=clo n (ds.take i)+2^(n-i-1)*(d%2):=qQ1 hd hl
   have h3:=xe0 (n:=n) (i:=i) (by lia)
   have h4:2^(n-i-1)<=4096:=qB0 (by lia)
   have hb4:-(2^64)<((2^(n-i):Nat):Int)/2/\((2^(n-i):Nat):Int)/2<2^64:=by
    rw[h3]
    generalize 2^(n-i-1)=x at h4
    lia
   refine⟨_,rfl,_,_,rfl,rfl,⟨by decide,by decide⟩,?_⟩
   refine⟨_,rfl,_,rfl,_,rfl,_,d,rfl,qL2 jY,(by show 1<=640;decide),_,_,rfl,rfl,⟨by decide,by decide⟩,_,_,rfl,rfl,.inl hb4,_,_,rfl,rfl,?_⟩
   refine⟨_,rfl,_,rfl,_,rfl,_,d,rfl,qL2 jY,(by show 1<=640;decide),_,_,rfl,rfl,_,_,rfl,rfl,.inl hb4,_,_,rfl,rfl,?_⟩
   refine⟨rfl,some (.str ⟨#[48+d]⟩),?_⟩
   rw[h1,h2]
   have e1:((rwo n (ds.take i):Nat):Int)+((2^(n-i-1):Nat):Int)*((d:Int)/2)=((rwo n (ds.take i)+2^(n-i-1)*(d/2):Nat):Int):=by
    rw[Vu,X9,Wy]
    rfl
   have e2:((clo n (ds.take i):Nat):Int)+((2^(n-i-1):Nat):Int)*Builtin.bitAnd (d:Int) 1=((clo n (ds.take i)+2^(n-i-1)*(d%2):Nat):Int):=by
    rw[PyProof.Rows.bitAnd_m1,Vu,X9,Wz]
    rfl
   rw[<- e1,<- e2,show n-(i+1)=n-i-1 from by lia,<- h3]
   rfl
  ·rintro σ H2 ⟨rfl,v,rfl⟩
   refine⟨_,rfl,_,rfl,_,rfl,(by show 3<=sizeLine;decide),λp wD=>?_⟩
   have e:ds.take (txt ds).cps.size=ds:=Yc (by simp[txt])
   rw[e,qQ0]
   exact q p wD
theorem scAddrAt:FnScope ["n", "row", "column", "size"] ["n", "row", "column", "size"] (qa3 qu0):=qc6
def qQ2:Sp:=λvs H Q _=>∃n k r c:Nat,vs=[.int (n:Nat),.int (r:Nat),.int (c:Nat),.int (k:Nat)]/\n<=12/\k<=n/\∀H',Same H H'->Q (.str (txt (dgp r c k (n-k)))) H'
theorem q65 {f fQ:Addr}{fd fdQ:FuncData}(F:Fun K "address_at" "address_at" qu0 f fd) (B:Blt mg) (kB:mg "str" = none)
  (hQ:mg "quarter_of" = some (.ref fQ)) (FQ:Fun K "quarter_of" "quarter_of" qO5 fQ fdQ) (bQ:Binds K fdQ ["row", "column", "k"] []):FnOk P w K mg base CX0 2 f fd ["n", "row", "column", "size"] qQ2:=by
 have GQ:FnOk P w K mg base CX0 1 fQ fdQ ["row", "column", "k"] q62:=xe1 FQ
 refine F.ok scAddrAt (λvs H Q E h=>?_) (λcdv A outer s H vs Q E hr h=>?_)
 ·obtain⟨m,j,r,c,rfl,_⟩:=h
  rfl
 ·obtain⟨n,k,r,c,rfl,hn,hk,q⟩:=h
  refine⟨_,qa6 (qa9 (qK0 PySem.F.plainAttrs_str PySem.F.slot_str_join PySem.F.type_str_join xm6 qM7 (qa0 (qe7 ["n", "row", "column", "size"] (qa3 qu0) rfl rfl rfl scAddrAt.nd
    (q28 (by rfl) B.range (qa0 (qa5 qf0 (pv 0) qa4) (qa0 (qa5 qf0 (pv 3) qa4) (qa0 (xk3 qX0 qa4) qa1))))
    (λcl C fp s₀ H₀=>qc3 qp1 (by rfl) kB Ve (qa0 (pcN GQ hr hQ FQ.kp bQ (qa0 (pv 2) (qa0 (pv 3) (qa0 (pv 0) qa1)))) qa1))) qa1))),?_⟩
  refine⟨rfl,?_⟩
  refine⟨_,rfl,_,_,rfl,rfl,_,rfl,_,_,rfl,rfl,_,rfl,(n:Int)-1,(k:Int)-1,rfl,⟨by lia,by lia,by lia,by lia⟩,λD hD=>?_⟩
  have eN:((n:Int)-1-((k:Int)-1)).toNat=n-k:=by lia
  rw[eN]
  rw[qv7] at q
  generalize hNn:n-k=NN at q ⊢
  have eq0:∀i,i<NN->qd r c (k+NN-1-i)=qd r c ((n:Int)-1-(i:Int)).toNat:=λi hi=>by congr 1;lia
  refine⟨λi cnt xs H2=>i<=NN/\cnt=NN-i/\xs=((List.range i).map λi=>qd r c (k+NN-1-i)).map (λd=>V.str ⟨#[48+d]⟩)/\H2=upd H D (.lst xs),⟨_,Zo _,rfl,rfl,rfl⟩,?_⟩
  rintro i cnt xs H2 ⟨hi,rfl,rfl,rfl⟩
  refine⟨qa2,qc4 (by simp;lia),?_⟩
  by_cases he:i=NN
  ·subst he
   refine .inl ⟨Zd _, "",D,((List.range i).map λj=>qd r c (k+i-1-j)).map (λd=>(⟨#[48+d]⟩:Str)),rfl,rfl,?_,?_,?_⟩
   ·rw[qa2]
    simp only[YH]
    rfl
   ·have e1:∀l:List Nat,((l.map (λd=>(⟨#[48+d]⟩:Str))).map (·.length)).sum=l.length:=λl=>by
     induction l with
     |nil=>rfl
     |cons a l ih=>
      rw[ZA,ZA,Wb,ih,ZQ]
      show 1+l.length=l.length+1
      lia
    rw[e1]
    have e3:("" : Str).length=0:=by decide +kernel
    rw[e3,Zf,Yx]
    lia
   ·rw[xd9]
    exact q _ λb o e=>by rw[qb2 (qa7 e hD)];exact e
  ·refine .inr ⟨show i<NN by lia,?_⟩
   rintro yv H3 ⟨rfl,rfl⟩
   have hk0:(n:Int)-1-(i:Int)=(((n:Int)-1-(i:Int)).toNat:Int):=by lia
   refine⟨_,rfl,_,rfl,_,rfl,r,c,((n:Int)-1-(i:Int)).toNat,by rw[<- hk0];rfl,_,rfl,?_,qa2,NN-(i+1),by lia,by lia,rfl,?_,qW1⟩
   ·have:=xo3 r c ((n:Int)-1-(i:Int)).toNat
    generalize qd r c ((n:Int)-1-(i:Int)).toNat=d at this
    match d,this with
    |0,_|1,_|2,_|3,_=>decide +kernel
   ·rw[qA8 (xo3 _ _ _),Xi,ZU,ZU,<- eq0 i (by lia)]
    rfl
end
end Pr
namespace Qf
open Tr
theorem qL3 (a b:Nat):∀(k k':Nat) (t:Tr),a<4->b<4->dep t<=k->dep t<=k'->lvs a b k t=lvs a b k' t
 |_,_,.z,_,_,_,_=>by rw[qe0 (.inl rfl),qe0 (.inl rfl)]
 |_,_,.o,_,_,_,_=>by rw[qe0 (.inr rfl),qe0 (.inr rfl)]
 |0,_,.nd p q r s,_,_,h,_=>by rcases dep0 h with z|z<;>cases z
 |_+1,0,.nd p q r s,_,_,_,h=>by rcases dep0 h with z|z<;>cases z
 |k+1,k'+1,.nd p q r s,ha,hb,h,h'=>by
  show (lvs a b k (qr a (.nd p q r s))).map (a::·)++(lvs a b k (qr b (.nd p q r s))).map (b::·)=(lvs a b k' (qr a (.nd p q r s))).map (a::·)++(lvs a b k' (qr b (.nd p q r s))).map (b::·)
  rw[qL3 a b k k' _ ha hb (qi6 ha _ h) (qi6 ha _ h'),qL3 a b k k' _ ha hb (qi6 hb _ h) (qi6 hb _ h')]
theorem qQ3:∀(t:Tr) (ds:List Nat) (k:Nat),(∀d∈ds,d<4)->dep t<=k+ds.length->(wdn t ds).2=ds->dep (wdn t ds).1<=k
 |t,[],k,_,h,_=>by rw[ql5];exact h
 |.z,x::ds,k,_,_,e=>by cases e
 |.o,x::ds,k,_,_,e=>by cases e
 |.nd a b c e,x::ds,k,hd,h,h2=>by
  have h3:(wdn (qr x (.nd a b c e)) ds).2=ds:=by
   have:x::(wdn (qr x (.nd a b c e)) ds).2=x::ds:=h2
   injection this
  exact qQ3 (qr x (.nd a b c e)) ds k (λd hm=>hd d (Zn _ hm)) (qi6 (k:=k+ds.length) (hd x (by simp)) _ h) h3
theorem qB1 {f:Nat->Nat}(hf:∀d,d<4->f d<=1):∀(ds:List Nat) (n:Nat),(∀d∈ds,d<4)->ds.length<=n->∃q,cof f n ds=2^(n-ds.length)*q/\q<2^ds.length
 |[],n,_,_=>⟨0,by cases n<;>rfl,by simp⟩
 |d::ds,0,_,h=>by simp at h
 |d::ds,n+1,hd,h=>by
  have h':ds.length<=n:=by simpa using h
  obtain⟨q,e,hq⟩:=qB1 hf ds n (λx hx=>hd x (Zn _ hx)) h'
  refine⟨2^ds.length*f d+q,?_,?_⟩
  ·show 2^n*f d+cof f n ds=2^(n+1-(ds.length+1))*_
   rw[e,Vd,Wi,<- Yt,<- Xl,Nat.sub_add_cancel h']
  ·have:=hf d (hd d (by simp))
   show _<2^(ds.length+1)
   rw[Yb]
   have h2:2^ds.length*f d<=2^ds.length*1:=WC _ this
   lia
theorem qn0 {f:Nat->Nat}(hf:∀d,d<4->f d<=1){ds:List Nat}{n:Nat}(hd:∀d∈ds,d<4) (h:ds.length<=n):cof f n ds+2^(n-ds.length)<=2^n:=by
 obtain⟨q,e,hq⟩:=qB1 hf ds n hd h
 have e2:2^n=2^(n-ds.length)*2^ds.length:=by rw[<- Xl,Nat.sub_add_cancel h]
 rw[e,e2,<- W4]
 exact WC _ hq
theorem qv9:∀d,d<4->d/2<=1:=λd h=>by lia
theorem qG9:∀d,d<4->d%2<=1:=λd h=>by lia
theorem q66 {k i:Nat}(c y:Nat) (h:i<k):(2^k*c+y)/2^i%2=y/2^i%2:=by
 obtain⟨j,rfl⟩:∃j,k=i+(j+1):=⟨k-i-1,by lia⟩
 have e:2^(i+(j+1))*c+y=y+2^i*(2*(2^j*c)):=by
  rw[Xl,Yb,VB]
  congr 1
  rw[Yt,Yl (2^j) 2,Yt]
 rw[e,Nat.add_mul_div_left _ _ (Z7 (by decide))]
 lia
theorem qQ4 {k i:Nat}(h:i<k):(2^k-1)/2^i%2=1:=by
 have h1:=Nat.testBit_two_pow_sub_one k i
 rw[Zk h,Nat.testBit_eq_decide_div_mod_eq] at h1
 exact ZB h1
theorem qQ5 {k:Nat}(c y:Nat) (h:y<2^k):(2^k*c+y)/2^k=2^k*c/2^k:=by
 rw[Uk (Z7 (by decide)),Xn h,Wu,WR _ (Z7 (by decide))]
theorem q67 (k r c x y:Nat):∀j,j<=k->dgp (2^k*r+x) (2^k*c+y) 0 j=dgp x y 0 j
 |0,_=>rfl
 |j+1,h=>by
  show (2*((2^k*r+x)/2^(0+j)%2)+(2^k*c+y)/2^(0+j)%2)::dgp (2^k*r+x) (2^k*c+y) 0 j=(2*(x/2^(0+j)%2)+y/2^(0+j)%2)::dgp x y 0 j
  rw[Xz,q66 r x (by lia),q66 c y (by lia),q67 k r c x y j (by lia)]
theorem qr5 {k m r c x y:Nat}(hx:x<2^k) (hy:y<2^k):dgp (2^k*r+x) (2^k*c+y) 0 (k+m)=dgp (2^k*r) (2^k*c) k m++dgp x y 0 k:=by
 rw[q58,q67 k r c x y k (Zd _),qG8 (qQ5 r x hx) (qQ5 c y hy)]
theorem qQ6 (i:Nat):0/2^i%2=0:=by rw[Nat.zero_div]
theorem xA8 (k j:Nat):dgp (2^k-1) j 0 k=bd 2 3 k j:=qK9 (ρ:=1) k (λi hi=>qQ4 hi) (λi _=>rfl)
theorem xA9 (k j:Nat):dgp 0 j 0 k=bd 0 1 k j:=qK9 (ρ:=0) k (λi _=>qQ6 i) (λi _=>rfl)
theorem xB0 (k j:Nat):dgp j 0 0 k=bd 0 2 k j:=qL0 (γ:=0) k (λi _=>qQ6 i) (λi _=>rfl)
theorem xB1 (k j:Nat):dgp j (2^k-1) 0 k=bd 1 3 k j:=qL0 (γ:=1) k (λi hi=>qQ4 hi) (λi _=>rfl)
theorem xe4 {k m r c:Nat}(hr:r<2^m):cof (· / 2) (k+m) (dgp (2^k*r) (2^k*c) k m)=2^k*r:=by
 rw[qL1 (g:=λx _=>x) (λx y hx hy=>by show (2*x+y)/2=x;lia) (2^k*r) (2^k*c) k (2^k*r) (λj=>rfl) m]
 rw[WR _ (Z7 (by decide)),YG hr,Yl]
theorem xe5 {k m r c:Nat}(hc:c<2^m):cof (·%2) (k+m) (dgp (2^k*r) (2^k*c) k m)=2^k*c:=by
 rw[qL1 (g:=λ_ y=>y) (λx y hx hy=>by show (2*x+y)%2=y;lia) (2^k*r) (2^k*c) k (2^k*c) (λj=>rfl) m]
 rw[WR _ (Z7 (by decide)),YG hc,Yl]
theorem qL4 {t:Tr}{q l:List Nat}:(wdn t (q++l)).2=(wdn t q).2++(wdn (wdn t q).1 l).2:=by
 rcases qh9 t q l with ⟨h1,h2⟩|⟨h1,h2⟩
 ·rw[h2,h1]
 ·rw[h2,qd7 h1];simp
end Qf
namespace L2
open PySem PySem.Spec PyProof.Rows
def ItEs (z:Str):It:=⟨λi _=>i<z.cps.size,λi H y H'=>∃p c,H p=none/\z.cps[i]?=some c/\H'=upd H p (.tup [.int i,.str ⟨#[c]⟩])/\y=.ref p,λi _=>z.cps.size<=i⟩
theorem qU9 {P:Program}{w:World}{K:PySem.W.Frag}{elts:List Expr}{x1:Nat}{tpos:Pos}(z:Str) (t:Tok) (e it:Addr) (jJ:e≠it) :
  Turn P w K (.Tuple elts x1 tpos) (ItEs z) [e,it] e (λi h=>i<=z.cps.size/\(∃old,IsEnum h e it i old)/\h.IsStrIter it "str_ascii_iterator" z t i) where
 mem:=by simp
 obj:=λi h st b hb=>by
  rcases Zs.mp hb with rfl|hb
  ·obtain⟨_,⟨old,z⟩,_⟩:=st
   exact⟨_,z,λv q=>by
    have q':Data.fields _=Data.cell v:=q
    cases q'⟩
  ·have:b=it:=by simpa using hb
   subst this
   obtain⟨_,_,o,z,_,d⟩:=st
   exact⟨o,z,λv q=>by rw[d] at q;cases q⟩
 keep:=λi h h' st k=>by
  obtain⟨hi,⟨old,z⟩,o,q,r⟩:=st
  exact⟨hi,⟨old,k e (by simp) _ z⟩,o,k it (by simp) o q,r⟩
 item:=by
  intro X hP hw hK hc i j8 s σ H E I hf st hg
  subst hP hw hK
  obtain⟨hi,⟨old,he⟩,st2⟩:=st
  obtain⟨e0,e1,e2,e3,e4,e5⟩:=hf e (by simp)
  obtain⟨f0,f1,f2,f3,f4,f5⟩:=hf it (by simp)
  have hg':i<z.cps.size:=hg
  have D:=Draws.strAscii (prog:=X.prog) (w:=X.w) (A:=X.A.in1) (show X.A.in1.handled=none from I.ok.hd hc) it z t
  refine wpAny_pyNext_enum_itemD D he st2 hg' jJ (by simpa using jJ) λx h' tk hx ho st3 ht hsz kp=>?_
  obtain⟨c,u,hcc,rfl⟩:=hx
  refine⟨_,rfl,wpAny_letOwnedTupleGo_enum ho λh2 kY sb2=>?_⟩
  have elt:e<s.heap.objs.size:=Zi he
  have ilt:it<s.heap.objs.size:=by obtain⟨o,z,_⟩:=st2;exact Zi z
  have fresh:H s.heap.objs.size=none:=I.hok.fresh (Zd _)
  have J0:Inv X j8 σ (upd H s.heap.objs.size (.tup [.int i,.str ⟨#[c]⟩])) { s with heap:=s.heap.push { cls:=.type "tuple",data:=.seq #[.int i tk,.str ⟨#[c]⟩ u] },toks:=tk+1 }:=
   I.laid (λb o q=>Zc _ q) (Zd _) ⟨by show 2<=sizeLine;decide,[.int i tk,.str ⟨#[c]⟩ u],.cons ⟨_,rfl⟩ (.cons ⟨_,rfl⟩ .nil),_,Zh _ rfl,rfl,⟨_,rfl⟩,rfl⟩
  have ne1:(upd H s.heap.objs.size (.tup [.int i,.str ⟨#[c]⟩])) it=none:=by rw[qb2 (Zl ilt)];exact f0
  have ne2:(upd H s.heap.objs.size (.tup [.int i,.str ⟨#[c]⟩])) e=none:=by rw[qb2 (Zl elt)];exact e0
  have J1:=J0.turned (it:=it) (h':=h'.update e λ_=>{ cls:=.type "enumerate",dict:=none,data:=.fields #[.none,.bool false,.ref it,rawInt i,.none,old],slots:=#[] }) (t':=tk+1) (λb o hb q=>by
    have q:(s.heap.push { cls:=.type "tuple",data:=.seq #[.int i tk,.str ⟨#[c]⟩ u] }).get? b=some o:=q
    by_cases kJ:b=e
    ·subst kJ
     have q':s.heap.get? b=some o:=qz8 q elt
     rw[he] at q'
     cases q'
     exact ZY _ ho rfl
    ·refine ((ZV ..).2 b kJ).trans ?_
     by_cases jB:b<s.heap.objs.size
     ·exact kp b o kJ hb (qz8 q jB)
     ·have jW:b<s.heap.objs.size+1:=by have:=Zi q;rw[Yh] at this;exact this
      have eb:b=s.heap.objs.size:=WL (VU jW) (Vj jB)
      subst eb
      rw[Zh _ rfl] at q
      cases q
      exact ht) ne1 f1 f3 f4 f5
  have J2:=J1.turned (it:=e) (h':=h') (t':=tk+1) (λb o hb q=>by
    rw[<- q]
    exact ((ZV ..).2 b hb).symm) ne2 e1 e3 e4 e5
  have J3:=J2.turned (it:=e) (h':=h2) (t':=tk+1) (λb o hb q=>(sb2.2 b hb).trans q) ne2 e1 e3 e4 e5
  refine⟨.ref s.heap.objs.size,_,J3,rfl,⟨_,c,fresh,hcc,rfl,rfl⟩,⟨hg',⟨_,by
   have:(((i+1:Nat)):Int)=(i:Int)+1:=by lia
   rw[this];exact kY⟩,?_⟩,λb hb=>?_⟩
  ·obtain⟨o,q,r⟩:=st3
   exact⟨o,(sb2.2 it (Xr jJ)).trans q,r⟩
  ·rcases Zs.mp hb with rfl|hb
   ·exact ne2
   ·have:b=it:=by simpa using hb
    subst this
    exact ne1
 done:=by
  intro X hP hw hK hc i j8 s σ H E I hf st hg
  subst hP hw hK
  obtain⟨hi,⟨old,he⟩,st2⟩:=st
  obtain⟨f0,f1,f2,f3,f4,f5⟩:=hf it (by simp)
  have hi:i=z.cps.size:=WL hi hg
  subst hi
  have D:=Draws.strAscii (prog:=X.prog) (w:=X.w) (A:=X.A.in1) (show X.A.in1.handled=none from I.ok.hd hc) it z t
  exact wpAny_pyNext_enum_endD D he st2 λh' eb=>⟨rfl,I.turned (t':=s.toks) (λb o hb e=>eb b o hb e) f0 f1 f3 f4 f5⟩
 self:=λ_ _ _ _ _ st h=>by
  obtain⟨_,⟨old,he⟩,_⟩:=st
  exact W1 he h
section
variable {X:Cx}{elts:List Expr}{x1:Nat}{tpos:Pos}
def xv9 (ta:TA):TI:=λσ H R=>ta σ H λvs H1=>∃z:Str,vs=[.str z]/\z.cps.all (·<128)=true/\R (ItEs z) H1
theorem xe6 {e:Expr}{ta:TA}{p pos:Pos}(hg:Gl X "enumerate") (hm:X.mg "enumerate" = none) (ha:PA X [e] ta) (hs:starEach [e] X.env=[(false,eval e X.env)]:=by rfl):PI X (.Tuple elts x1 tpos) (.Call (.Name "enumerate" p) [e] [] pos) (xv9 ta):=by
 intro j8 s σ H R I h
 refine Call_ (qs0 I hg hm VA (YU (thn (ha pos j8 s σ H _ I h) λus s1 ⟨vs,H1,I1,r1,q1⟩=>?_) hs rfl))
 obtain⟨z,rfl,hz,q⟩:=q1
 obtain⟨u,rfl,ru⟩:=qe9 r1
 obtain⟨t,rfl⟩:=ru
 refine call_enumerate_str λh' he st _ kp=>?_
 have ek:strIterType z = "str_ascii_iterator":=by unfold strIterType;rw[Zz hz]
 rw[ek] at st
 refine W1 he ?_
 have J:Inv X j8 σ H1 { s1 with heap:=h' }:=I1.kept (t':=s1.toks) kp
 refine⟨s1.heap.objs.size+1,[s1.heap.objs.size+1,s1.heap.objs.size],_,_,H1,rfl,J,qU9 z t _ _ (Nat.succ_ne_self _),⟨Zo _,⟨.none,he⟩,st⟩,λb hb=>?_,q⟩
 rcases Zs.mp hb with rfl|hb
 ·exact I1.fpOk (Wm _) (I1.hok.fresh (Wm _))
 ·have:b=s1.heap.objs.size:=by simpa using hb
  subst this
  exact I1.fpOk (Zd _) (I1.hok.fresh (Zd _))
theorem q68:MtR X "str.startswith" (λx xs H Q=>∃(a y:Str),x=.str a/\xs=[.str y]/\Q (.bl (Txt.startswith a y)) H):=by
 intro j8 s σ H x xs v us Q I rx rv h
 obtain⟨a,y,rfl,rfl,q⟩:=h
 obtain⟨t,rfl⟩:=rx
 obtain⟨u,rfl,ru⟩:=rv.one
 obtain⟨t2,rfl⟩:=ru
 exact SC.startswith ⟨.bl _,H,I,rfl,q⟩
theorem xe7:SlR X (λx lo hi H Q=>∃(z:Str) (j:Int),x=.str z/\lo=none/\hi=some j/\z.length<=sizeLine/\Q (.str (Txt.slice z none (some j))) H):=by
 intro j8 s σ H x v vl vu lo hi sl Q I rx hs pl pu h
 obtain⟨z,j,rfl,rfl,rfl,hz,q⟩:=h
 obtain⟨t,rfl⟩:=rx
 cases pl
 cases pu with
 |int i uj=>
  refine⟨"str",_,F.slot_str_getitem.lookup,typeIs_str _ _ _,wpAny_getItem_str_slice (l:=none) (u:=some (j,uj)) (st:=none) hs rfl (post_val_or_str ⟨ZE (Txt.slice_le z _ _) hz,λt' k=>?_⟩)⟩
  exact⟨.str _,H,I.tok _,⟨_,rfl⟩,q⟩
end
theorem q69 {z:Str}{g:TG}{tb:TS}{D:Ends}{σ:St}{H:Hp}(Pv:Nat->St->Hp->Prop) (h0:Pv 0 σ H)
  (hs:∀i c σ H p,z.cps[i]?=some c->Pv i σ H->H p=none->g (.ref p) σ (upd H p (.tup [.int i,.str ⟨#[c]⟩])) λσ2 H2=>tb { D with nx:=Pv (i+1),ct:=Pv (i+1),bk:=D.nx } σ2 H2) (hd:∀σ H,Pv z.cps.size σ H->D.nx σ H) :
  ∃W:Nat->Nat->St->Hp->Prop,(∃m,W 0 m σ H)/\∀i m σ H,W i m σ H ->
   ((ItEs z).stop i H/\D.nx σ H)\/((ItEs z).go i H/\∃N:St->Hp->Prop,(∀σ' H',N σ' H'->∃m',m'<m/\W (i+1) m' σ' H')/\∀x H',(ItEs z).yld i H x H'->g x σ H' λσ2 H2=>tb { D with nx:=N,ct:=N,bk:=D.nx } σ2 H2):=by
 refine⟨λi m σ H=>m=z.cps.size-i/\i<=z.cps.size/\Pv i σ H,⟨z.cps.size,by simp,Zo _,h0⟩,?_⟩
 rintro i m σ H ⟨rfl,hi,p⟩
 by_cases jB:i<z.cps.size
 ·refine .inr ⟨jB,Pv (i+1),λσ' H' p'=>⟨z.cps.size-(i+1),by lia,rfl,jB,p'⟩,λx H' y=>?_⟩
  obtain⟨b,c,e0,e1,e2,e3⟩:=y
  subst e2 e3
  exact hs i c σ _ b e1 p e0
 ·have e:i=z.cps.size:=by lia
  subst e
  exact .inl ⟨Zd _,hd σ H p⟩
end L2
namespace Pr
open PySem L2 Qf
def KTup (K:PySem.W.Frag) (a:Addr) (xs:List V):Prop:=∃(o:Obj) (its:Array Value) (n:Nat),K.lookup a=some o/\o.cls=.type "tuple" /\ o.data=.seq its n/\its.size<=sizeLine/\Vals xs its.toList
end Pr
namespace Sp
open PySem PySem.StrLaws Builtin Builtin.Str
def ofL (l:List Nat):Str:=⟨l.toArray⟩
theorem xo8 (l:List Nat):(ofL l).cps.toList=l:=by simp[ofL]
end Sp
namespace Pr
open PySem L2 Qf Sp
theorem xw0 (ds:List Nat):txt ds=ofL (ds.map (48+·)):=rfl
theorem xe8 (l:List Nat):(ofL l).length=l.length:=by simp[ofL,Str.length]
theorem xe9 (l:List Nat){j:Nat}(h:j<=l.length):Txt.slice (ofL l) none (some (j:Int))=ofL (l.take j):=by
 have h:=PyProof.Rows.slice_closes_toL (x:=ofL l) (j:=(j:Int)) (by lia) (by rw[xe8];lia)
 rw[eq_of_beq h,xo8]
 unfold ofL
 congr 2
theorem q70 (ds:List Nat){j:Nat}(h:j<=ds.length):Txt.slice (txt ds) none (some (j:Int))=txt (ds.take j):=by
 rw[xw0,xe9 _ (by rw[Zf];exact h),<- List.map_take]
 rfl
theorem q71 (a b:List Nat):txt a++txt b=txt (a++b):=by
 show (⟨(txt a).cps++(txt b).cps⟩:Str)=_
 simp[txt]
theorem qo4 {a b:List Nat}(h:txt a=txt b):a=b:=by
 have h2:(txt a).cps.toList=(txt b).cps.toList:=by rw[h]
 simp only[txt] at h2
 have:∀(l m:List Nat),l.map (48+·)=m.map (48+·)->l=m:=λl=>by
  induction l with
  |nil=>intro m e;cases m with
   |nil=>rfl
   |cons _ _=>simp at e
  |cons x l ih=>intro m e;cases m with
   |nil=>simp at e
   |cons y m=>
    simp only[ZA,Y3] at e
    rw[ih m e.2,show x=y by lia]
 exact this a b h2
theorem qV0 (a b:List Nat):Txt.startswith (txt a) (txt b)=decide (b <+: a):=by
 show (decide (0+(txt b).length<=(txt a).length)&&Builtin.Str.subAt (txt a) (txt b) 0)=_
 rw[PySem.StrLaws.subAt_eq,qi0,qi0]
 have e1:((txt a).cps.toList.drop 0).take b.length=(txt (a.take b.length)).cps.toList:=by simp[txt]
 rw[e1]
 by_cases hp:b <+: a
 ·have e2:b=a.take b.length:=List.prefix_iff_eq_take.mp hp
  rw[Zk hp,<- e2,Zk (by have:=hp.length_le;lia)]
  simp
 ·rw[Zm hp]
  have:((txt (a.take b.length)).cps.toList==(txt b).cps.toList)=false:=by
   rw[WB]
   intro z
   have z2:txt (a.take b.length)=txt b:=by
    have:(txt (a.take b.length)).cps=(txt b).cps:=Array.toList_inj.mp z
    show Str.mk _=Str.mk _
    exact Yd Str.mk this
   exact hp (List.prefix_iff_eq_take.mpr (qo4 z2).symm)
  rw[this,WT]
theorem xo9 {ds:List Nat}(h:∀d∈ds,d<4):(txt ds).cps.all (·<128)=true:=by
 simp only[txt,V7,List.all_map,Ye]
 intro d hd
 have:=h d hd
 simp only[Function.comp_apply,Wd]
 lia
theorem xf0 {t:Tr}{ds:List Nat}{i:Nat}(h:(wdn t (ds.take i)).2=ds.take i) (hp:(wdn t (ds.take i)).1=.z\/(wdn t (ds.take i)).1=.o):wdn t ds=((wdn t (ds.take i)).1,ds.take i):=by
 have e:ds=ds.take i++ds.drop i:=(YK i ds).symm
 have hw:wdn t ds=wdn t (ds.take i++ds.drop i):=by rw[<- e]
 rw[hw]
 rcases qh9 t (ds.take i) (ds.drop i) with ⟨_,h2⟩|⟨_,h2⟩
 ·rw[h2,qd7 hp]
  simp
 ·rw[h2]
  exact Vm rfl h
theorem qQ7 {t:Tr}{ds:List Nat}{i d:Nat}{a b c e:Tr}(hd:ds[i]?=some d) (h:(wdn t (ds.take i)).2=ds.take i) (hp:(wdn t (ds.take i)).1=.nd a b c e):(wdn t (ds.take (i+1))).1=qr d (.nd a b c e)/\(wdn t (ds.take (i+1))).2=ds.take (i+1):=by
 rw[qv8 hd]
 rcases qh9 t (ds.take i) [d] with ⟨_,h2⟩|⟨z,_⟩
 ·rw[h2,hp]
  show (wdn (qr d (.nd a b c e)) []).1=_/\_++d::(wdn (qr d (.nd a b c e)) []).2=_
  rw[ql5]
  exact⟨rfl,rfl⟩
 ·rw[hp] at z
  rcases z with z|z<;>cases z
section
variable {P:Program}{w:World}{K:PySem.W.Frag}{mg:Str->Option Value}{base:Heap}
abbrev nWD:List Str:=["rows", "top", "address", "number", "at", "figure"]
theorem scWD:FnScope nWD ["rows", "top", "address"] (qa3 xc0):=qc6
def spWD:Sp:=λvs H Q _=>∃(rp:Addr) (x:Nat) (ds:List Nat) (rows:List Row),vs=[.ref rp,.int (x:Nat),.str (txt ds)]/\RowsAt H rp rows/\qd2 rows/\x<rows.length+2/\(∀d∈ds,d<4)/\ds.length<=12 /\
 ∀(H':Hp) (p:Addr) (y:Nat),Same H H'->H' p=some (.tup [.int (y:Nat),.str (txt (wdn (T rows x) ds).2)])->y<rows.length+2->T rows y=(wdn (T rows x) ds).1->Q (.ref p) H'
theorem xB2 {f:Addr}{fd:FuncData}(F:Fun K "way_down" "way_down" xc0 f fd) (B:Blt mg) (Tc:Cst mg) (hen:mg "enumerate" = none):FnOk P w K mg base CX0 1 f fd ["rows", "top", "address"] spWD:=by
 obtain⟨tf,hfi⟩:=Tc.first
 refine F.ok scWD (λvs H Q E h=>?_) (λcdv A outer s H vs Q E hr h=>?_)
 ·obtain⟨rp,x,ds,rows,rfl,_⟩:=h
  rfl
 ·obtain⟨rp,x,ds,rows,rfl,hR,ok,hx,jO,hl,q⟩:=h
  refine seqE ⟨_,⟨psN 3 scWD.nd (pv 1)⟩,?_⟩
  refine seqE ⟨_,⟨qk6 YO rfl (xe6 (by rfl) hen (qa0 (pv 2) qa1)) (ql8 rfl (qb4 (pgN 4 scWD.nd) (qb4 (pgN 5 scWD.nd) qh2)))
   (StB.go (.cons ⟨qd8 (qb6 qh3 (pv 3) (qd4 (v:=.int 2) (by rfl) hfi ⟨_,rfl⟩) (qb5 _)) (qa6 (qa9 (qi4 (Ars2.go (.cons ⟨pv 3⟩ (.cons ⟨qN1 xe7 (pv 2) qY2 (qY3 (pv 4))⟩ .nil rfl) rfl))))) qb3⟩
    (.one ⟨psN 3 scWD.nd (pxN qc8 (PEb.go ⟨pxN qc8 (pv 0) (qa5 qf0 (pv 3) (qd4 (v:=.int 2) (by rfl) hfi ⟨_,rfl⟩))⟩) (PEb.go ⟨qc3 qt6 (by rfl) B.int Xu (qa0 (pv 5) qa1)⟩))⟩)))⟩,?_⟩
  refine qh7 ⟨_,⟨qa9 (qi4 (Ars2.go (.cons ⟨pv 3⟩ (.cons ⟨pv 2⟩ .nil rfl) rfl)))⟩,?_⟩
  refine⟨_,rfl,_,rfl,txt ds,rfl,xo9 jO,?_⟩
  refine q69 (λi σ H2=>∃(y:Nat) (v4 v5:Option V),Same H H2/\σ=[some (.ref rp),some (.int (x:Nat)),some (.str (txt ds)),some (.int (y:Nat)),v4,v5]/\y<rows.length+2/\T rows y=(wdn (T rows x) (ds.take i)).1/\(wdn (T rows x) (ds.take i)).2=ds.take i) ?_ ?_ ?_
  ·refine⟨x,none,none,Same.refl _,rfl,hx,?_,?_⟩
   ·rw[W3,ql5]
   ·rw[W3,ql5]
  ·rintro i c σ H2 p hc ⟨y,v4,v5,s2,rfl,hy,hT,hw⟩ hp
   obtain⟨d,hd,rfl⟩:=q59 hc
   have hi:=(gS_ hd).1
   have jY:=jO d (Zv hd)
   have s3:=s2.trans (qb7 (o:=.tup [.int i,.str ⟨#[48+d]⟩]) hp)
   refine⟨p,_,rfl,SqT.of qa2,rfl,_,_,rfl,_,_,rfl,rfl,?_⟩
   generalize upd H2 p (.tup [.int i,.str ⟨#[48+d]⟩])=H3 at s3 ⊢
   refine⟨_,rfl,_,_,rfl,rfl,_,rfl,?_⟩
   refine ite2 (λhc=>?_) (λhc=>?_)
   ·have y2:y<2:=by have:=ZB hc;lia
    have jF:T rows y=.z\/T rows y=.o:=by
     have:y=0\/y=1:=by lia
     rcases this with rfl|rfl
     ·exact .inl (qi5 _)
     ·exact .inr (qq2 _)
    have kB:=xf0 hw (by rw[<- hT];exact jF)
    refine⟨_,rfl,_,rfl,_,rfl,(i:Int),rfl,txt ds,(i:Int),rfl,rfl,rfl,by rw[qi0];exact Xk (qc4 (by lia)),(by show 2<=sizeLine;decide),λp2 jP=>?_⟩
    rw[q70 ds (by lia)]
    refine q _ p2 y (s3.trans (qb7 jP)) ?_ hy ?_
    ·rw[qa2,kB]
    ·rw[kB];exact hT
   ·have y2:¬y<2:=λz=>hc (Zk (by lia))
    obtain⟨pl,a0,a1,a2,a3,rfl,jF⟩:=qm6 ok hy y2
    obtain⟨bs,hrp,vI,jE⟩:=id (hR.same s3)
    have hpr1:=(gS_ jF).1
    have vH:bs[pl]?=some (bs[pl]'(by lia)):=Ze (by lia)
    have vB:=jE pl _ _ vH jF
    generalize bs[pl]'(by lia)=ra at vH vB
    obtain⟨m,hm⟩:∃m,[a0,a1,a2,a3][d]?=some m:=⟨_,Ze (show d<[a0,a1,a2,a3].length from jY)⟩
    refine⟨_,rfl,_,rfl,_,_,rfl,rfl,rp,_,((pl:Nat):Int),.ref ra,rfl,Yd V.int (by lia),SqT.of hrp,qj1 (by rw[Zg,vH];rfl),_,rfl,_,(d:Int),rfl,qL2 jY,(by show 1<=640;decide),ra,_,(d:Int),.int (m:Nat),rfl,rfl,SqT.of vB,qu4 hm,?_⟩
    have hT2:=T_qr ok jF jY hm
    obtain⟨w1,w2⟩:=qQ7 hd hw (by rw[<- hT,qm8 ok jF])
    have hml:m<rows.length+2:=by
     have:=(ok pl _ jF).2 m (Zv hm)
     lia
    refine⟨m,_,_,s3,rfl,hml,?_,w2⟩
    rw[hT2,w1,qm8 ok jF]
  ·rintro σ H2 ⟨y,v4,v5,s2,rfl,hy,hT,hw⟩
   have e:ds.take (txt ds).cps.size=ds:=Yc (by simp[txt])
   rw[e] at hT hw
   refine⟨_,rfl,_,rfl,(by show 2<=sizeLine;decide),λp2 jP=>?_⟩
   refine q _ p2 y (s2.trans (qb7 jP)) ?_ hy hT
   rw[qa2,hw]
abbrev nAl:List Str:=["rows", "number", "address", "along", "addresses", "at"]
abbrev nAl5:List Str:=["rows", "number", "address", "along", "addresses"]
theorem scAl:FnScope nAl nAl5 (qa3 qO9):=qc6
def vT (L:List (List Nat)):List V:=L.map λe=>V.str (txt e)
def spAl (K:PySem.W.Frag) (d:Nat):Sp:=λvs H Q _=>∃(rp al lp:Addr) (x a b:Nat) (ad:List Nat) (L:List (List Nat)) (rows:List Row),vs=[.ref rp,.int (x:Nat),.str (txt ad),.ref al,.ref lp]/\RowsAt H rp rows/\qd2 rows/\KTup K al (vN [a,b])/\x<rows.length+2/\Tr.dep (T rows x)<=d/\a<4/\b<4/\H lp=some (.lst (vT L))/\ad.length+d<=100/\d<=12/\L.length+2^d<=100000 /\
 ∀(H':Hp),But lp H H'->H' lp=some (.lst (vT (L++(lvs a b d (T rows x)).map (ad++·))))->Q .non H'
theorem qB2 (a b:Nat):∀(d:Nat) (t:Tr),(lvs a b d t).length<=2^d
 |0,t=>by cases t<;>exact Zd _
 |d+1,.z=>Z7 (by decide)
 |d+1,.o=>Z7 (by decide)
 |d+1,.nd p q r s=>by
  show ((lvs a b d (qr a (.nd p q r s))).map (a::·)++(lvs a b d (qr b (.nd p q r s))).map (b::·)).length<=_
  have h1:=qB2 a b d (qr a (.nd p q r s))
  have h2:=qB2 a b d (qr b (.nd p q r s))
  rw[Zw,Zf,Zf,Yb]
  lia
theorem xB3 {f:Addr}{fd:FuncData}(F:Fun K "gather_along" "gather_along" qO9 f fd) (Tc:Cst mg) (kB:mg "str" = none) (hG:mg "gather_along" = some (.ref f)) (bG:Binds K fd nAl5 []):∀d,FnOk P w K mg base CX0 (d+1) f fd nAl5 (spAl K d):=by
 obtain⟨tf,hfi⟩:=Tc.first
 have early:∀{x a b d lp:Nat}{ad:List Nat}{L:List (List Nat)}{rows:List Row}{H:Hp}{Q:VK},x<2->(∀(H':Hp),But lp H H'->H' lp=some (.lst (vT (L++(lvs a b d (T rows x)).map (ad++·))))->Q .non H')->Q .non (upd H lp (.lst (vT L++[.str (txt ad)]))):=λ{x a b d lp ad L rows H Q} x2 q=>by
  have jF:T rows x=.z\/T rows x=.o:=by
   have:x=0\/x=1:=by lia
   rcases this with rfl|rfl
   ·exact .inl (qi5 _)
   ·exact .inr (qq2 _)
  refine q _ But.upd ?_
  rw[qa2,qe0 jF]
  unfold vT
  rw[ZU]
  simp
 intro d
 induction d with
 |zero=>
  refine F.ok scAl (λvs H Q E h=>?_) (λcdv A outer s H vs Q E hr h=>?_)
  ·obtain⟨rp,al,lp,x,a,b,ad,L,rows,rfl,_⟩:=h
   rfl
  ·obtain⟨rp,al,lp,x,a,b,ad,L,rows,rfl,hR,ok,hK,hx,hd,ha,hb,wO,hal,vO,hL,q⟩:=h
   have x2:x<2:=by
    rcases dep0 hd with z|z
    ·have:=(q57 ok hx).1.mp z;lia
    ·have:=(q57 ok hx).2.mp z;lia
   refine seqE ⟨_,⟨qd8 (qb6 qh3 (pv 1) (qd4 (v:=.int 2) (by rfl) hfi ⟨_,rfl⟩) (qb5 _)) (StB.go (.cons ⟨qd9 (qK0 Xe XG XH qf6 (pv 4) (qa0 (pv 2) qa1))⟩ (.one ⟨qz2⟩))) qb3⟩,?_⟩
   refine⟨_,qg5,?_⟩
   refine⟨_,rfl,_,_,rfl,rfl,_,rfl,?_⟩
   rw[Zk (show (x:Int)<2 by lia)]
   refine iteT ?_
   refine⟨_,rfl,.inl ⟨rfl,_,SqL.of wO⟩,_,rfl,lp,_,_,rfl,rfl,wO,?_,early x2 q⟩
   unfold vT
   rw[Zf]
   exact qu7 (by lia)
 |succ d ih=>
  refine F.ok scAl (λvs H Q E h=>?_) (λcdv A outer s H vs Q E hr h=>?_)
  ·obtain⟨rp,al,lp,x,a,b,ad,L,rows,rfl,_⟩:=h
   rfl
  ·obtain⟨rp,al,lp,x,a,b,ad,L,rows,rfl,hR,ok,hK,hx,hd,ha,hb,wO,hal,vO,hL,q⟩:=h
   refine seqE ⟨_,⟨qd8 (qb6 qh3 (pv 1) (qd4 (v:=.int 2) (by rfl) hfi ⟨_,rfl⟩) (qb5 _)) (StB.go (.cons ⟨qd9 (qK0 Xe XG XH qf6 (pv 4) (qa0 (pv 2) qa1))⟩ (.one ⟨qz2⟩))) qb3⟩,?_⟩
   refine qh7 ⟨_,⟨qk6 YO rfl (qs2 (pv 3)) (pgN 5 scAl.nd)
    (StB.go (.one ⟨qd9 (pcN ih hr hG F.kp bG (Ars2.go (.cons ⟨pv 0⟩ (.cons ⟨pxN qc8 (PEb.go ⟨pxN qc8 (pv 0) (qa5 qf0 (pv 1) (qd4 (v:=.int 2) (by rfl) hfi ⟨_,rfl⟩))⟩) (pv 5)⟩ (.cons ⟨qa5 qx9 (pv 2) (PEb.go ⟨qc3 qp1 (by rfl) kB Ve (qa0 (pv 5) qa1)⟩)⟩ (.cons ⟨pv 3⟩ (.cons ⟨pv 4⟩ .nil rfl) rfl) rfl) rfl) rfl)))⟩))⟩,?_⟩
   refine⟨_,rfl,_,_,rfl,rfl,_,rfl,?_⟩
   refine ite2 (λhc=>?_) (λhc=>?_)
   ·have x2:x<2:=by have:=ZB hc;lia
    refine⟨_,rfl,.inl ⟨rfl,_,SqL.of wO⟩,_,rfl,lp,_,_,rfl,rfl,wO,?_,early x2 q⟩
    unfold vT
    rw[Zf]
    have hp0:0<2^(d+1):=Z7 (by decide)
    exact qu7 (by generalize 2^(d+1)=z at hL hp0;lia)
   ·have x2:¬x<2:=λz=>hc (Zk (by lia))
    obtain⟨pl,a0,a1,a2,a3,rfl,jF⟩:=qm6 ok hx x2
    have eT:T rows (pl+2)=.nd (T rows a0) (T rows a1) (T rows a2) (T rows a3):=qm8 ok jF
    have hpos:0<2^d:=Z7 (by decide)
    have e2:2^(d+1)=2^d+2^d:=by rw[Yb];lia
    let LA:=(lvs a b d (qr a (T rows (pl+2)))).map λe=>ad++a::e
    let LB:=(lvs a b d (qr b (T rows (pl+2)))).map λe=>ad++b::e
    have hlA:LA.length<=2^d:=by show (List.map _ _).length<=_;rw[Zf];exact qB2 ..
    have elv:(lvs a b (d+1) (T rows (pl+2))).map (ad++·)=LA++LB:=by
     show _=(lvs a b d (qr a (T rows (pl+2)))).map (λe=>ad++a::e)++(lvs a b d (qr b (T rows (pl+2)))).map λe=>ad++b::e
     rw[eT]
     show ((lvs a b d (qr a _)).map (a::·)++(lvs a b d (qr b _)).map (b::·)).map (ad++·)=_
     rw[ZU,YH,YH]
     rfl
    rw[elv] at q
    refine⟨_,rfl,al,rfl,⟨_,.inr hK⟩,qz4 (K:=K) (a:=al) (xs:=vN [a,b]) (λi σ H2=>∃v5,But lp H H2/\H2 lp=some (.lst (vT (L++(if i=0 then [] else if i=1 then LA else LA++LB))))/\σ=[some (.ref rp),some (.int ((pl+2:Nat):Int)),some (.str (txt ad)),some (.ref al),some (.ref lp),v5]) ?_ (λi σ H2 _ _=>.inr hK) ?_ ?_⟩
    ·exact⟨none,But.refl _ _,by simpa using wO,rfl⟩
    ·rintro i y σ H2 hy ⟨v5,B2,jM,rfl⟩
     obtain⟨m,hm,rfl⟩:=qG3 hy
     have T2:Tups H H2:=B2.tups wO (λu z=>by cases z)
     have kN:m<4:=by
      match i,hm with
      |0,hm=>cases hm;exact ha
      |1,hm=>cases hm;exact hb
     obtain⟨bs,hrp,vI,jE⟩:=id (hR.mono T2)
     have hpr1:=(gS_ jF).1
     have vH:bs[pl]?=some (bs[pl]'(by lia)):=Ze (by lia)
     have vB:=jE pl _ _ vH jF
     generalize bs[pl]'(by lia)=ra at vH vB
     obtain⟨k,hk⟩:∃k,[a0,a1,a2,a3][m]?=some k:=⟨_,Ze (show m<[a0,a1,a2,a3].length from kN)⟩
     have hTk:=T_qr ok jF kN hk
     have hkl:k<rows.length+2:=by
      have:=(ok pl _ jF).2 k (Zv hk)
      lia
     refine⟨_,rfl,_,rfl,_,rfl,_,_,rfl,rfl,rp,_,((pl:Nat):Int),.ref ra,rfl,Yd V.int (by lia),SqT.of hrp,qj1 (by rw[Zg,vH];rfl),_,rfl,ra,_,(m:Int),.int (k:Nat),rfl,rfl,SqT.of vB,qu4 hk,_,rfl,_,rfl,(m:Int),rfl,?_,_,_,rfl,rfl,?_,_,rfl,_,rfl,?_⟩
     ·match m,kN with
      |0,_|1,_|2,_|3,_=>decide +kernel
     ·rw[qA8 kN,qi0]
      show ad.length+1<=sizeLine
      exact Xk (qc4 (by lia))
     ·rw[qA8 kN]
      refine⟨rp,al,lp,k,a,b,ad++[m],L++(if i=0 then [] else if i=1 then LA else LA++LB),rows,?_,hR.mono T2,ok,hK,hkl,?_,ha,hb,jM,?_,by lia,?_,λH3 B3 hl3=>?_⟩
      ·rw[<- q71];rfl
      ·rw[hTk];exact qi6 kN _ hd
      ·rw[Zw]
       show ad.length+1+d<=100
       lia
      ·match i,hm with
       |0,_=>show (L++[]).length+_<=_;rw[Y1];lia
       |1,_=>show (L++LA).length+_<=_;rw[Zw];lia
      ·refine⟨_,B2.trans B3,?_,rfl⟩
       rw[hl3,hTk]
       congr 2
       match i,hm with
       |0,hm=>
        cases hm
        show vT (L++[]++_)=vT (L++LA)
        rw[Y1]
        congr 2
        refine Ym λe _=>?_
        simp
       |1,hm=>
        cases hm
        show vT (L++LA++_)=vT (L++(LA++LB))
        rw[YX]
        congr 3
        refine Ym λe _=>?_
        simp
    ·rintro σ H2 ⟨v5,B2,jM,rfl⟩
     exact q H2 B2 jM
end
end Pr
namespace L2
open PySem
section
variable {X:Cx}
theorem qL5 (ns:List Int):∀n,n<=ns.length->preSum (λi=>ns.getD i 0) n=(ns.take n).sum:=by
 intro n
 induction n with
 |zero=>intro _;simp[preSum]
 |succ n ih=>
  intro h
  have hn:n<ns.length:=h
  rw[preSum,ih (Xk hn),W5 hn,Ui]
  simp[List.getD,hn]
theorem q72 (hc:X.calm=true):qe4 X (.builtin "sum") (λxs H Q=>∃(p:Addr) (ns:List Int),xs=[.ref p]/\H p=some (.lst (ns.map V.int))/\Q (.int ns.sum) H):=by
 intro j8 s σ H xs us Q I r h
 obtain⟨p,ns,rfl,hp,q⟩:=h
 obtain⟨u,rfl,rx⟩:=qe9 r
 cases rx
 obtain⟨z,its,n,rv,hl⟩:=I.hok p _ hp
 have isl:s.heap.IsList p its.toArray:=⟨_,hl,rfl,_,rfl⟩
 have j9:its.length=ns.length:=by have:=rv.length;simpa using this.symm
 have np:p≠s.heap.objs.size:=Zl (Zi hl)
 refine call_sum_walkAnyB (Xw isl ?_)
 refine⟨s.heap.objs.size,_,_,_,_,_,_,λi=>ns.getD i 0,rfl,(Ud (A:=X.A.in1) (I.ok.hd hc) s.heap.objs.size p np its.toArray).toS,⟨⟨_,Zh _ rfl,rfl,rfl⟩,isl.at λo e=>Zc _ e⟩,?_,?_,?_⟩
 ·intro b hb
  rw[Yh]
  rcases Zs.mp hb with rfl|hb
  ·exact YT _
  ·have:b=p:=by simpa using hb
   subst this
   exact ZZ (Zi hl)
 ·intro i v hv
  have hv':its[i]?=some v:=by simpa using hv
  have hi:i<ns.length:=by rw[<- j9];exact (gS_ hv').1
  obtain⟨w',e1,t,e2⟩:=rv.get (x:=V.int (ns[i])) (i:=i) (by simp[hi])
  rw[hv'] at e1;cases e1
  exact .inl ⟨t,by rw[e2];simp[List.getD,hi]⟩
 ·intro s' t' mv
  have es:its.toArray.size=ns.length:=by simpa using j9
  refine⟨.int ns.sum,H,qF5 I mv λb o e hb=>?_,⟨t',?_⟩,q⟩
  ·have:b=s.heap.objs.size:=by simpa using hb
   exact Ys _ (by rw[this] at e;exact Zi e)
  ·rw[es,qL5 ns _ (Zd _),Wx]
end
end L2
namespace Qf
open Tr
def nlf:Tr->Nat
 |.nd a b c d=>nlf a+nlf b+nlf c+nlf d
 |_=>1
def cntL (rows:List Row) (i:Nat):List Nat:=1::1::(List.range i).map λp=>nlf (T rows (p+2))
theorem xf1 (rows:List Row) (i:Nat):(cntL rows i).length=i+2:=by simp[cntL]
theorem q73 {rows:List Row}{i x:Nat}(h:x<i+2):(cntL rows i)[x]?=some (nlf (T rows x)):=by
 match x,h with
 |0,_=>rw[qi5];rfl
 |1,_=>rw[qq2];rfl
 |x+2,h=>
  show ((List.range i).map λp=>nlf (T rows (p+2)))[x]?=_
  rw[Zg,Xj (by lia)]
  rfl
theorem q74 {rows:List Row}(ok:qd2 rows){i:Nat}{r:Row}(h:rows[i]?=some r):cntL rows (i+1)=cntL rows i++[(r.map λx=>nlf (T rows x)).sum]:=by
 obtain⟨a,b,c,d,rfl⟩:=qo0 (ok i r h).1
 unfold cntL
 rw[Xi,ZU]
 show 1::1::(_++[nlf (T rows (i+2))])=_
 rw[qm8 ok h]
 show 1::1::(_++[nlf (T rows a)+nlf (T rows b)+nlf (T rows c)+nlf (T rows d)])=_
 have:([a,b,c,d].map λx=>nlf (T rows x)).sum=nlf (T rows a)+nlf (T rows b)+nlf (T rows c)+nlf (T rows d):=by simp;lia
 rw[this]
 rfl
theorem xp0 (l:List Nat):(l.map λn:Nat=>(n:Int)).sum=((l.sum:Nat):Int):=by
 induction l with
 |nil=>rfl
 |cons a l ih=>rw[ZA,Wb,Wb,ih];lia
end Qf
namespace Pr
open PySem L2 Qf
section
variable {P:Program}{w:World}{K:PySem.W.Frag}{mg:Str->Option Value}{base:Heap}
abbrev nCo:List Str:=["top", "rows", "counts", "row"]
theorem scCo:FnScope nCo ["top", "rows"] (qa3 qu2):=qc6
def spCo:Sp:=λvs H Q _=>∃(p:Addr) (x:Nat) (rows:List Row),vs=[.int (x:Nat),.ref p]/\RowsAt H p rows/\qd2 rows/\rows.length<=900/\x<rows.length+2/\∀H',Same H H'->Q (.int (nlf (T rows x):Nat)) H'
theorem xB4 {f:Addr}{fd:FuncData}(F:Fun K "count_leaves" "count_leaves" qu2 f fd) (hsm:mg "sum" = none):FnOk P w K mg base CX0 1 f fd ["top", "rows"] spCo:=by
 refine F.ok scCo (λvs H Q E h=>?_) (λcdv A outer s H vs Q E hr h=>?_)
 ·obtain⟨p,x,rows,rfl,_⟩:=h
  rfl
 ·obtain⟨p,x,rows,rfl,hR,ok,hn,hx,q⟩:=h
  refine⟨_,qb0 (psN 2 scCo.nd (qj0 (qa0 qa4 (qa0 qa4 qa1))))
   (qb0 (qk6 YO rfl (qs2 (pv 1)) (pgN 3 scCo.nd)
    (qa6 (qd9 (qK0 Xe XG XH qf6 (pv 2) (qa0 (qa8 (q72 rfl) (by rfl) hsm PyProof.Rows.boot_sum
     (qa0 (qe7 nCo (qa3 qu2) rfl rfl rfl scCo.nd (qs2 (pv 3)) (λcl C fp s₀ H₀=>pxN (ixL K rfl) (pv 3) (pv 0))) qa1)) qa1)))))
   (qa6 (qa9 (pxN (ixL K rfl) (pv 2) (pv 0))))),?_⟩
  refine⟨(by show 2<=sizeLine;decide),λD hD=>?_⟩
  obtain⟨bs,hp,j9,jE⟩:=id hR
  have kU:=qe5 (u:=.lst [.int 1,.int 1]) hp hD
  have jN:(bs.map V.ref).length=rows.length:=by rw[Zf];exact j9
  refine⟨_,rfl,p,rfl,⟨_,SqT.of kU⟩,qz4 (K:=K) (a:=p) (xs:=bs.map V.ref) (λi σ H2=>Same H H2/\H2 D=some (.lst (vN (cntL rows i)))/\∃v2,σ=[some (.int (x:Nat)),some (.ref p),some (.ref D),v2])
   ⟨qb7 hD,qa2,none,rfl⟩ (λi σ H2 _ ⟨s2,_⟩=>SqT.of (s2 _ _ hp)) ?_ ?_⟩
  ·rintro i y σ H2 hy ⟨s2,k6,v2,rfl⟩
   have hi:i<rows.length:=by rw[<- jN];exact (gS_ hy).1
   rw[Zg] at hy
   obtain⟨b,hb,rfl⟩:=Zj.mp hy
   have jL:rows[i]?=some rows[i]:=by simp[hi]
   have vQ:=s2 _ _ (jE i b rows[i] hb jL)
   have rk:=ok i _ jL
   generalize rows[i]=r at jL vQ rk
   refine⟨_,rfl,.inl ⟨rfl,_,SqL.of k6⟩,_,rfl,b,rfl,⟨_,SqT.of vQ⟩,λD2 wU=>qf8 wU (λj z _=>∃x,r[j]?=some x/\z=.int (nlf (T rows x):Nat)) (qq8 (K:=K) vQ) (by rw[qk8,rk.1];decide) (λ_ _ _ _ _ _ h=>h) ?_ ?_⟩
   ·intro j x H3 hj hx s3 Q' hq
    obtain⟨m,hm,rfl⟩:=qG3 hx
    have jB:=rk.2 m (Zv hm)
    exact⟨_,rfl,_,rfl,D,_,(m:Int),.int (nlf (T rows m):Nat),rfl,rfl,SqL.of (s3 _ _ k6),qu4 (q73 jB),hq _ _ (Same.refl _) ⟨m,hm,rfl⟩⟩
   ·intro ys H3 s3 w5 kW vJ
    have ey:ys=(r.map λx=>nlf (T rows x)).map (λn:Nat=>V.int (n:Int)):=by
     refine qk1 (by rw[kW,qk8,Zf,Zf]) λj x hx=>?_
     obtain⟨m,hm,rfl⟩:=vJ j x hx
     rw[Zg,Zg,hm];rfl
    have e2:ys=((r.map λx=>nlf (T rows x)).map (λn:Nat=>(n:Int))).map V.int:=ey.trans (qp5 _)
    refine⟨D2,(r.map λx=>nlf (T rows x)).map (λn:Nat=>(n:Int)),rfl,e2▸w5,?_⟩
    rw[xp0]
    have jY:=s3 _ _ k6
    refine⟨D,_,_,rfl,rfl,jY,?_,?_⟩
    ·rw[qk8,xf1];exact qc4 (by lia)
    ·have nD:∀b o,H b=some o->b≠D:=λb o e=>qa7 e hD
     refine⟨λb o e=>by rw[qb2 (nD b o e)];exact s3 _ _ (s2 _ _ e),?_,_,rfl⟩
     rw[qa2,q74 ok jL]
     unfold vN
     rw[ZU]
     rfl
  ·rintro σ H2 ⟨s2,k6,v2,rfl⟩
   rw[jN] at k6
   exact⟨_,rfl,_,rfl,D,_,(x:Int),.int (nlf (T rows x):Nat),rfl,rfl,SqL.of k6,qu4 (q73 hx),q H2 s2⟩
theorem scWL:FnScope ["shape", "most"] ["shape", "most"] (qa3 qO8):=qc6
def spWL:Sp:=λvs H Q _=>∃(t:Addr) (n tp m:Nat) (rows:List Row),vs=[.ref t,.int (m:Nat)]/\qd6 H t n tp rows/\nlf (T rows tp)<=m/\∀H',Same H H'->Q .non H'
theorem xB5 {f fC:Addr}{fd fdC:FuncData}(F:Fun K "want_leaves" "want_leaves" qO8 f fd) (hC:mg "count_leaves" = some (.ref fC)) (FC:Fun K "count_leaves" "count_leaves" qu2 fC fdC) (bC:Binds K fdC ["top", "rows"] []) (GC:FnOk P w K mg base CX0 1 fC fdC ["top", "rows"] spCo) :
  FnOk P w K mg base CX0 2 f fd ["shape", "most"] spWL:=by
 refine F.ok scWL (λvs H Q E h=>?_) (λcdv A outer s H vs Q E hr h=>?_)
 ·obtain⟨t,n,tp,m,rows,rfl,_⟩:=h
  rfl
 ·obtain⟨t,n,tp,m,rows,rfl,hS,hm,q⟩:=h
  obtain⟨⟨p,ht,hR⟩,cn,hl⟩:=id hS
  refine qh7 ⟨_,⟨qd8 (qb6 xk6 (PEb.go ⟨pcN GC hr hC FC.kp bC (Ars2.go (.cons ⟨pxN qc8 (pv 0) qa4⟩ (.cons ⟨pxN qc8 (pv 0) qa4⟩ .nil rfl) rfl))⟩) (pv 1) (qb5 _)) qg5 qb3⟩,?_⟩
  refine⟨_,rfl,t,_,1,.int (tp:Nat),rfl,rfl,SqT.of ht,rfl,_,rfl,t,_,2,.ref p,rfl,rfl,SqT.of ht,rfl,p,tp,rows,rfl,hR,cn.rok,hl,cn.inn,λH1 s1=>?_⟩
  refine⟨_,rfl,_,_,rfl,rfl,_,rfl,?_⟩
  rw[Zm (show ¬((m:Int)<(nlf (T rows tp):Nat)) by lia)]
  exact iteF (q H1 s1)
theorem scCs:FnScope ["shape"] ["shape"] (qa3 qA0):=qc6
def spCs:Sp:=λvs H Q _=>∃(t:Addr) (n tp:Nat) (rows:List Row),vs=[.ref t]/\qd6 H t n tp rows/\nlf (T rows tp)<=2000/\∀H',Same H H'->Q .non H'
theorem xB6 {f fC:Addr}{fd fdC:FuncData}(F:Fun K "want_coarse" "want_coarse" qA0 f fd) (hmo:∃t,mg "MOST_LEAVES" = some (.int 2000 t)) (hC:mg "want_leaves" = some (.ref fC)) (FC:Fun K "want_leaves" "want_leaves" qO8 fC fdC) (bC:Binds K fdC ["shape", "most"] []) (GC:FnOk P w K mg base CX0 2 fC fdC ["shape", "most"] spWL) :
  FnOk P w K mg base CX0 3 f fd ["shape"] spCs:=by
 obtain⟨tm,hmo⟩:=hmo
 refine F.ok scCs (λvs H Q E h=>?_) (λcdv A outer s H vs Q E hr h=>?_)
 ·obtain⟨t,n,tp,rows,rfl,_⟩:=h
  rfl
 ·obtain⟨t,n,tp,rows,rfl,hS,hm,q⟩:=h
  refine⟨_,qa6 (qd9 (pcN GC hr hC FC.kp bC (qa0 (pv 0) (qa0 (qd4 (v:=.int 2000) (by rfl) hmo ⟨_,rfl⟩) qa1)))),?_⟩
  exact⟨_,rfl,t,n,tp,2000,rows,rfl,hS,hm,q⟩
end
end Pr
namespace L2
open PySem PySem.Spec PyProof.Rows PySem.W
section
variable {X:Cx}{st:Stmt}{rest:List Stmt}{t u:TS}
end
section
variable {X:Cx}{e:Expr}{te:TE}
end
end L2
namespace Pr
open PySem L2 Qf
end Pr
namespace Qf
def dnw:Nat->Int
 |0=>-1
 |2=>1
 |_=>0
def rgt:Nat->Int
 |1=>1
 |3=>-1
 |_=>0
def sa:Nat->Nat
 |0=>2
 |3=>1
 |_=>0
def sb:Nat->Nat
 |0=>3
 |1=>2
 |2=>1
 |_=>3
theorem q75 {s:Nat}(h:s<4):sa s<4/\sb s<4:=by
 match s,h with
 |0,_|1,_|2,_|3,_=>exact⟨by decide,by decide⟩
theorem q76:∀(t:Tr) (ds:List Nat) (n:Nat),(∀d∈ds,d<4)->Tr.dep t<=n->Tr.dep (wdn t ds).1<=n
 |.z,ds,n,_,h=>by rw[qd7 (.inl rfl)];exact h
 |.o,ds,n,_,h=>by rw[qd7 (.inr rfl)];exact h
 |.nd a b c e,[],n,_,h=>h
 |.nd a b c e,x::ds,0,_,h=>by
  have:=dep0 h
  rcases this with z|z<;>cases z
 |.nd a b c e,x::ds,n+1,hd,h=>VV (q76 (qr x (.nd a b c e)) ds n (λd hm=>hd d (Zn _ hm)) (qi6 (hd x (by simp)) _ h))
end Qf
namespace Pr
open PySem L2 Qf
theorem qx2 {f:St->Hp->Prop}{σ σ':St}{H:Hp}(e:σ=σ') (h:f σ' H):f σ H:=by rw[e];exact h
def nxr (n:Nat) (ds:List Nat) (s:Nat):Int:=(rwo n ds:Nat)+dnw s*((2^(n-ds.length):Nat):Int)
def nxc (n:Nat) (ds:List Nat) (s:Nat):Int:=(clo n ds:Nat)+rgt s*((2^(n-ds.length):Nat):Int)
def inFl (n:Nat) (r c:Int):Prop:=(0<=r/\r<((2^n:Nat):Int))/\0<=c/\c<((2^n:Nat):Int)
instance (n:Nat) (r c:Int):Decidable (inFl n r c):=inferInstanceAs (Decidable (_/\_))
def nxa (n:Nat) (ds:List Nat) (s:Nat):List Nat:=dgp (nxr n ds s).toNat (nxc n ds s).toNat (n-ds.length) (n-(n-ds.length))
def bsd (n:Nat) (t:Tr) (ds:List Nat) (s:Nat):List (List Nat):=
 if inFl n (nxr n ds s) (nxc n ds s) then if (wdn t (nxa n ds s)).2 <+: ds then [] else (lvs (sa s) (sb s) n (wdn t (nxa n ds s)).1).map ((wdn t (nxa n ds s)).2++·) else []
structure Sides (K:PySem.W.Frag) (mg:Str->Option Value) (S:Addr) (SD AL:Nat->Addr):Prop where
 at_:mg "SIDES" = some (.ref S)
 all:KTup K S [.ref (SD 0),.ref (SD 1),.ref (SD 2),.ref (SD 3)]
 one:∀s,s<4->KTup K (SD s) [.int (dnw s),.int (rgt s),.ref (AL s)]
 alo:∀s,s<4->KTup K (AL s) (vN [sa s,sb s])
section
variable {P:Program}{w:World}{K:PySem.W.Frag}{mg:Str->Option Value}{base:Heap}
theorem xB7:FnScope ["side"] ["side"] (qa3 qA1):=qc6
def xw1:Sp:=λvs H Q _=>∃s:Nat,vs=[.int (s:Nat)]/\s<4/\Q .non H
theorem xw2 {f fW S:Addr}{SD AL:Nat->Addr}{fd fdW:FuncData}(F:Fun K "want_side" "want_side" qA1 f fd) (B:Blt mg) (SS:Sides K mg S SD AL) (hW:mg "is_whole" = some (.ref fW)) (FW:Fun K "is_whole" "is_whole" qt9 fW fdW) (bW:Binds K fdW ["thing"] []):FnOk P w K mg base CX0 2 f fd ["side"] xw1:=by
 have GW:FnOk P w K mg base CX0 1 fW fdW ["thing"] qu5:=qr2 FW B
 refine F.ok xB7 (λvs H Q E h=>?_) (λcdv A outer s H vs Q E hr h=>?_)
 ·obtain⟨s,rfl,_⟩:=h
  rfl
 ·obtain⟨s,rfl,hs,q⟩:=h
  refine qh7 ⟨_,⟨qd8 (PW.pt (qn6 (qi9 (qf9 (pcN GW hr hW FW.kp bW (qa0 (pv 0) qa1)))) (qi1 (qi9 (xa3 qq0 qh3 qa4 (pv 0) (PEb.go ⟨qa8 qc9 (by rfl) B.len YA (qa0 (qd4 (v:=.ref S) (by rfl) SS.at_ rfl) qa1)⟩)))))) qg5 qb3⟩,?_⟩
  refine⟨_,rfl,(s:Int),rfl,_,rfl,iteF ?_⟩
  refine⟨_,rfl,_,_,rfl,rfl,_,rfl,?_⟩
  rw[Zk (show (0:Int)<=(s:Int) by lia)]
  refine iteT ?_
  refine⟨S,_,rfl,.inr (.inr SS.all),_,_,rfl,rfl,_,rfl,?_⟩
  rw[Zk (show (s:Int)<([V.ref (SD 0),V.ref (SD 1),V.ref (SD 2),V.ref (SD 3)].length:Nat) by show (s:Int)<4;lia)]
  exact iteF q
abbrev nLB:List Str:=["shape", "address", "side", "n", "top", "rows", "down", "right", "along", "row", "column", "cells", "next_row", "next_column", "number", "there", "addresses"]
theorem scLB:FnScope nLB ["shape", "address", "side"] (qa3 xc1):=qc6
def spLB:Sp:=λvs H Q _=>∃(t:Addr) (n tp s:Nat) (ds:List Nat) (rows:List Row),vs=[.ref t,.str (txt ds),.int (s:Nat)]/\qd6 H t n tp rows/\n<=12/\(∀d∈ds,d<4)/\ds.length<=n/\s<4 /\
 ∀(H':Hp) (l:Addr),Same H H'->H l=none->H' l=some (.lst (vT (bsd n (T rows tp) ds s)))->Q (.ref l) H'
theorem xB8 {f fB fC fW fA fG S:Addr}{SD AL:Nat->Addr}{fd fdB fdC fdW fdA fdG:FuncData}(F:Fun K "leaves_beside" "leaves_beside" xc1 f fd) (B:Blt mg) (SS:Sides K mg S SD AL)
  (hB:mg "box_at" = some (.ref fB)) (FB:Fun K "box_at" "box_at" qO6 fB fdB) (bB:Binds K fdB ["n", "address"] []) (GB:FnOk P w K mg base CX0 2 fB fdB ["n", "address"] q64)
  (hC:mg "is_cell" = some (.ref fC)) (FC:Fun K "is_cell" "is_cell" xb9 fC fdC) (bC:Binds K fdC ["n", "row", "column"] []) (GC:FnOk P w K mg base CX0 2 fC fdC ["n", "row", "column"] xj2)
  (hW:mg "way_down" = some (.ref fW)) (FW:Fun K "way_down" "way_down" xc0 fW fdW) (bW:Binds K fdW ["rows", "top", "address"] []) (GW:FnOk P w K mg base CX0 1 fW fdW ["rows", "top", "address"] spWD)
  (hA:mg "address_at" = some (.ref fA)) (FA:Fun K "address_at" "address_at" qu0 fA fdA) (bA:Binds K fdA ["n", "row", "column", "size"] []) (GA:FnOk P w K mg base CX0 2 fA fdA ["n", "row", "column", "size"] qQ2)
  (hG:mg "gather_along" = some (.ref fG)) (FG:Fun K "gather_along" "gather_along" qO9 fG fdG) (bG:Binds K fdG nAl5 []) (GG:∀d,FnOk P w K mg base CX0 (d+1) fG fdG nAl5 (spAl K d)) :
  FnOk P w K mg base CX0 14 f fd ["shape", "address", "side"] spLB:=by
 refine F.ok scLB (λvs H Q E h=>?_) (λcdv A outer st H vs Q E hr h=>?_)
 ·obtain⟨t,n,tp,s,ds,rows,rfl,_⟩:=h
  rfl
 ·obtain⟨t,n,tp,s,ds,rows,rfl,hS,hn,jO,hl,hs,q⟩:=h
  have kC:Room 2 _:=hr.mono (by decide)
  have jL:Room 1 _:=hr.mono (by decide)
  have hr3:Room (n+1) _:=hr.mono (by lia)
  obtain⟨⟨rp,ht,hR⟩,cn,hrl⟩:=id hS
  refine seqE ⟨_,⟨ql9 (pv 0) (ql8 rfl (qb4 (pgN 3 scLB.nd) (qb4 (pgN 4 scLB.nd) (qb4 (pgN 5 scLB.nd) qh2))))⟩,?_⟩
  refine seqE ⟨_,⟨ql9 (PEb.go ⟨pxN qc8 (qd4 (v:=.ref S) (by rfl) SS.at_ rfl) (pv 2)⟩) (ql8 rfl (qb4 (pgN 6 scLB.nd) (qb4 (pgN 7 scLB.nd) (qb4 (pgN 8 scLB.nd) qh2))))⟩,?_⟩
  refine seqE ⟨_,⟨ql9 (PEb.go ⟨pcN GB kC hB FB.kp bB (qa0 (pv 3) (qa0 (pv 1) qa1))⟩) (ql8 rfl (qb4 (pgN 9 scLB.nd) (qb4 (pgN 10 scLB.nd) (qb4 (pgN 11 scLB.nd) qh2))))⟩,?_⟩
  refine seqE ⟨_,⟨psN 12 scLB.nd (qa5 qd1 (pv 9) (qa5 qf4 (pv 6) (pv 11)))⟩,?_⟩
  refine seqE ⟨_,⟨psN 13 scLB.nd (qa5 qd1 (pv 10) (qa5 qf4 (pv 7) (pv 11)))⟩,?_⟩
  refine seqE ⟨_,⟨qd8 (qi9 (qf9 (pcN GC kC hC FC.kp bC (qa0 (pv 3) (qa0 (pv 12) (qa0 (pv 13) qa1)))))) (qa6 (qa9 (qj0 qa1))) qb3⟩,?_⟩
  refine seqE ⟨_,⟨ql9 (PEb.go ⟨pcN GW jL hW FW.kp bW (Ars2.go (.cons ⟨pv 5⟩ (.cons ⟨pv 4⟩ (.cons ⟨pcN GA kC hA FA.kp bA (Ars2.go (.cons ⟨pv 3⟩ (.cons ⟨pv 12⟩ (.cons ⟨pv 13⟩ (.cons ⟨qa5 qf0 (pv 3) (PEb.go ⟨qa8 qp2 (by rfl) B.len YA (qa0 (pv 1) qa1)⟩)⟩ .nil rfl) rfl) rfl) rfl))⟩ .nil rfl) rfl) rfl))⟩) (ql8 rfl (qb4 (pgN 14 scLB.nd) (qb4 (pgN 15 scLB.nd) qh2)))⟩,?_⟩
  refine seqE ⟨_,⟨qd8 (qf9 (qK0 PySem.F.plainAttrs_str PySem.F.slot_str_startswith PySem.F.type_str_startswith q68 (pv 1) (qa0 (pv 15) qa1))) (qa6 (qa9 (qj0 qa1))) qb3⟩,?_⟩
  refine seqE ⟨_,⟨psN 16 scLB.nd (qj0 qa1)⟩,?_⟩
  refine seqE ⟨_,⟨qd9 (pcN (GG n) hr3 hG FG.kp bG (Ars2.go (.cons ⟨pv 5⟩ (.cons ⟨pv 14⟩ (.cons ⟨pv 15⟩ (.cons ⟨pv 8⟩ (.cons ⟨pv 16⟩ .nil rfl) rfl) rfl) rfl) rfl)))⟩,?_⟩
  refine qh7 ⟨_,⟨qa9 (pv 16)⟩,?_⟩
  refine⟨_,rfl,t,_,rfl,SqT.of ht,rfl,_,_,rfl,_,_,rfl,_,_,rfl,rfl,?_⟩
  refine qx2 (σ':=[some (V.ref t),some (V.str (txt ds)),some (V.int ((s:Nat):Int)),some (V.int ((n:Nat):Int)),some (V.int ((tp:Nat):Int)),some (V.ref rp),none,none,none,none,none,none,none,none,none,none,none]) rfl ?_
  have hat:atI [V.ref (SD 0),.ref (SD 1),.ref (SD 2),.ref (SD 3)] (s:Int)=some (.ref (SD s)):=qj1 (by
   match s,hs with
   |0,_|1,_|2,_|3,_=>rfl)
  refine⟨_,rfl,S,_,(s:Int),.ref (SD s),rfl,rfl,.inr SS.all,hat,SD s,_,rfl,.inr (SS.one s hs),rfl,_,_,rfl,_,_,rfl,_,_,rfl,rfl,?_⟩
  refine qx2 (σ':=[some (V.ref t),some (V.str (txt ds)),some (V.int ((s:Nat):Int)),some (V.int ((n:Nat):Int)),some (V.int ((tp:Nat):Int)),some (V.ref rp),some (V.int (dnw s)),some (V.int (rgt s)),some (V.ref (AL s)),none,none,none,none,none,none,none,none]) rfl ?_
  refine⟨_,rfl,_,rfl,n,ds,rfl,hn,jO,hl,λp hp=>?_⟩
  refine⟨p,_,rfl,SqT.of qa2,rfl,_,_,rfl,_,_,rfl,_,_,rfl,rfl,?_⟩
  refine qx2 (σ':=[some (V.ref t),some (V.str (txt ds)),some (V.int ((s:Nat):Int)),some (V.int ((n:Nat):Int)),some (V.int ((tp:Nat):Int)),some (V.ref rp),some (V.int (dnw s)),some (V.int (rgt s)),some (V.ref (AL s)),some (V.int ((rwo n ds:Nat):Int)),some (V.int ((clo n ds:Nat):Int)),some (V.int ((2^(n-ds.length):Nat):Int)),none,none,none,none,none]) rfl ?_
  have s1:=qb7 (o:=.tup (vN [rwo n ds,clo n ds,2^(n-ds.length)])) hp
  have wD:H p=none:=hp
  generalize upd H p (.tup (vN [rwo n ds,clo n ds,2^(n-ds.length)]))=H1 at s1 ⊢
  have h4:2^(n-ds.length)<=4096:=qB0 (by lia)
  have kN:CMul (dnw s) ((2^(n-ds.length):Nat):Int)/\CMul (rgt s) ((2^(n-ds.length):Nat):Int):=by
   generalize 2^(n-ds.length)=z at h4
   exact⟨.inr ⟨by lia,by lia⟩,.inr ⟨by lia,by lia⟩⟩
  refine⟨_,rfl,_,rfl,_,rfl,_,_,rfl,rfl,kN.1,_,_,rfl,rfl,?_⟩
  refine⟨_,rfl,_,rfl,_,rfl,_,_,rfl,rfl,kN.2,_,_,rfl,rfl,?_⟩
  refine qx2 (σ':=[some (V.ref t),some (V.str (txt ds)),some (V.int ((s:Nat):Int)),some (V.int ((n:Nat):Int)),some (V.int ((tp:Nat):Int)),some (V.ref rp),some (V.int (dnw s)),some (V.int (rgt s)),some (V.ref (AL s)),some (V.int ((rwo n ds:Nat):Int)),some (V.int ((clo n ds:Nat):Int)),some (V.int ((2^(n-ds.length):Nat):Int)),some (V.int (nxr n ds s)),some (V.int (nxc n ds s)),none,none,none]) rfl ?_
  refine⟨_,rfl,_,rfl,_,rfl,n,nxr n ds s,nxc n ds s,rfl,hn,_,rfl,?_⟩
  have fresh:∀{H2:Hp}{l:Addr},Same H1 H2->H2 l=none->H l=none:=λ{H2 l} s2 e=>by
   cases e0:H l with
   |none=>rfl
   |some o=>rw[s2 _ _ (s1 _ _ e0)] at e;cases e
  unfold bsd at q
  refine ite2 (λhc=>?_) (λhc=>?_)
  ·have wN:¬inFl n (nxr n ds s) (nxc n ds s):=λz=>by
    have:decide (inFl n (nxr n ds s) (nxc n ds s))=true:=Zk z
    have hc':(!decide (inFl n (nxr n ds s) (nxc n ds s)))=true:=hc
    rw[this] at hc';cases hc'
   rw[Zq wN] at q
   refine⟨(by show 0<=sizeLine;decide),λl jV=>q _ l (s1.trans (qb7 jV)) (fresh (Same.refl _) jV) qa2⟩
  ·have hyes:inFl n (nxr n ds s) (nxc n ds s):=by
    by_cases z:inFl n (nxr n ds s) (nxc n ds s)
    ·exact z
    ·refine absurd ?_ hc
     show (!decide (inFl n (nxr n ds s) (nxc n ds s)))=true
     rw[Zm z];rfl
   rw[Zz hyes] at q
   obtain⟨⟨r0,r1⟩,c0,c1⟩:=id hyes
   have er:nxr n ds s=(((nxr n ds s).toNat:Nat):Int):=by lia
   have ec:nxc n ds s=(((nxc n ds s).toNat:Nat):Int):=by lia
   have en:(n:Int)-((txt ds).length:Nat)=((n-ds.length:Nat):Int):=by rw[qi0];lia
   have vE:∀d∈nxa n ds s,d<4:=qP9 _ _ _ _
   have k8:(nxa n ds s).length<=12:=by unfold nxa;rw[qA7];lia
   refine⟨_,rfl,_,rfl,_,rfl,_,rfl,_,rfl,_,rfl,_,rfl,txt ds,rfl,by rw[qi0];exact Xk (qc4 (by lia)),_,_,rfl,rfl,n,n-ds.length,(nxr n ds s).toNat,(nxc n ds s).toNat,?_,hn,by lia,λH2 s2=>?_⟩
   ·rw[<- er,<- ec,<- en];rfl
   ·have s12:=s1.trans s2
    refine⟨rp,tp,nxa n ds s,rows,rfl,hR.same s12,cn.rok,cn.inn,vE,k8,λH3 p3 y s3 kS hy hTy=>?_⟩
    have s13:=s12.trans s3
    refine⟨p3,_,rfl,SqT.of kS,rfl,_,_,rfl,_,_,rfl,rfl,?_⟩
    refine qx2 (σ':=[some (V.ref t),some (V.str (txt ds)),some (V.int ((s:Nat):Int)),some (V.int ((n:Nat):Int)),some (V.int ((tp:Nat):Int)),some (V.ref rp),some (V.int (dnw s)),some (V.int (rgt s)),some (V.ref (AL s)),some (V.int ((rwo n ds:Nat):Int)),some (V.int ((clo n ds:Nat):Int)),some (V.int ((2^(n-ds.length):Nat):Int)),some (V.int (nxr n ds s)),some (V.int (nxc n ds s)),some (V.int ((y:Nat):Int)),some (V.str (txt (wdn (T rows tp) (nxa n ds s)).2)),none]) rfl ?_
    refine⟨_,rfl,rfl,_,rfl,_,_,rfl,rfl,_,rfl,?_⟩
    rw[qV0]
    refine ite2 (λhc=>?_) (λhc=>?_)
    ·rw[Zz (ZB hc)] at q
     refine⟨(by show 0<=sizeLine;decide),λl jV=>q _ l (s13.trans (qb7 jV)) (fresh (s2.trans s3) jV) qa2⟩
    ·rw[Zq (λz=>hc (Zk z))] at q
     refine⟨(by show 0<=sizeLine;decide),λl jV=>?_⟩
     refine qx2 (σ':=[some (V.ref t),some (V.str (txt ds)),some (V.int ((s:Nat):Int)),some (V.int ((n:Nat):Int)),some (V.int ((tp:Nat):Int)),some (V.ref rp),some (V.int (dnw s)),some (V.int (rgt s)),some (V.ref (AL s)),some (V.int ((rwo n ds:Nat):Int)),some (V.int ((clo n ds:Nat):Int)),some (V.int ((2^(n-ds.length):Nat):Int)),some (V.int (nxr n ds s)),some (V.int (nxc n ds s)),some (V.int ((y:Nat):Int)),some (V.str (txt (wdn (T rows tp) (nxa n ds s)).2)),some (V.ref l)]) rfl ?_
     have s4:=s13.trans (qb7 (o:=.lst []) jV)
     have hdn:Tr.dep (T rows y)<=n:=by rw[hTy];exact q76 _ _ _ vE (qv5 cn)
     have jF:(wdn (T rows tp) (nxa n ds s)).2.length<=12:=ZE (qK8 _ _).length_le k8
     have h2n:2^n<=4096:=qB0 hn
     refine⟨_,rfl,_,rfl,_,rfl,_,rfl,_,rfl,rp,AL s,l,y,sa s,sb s,(wdn (T rows tp) (nxa n ds s)).2,[],rows,rfl,hR.same s4,cn.rok,SS.alo s hs,hy,hdn,(q75 hs).1,(q75 hs).2,qa2,by lia,hn,by show 0+2^n<=100000;lia,λH5 B5 hl5=>?_⟩
     refine⟨_,rfl,q H5 l (λb o e=>B5 b o (s4 _ _ e) (λz=>?_)) (fresh (s2.trans s3) jV) ?_⟩
     ·rw[z,fresh (s2.trans s3) jV] at e;cases e
     ·rw[hl5,hTy,Uh]
theorem scBs:FnScope ["shape", "address", "side"] ["shape", "address", "side"] (qa3 qr1):=qc6
def spBs:Sp:=λvs H Q _=>∃(t:Addr) (n tp s:Nat) (ds:List Nat) (rows:List Row),vs=[.ref t,.str (txt ds),.int (s:Nat)]/\qd6 H t n tp rows/\n<=12/\(∀d∈ds,d<4)/\ds.length<=n/\s<4/\nlf (T rows tp)<=2000 /\
 ∀(H':Hp) (l:Addr),Same H H'->H l=none->H' l=some (.lst (vT (bsd n (T rows tp) ds s)))->Q (.ref l) H'
theorem xB9 {f fS fA fD fC fL:Addr}{fd fdS fdA fdD fdC fdL:FuncData}(F:Fun K "beside" "beside" qr1 f fd)
  (hS:mg "want_shape" = some (.ref fS)) (FS:Fun K "want_shape" "want_shape" qO7 fS fdS) (bS:Binds K fdS ["shape"] []) (GS:FnOk P w K mg base CX0 16 fS fdS ["shape"] q46)
  (hA:mg "want_address" = some (.ref fA)) (FA:Fun K "want_address" "want_address" qO4 fA fdA) (bA:Binds K fdA ["n", "address"] []) (GA:FnOk P w K mg base CX0 3 fA fdA ["n", "address"] q63)
  (hD:mg "want_side" = some (.ref fD)) (FD:Fun K "want_side" "want_side" qA1 fD fdD) (bD:Binds K fdD ["side"] []) (GD:FnOk P w K mg base CX0 2 fD fdD ["side"] xw1)
  (hC:mg "want_coarse" = some (.ref fC)) (FC:Fun K "want_coarse" "want_coarse" qA0 fC fdC) (bC:Binds K fdC ["shape"] []) (GC:FnOk P w K mg base CX0 3 fC fdC ["shape"] spCs)
  (hL:mg "leaves_beside" = some (.ref fL)) (FL:Fun K "leaves_beside" "leaves_beside" xc1 fL fdL) (bL:Binds K fdL ["shape", "address", "side"] []) (GL:FnOk P w K mg base CX0 14 fL fdL ["shape", "address", "side"] spLB) :
  FnOk P w K mg base CX0 17 f fd ["shape", "address", "side"] spBs:=by
 refine F.ok scBs (λvs H Q E h=>?_) (λcdv A outer st H vs Q E hr h=>?_)
 ·obtain⟨t,n,tp,s,ds,rows,rfl,_⟩:=h
  rfl
 ·obtain⟨t,n,tp,s,ds,rows,rfl,wS,hn,jO,hl,hs,hlf,q⟩:=h
  have hr3:Room 3 _:=hr.mono (by decide)
  have kC:Room 2 _:=hr.mono (by decide)
  have hr14:Room 14 _:=hr.mono (by decide)
  refine seqE ⟨_,⟨qd9 (pcN GS hr hS FS.kp bS (qa0 (pv 0) qa1))⟩,?_⟩
  refine seqE ⟨_,⟨qd9 (pcN GA hr3 hA FA.kp bA (qa0 (pxN qc8 (pv 0) qa4) (qa0 (pv 1) qa1)))⟩,?_⟩
  refine seqE ⟨_,⟨qd9 (pcN GD kC hD FD.kp bD (qa0 (pv 2) qa1))⟩,?_⟩
  refine seqE ⟨_,⟨qd9 (pcN GC hr3 hC FC.kp bC (qa0 (pv 0) qa1))⟩,?_⟩
  refine qh7 ⟨_,⟨qa9 (pcN GL hr14 hL FL.kp bL (qa0 (pv 0) (qa0 (pv 1) (qa0 (pv 2) qa1))))⟩,?_⟩
  refine⟨_,rfl,t,n,tp,rows,rfl,wS,λH1 s1=>?_⟩
  have sh1:qd6 H1 t n tp rows:=⟨wS.1.mono s1.tups,wS.2⟩
  obtain⟨⟨rp,ht,_⟩,_⟩:=id sh1
  refine⟨_,rfl,t,_,0,.int (n:Nat),rfl,rfl,SqT.of ht,rfl,_,rfl,n,ds,rfl,hn,jO,hl,λH2 s2=>?_⟩
  refine⟨_,rfl,s,rfl,hs,?_⟩
  have sh2:qd6 H2 t n tp rows:=⟨sh1.1.mono s2.tups,wS.2⟩
  refine⟨_,rfl,t,n,tp,rows,rfl,sh2,hlf,λH3 s3=>?_⟩
  have sh3:qd6 H3 t n tp rows:=⟨sh2.1.mono s3.tups,wS.2⟩
  refine⟨_,rfl,_,rfl,_,rfl,t,n,tp,s,ds,rows,rfl,sh3,hn,jO,hl,hs,λH4 l s4 hl3 hl4=>q H4 l (((s1.trans s2).trans s3).trans s4) ?_ hl4⟩
  cases e0:H l with
  |none=>rfl
  |some o=>rw[s3 _ _ (s2 _ _ (s1 _ _ e0))] at hl3;cases hl3
end
end Pr
namespace Qf
open Tr
theorem along {t:Tr}{q:List Nat}{a b k:Nat}(ht:dep t<=k+q.length) (hq:∀d∈q,d<4) (ha:a<4) (hb:b<4) :
  dep (wdn t q).1<=k/\∀(i:Nat) ds',(lvs a b k (wdn t q).1)[i]?=some ds'->(wdn t (q++bd a b k (pos k (lvs a b k (wdn t q).1) i))).2=(wdn t q).2++ds'/\pos k (lvs a b k (wdn t q).1) i<2^k/\(∀d∈(wdn t q).2++ds',d<4)/\((wdn t q).2++ds').length<=k+q.length /\
   ∀f:Nat->Nat,f a=0->f b=1->(∀d,d<4->f d<=1)->∃z,cof f (k+q.length) ((wdn t q).2++ds')+2^(k+q.length-((wdn t q).2++ds').length)=cof f (k+q.length) q+z/\(i+1<(lvs a b k (wdn t q).1).length->z=pos k (lvs a b k (wdn t q).1) (i+1))/\(i+1=(lvs a b k (wdn t q).1).length->2^k<=z):=by
 have hd:dep (wdn t q).1<=k:=by
  rcases qh9 t q [] with ⟨h1,_⟩|⟨h1,_⟩
  ·exact qQ3 t q k hq ht h1
  ·rcases h1 with z|z<;>rw[z]<;>exact Zo _
 have A:=qA6 a b k (wdn t q).1 hd ha hb
 refine⟨hd,λi ds' hi=>?_⟩
 obtain⟨g1,g2,g3⟩:=A.lf i ds' hi
 have jS:=qK8 t q
 have jI:=Zv hi
 have hsh:=A.short ds' jI
 have j9:((wdn t q).2++ds').length<=k+q.length:=by
  rw[Zw]
  have:=jS.length_le
  lia
 refine⟨by rw[qL4,g1],g2,λd hx=>?_,j9,λf fa fb fl=>?_⟩
 ·rcases ZW.mp hx with h|h
  ·exact hq d (jS.subset h)
  ·rcases A.figs ds' jI d h with rfl|rfl<;>assumption
 ·rcases qh9 t q [] with ⟨h1,_⟩|⟨h1,_⟩
  ·rw[h1,qo3 f _ q ds' (by lia),Zw,VI,g3 f fa fb]
   refine⟨pos k (lvs a b k (wdn t q).1) i+2^(k+q.length-(q.length+ds'.length)),by lia,λ_=>?_,λhl=>?_⟩
   ·rw[qP8 hi]
    congr 2
    lia
   ·have:=A.whole
    rw[<- hl,qP8 hi] at this
    rw[show k+q.length-(q.length+ds'.length)=k-ds'.length by lia,this]
    exact Zd _
  ·rw[qe0 h1] at hi ⊢
   match i,hi with
   |0,hi=>
    cases hi
    rw[Y1]
    obtain⟨rest,hrest⟩:=jS
    have hl:(wdn t q).2.length+rest.length=q.length:=by rw[<- hrest,Zw,hrest]
    have k9:cof f (k+q.length-(wdn t q).2.length) rest+2^(k+q.length-(wdn t q).2.length-rest.length)<=2^(k+q.length-(wdn t q).2.length):=qn0 fl (λd hx=>hq d (by rw[<- hrest];exact ZI _ hx)) (by lia)
    rw[show k+q.length-(wdn t q).2.length-rest.length=k by lia] at k9
    have hq2:cof f (k+q.length) q=cof f (k+q.length) (wdn t q).2+cof f (k+q.length-(wdn t q).2.length) rest:=by
     rw[<- qo3 f _ _ _ (by lia),hrest]
    rw[hq2]
    exact⟨2^(k+q.length-(wdn t q).2.length)-cof f (k+q.length-(wdn t q).2.length) rest,by lia,λh=>absurd h (by simp),λ_=>by lia⟩
   |i+1,hi=>simp at hi
end Qf
namespace Pr
open PySem L2 Qf
def dv (s:Nat) (S:Int):Int:=
 match s with
 |0=>-1
 |2=>S
 |_=>0
def rv (s:Nat) (S:Int):Int:=
 match s with
 |1=>S
 |3=>-1
 |_=>0
def dn0 (n:Nat) (ds:List Nat) (s:Nat):Int:=((rwo n ds:Nat):Int)+dv s ((2^(n-ds.length):Nat):Int)
def rg0 (n:Nat) (ds:List Nat) (s:Nat):Int:=((clo n ds:Nat):Int)+rv s ((2^(n-ds.length):Nat):Int)
structure Geo (n:Nat) (ds:List Nat) (s:Nat):Prop where
 ni:inFl n (nxr n ds s) (nxc n ds s)
 di:inFl n (dn0 n ds s) (rg0 n ds s)
 cell:∀j:Nat,j<2^(n-ds.length)->∃r c:Nat,dn0 n ds s+(j:Int)*((s:Int)%2)=(r:Nat)/\rg0 n ds s+(j:Int)*(1-(s:Int)%2)=(c:Nat)/\dgp r c 0 n=nxa n ds s++bd (sa s) (sb s) (n-ds.length) j
 ev:s%2=0->clo n (nxa n ds s)=clo n ds
 od:s%2=1->rwo n (nxa n ds s)=rwo n ds
 ne:nxa n ds s≠ds
theorem geo {n s:Nat}{ds:List Nat}(jO:∀d∈ds,d<4) (hl:ds.length<=n) (hs:s<4):(¬inFl n (nxr n ds s) (nxc n ds s)/\¬inFl n (dn0 n ds s) (rg0 n ds s))\/Geo n ds s:=by
 obtain⟨r,er,hr⟩:=qB1 qv9 ds n jO hl
 obtain⟨c,ec,hc⟩:=qB1 qG9 ds n jO hl
 obtain⟨k,hk⟩:∃k,n=k+ds.length:=⟨n-ds.length,by lia⟩
 have ek:n-ds.length=k:=by lia
 rw[ek] at er ec
 have er':rwo n ds=2^k*r:=er
 have ec':clo n ds=2^k*c:=ec
 have vR:0<2^k:=Z7 (by decide)
 have e2n:2^n=2^k*2^ds.length:=by rw[hk,Xl]
 have hb:∀x,x<2^ds.length->2^k*x+2^k<=2^n:=λx hx=>by rw[e2n,<- W4];exact WC _ hx
 have vU:∀x,¬x<2^ds.length->2^n<=2^k*x:=λx hx=>by rw[e2n];exact WC _ (by lia)
 have nx:∀r0 c0:Nat,nxr n ds s=((2^k*r0:Nat):Int)->nxc n ds s=((2^k*c0:Nat):Int)->nxa n ds s=dgp (2^k*r0) (2^k*c0) k ds.length:=λr0 c0 h1 h2=>by
  unfold nxa
  rw[h1,h2,Zy,Zy,ek,show n-k=ds.length by lia]
 have rn:∀r0 c0:Nat,r0<2^ds.length->rwo n (dgp (2^k*r0) (2^k*c0) k ds.length)=2^k*r0:=λr0 c0 h=>by rw[hk];exact xe4 h
 have cn:∀r0 c0:Nat,c0<2^ds.length->clo n (dgp (2^k*r0) (2^k*c0) k ds.length)=2^k*c0:=λr0 c0 h=>by rw[hk];exact xe5 h
 have hbr:=hb r hr
 have hbc:=hb c hc
 match s,hs with
 |0,_=>
  have e1:nxr n ds 0=((2^k*r:Nat):Int)+(-1)*((2^k:Nat):Int):=by unfold nxr;rw[er',ek];rfl
  have e2:nxc n ds 0=((2^k*c:Nat):Int):=by unfold nxc;rw[ec',ek];show _+(0:Int)*_=_;rw[Uf,X5]
  have e3:dn0 n ds 0=((2^k*r:Nat):Int)+-1:=by unfold dn0;rw[er'];rfl
  have e4:rg0 n ds 0=((2^k*c:Nat):Int):=by unfold rg0;rw[ec'];show _+(0:Int)=_;rw[X5]
  cases r with
  |zero=>
   left
   unfold inFl
   rw[e1,e3,Nat.mul_zero]
   generalize 2^k=S at vR
   exact⟨λh=>by have:=h.1.1;lia,λh=>by have:=h.1.1;lia⟩
  |succ r=>
   right
   have hr':r<2^ds.length:=by lia
   have hm:2^k*(r+1)=2^k*r+2^k:=W4 _ _
   have e1':nxr n ds 0=((2^k*r:Nat):Int):=by rw[e1,hm];lia
   have enx:=nx r c e1' e2
   refine⟨?_,?_,λj hj=>⟨2^k*r+(2^k-1),2^k*c+j,?_,?_,?_⟩,λ_=>?_,λh=>(by cases h),λh=>?_⟩
   ·unfold inFl;rw[e1',e2];lia
   ·unfold inFl;rw[e3,e4,hm];lia
   ·rw[e3,hm];show _+(j:Int)*0=_;lia
   ·rw[e4];show _+(j:Int)*1=_;lia
   ·rw[ek] at hj ⊢
    rw[enx,hk,qr5 (by lia) hj,xA8]
    rfl
   ·rw[enx,cn _ _ hc,ec']
   ·have h1:=rn r c hr'
    rw[<- enx,h,er',hm] at h1
    lia
 |1,_=>
  have e1:nxr n ds 1=((2^k*r:Nat):Int):=by unfold nxr;rw[er',ek];show _+(0:Int)*_=_;rw[Uf,X5]
  have hm:2^k*(c+1)=2^k*c+2^k:=W4 _ _
  have e2:nxc n ds 1=((2^k*(c+1):Nat):Int):=by unfold nxc;rw[ec',ek,hm];show _+(1:Int)*_=_;lia
  have e3:dn0 n ds 1=((2^k*r:Nat):Int):=by unfold dn0;rw[er'];show _+(0:Int)=_;rw[X5]
  have e4:rg0 n ds 1=((2^k*(c+1):Nat):Int):=by unfold rg0;rw[ec',ek,hm];show _+((2^k:Nat):Int)=_;lia
  by_cases hc':c+1<2^ds.length
  ·right
   have hbc':=hb _ hc'
   have enx:=nx r (c+1) e1 e2
   refine⟨?_,?_,λj hj=>⟨2^k*r+j,2^k*(c+1)+0,?_,?_,?_⟩,λh=>(by cases h),λ_=>?_,λh=>?_⟩
   ·unfold inFl;rw[e1,e2];lia
   ·unfold inFl;rw[e3,e4];lia
   ·rw[e3];show _+(j:Int)*1=_;lia
   ·rw[e4];show _+(j:Int)*0=_;lia
   ·rw[ek] at hj ⊢
    rw[enx,hk,qr5 hj vR,xB0]
    rfl
   ·rw[enx,rn _ _ hr,er']
   ·have h1:=cn r (c+1) hc'
    rw[<- enx,h,ec',hm] at h1
    lia
  ·left
   have:=vU _ hc'
   unfold inFl
   rw[e2,e4]
   exact⟨λh=>by have:=h.2.2;lia,λh=>by have:=h.2.2;lia⟩
 |2,_=>
  have e2:nxc n ds 2=((2^k*c:Nat):Int):=by unfold nxc;rw[ec',ek];show _+(0:Int)*_=_;rw[Uf,X5]
  have hm:2^k*(r+1)=2^k*r+2^k:=W4 _ _
  have e1:nxr n ds 2=((2^k*(r+1):Nat):Int):=by unfold nxr;rw[er',ek,hm];show _+(1:Int)*_=_;lia
  have e4:rg0 n ds 2=((2^k*c:Nat):Int):=by unfold rg0;rw[ec'];show _+(0:Int)=_;rw[X5]
  have e3:dn0 n ds 2=((2^k*(r+1):Nat):Int):=by unfold dn0;rw[er',ek,hm];show _+((2^k:Nat):Int)=_;lia
  by_cases hr':r+1<2^ds.length
  ·right
   have hbr':=hb _ hr'
   have enx:=nx (r+1) c e1 e2
   refine⟨?_,?_,λj hj=>⟨2^k*(r+1)+0,2^k*c+j,?_,?_,?_⟩,λ_=>?_,λh=>(by cases h),λh=>?_⟩
   ·unfold inFl;rw[e1,e2];lia
   ·unfold inFl;rw[e3,e4];lia
   ·rw[e3];show _+(j:Int)*0=_;lia
   ·rw[e4];show _+(j:Int)*1=_;lia
   ·rw[ek] at hj ⊢
    rw[enx,hk,qr5 vR hj,xA9]
    rfl
   ·rw[enx,cn _ _ hc,ec']
   ·have h1:=rn (r+1) c hr'
    rw[<- enx,h,er',hm] at h1
    lia
  ·left
   have:=vU _ hr'
   unfold inFl
   rw[e1,e3]
   exact⟨λh=>by have:=h.1.2;lia,λh=>by have:=h.1.2;lia⟩
 |3,_=>
  have e2:nxc n ds 3=((2^k*c:Nat):Int)+(-1)*((2^k:Nat):Int):=by unfold nxc;rw[ec',ek];rfl
  have e1:nxr n ds 3=((2^k*r:Nat):Int):=by unfold nxr;rw[er',ek];show _+(0:Int)*_=_;rw[Uf,X5]
  have e4:rg0 n ds 3=((2^k*c:Nat):Int)+-1:=by unfold rg0;rw[ec'];rfl
  have e3:dn0 n ds 3=((2^k*r:Nat):Int):=by unfold dn0;rw[er'];show _+(0:Int)=_;rw[X5]
  cases c with
  |zero=>
   left
   unfold inFl
   rw[e2,e4,Nat.mul_zero]
   generalize 2^k=S at vR
   exact⟨λh=>by have:=h.2.1;lia,λh=>by have:=h.2.1;lia⟩
  |succ c=>
   right
   have hc':c<2^ds.length:=by lia
   have hm:2^k*(c+1)=2^k*c+2^k:=W4 _ _
   have e2':nxc n ds 3=((2^k*c:Nat):Int):=by rw[e2,hm];lia
   have enx:=nx r c e1 e2'
   refine⟨?_,?_,λj hj=>⟨2^k*r+j,2^k*c+(2^k-1),?_,?_,?_⟩,λh=>(by cases h),λ_=>?_,λh=>?_⟩
   ·unfold inFl;rw[e1,e2'];lia
   ·unfold inFl;rw[e3,e4,hm];lia
   ·rw[e3];show _+(j:Int)*1=_;lia
   ·rw[e4,hm];show _+(j:Int)*0=_;lia
   ·rw[ek] at hj ⊢
    rw[enx,hk,qr5 hj (by lia),xB1]
    rfl
   ·rw[enx,rn _ _ hr,er']
   ·have h1:=cn r c hc'
    rw[<- enx,h,ec',hm] at h1
    lia
end Pr
namespace Qf
open Tr
def lvT:Tr->List (List Nat×Bool)
 |.z=>[([],false)]
 |.o=>[([],true)]
 |.nd a b c d=>(lvT a).map (λe=>(0::e.1,e.2))++(lvT b).map (λe=>(1::e.1,e.2))++(lvT c).map (λe=>(2::e.1,e.2))++(lvT d).map (λe=>(3::e.1,e.2))
theorem qw0:∀t:Tr,(lvT t).length=nlf t
 |.z=>rfl
 |.o=>rfl
 |.nd a b c d=>by
  show (_++_++_++_:List _).length=nlf a+nlf b+nlf c+nlf d
  simp only[Zw,Zf]
  rw[qw0 a,qw0 b,qw0 c,qw0 d]
end Qf
namespace Qf
open Tr L2
def plT (b:Bool):Tr:=if b then .o else .z
theorem lvT_nd {a b c d:Tr}{e:List Nat×Bool}:e∈lvT (.nd a b c d)<->∃x l,x<4/\e.1=x::l/\(l,e.2)∈lvT (qr x (.nd a b c d)):=by
 have key:∀(x:Nat) (t:Tr),e∈(lvT t).map (λe=>(x::e.1,e.2))<->∃l,e.1=x::l/\(l,e.2)∈lvT t:=λx t=>by
  rw[ZH]
  constructor
  ·rintro⟨f,hf,rfl⟩
   exact⟨f.1,rfl,hf⟩
  ·rintro⟨l,h1,h2⟩
   exact⟨_,h2,Vm h1.symm rfl⟩
 show e∈_++_++_++_<->_
 simp only[ZW,key]
 constructor
 ·rintro (((⟨l,h⟩|⟨l,h⟩)|⟨l,h⟩)|⟨l,h⟩)
  ·exact⟨0,l,by decide,h⟩
  ·exact⟨1,l,by decide,h⟩
  ·exact⟨2,l,by decide,h⟩
  ·exact⟨3,l,by decide,h⟩
 ·rintro⟨x,l,hx,h⟩
  match x,hx with
  |0,_=>exact .inl (.inl (.inl ⟨l,h⟩))
  |1,_=>exact .inl (.inl (.inr ⟨l,h⟩))
  |2,_=>exact .inl (.inr ⟨l,h⟩)
  |3,_=>exact .inr ⟨l,h⟩
theorem qQ8 {x m:Nat}{a b c d:Tr}(hx:x<4) (h:dep (.nd a b c d)<=m+1):dep (qr x (.nd a b c d))<=m:=qi6 hx _ h
theorem qy8:∀(m:Nat) (t:Tr) (e:List Nat×Bool),dep t<=m->e∈lvT t->(∀d∈e.1,d<4)/\e.1.length<=m
 |m,.z,e,_,h=>by
  have:e=([],false):=by simpa [lvT] using h
  subst this;exact⟨λd h=>(nomatch h),Zo _⟩
 |m,.o,e,_,h=>by
  have:e=([],true):=by simpa [lvT] using h
  subst this;exact⟨λd h=>(nomatch h),Zo _⟩
 |0,.nd a b c d,e,hd,h=>by rcases dep0 hd with z|z<;>cases z
 |m+1,.nd a b c d,e,hd,h=>by
  obtain⟨x,l,hx,h1,h2⟩:=lvT_nd.mp h
  obtain⟨i1,i2⟩:=qy8 m _ _ (qQ8 hx hd) h2
  rw[h1]
  refine⟨λq hq=>?_,by rw[ZQ];exact V6 i2⟩
  rcases Zs.mp hq with rfl|z
  ·exact hx
  ·exact i1 q z
def inB (n:Nat) (ad:List Nat) (r c:Nat):Prop:=cof (· / 2) n ad<=r/\r<cof (· / 2) n ad+2^(n-ad.length)/\cof (·%2) n ad<=c/\c<cof (·%2) n ad+2^(n-ad.length)
theorem q77 (f:Nat->Nat) (n:Nat):cof f n []=0:=by cases n<;>rfl
theorem qH0 (r m:Nat):r%2^(m+1)=2^m*(r/2^m%2)+r%2^m:=by
 rw[Yb,Nat.mod_mul,VB]
theorem qH1:∀(n:Nat) (t:Tr) (r c:Nat),dep t<=n->(∃ad b,(ad,b)∈lvT t/\wdn t (dgp r c 0 n)=(plT b,ad))/\∀ad b,(ad,b)∈lvT t->(wdn t (dgp r c 0 n)=(plT b,ad)<->inB n ad (r%2^n) (c%2^n)):=by
 have plain:∀(b0:Bool) (t:Tr),t=plT b0->lvT t=[([],b0)]->∀n r c,(∃ad b,(ad,b)∈lvT t/\wdn t (dgp r c 0 n)=(plT b,ad))/\∀ad b,(ad,b)∈lvT t->(wdn t (dgp r c 0 n)=(plT b,ad)<->inB n ad (r%2^n) (c%2^n)):=λb0 t ht hl n r c=>by
  have e:wdn t (dgp r c 0 n)=(plT b0,[]):=by
   rw[qd7 (by rw[ht];cases b0;exact .inl rfl;exact .inr rfl),ht]
  refine⟨⟨[],b0,by rw[hl];simp,e⟩,λad b h=>?_⟩
  rw[hl] at h
  have h':ad=[]/\b=b0:=by simpa using h
  obtain⟨rfl,rfl⟩:=h'
  refine⟨λ_=>?_,λ_=>e⟩
  unfold inB
  rw[q77,q77]
  have:=XC r (Z7 (n:=n) (show 0<2 by decide))
  have:=XC c (Z7 (n:=n) (show 0<2 by decide))
  simp;lia
 intro n
 induction n with
 |zero=>
  intro t r c hd
  rcases dep0 hd with rfl|rfl
  ·exact plain false _ rfl rfl _ _ _
  ·exact plain true _ rfl rfl _ _ _
 |succ m ih=>
  intro t r c hd
  cases t with
  |z=>exact plain false _ rfl rfl _ _ _
  |o=>exact plain true _ rfl rfl _ _ _
  |nd p q s u=>
   have ed:dgp r c 0 (m+1)=(2*(r/2^m%2)+c/2^m%2)::dgp r c 0 m:=by
    show (2*(r/2^(0+m)%2)+c/2^(0+m)%2)::dgp r c 0 m=_
    rw[Xz]
   have ew:wdn (.nd p q s u) (dgp r c 0 (m+1))=((wdn (qr (2*(r/2^m%2)+c/2^m%2) (.nd p q s u)) (dgp r c 0 m)).1,(2*(r/2^m%2)+c/2^m%2)::(wdn (qr (2*(r/2^m%2)+c/2^m%2) (.nd p q s u)) (dgp r c 0 m)).2):=by rw[ed];rfl
   rw[ew]
   have wM:2*(r/2^m%2)+c/2^m%2<4:=by lia
   constructor
   ·obtain⟨⟨ad,b,h1,h2⟩,_⟩:=ih _ r c (qQ8 wM hd)
    refine⟨_::ad,b,lvT_nd.mpr ⟨_,ad,wM,rfl,h1⟩,?_⟩
    rw[h2]
   ·intro ad b h
    obtain⟨x,l,hx,rfl,h2⟩:=lvT_nd.mp h
    obtain⟨_,hi⟩:=ih (qr x (.nd p q s u)) r c (qQ8 hx hd)
    have hil:=hi l b h2
    obtain⟨a1,a2⟩:=qy8 m _ _ (qQ8 hx hd) h2
    have c1:=qn0 qv9 a1 a2
    have c2:=qn0 qG9 a1 a2
    have lr:=XC r (Z7 (n:=m) (show 0<2 by decide))
    have lc:=XC c (Z7 (n:=m) (show 0<2 by decide))
    have hir:inB (m+1) (x::l) (r%2^(m+1)) (c%2^(m+1))<->(r/2^m%2=x/2/\c/2^m%2=x%2)/\inB m l (r%2^m) (c%2^m):=by
     unfold inB
     rw[qH0 r m,qH0 c m,show m+1-(x::l).length=m-l.length by simp]
     show (2^m*(x/2)+cof (· / 2) m l<=_/\_<2^m*(x/2)+cof (· / 2) m l+_/\2^m*(x%2)+cof (·%2) m l<=_/\_<2^m*(x%2)+cof (·%2) m l+_)<->_
     generalize cof (· / 2) m l=A at *
     generalize cof (·%2) m l=B at *
     generalize 2^(m-l.length)=S at *
     generalize r%2^m=R at *
     generalize c%2^m=C at *
     have kC:r/2^m%2=0\/r/2^m%2=1:=by lia
     have hc2:c/2^m%2=0\/c/2^m%2=1:=by lia
     generalize r/2^m%2=ρ at *
     generalize c/2^m%2=γ at *
     generalize 2^m=M at *
     have hx2:x/2=0\/x/2=1:=by lia
     have hx3:x%2=0\/x%2=1:=by lia
     generalize x/2=X2 at *
     generalize x%2=X3 at *
     rcases kC with rfl|rfl<;>rcases hc2 with rfl|rfl<;>rcases hx2 with rfl|rfl<;>rcases hx3 with rfl|rfl<;>simp only[Nat.mul_zero,Nat.mul_one,Xz,true_and,Ul,false_and,and_false,iff_false,reduceCtorEq,Nat.one_ne_zero,Nat.zero_ne_one,eq_self]<;>lia
    rw[hir,<- hil]
    constructor
    ·intro e
     have e1:=Yd Prod.fst e
     have e2:=Yd Prod.snd e
     obtain⟨e3,e4⟩:=YV e2
     have e3:2*(r/2^m%2)+c/2^m%2=x:=e3
     rw[e3] at e1 e4
     exact⟨by lia,Vm e1 e4⟩
    ·rintro⟨e1,e2⟩
     have e3:2*(r/2^m%2)+c/2^m%2=x:=by lia
     rw[e3,e2]
def lfAd (t:Tr) (n r c:Nat):List Nat:=(wdn t (dgp r c 0 n)).2
theorem qj6 {n:Nat}{t:Tr}{r c:Nat}(hd:dep t<=n) (hr:r<2^n) (hc:c<2^n):∃b,(lfAd t n r c,b)∈lvT t/\(wdn t (dgp r c 0 n)).1=plT b/\inB n (lfAd t n r c) r c:=by
 obtain⟨⟨ad,b,h1,h2⟩,h3⟩:=qH1 n t r c hd
 have e:lfAd t n r c=ad:=by unfold lfAd;rw[h2]
 refine⟨b,by rw[e];exact h1,by rw[h2],?_⟩
 rw[e]
 have:=(h3 ad b h1).mp h2
 rwa [YG hr,YG hc] at this
theorem qB3 {n:Nat}{t:Tr}{r c:Nat}{ad:List Nat}{b:Bool}(hd:dep t<=n) (hr:r<2^n) (hc:c<2^n) (h:(ad,b)∈lvT t) (hi:inB n ad r c):lfAd t n r c=ad/\(wdn t (dgp r c 0 n)).1=plT b:=by
 have:=((qH1 n t r c hd).2 ad b h).mpr (by rw[YG hr,YG hc];exact hi)
 unfold lfAd
 rw[this]
 exact⟨rfl,rfl⟩
end Qf
namespace Qf
open Tr
theorem qL6 (a b:Nat) (ha:a<4) (hb:b<4):∀(k:Nat) (t:Tr) (p:Nat),dep t<=k->(wdn t (bd a b k p)).2∈lvs a b k t
 |0,t,p,h=>by rw[qe0 (dep0 h),qd7 (dep0 h)];simp
 |k+1,.z,p,h=>by rw[qe0 (.inl rfl),qd7 (.inl rfl)];simp
 |k+1,.o,p,h=>by rw[qe0 (.inr rfl),qd7 (.inr rfl)];simp
 |k+1,.nd x y v u,p,h=>by
  show (wdn (.nd x y v u) ((if p/2^k%2=0 then a else b)::bd a b k p)).2∈(lvs a b k (qr a (.nd x y v u))).map (a::·)++(lvs a b k (qr b (.nd x y v u))).map (b::·)
  rw[ZW]
  by_cases hp:p/2^k%2=0
  ·rw[Zz hp]
   exact .inl (ZH.mpr ⟨_,qL6 a b ha hb k _ p (qi6 ha _ h),rfl⟩)
  ·rw[Zq hp]
   exact .inr (ZH.mpr ⟨_,qL6 a b ha hb k _ p (qi6 hb _ h),rfl⟩)
theorem qw1 (a b:Nat) (kK:a≠b):∀(k:Nat) (t:Tr),(lvs a b k t).Nodup
 |0,t=>by cases t<;>exact Yg.mpr ⟨by simp,YM⟩
 |k+1,.z=>Yg.mpr ⟨by simp,YM⟩
 |k+1,.o=>Yg.mpr ⟨by simp,YM⟩
 |k+1,.nd x y v u=>by
  show ((lvs a b k (qr a (.nd x y v u))).map (a::·)++(lvs a b k (qr b (.nd x y v u))).map (b::·)).Nodup
  have inj:∀(c:Nat) (L:List (List Nat)),L.Nodup->(L.map (c::·)).Nodup:=λc L h=>by
   rw[ZT,XA]
   exact YY (λ{u1 v1} jJ e=>jJ (YV e).2) (ZT.mp h)
  refine Xc.mpr ⟨inj a _ (qw1 a b kK k _),inj b _ (qw1 a b kK k _),λu1 hu v1 hv e=>?_⟩
  obtain⟨p,_,rfl⟩:=ZH.mp hu
  obtain⟨q,_,rfl⟩:=ZH.mp hv
  exact kK (YV e).1
theorem xp1 {n r c:Nat}{y m:List Nat}(h4:∀d∈y++m,d<4) (hl:(y++m).length<=n) (h:inB n (y++m) r c):inB n y r c:=by
 have kW:y.length<=n:=by rw[Zw] at hl;lia
 have hlm:m.length<=n-y.length:=by rw[Zw] at hl;lia
 have c1:=qn0 (n:=n-y.length) qv9 (λd hd=>h4 d (ZI _ hd)) hlm
 have c2:=qn0 (n:=n-y.length) qG9 (λd hd=>h4 d (ZI _ hd)) hlm
 unfold inB at h ⊢
 rw[qo3 _ _ _ _ kW,qo3 _ _ _ _ kW,show n-(y++m).length=n-y.length-m.length by rw[Zw];lia] at h
 lia
end Qf
namespace Pr
open PySem L2 Qf
theorem xw3:∀s,s<4->sa s≠sb s:=by decide
theorem q78 {n s r c:Nat}{ds:List Nat}{p:Nat}(hs:s<4) (hp:p<2^(n-ds.length)) (h1:dn0 n ds s+(p:Int)*((s:Int)%2)=(r:Nat)) (h2:rg0 n ds s+(p:Int)*(1-(s:Int)%2)=(c:Nat)) :
  ¬inB n ds r c/\∃r0 c0:Nat,inB n ds r0 c0/\(r:Int)=r0+dnw s/\(c:Int)=c0+rgt s:=by
 unfold dn0 rwo at h1
 unfold rg0 clo at h2
 unfold inB
 generalize cof (· / 2) n ds=A at *
 generalize cof (·%2) n ds=B at *
 generalize 2^(n-ds.length)=S at *
 match s,hs with
 |0,_=>
  have h1:(A:Int)+-1+(p:Int)*0=r:=h1
  have h2:(B:Int)+0+(p:Int)*1=c:=h2
  exact⟨by lia,r+1,c,by lia,by show (r:Int)=((r+1:Nat):Int)+-1;lia,by show (c:Int)=(c:Int)+0;lia⟩
 |1,_=>
  have h1:(A:Int)+0+(p:Int)*1=r:=h1
  have h2:(B:Int)+(S:Int)+(p:Int)*0=c:=h2
  refine⟨by lia,r,c-1,by lia,by show (r:Int)=(r:Int)+0;lia,?_⟩
  show (c:Int)=((c-1:Nat):Int)+1
  lia
 |2,_=>
  have h1:(A:Int)+(S:Int)+(p:Int)*0=r:=h1
  have h2:(B:Int)+0+(p:Int)*1=c:=h2
  refine⟨by lia,r-1,c,by lia,?_,by show (c:Int)=(c:Int)+0;lia⟩
  show (r:Int)=((r-1:Nat):Int)+1
  lia
 |3,_=>
  have h1:(A:Int)+0+(p:Int)*1=r:=h1
  have h2:(B:Int)+-1+(p:Int)*0=c:=h2
  exact⟨by lia,r,c+1,by lia,by show (r:Int)=(r:Int)+0;lia,by show (c:Int)=((c+1:Nat):Int)+-1;lia⟩
theorem qH2 {n s r c r0 c0:Nat}{ds:List Nat}(hs:s<4) (h0:inB n ds r0 c0) (h1:¬inB n ds r c) (e1:(r:Int)=r0+dnw s) (e2:(c:Int)=c0+rgt s) (hr:r<2^n) (hc:c<2^n) :
  inFl n (dn0 n ds s) (rg0 n ds s)/\∃p:Nat,p<2^(n-ds.length)/\dn0 n ds s+(p:Int)*((s:Int)%2)=(r:Nat)/\rg0 n ds s+(p:Int)*(1-(s:Int)%2)=(c:Nat):=by
 unfold inFl dn0 rg0 rwo clo
 unfold inB at h0 h1
 generalize cof (· / 2) n ds=A at *
 generalize cof (·%2) n ds=B at *
 generalize 2^(n-ds.length)=S at *
 generalize 2^n=N at *
 match s,hs with
 |0,_=>
  have e1:(r:Int)=r0+-1:=e1
  have e2:(c:Int)=c0+0:=e2
  refine⟨⟨⟨by show 0<=(A:Int)+-1;lia,by show (A:Int)+-1<_;lia⟩,by show 0<=(B:Int)+0;lia,by show (B:Int)+0<_;lia⟩,c-B,by lia,?_,?_⟩
  ·show (A:Int)+-1+_*0=_;lia
  ·show (B:Int)+0+((c-B:Nat):Int)*1=_;lia
 |1,_=>
  have e1:(r:Int)=r0+0:=e1
  have e2:(c:Int)=c0+1:=e2
  refine⟨⟨⟨by show 0<=(A:Int)+0;lia,by show (A:Int)+0<_;lia⟩,by show 0<=(B:Int)+(S:Int);lia,by show (B:Int)+(S:Int)<_;lia⟩,r-A,by lia,?_,?_⟩
  ·show (A:Int)+0+((r-A:Nat):Int)*1=_;lia
  ·show (B:Int)+(S:Int)+_*0=_;lia
 |2,_=>
  have e1:(r:Int)=r0+1:=e1
  have e2:(c:Int)=c0+0:=e2
  refine⟨⟨⟨by show 0<=(A:Int)+(S:Int);lia,by show (A:Int)+(S:Int)<_;lia⟩,by show 0<=(B:Int)+0;lia,by show (B:Int)+0<_;lia⟩,c-B,by lia,?_,?_⟩
  ·show (A:Int)+(S:Int)+_*0=_;lia
  ·show (B:Int)+0+((c-B:Nat):Int)*1=_;lia
 |3,_=>
  have e1:(r:Int)=r0+0:=e1
  have e2:(c:Int)=c0+-1:=e2
  refine⟨⟨⟨by show 0<=(A:Int)+0;lia,by show (A:Int)+0<_;lia⟩,by show 0<=(B:Int)+-1;lia,by show (B:Int)+-1<_;lia⟩,r-A,by lia,?_,?_⟩
  ·show (A:Int)+0+((r-A:Nat):Int)*1=_;lia
  ·show (B:Int)+-1+_*0=_;lia
def qB4 (n:Nat) (t:Tr) (d g:Int) (x y:List Nat):Prop:=∃r c r' c':Nat,r<2^n/\c<2^n/\r'<2^n/\c'<2^n/\lfAd t n r c=x/\lfAd t n r' c'=y/\(r':Int)=r+d/\(c':Int)=c+g/\x≠y
theorem qB5 {n s:Nat}{t:Tr}{ds:List Nat}{f:Bool}(hd:Tr.dep t<=n) (hL:(ds,f)∈lvT t) (hs:s<4):(bsd n t ds s).Nodup/\∀x,x∈bsd n t ds s<->qB4 n t (dnw s) (rgt s) ds x:=by
 obtain⟨h4,hl⟩:=qy8 n t _ hd hL
 have h4:∀d∈ds,d<4:=h4
 have hl:ds.length<=n:=hl
 obtain⟨sa4,sb4⟩:=q75 hs
 have inBds:∀r c,inB n ds r c->r<2^n/\c<2^n:=λr c h=>by
  have c1:=qn0 qv9 h4 hl
  have c2:=qn0 qG9 h4 hl
  unfold inB at h
  lia
 constructor
 ·unfold bsd
  split
  ·split
   ·exact YM
   ·rw[ZT,XA]
    exact YY (λ{u v} jJ e=>jJ (List.append_cancel_left e)) (ZT.mp (qw1 _ _ (xw3 s hs) _ _))
  ·exact YM
 ·intro x
  rcases geo h4 hl hs with ⟨g1,g2⟩|G
  ·have e:bsd n t ds s=[]:=by unfold bsd;rw[Zq g1]
   rw[e]
   refine⟨λh=>(nomatch h),?_⟩
   rintro⟨r,c,r',c',a1,a2,a3,a4,rfl,rfl,b1,b2,b3⟩
   obtain⟨_,_,_,i1⟩:=qj6 hd a1 a2
   have i2:¬inB n (lfAd t n r c) r' c':=λz=>b3 (qB3 hd a3 a4 hL z).1.symm
   exact absurd (qH2 hs i1 i2 b1 b2 a3 a4).1 g2
  ·have vE:∀d∈nxa n ds s,d<4:=qP9 _ _ _ _
   have k8:(nxa n ds s).length=ds.length:=by unfold nxa;rw[qA7];lia
   obtain⟨hdq,hal⟩:=along (t:=t) (q:=nxa n ds s) (a:=sa s) (b:=sb s) (k:=n-ds.length) (by rw[k8];lia) vE sa4 sb4
   have elv:lvs (sa s) (sb s) n (wdn t (nxa n ds s)).1=lvs (sa s) (sb s) (n-ds.length) (wdn t (nxa n ds s)).1:=qL3 _ _ _ _ _ sa4 sb4 (ZE hdq (by lia)) hdq
   have A:=qA6 (sa s) (sb s) (n-ds.length) (wdn t (nxa n ds s)).1 hdq sa4 sb4
   have inq:inFl n (nxr n ds s) (nxc n ds s):=G.ni
   constructor
   ·intro hx
    unfold bsd at hx
    rw[Zz inq] at hx
    split at hx
    ·cases hx
    ·rw[elv] at hx
     obtain⟨e,he,rfl⟩:=ZH.mp hx
     obtain⟨i,hi⟩:=List.mem_iff_getElem?.mp he
     obtain⟨w1,w2,_⟩:=A.lf i e hi
     obtain⟨r',c',q1,q2,q3⟩:=G.cell _ w2
     obtain⟨n1,r,c,i1,j1,j2⟩:=q78 hs w2 q1 q2
     obtain⟨a1,a2⟩:=inBds r c i1
     have f1:r'<2^n/\c'<2^n:=by
      have hdi:=G.di
      unfold inFl at hdi
      have hc1:=qn0 qv9 h4 hl
      have hc2:=qn0 qG9 h4 hl
      unfold inB at i1
      match s,hs with
      |0,_=>
       have j1:(r':Int)=r+-1:=j1
       have j2:(c':Int)=c+0:=j2
       lia
      |1,_=>
       have j1:(r':Int)=r+0:=j1
       have q2:rg0 n ds 1+_*0=(c':Int):=q2
       lia
      |2,_=>
       have j2:(c':Int)=c+0:=j2
       have q1:dn0 n ds 2+_*0=(r':Int):=q1
       lia
      |3,_=>
       have j1:(r':Int)=r+0:=j1
       have j2:(c':Int)=c+-1:=j2
       lia
     have el:lfAd t n r' c'=(wdn t (nxa n ds s)).2++e:=by
      unfold lfAd
      rw[q3,qL4,w1]
     refine⟨r,c,r',c',a1,a2,f1.1,f1.2,(qB3 hd a1 a2 hL i1).1,el,j1,j2,λz=>n1 ?_⟩
     obtain⟨_,_,_,i2⟩:=qj6 hd f1.1 f1.2
     rw[el,<- z] at i2
     exact i2
   ·rintro⟨r,c,r',c',a1,a2,a3,a4,b0,rfl,b1,b2,b3⟩
    obtain⟨_,_,_,i1⟩:=qj6 hd a1 a2
    rw[b0] at i1
    have i2:¬inB n ds r' c':=λz=>b3 (qB3 hd a3 a4 hL z).1.symm
    obtain⟨_,p,hp,p1,p2⟩:=qH2 hs i1 i2 b1 b2 a3 a4
    obtain⟨r2,c2,q1,q2,q3⟩:=G.cell p hp
    have er:r2=r':=by rw[p1] at q1;lia
    have ec:c2=c':=by rw[p2] at q2;lia
    subst er ec
    have el:lfAd t n r2 c2=(wdn t (nxa n ds s)).2++(wdn (wdn t (nxa n ds s)).1 (bd (sa s) (sb s) (n-ds.length) p)).2:=by
     unfold lfAd
     rw[q3,qL4]
    unfold bsd
    rw[Zz inq,Zq,elv]
    ·rw[el]
     exact ZH.mpr ⟨_,qL6 _ _ sa4 sb4 _ _ p hdq,rfl⟩
    ·intro jS
     rcases qh9 t (nxa n ds s) (bd (sa s) (sb s) (n-ds.length) p) with ⟨z1,_⟩|⟨z1,z2⟩
     ·rw[z1] at jS
      exact G.ne (jS.eq_of_length k8)
     ·obtain⟨m,hm⟩:=jS
      obtain⟨g,k1,_,_⟩:=qj6 hd a3 a4
      have ey:lfAd t n r2 c2=(wdn t (nxa n ds s)).2:=by unfold lfAd;rw[q3,z2]
      rw[ey] at k1
      have i3:inB n (wdn t (nxa n ds s)).2 r c:=by
       refine xp1 (m:=m) (by rw[hm];exact h4) (by rw[hm];exact hl) ?_
       rw[hm];exact i1
      have:=(qB3 hd a1 a2 k1 i3).1
      rw[b0] at this
      exact b3 (this.trans ey.symm)
end Pr
namespace L2
open PySem PySem.Spec PyProof.Rows
theorem xf2 {lo:Int}{n:Nat}{g:TG}{tb:TS}{D:Ends}{σ:St}{H:Hp}(Pv:Nat->St->Hp->Prop) (h0:Pv 0 σ H)
  (hs:∀i σ H,i<n->Pv i σ H->g (.int (lo-i)) σ H λσ2 H2=>tb { D with nx:=Pv (i+1),ct:=Pv (i+1),bk:=D.nx } σ2 H2) (hd:∀σ H,Pv n σ H->D.nx σ H) :
  ∃W:Nat->Nat->St->Hp->Prop,(∃m,W 0 m σ H)/\∀i m σ H,W i m σ H ->
   ((Itd lo n).stop i H/\D.nx σ H)\/((Itd lo n).go i H/\∃N:St->Hp->Prop,(∀σ' H',N σ' H'->∃m',m'<m/\W (i+1) m' σ' H')/\∀x H',(Itd lo n).yld i H x H'->g x σ H' λσ2 H2=>tb { D with nx:=N,ct:=N,bk:=D.nx } σ2 H2):=by
 refine⟨λi m σ H=>m=n-i/\i<=n/\Pv i σ H,⟨n,by simp,Zo _,h0⟩,?_⟩
 rintro i m σ H ⟨rfl,hi,p⟩
 by_cases jB:i<n
 ·refine .inr ⟨jB,Pv (i+1),λσ' H' p'=>⟨n-(i+1),by lia,rfl,jB,p'⟩,λx H' y=>?_⟩
  obtain⟨e,y⟩:=y
  subst e y
  exact hs i σ _ jB p
 ·have e:i=n:=by lia
  subst e
  exact .inl ⟨Zd _,hd σ H p⟩
end L2
namespace Pr
open PySem L2 Qf
theorem xw4 {d:Nat}(h:d<4):atI ("0123" : Str).cps.toList (d:Int)=some (48+d):=by
 match d,h with
 |0,_|1,_|2,_|3,_=>decide +kernel
theorem xf3:("0123" : Str).length<=sizeLine:=by decide +kernel
theorem xp2:("" : Str)=txt []:=by decide +kernel
theorem xw5 {r c n i:Nat}(h:i<n):(dgp r c 0 n)[i]?=some (qd r c (n-1-i)):=by
 rw[qv7,Zg,Xj h]
 show some (qd r c (0+n-1-i))=_
 rw[Xz]
theorem qQ9 {t:Tr}{l m:List Nat}(h:(wdn t l).1=.z\/(wdn t l).1=.o):wdn t (l++m)=wdn t l:=by
 rcases qh9 t l m with ⟨h1,h2⟩|⟨_,h2⟩
 ·rw[h2,qd7 h]
  exact Vm rfl (by show l++[]=_;rw[Y1,h1])
 ·exact h2
theorem xf4 {t:Tr}{l:List Nat}{a b c d:Tr}(h:(wdn t l).1=.nd a b c d):(wdn t l).2=l:=by
 rcases qh9 t l [] with ⟨h1,_⟩|⟨h1,_⟩
 ·exact h1
 ·rw[h] at h1;rcases h1 with z|z<;>cases z
section
variable {P:Program}{w:World}{K:PySem.W.Frag}{mg:Str->Option Value}{base:Heap}
abbrev nLf:List Str:=["_law_told_here", "_law_row", "_law_column", "_law_n", "_law_number_here", "_law_rows", "_law_address", "_law_k", "_law_quarter"]
abbrev nLf3:List Str:=["_law_told_here", "_law_row", "_law_column"]
theorem scLf:FnScope nLf nLf3 (qa3 q34):=qc6
def spLf:Sp:=λvs H Q _=>∃(t:Addr) (n tp r c:Nat) (rows:List Row),vs=[.ref t,.int (r:Nat),.int (c:Nat)]/\qd6 H t n tp rows/\n<=12 /\
 Q (.str (txt (wdn (T rows tp) (dgp r c 0 n)).2)) H
theorem xC0 {f:Addr}{fd:FuncData}(F:Fun K "_law_leaf" "_law_leaf" q34 f fd) (B:Blt mg):FnOk P w K mg base CX0 1 f fd nLf3 spLf:=by
 refine F.ok scLf (λvs H Q E h=>?_) (λcdv A outer s H vs Q E hr h=>?_)
 ·obtain⟨t,n,tp,r,c,rows,rfl,_⟩:=h
  rfl
 ·obtain⟨t,n,tp,r,c,rows,rfl,hS,hn,q⟩:=h
  obtain⟨⟨rp,ht,hR⟩,cn,hrl⟩:=id hS
  have ok:=cn.rok
  refine seqE ⟨_,⟨ql9 (pv 0) (ql8 rfl (qb4 (pgN 3 scLf.nd) (qb4 (pgN 4 scLf.nd) (qb4 (pgN 5 scLf.nd) qh2))))⟩,?_⟩
  refine seqE ⟨_,⟨psN 6 scLf.nd qM7⟩,?_⟩
  refine seqE ⟨_,⟨qk6 YO rfl (q28 (by rfl) B.range (qa0 (qa5 qf0 (pv 3) qa4) (qa0 (xk3 qX0 qa4) (qa0 (xk3 qX0 qa4) qa1)))) (pgN 7 scLf.nd)
   (StB.go (.one ⟨qd8 (qb6 xk6 (pv 4) qa4 (qb5 _)) (StB.go (.cons ⟨psN 8 scLf.nd (qa5 qd1 (qa5 qf4 qa4 (qa5 qD2 (qa5 qM8 (pv 1) (pv 7)) qa4)) (qa5 qD2 (qa5 qM8 (pv 2) (pv 7)) qa4))⟩
    (.cons ⟨psN 4 scLf.nd (pxN qc8 (PEb.go ⟨pxN qc8 (pv 5) (qa5 qf0 (pv 4) qa4)⟩) (pv 8))⟩
    (.one ⟨psN 6 scLf.nd (qa5 qx9 (pv 6) (PEb.go ⟨pxN xt3 qM7 (pv 8)⟩))⟩)))) qb3⟩))⟩,?_⟩
  refine qh7 ⟨_,⟨qa9 (pv 6)⟩,?_⟩
  refine⟨_,rfl,t,_,rfl,SqT.of ht,rfl,_,_,rfl,_,_,rfl,_,_,rfl,rfl,?_⟩
  refine⟨_,rfl,_,_,rfl,rfl,_,rfl,_,rfl,(n:Int)-1,-1,rfl,⟨by lia,by lia,by lia,by lia⟩,?_⟩
  have eN:((n:Int)-1-(-1)).toNat=n:=by lia
  rw[eN]
  have hDl:(dgp r c 0 n).length=n:=qA7 r c 0 n
  have wJ:=qP9 r c 0 n
  have hDa:∀i,i<n->(dgp r c 0 n)[i]?=some (qd r c (n-1-i)):=λi hi=>xw5 hi
  generalize dgp r c 0 n=D at q hDl wJ hDa
  refine xf2 (lo:=(n:Int)-1) (n:=n) (λi σ H2=>H2=H/\∃(y:Nat) (v7 v8:Option V),σ=[some (.ref t),some (.int (r:Nat)),some (.int (c:Nat)),some (.int (n:Nat)),some (.int (y:Nat)),some (.ref rp),some (.str (txt (wdn (T rows tp) (D.take i)).2)),v7,v8]/\y<rows.length+2/\T rows y=(wdn (T rows tp) (D.take i)).1) ?_ ?_ ?_
  ·refine⟨rfl,tp,none,none,?_,cn.inn,?_⟩
   ·rw[W3,ql5,<- xp2];rfl
   ·rw[W3,ql5]
  ·rintro i σ H2 hi ⟨rfl,y,v7,v8,rfl,hy,hT⟩
   have hd:=hDa i hi
   have ek:(n:Int)-1-(i:Int)=((n-1-i:Nat):Int):=by lia
   refine⟨_,rfl,_,_,rfl,rfl,_,rfl,?_⟩
   refine ite2 (λhc=>?_) (λhc=>?_)
   ·have y2:¬y<2:=by have:=ZB hc;lia
    obtain⟨pl,a0,a1,a2,a3,rfl,jF⟩:=qm6 ok hy y2
    obtain⟨bs,hrp,vI,jE⟩:=id hR
    have hpr1:=(gS_ jF).1
    have vH:bs[pl]?=some (bs[pl]'(by lia)):=Ze (by lia)
    have vB:=jE pl _ _ vH jF
    generalize bs[pl]'(by lia)=ra at vH vB
    have wM:=xo3 r c (n-1-i)
    have eT:T rows (pl+2)=.nd (T rows a0) (T rows a1) (T rows a2) (T rows a3):=qm8 ok jF
    have hw:=xf4 (by rw[<- hT,eT])
    obtain⟨w1,w2⟩:=qQ7 hd hw (by rw[<- hT,eT])
    have jB:(wdn (T rows tp) (D.take i)).2.length<=12:=by rw[hw,Xm];lia
    have eq1:(2:Int)*Builtin.bitAnd ((r:Int)/2^((n:Int)-1-(i:Int)).toNat) 1+Builtin.bitAnd ((c:Int)/2^((n:Int)-1-(i:Int)).toNat) 1=((qd r c (n-1-i):Nat):Int):=by
     rw[ek,qA9,qA9];unfold qd;lia
    generalize hqq:qd r c (n-1-i)=d at wM eq1 hd w1 w2
    obtain⟨m,hm⟩:∃m,[a0,a1,a2,a3][d]?=some m:=⟨_,Ze (show d<[a0,a1,a2,a3].length from wM)⟩
    refine⟨_,rfl,_,rfl,_,_,rfl,rfl,by lia,_,_,rfl,rfl,_,_,rfl,rfl,.inl ⟨by decide,by decide⟩,_,rfl,_,rfl,_,_,rfl,rfl,by lia,_,_,rfl,rfl,_,_,rfl,rfl,?_⟩
    refine⟨_,rfl,_,rfl,_,_,rfl,rfl,rp,_,((pl:Nat):Int),.ref ra,rfl,Yd V.int (by lia),SqT.of hrp,qj1 (by rw[Zg,vH];rfl),_,rfl,ra,_,(d:Int),.int (m:Nat),rfl,Yd V.int eq1,SqT.of vB,qu4 hm,?_⟩
    refine⟨_,rfl,_,rfl,_,(d:Int),48+d,rfl,Yd V.int eq1,xf3,xw4 wM,_,_,rfl,rfl,?_,?_⟩
    ·rw[qi0]
     show _+1<=sizeLine
     exact Xk (qc4 (by lia))
    ·refine⟨rfl,m,some (.int ((n:Int)-1-(i:Int))),some (.int ((2:Int)*Builtin.bitAnd ((r:Int)/2^((n:Int)-1-(i:Int)).toNat) 1+Builtin.bitAnd ((c:Int)/2^((n:Int)-1-(i:Int)).toNat) 1)),?_,?_,?_⟩
     ·rw[w2,qv8 hd,<- q71,hw];rfl
     ·have:=(ok pl _ jF).2 m (Zv hm)
      lia
     ·rw[w1,T_qr ok jF wM hm,eT]
   ·have y2:y<2:=by
     have:¬(1:Int)<(y:Int):=λz=>hc (Zk z)
     lia
    have jF:(wdn (T rows tp) (D.take i)).1=.z\/(wdn (T rows tp) (D.take i)).1=.o:=by
     rw[<- hT]
     have:y=0\/y=1:=by lia
     rcases this with rfl|rfl
     ·exact .inl (qi5 _)
     ·exact .inr (qq2 _)
    refine⟨rfl,y,some (.int ((n:Int)-1-(i:Int))),v8,?_,hy,?_⟩
    ·rw[qv8 hd,qQ9 jF];rfl
    ·rw[qv8 hd,qQ9 jF];exact hT
  ·rintro σ H2 ⟨rfl,y,v7,v8,rfl,hy,hT⟩
   have e:D.take n=D:=Yc (by lia)
   rw[e]
   exact⟨_,rfl,q⟩
end
end Pr
namespace L2
open PySem
theorem q79 {H:Hp}{n k:Nat}{g:TG}{tt:TT}{te:TE}{σ:St}{Fin:Hp->Prop}{D:Addr}(Iv:Nat->List V->Hp->Prop) (hsz:n<sizeLine) (i0:Iv 0 [] (upd H D (.lst []))) (hD:∀i xs H2,Iv i xs H2->H2 D=some (.lst xs)/\xs.length<=i)
  (step:∀i xs H2,i<n->Iv i xs H2->∀os:St,os.length=k->∀(Q1:Hp->Prop) (Q2:VK),(∀H3,Iv (i+1) xs H3->Q1 H3)->(∀v H3,H3 D=some (.lst xs)->Iv (i+1) (xs++[v]) (upd H3 D (.lst (xs++[v])))->Q2 v H3) ->
   g (.int (0+(i:Int))) (os++σ) H2 λσ4 H4=>tt σ4 H4 λb H5=>if b=true then te σ4 H5 Q2 else Q1 H5)
  (fin:∀xs H2,Iv n xs H2->Fin H2) :
  ∃W:Nat->Nat->List V->Hp->Prop,(∃m,W 0 m [] (upd H D (.lst []))) /\
   ∀i m xs H2,W i m xs H2->H2 D=some (.lst xs)/\xs.length<sizeLine/\(((Itr 0 n).stop i H2/\Fin H2)\/((Itr 0 n).go i H2/\∀y H3,(Itr 0 n).yld i H2 y H3->∀os:St,os.length=k ->
    g y (os++σ) H3 λσ4 H4=>tt σ4 H4 λb H5=>if b=true then te σ4 H5 λv H6=>H6 D=some (.lst xs)/\∃m',m'<m/\W (i+1) m' (xs++[v]) (upd H6 D (.lst (xs++[v]))) else ∃m',m'<m/\W (i+1) m' xs H5)):=by
 refine⟨λi m xs H2=>i<=n/\m=n-i/\Iv i xs H2,⟨n,Zo _,rfl,i0⟩,?_⟩
 rintro i m xs H2 ⟨hi,rfl,iv⟩
 obtain⟨h1,h2⟩:=hD i xs H2 iv
 refine⟨h1,by lia,?_⟩
 by_cases he:i=n
 ·subst he
  exact .inl ⟨Zd i,fin xs H2 iv⟩
 ·refine .inr ⟨show i<n by lia,λy H3 hy os ho=>?_⟩
  obtain⟨e1,e2⟩:=hy
  rw[e1,e2]
  exact step i xs H2 (by lia) iv os ho _ _ (λH5 h=>⟨n-(i+1),by lia,by lia,rfl,h⟩) λv H6 h1 h2=>⟨h1,n-(i+1),by lia,by lia,rfl,h2⟩
theorem qR0 {H:Hp}{n:Nat}{te:TE}{σ:St}{Fin:Hp->Prop}{D:Addr}(Iv:Nat->List V->Hp->Prop) (hsz:n<sizeLine) (i0:Iv 0 [] (upd H D (.lst []))) (hD:∀i xs H2,Iv i xs H2->H2 D=some (.lst xs)/\xs.length<=i)
  (step:∀i xs H2,i<n->Iv i xs H2->∀Q2:VK,(∀v H3,H3 D=some (.lst xs)->Iv (i+1) (xs++[v]) (upd H3 D (.lst (xs++[v])))->Q2 v H3)->te (some (.int (0+(i:Int)))::σ) H2 Q2)
  (fin:∀xs H2,Iv n xs H2->Fin H2) :
  ∃W:Nat->Nat->List V->Hp->Prop,(∃m,W 0 m [] (upd H D (.lst []))) /\
   ∀i m xs H2,W i m xs H2->H2 D=some (.lst xs)/\xs.length<sizeLine/\(((Itr 0 n).stop i H2/\Fin H2)\/((Itr 0 n).go i H2/\∀y H3,(Itr 0 n).yld i H2 y H3 ->
    te (some y::σ) H3 λv H4=>H4 D=some (.lst xs)/\∃m',m'<m/\W (i+1) m' (xs++[v]) (upd H4 D (.lst (xs++[v]))))):=by
 refine⟨λi m xs H2=>i<=n/\m=n-i/\Iv i xs H2,⟨n,Zo _,rfl,i0⟩,?_⟩
 rintro i m xs H2 ⟨hi,rfl,iv⟩
 obtain⟨h1,h2⟩:=hD i xs H2 iv
 refine⟨h1,by lia,?_⟩
 by_cases he:i=n
 ·subst he
  exact .inl ⟨Zd i,fin xs H2 iv⟩
 ·refine .inr ⟨show i<n by lia,λy H3 hy=>?_⟩
  obtain⟨e1,e2⟩:=hy
  rw[e1,e2]
  exact step i xs H2 (by lia) iv _ λv H6 h1 h2=>⟨h1,n-(i+1),by lia,by lia,rfl,h2⟩
end L2
namespace Pr
open PySem L2 Qf
structure Blt2 (mg:Str->Option Value):Prop where
 abs:mg "abs" = none
 repr:mg "repr" = none
 str:mg "str" = none
section
variable {P:Program}{w:World}{K:PySem.W.Frag}{mg:Str->Option Value}{base:Heap}
theorem scDigit:FnScope ["_law_pot_here", "_law_many", "_law_digit_here"] ["_law_pot_here", "_law_many"] (qa3 qu3):=qc6
def qo5:Sp:=λvs H Q _=>∃(p:Addr) (n:Nat),vs=[.ref p,.int (n:Nat)]/\PurseAt H p/\0<n/\n<1000000/\∀(d:Nat) (H':Hp),d<n->But p H H'->PurseAt H' p->Q (.int (d:Nat)) H'
theorem qr6 {f:Addr}{fd:FuncData}(F:Fun K "_law_digit" "_law_digit" qu3 f fd):FnOk P w K mg base CX0 1 f fd ["_law_pot_here", "_law_many"] qo5:=by
 refine F.ok scDigit (λvs H Q E h=>?_) (λcdv A outer s H vs Q E hr h=>?_)
 ·obtain⟨p,n,rfl,_⟩:=h
  rfl
 ·obtain⟨p,n,rfl,⟨a,b,hp,ha,hb,jW⟩,hn,hn2,q⟩:=h
  refine⟨_,qb0 (qd8 (qb6 xk6 (pxN qh4 (pv 0) qa4) qa4 (qb5 _))
    (qb0 (psN 2 scDigit.nd (qa5 qm0 (pxN qh4 (pv 0) qa4) (pv 1)))
    (qb0 (ql9 (qa5 qg3 (pxN qh4 (pv 0) qa4) (pv 1)) (xh4 (pv 0) qa4 qN2))
    (qa6 (qa9 (pv 2))))) qb3)
   (qb0 (ql9 (qa5 qm0 (qa5 qd1 (qa5 qf4 (pxN qh4 (pv 0) qa4) qa4) qa4) qa4) (xh4 (pv 0) qa4 qN2))
   (qa6 (qa9 (qa5 qm0 (qa5 qg3 (pxN qh4 (pv 0) qa4) qa4) (pv 1))))),?_⟩
  have sq:∀{H':Hp}{xs:List V},H' p=some (.lst xs)->SqL K H' p xs:=λh=>SqL.of h
  have fin:∀(d x y:Int),0<=d->d<(n:Int)->0<=x->0<=y->y<2^40->Q (.int d) (upd H p (.lst [.int x,.int y])):=λd x y d0 d1 x0 y0 y1=>by
   have:=q d.toNat (upd H p (.lst [.int x,.int y])) (by lia) But.upd ⟨x,y,qa2,x0,y0,y1⟩
   rwa [show ((d.toNat:Nat):Int)=d by lia] at this
  have hn0:(0:Int)<n:=by lia
  refine⟨_,rfl,p,_,0,_,rfl,rfl,sq hp,rfl,_,_,rfl,rfl,_,rfl,?_⟩
  refine ite2 (λhc=>?_) (λhc=>?_)
  ·refine⟨_,rfl,p,_,0,_,rfl,rfl,sq hp,rfl,_,rfl,_,_,rfl,rfl,hn0,?_⟩
   refine⟨_,rfl,p,_,0,_,rfl,rfl,sq hp,rfl,_,rfl,_,_,rfl,rfl,⟨hn0,by lia⟩,_,rfl,p,_,0,0,rfl,rfl,hp,rfl,?_⟩
   refine⟨_,rfl,?_⟩
   exact fin _ _ _ (WJ _ (by lia)) (XY _ hn0) (Int.ediv_nonneg ha (by lia)) hb jW
  ·refine⟨_,rfl,p,_,1,_,rfl,rfl,sq hp,rfl,_,_,rfl,rfl,.inl ⟨by lia,by lia⟩,_,_,rfl,rfl,_,_,rfl,rfl,(by show (0:Int)<2147483629;decide),_,rfl,p,_,1,1,rfl,rfl,hp,rfl,?_⟩
   have m1:0<=(b*48271+8191)%2147483629/\(b*48271+8191)%2147483629<2147483629:=⟨WJ _ (by decide),XY _ (by decide)⟩
   refine⟨_,rfl,p,_,1,_,rfl,rfl,sq qa2,rfl,_,_,rfl,rfl,⟨by decide,by decide⟩,_,rfl,_,_,rfl,rfl,hn0,?_⟩
   exact fin _ _ _ (WJ _ (by lia)) (XY _ hn0) ha m1.1 (by lia)
theorem scPot:FnScope ["_law_script", "_law_k", "_law_cell"] ["_law_script", "_law_k"] (qa3 lPot):=qc6
def xw6 (K:PySem.W.Frag):Sp:=λvs H Q _=>∃(a:Addr) (k:Int) (ns:List Int),vs=[.ref a,.int k]/\SqL K H a (ns.map V.int)/\ns.length<=63/\0<=k/\k<=1000/\∀(H':Hp) (p:Addr),Same H H'->H p=none->PurseAt H' p->Q (.ref p) H'
theorem xw7 {f:Addr}{fd:FuncData}(F:Fun K "_law_pot" "_law_pot" lPot f fd) (B:Blt mg) (C:Blt2 mg):FnOk P w K mg base CX0 1 f fd ["_law_script", "_law_k"] (xw6 K):=by
 refine F.ok scPot (λvs H Q E h=>?_) (λcdv A outer s H vs Q E hr h=>?_)
 ·obtain⟨a,k,ns,rfl,_⟩:=h
  rfl
 ·obtain⟨a,k,ns,rfl,hS,hl,h0,h1,q⟩:=h
  refine seqE ⟨_,⟨psN 2 scPot.nd qa4⟩,?_⟩
  refine seqE ⟨_,⟨qd8 (qb6 qh3 (pv 1) (qa8 qc9 (by rfl) B.len YA (qa0 (pv 0) qa1)) (qb5 _)) (qa6 (psN 2 scPot.nd (pxN qh4 (pv 0) (pv 1)))) qb3⟩,?_⟩
  refine qh7 ⟨_,⟨qa9 (qj0 (Ars2.go (.cons ⟨qa8 (qD3 rfl) (by rfl) B.max Va (qa0 qa4 (qa0 (qa5 qf0 (qa8 qM9 (by rfl) C.abs PyProof.Rows.boot_abs (qa0 (pv 2) qa1)) (qa5 xs8 qa4 qa4)) qa1))⟩
    (.cons ⟨qa5 qd1 (qa5 qd1 (qa5 qm0 (qa8 qM9 (by rfl) C.abs PyProof.Rows.boot_abs (qa0 (pv 2) qa1)) qa4) (qa5 qf4 qa4 (pv 1))) qa4⟩ .nil rfl) rfl)))⟩,?_⟩
  have fin:∀(z:Int) (p:Addr),H p=none->Q (.ref p) (upd H p (.lst [.int (if (if z<0 then -z else z)-10^18>0 then (if z<0 then -z else z)-10^18 else 0),.int ((if z<0 then -z else z)%2147483629+97*k+1)])):=λz p hp=>by
   have m1:0<=(if z<0 then -z else z)%2147483629/\(if z<0 then -z else z)%2147483629<2147483629:=⟨WJ _ (by decide),XY _ (by decide)⟩
   refine q _ p (qb7 hp) hp ⟨_,_,qa2,?_,?_,?_⟩
   ·split<;>lia
   ·lia
   ·lia
  refine⟨_,rfl,_,rfl,a,_,rfl,.inl hS,_,_,rfl,rfl,_,rfl,?_⟩
  refine ite2 (λhc=>?_) (λhc=>?_)
  ·have hk:k<(ns.length:Int):=by
    have:=ZB hc
    simpa using this
   have hkn:k.toNat<ns.length:=by lia
   refine⟨_,rfl,_,rfl,a,_,k,.int (ns[k.toNat]),rfl,rfl,hS,?_,?_⟩
   ·have:=qj1 (xs:=ns.map V.int) (j:=k.toNat) (v:=.int (ns[k.toNat])) (by simp[hkn])
    rw[show ((k.toNat:Nat):Int)=k by lia] at this
    exact this
   ·refine⟨_,rfl,_,rfl,_,_,rfl,rfl,⟨by decide,by decide,by decide⟩,_,_,rfl,rfl,_,_,rfl,?_⟩
    exact⟨_,rfl,_,rfl,_,_,rfl,rfl,(by show (0:Int)<2147483629;decide),_,rfl,_,_,rfl,rfl,.inl ⟨by decide,by decide⟩,_,_,rfl,rfl,_,_,rfl,rfl,(by show 2<=sizeLine;decide),λp hp=>fin _ p hp⟩
  ·refine⟨_,rfl,_,rfl,_,_,rfl,rfl,⟨by decide,by decide,by decide⟩,_,_,rfl,rfl,_,_,rfl,?_⟩
   exact⟨_,rfl,_,rfl,_,_,rfl,rfl,(by show (0:Int)<2147483629;decide),_,rfl,_,_,rfl,rfl,.inl ⟨by decide,by decide⟩,_,_,rfl,rfl,_,_,rfl,rfl,(by show 2<=sizeLine;decide),λp hp=>fin _ p hp⟩
end
end Pr
namespace PyProof.Rows
open PySem
def xp3:Bool->Keyed->Array Keyed->Nat->Nat->Nat->StateT SortSt Sem (Option Nat):=sortPriv% PySem.Builtin.gallop
def KLt (prog:Program) (w:World) (A:Around) (s:Shared) (κ:KeyKind) (kd:SortKind):Prop:=
 ∀(E:Value->Shared->Prop) (x y:Value) (a b:κ.α) (Q:Bool->Shared->Prop),κ.keyOf x=some a->κ.keyOf y=some b->Q (κ.blt a b) s->wpAny (model prog w) A (keyLt' kd x y) Q E s
section
variable {prog:Program}{w:World}{A:Around}{E:Value->Shared->Prop}{s:Shared}{κ:KeyKind}
theorem qw2 {kd:SortKind}(hO:KLt prog w A s κ kd){st:SortSt}{x y:Keyed}{a b:κ.α}{Q:Option Bool->SortSt->Prop}(hk:kindOf st=kd) (ha:κ.keyOf x.1=some a) (hb:κ.keyOf y.1=some b) (h:Q (some (κ.blt a b)) st) :
  wpS (model prog w) A E s (lt' x y) Q st:=by
 rw[lt'_eq]
 refine Zp (Vl ?_)
 rw[hk]
 refine Zp (V8 (XE (hO _ _ _ a b _ ha hb ⟨rfl,?_⟩)))
 exact Zx h
theorem qb1 {st:SortSt}{arr:Array Keyed}{i:Nat}{x:Keyed}{Q:Keyed->SortSt->Prop}(hi:arr[i]?=some x) (h:Q x st):wpS (model prog w) A E s (elem' arr i) Q st:=by
 rw[elem'_eq,hi]
 exact Zx h
def asks (left:Bool) (k x:κ.α):Bool:=if left then κ.blt x k else !κ.blt k x
theorem qf3 {kd:SortKind}(hO:KLt prog w A s κ kd){left:Bool}{key:Keyed}{k:κ.α}{arr:Array Keyed}{base n hint c:Nat}{st:SortSt}{Q:Option Nat->SortSt->Prop}(hk:kindOf st=kd) (kG:κ.keyOf key.1=some k)
  (harr:∀i,i<n->∃x a,arr[base+i]?=some x/\κ.keyOf x.1=some a/\asks left k a=decide (i<c)) (hh:hint<n) (hc:c<=n) (h:Q (some c) st):wpS (model prog w) A E s (xp3 left key arr base n hint) Q st:=by
 have bey:∀(i:Nat) (Q':Option Bool->SortSt->Prop),i<n->Q' (some (decide (i<c))) st->wpS (model prog w) A E s (elem' arr (base+i) >>= λx=>if left=true then lt' x key else lt' key x >>= λr=>pure (Option.map (λx=>!x) r)) Q' st:=λi Q' hi hq=>by
  obtain⟨x,a,e1,e2,e3⟩:=harr i hi
  refine Zp (qb1 e1 ?_)
  unfold asks at e3
  cases left with
  |true=>
   rw[Zz rfl] at e3 ⊢
   refine qw2 hO hk e2 kG ?_
   rw[e3];exact hq
  |false=>
   rw[Zq (by decide)] at e3 ⊢
   refine Zp (qw2 hO hk kG e2 (Zx ?_))
   show Q' (some (!κ.blt k a)) st
   rw[e3];exact hq
 refine Zp (bey hint _ hh ?_)
 have fin:∀lo hi,lo<=c->c<=hi->hi<=n->∀(f:Nat->Option (Option Nat)×Nat×Nat->StateT SortSt Sem (ForInStep (Option (Option Nat)×Nat×Nat))) (g:Option (Option Nat)×Nat×Nat->StateT SortSt Sem (Option Nat)),
   (∀x lo hi,lo<hi->hi<=n->∀Q',(∀b,Q' (ForInStep.yield (none,if decide (lo+(hi-lo)/2<c)=true then (lo+(hi-lo)/2+1,hi) else (lo,lo+(hi-lo)/2))) b\/b≠st)->wpS (model prog w) A E s (f x (none,lo,hi)) Q' st) ->
   (∀x lo hi,lo>=hi->f x (none,lo,hi)=pure (ForInStep.done (none,lo,hi)))->(∀lo hi,g (none,lo,hi)=pure (some hi))->wpS (model prog w) A E s (forIn [:n] (none,lo,hi) f >>= g) Q st:=by
  intro lo hi h1 h2 h3 f g hf hf2 hg
  refine Zp (WG (Y9 (I:=λx cc st'=>st'=st/\∃lo hi,cc=(none,lo,hi)/\lo<=c/\c<=hi/\hi<=n/\hi-lo<=n-x) (Q:=λcc st'=>st'=st/\∃lo,cc=(none,lo,c)) ?step ?fin ⟨rfl,lo,hi,rfl,h1,h2,h3,by lia⟩) ?post)
  case post=>
   rintro cc st' ⟨rfl,lo,rfl⟩
   rw[hg]
   exact Zx h
  case fin=>
   rintro cc st' ⟨rfl,lo,hi,rfl,g1,g2,g3,g4⟩
   have:hi=c:=by lia
   exact⟨rfl,lo,by rw[this]⟩
  case step=>
   rintro x cc st' _ hx ⟨rfl,lo,hi,rfl,g1,g2,g3,g4⟩
   by_cases w4:lo>=hi
   ·rw[hf2 x lo hi w4]
    have:hi=c:=by lia
    exact Zx ⟨rfl,lo,by rw[this]⟩
   ·refine hf x lo hi (by lia) g3 _ λb=>?_
    by_cases hbst:b=st'
    ·left
     subst hbst
     by_cases hm:lo+(hi-lo)/2<c
     ·rw[Zk hm]
      exact⟨rfl,_,_,rfl,by lia,g2,g3,by lia⟩
     ·rw[Zm hm]
      exact⟨rfl,_,_,rfl,g1,by lia,by lia,by lia⟩
    ·exact .inr hbst
 have go:∀(x lo hi:Nat),lo<hi->hi<=n->∀(Q':ForInStep (Option (Option Nat)×Nat×Nat)->SortSt->Prop),(∀b,Q' (ForInStep.yield (none,if decide (lo+(hi-lo)/2<c)=true then (lo+(hi-lo)/2+1,hi) else (lo,lo+(hi-lo)/2))) b\/b≠st) ->
   ∀F:Option Bool->StateT SortSt Sem (ForInStep (Option (Option Nat)×Nat×Nat)),(∀b:Bool,F (some b)=if b=true then pure (ForInStep.yield (none,lo+(hi-lo)/2+1,hi)) else pure (ForInStep.yield (none,lo,lo+(hi-lo)/2))) ->
   wpS (model prog w) A E s ((elem' arr (base+(lo+(hi-lo)/2)) >>= λx=>if left=true then lt' x key else lt' key x >>= λr=>pure (Option.map (λx=>!x) r)) >>= F) Q' st:=by
  intro x lo hi jB hn Q' hq F hF
  refine Zp (bey _ _ (by lia) ?_)
  rw[hF]
  have q:=(hq st).resolve_right (λz=>z rfl)
  by_cases hm:lo+(hi-lo)/2<c
  ·rw[Zk hm] at q ⊢
   exact Zx q
  ·rw[Zm hm] at q ⊢
   exact Zx q
 by_cases hr:hint<c
 ·rw[Zk hr]
  dsimp only
  rw[Zz rfl]
  refine Zp (WG (Y9 (I:=λx cc st'=>st'=st/\∃l o,cc=(none,l,o)/\l<o/\hint+l<c/\x<o) (Q:=λcc st'=>st'=st/\∃l o,cc=(none,l,o)/\hint+l<c/\(n-hint<=o\/c<=hint+o)) ?step ?fin ⟨rfl,0,1,rfl,by lia,by lia,by lia⟩) ?post)
  case fin=>
   rintro cc st' ⟨rfl,l,o,rfl,g1,g2,g3⟩
   exact⟨rfl,l,o,rfl,g2,.inl (by lia)⟩
  case step=>
   rintro x cc st' _ hx ⟨rfl,l,o,rfl,g1,g2,g3⟩
   dsimp only
   by_cases ho:o>=n-hint
   ·rw[Zz ho]
    exact Zx ⟨rfl,l,o,rfl,g2,.inl ho⟩
   ·rw[Zq ho]
    refine Zp (bey (hint+o) _ (by lia) ?_)
    by_cases hm:hint+o<c
    ·rw[Zk hm]
     exact Zx ⟨rfl,o,2*o+1,rfl,by lia,hm,by lia⟩
    ·rw[Zm hm]
     exact Zx ⟨rfl,l,o,rfl,g2,.inr (by lia)⟩
  case post=>
   rintro cc st' ⟨rfl,l,o,rfl,g2,g3⟩
   dsimp only
   refine fin (hint+l+1) (hint+min o (n-hint)) (by lia) (by lia) (by lia) _ _ (λx lo hi jB hn' Q' hq=>?_) (λx lo hi w4=>?_) (λlo hi=>rfl)
   ·dsimp only
    rw[Zq (by lia)]
    exact go x lo hi jB hn' Q' hq _ (λb=>rfl)
   ·dsimp only
    rw[Zz w4]
 ·rw[Zm hr]
  dsimp only
  rw[Zq (by decide)]
  refine Zp (WG (Y9 (I:=λx cc st'=>st'=st/\∃l o,cc=(none,l,o)/\l<o/\c<=hint-l/\l<=hint/\x<o) (Q:=λcc st'=>st'=st/\∃l o,cc=(none,l,o)/\c<=hint-l/\l<=hint/\(hint+1<=o\/(o<=hint/\hint-o<c))) ?step ?fin ⟨rfl,0,1,rfl,by lia,by lia,by lia,by lia⟩) ?post)
  case fin=>
   rintro cc st' ⟨rfl,l,o,rfl,g1,g2,g3,g4⟩
   exact⟨rfl,l,o,rfl,g2,g3,.inl (by lia)⟩
  case step=>
   rintro x cc st' _ hx ⟨rfl,l,o,rfl,g1,g2,g3,g4⟩
   dsimp only
   by_cases ho:o>=hint+1
   ·rw[Zz ho]
    exact Zx ⟨rfl,l,o,rfl,g2,g3,.inl ho⟩
   ·rw[Zq ho]
    refine Zp (bey (hint-o) _ (by lia) ?_)
    by_cases hm:hint-o<c
    ·rw[Zk hm]
     exact Zx ⟨rfl,l,o,rfl,g2,g3,.inr ⟨by lia,hm⟩⟩
    ·rw[Zm hm]
     exact Zx ⟨rfl,o,2*o+1,rfl,by lia,by lia,by lia,by lia⟩
  case post=>
   rintro cc st' ⟨rfl,l,o,rfl,g2,g3,g5⟩
   dsimp only
   refine fin (hint+1-min o (hint+1)) (hint-l) (by lia) (by lia) (by lia) _ _ (λx lo hi jB hn' Q' hq=>?_) (λx lo hi w4=>?_) (λlo hi=>rfl)
   ·dsimp only
    rw[Zq (by lia)]
    exact go x lo hi jB hn' Q' hq _ (λb=>rfl)
   ·dsimp only
    rw[Zz w4]
end
def SrtK (κ:KeyKind) (xs:Array Keyed) (lo hi:Nat):Prop:=∀i j,lo<=i->i<=j->j<hi->κ.kle (KK κ xs i) (KK κ xs j)
structure Mv (st st':SortSt) (lo hi:Nat):Prop where
 perm:(arrOf st').Perm (arrOf st)
 kind:kindOf st'=kindOf st
 fail:failedOf st'=failedOf st
 pend:pendingOf st'=pendingOf st
 out:∀k:Nat,k<lo\/hi<=k->(arrOf st')[k]?=(arrOf st)[k]?
theorem Mv.refl (st:SortSt) (lo hi:Nat):Mv st st lo hi:=⟨.refl _,rfl,rfl,rfl,λ_ _=>rfl⟩
theorem Mv.trans {a b c:SortSt}{lo hi:Nat}(h:Mv a b lo hi) (k:Mv b c lo hi):Mv a c lo hi:=
 ⟨k.perm.trans h.perm,k.kind.trans h.kind,k.fail.trans h.fail,k.pend.trans h.pend,λi hi=>(k.out i hi).trans (h.out i hi)⟩
theorem Mv.size {a b:SortSt}{lo hi:Nat}(h:Mv a b lo hi):(arrOf b).size=(arrOf a).size:=h.perm.size_eq
theorem qg7 {κ:KeyKind}{xs ys:Array Keyed}(h:KeysOf κ ys) (p:xs.Perm ys):KeysOf κ xs:=λq hq=>h q ((Wo.mp p).mem_iff.mp hq)
theorem xj3 {κ:KeyKind}{xs:Array Keyed}(h:KeysOf κ xs){i:Nat}(hi:i<xs.size):∃x p a,xs[i]?=some (x,p)/\κ.keyOf x=some a/\KK κ xs i=a:=by
 obtain⟨a,ha⟩:=h xs[i] (by simp)
 have e:xs[i]?=some xs[i]:=ZM _ i hi
 refine⟨xs[i].1,xs[i].2,a,by rw[e],ha,?_⟩
 unfold KK
 rw[e]
 simp[ha]
section
variable {prog:Program}{w:World}{A:Around}{E:Value->Shared->Prop}{s:Shared}{κ:KeyKind}
theorem qo6 {kd:SortKind}(hO:KLt prog w A s κ kd){st:SortSt}{i j:Nat}{Q:Option Bool->SortSt->Prop}(hk:kindOf st=kd) (h0:KeysOf κ (arrOf st)) (hi:i<(arrOf st).size) (hj:j<(arrOf st).size)
  (h:Q (some (κ.blt (KK κ (arrOf st) i) (KK κ (arrOf st) j))) st):wpS (model prog w) A E s (ltAt' i j) Q st:=by
 obtain⟨x,p,a,e1,e2,e3⟩:=xj3 h0 hi
 obtain⟨y,q,b,f1,f2,f3⟩:=xj3 h0 hj
 rw[e3,f3] at h
 rw[ltAt'_eq]
 refine Zp (Vl ?_)
 exact Zp (qb1 e1 (Zp (qb1 f1 (qw2 hO hk e2 f2 h))))
theorem xf5 {kd:SortKind}(hO:KLt prog w A s κ kd){st:SortSt}{lo n ok:Nat}{Q:Bool->SortSt->Prop}(hk:kindOf st=kd) (h0:KeysOf κ (arrOf st)) (hn:lo+n<=(arrOf st).size) (hok:ok<=n) (hs:SrtK κ (arrOf st) lo (lo+ok))
  (h:∀st',Mv st st' lo (lo+n)->SrtK κ (arrOf st') lo (lo+n)->Q true st'):wpS (model prog w) A E s (binarySort' lo n ok) Q st:=by
 refine Zp (WG (Y9 (I:=λk c st'=>c=(none,())/\Mv st st' lo (lo+n)/\SrtK κ (arrOf st') lo (lo+min k n)) (Q:=λc st'=>c=(none,())/\Mv st st' lo (lo+n)/\SrtK κ (arrOf st') lo (lo+n)) ?step ?fin ?init) ?post)
 case post=>
  rintro c st' ⟨rfl,m,o⟩
  exact Zx (h st' m o)
 case init=>
  refine⟨rfl,Mv.refl _ _ _,λi j h1 h2 h3=>?_⟩
  by_cases z:ok=0
  ·have:i=j:=by lia
   rw[this];exact YR _
  ·exact hs i j h1 h2 (by lia)
 case fin=>
  rintro c st' ⟨rfl,m,o⟩
  exact⟨rfl,m,λi j h1 h2 h3=>o i j h1 h2 (by lia)⟩
 case step=>
  rintro k c st1 hk1 hkn ⟨rfl,m1,o1⟩
  have hsz:lo+k<(arrOf st1).size:=by rw[m1.size];lia
  have hk':kindOf st1=kd:=m1.kind.trans hk
  have h0':KeysOf κ (arrOf st1):=qg7 h0 m1.perm
  have o2:SrtK κ (arrOf st1) lo (lo+k):=λi j h1 h2 h3=>o1 i j h1 h2 (by lia)
  refine Zp (WG (Y9 (I:=λx c st2=>st2=st1/\∃l r,c=(none,l,r)/\l<=r/\r<=k/\r-l<=k-x/\(∀i,i<l->κ.kle (KK κ (arrOf st1) (lo+i)) (KK κ (arrOf st1) (lo+k)))/\(∀i,r<=i->i<k->κ.klt (KK κ (arrOf st1) (lo+k)) (KK κ (arrOf st1) (lo+i))))
   (Q:=λc st2=>st2=st1/\∃l r,c=(none,l,r)/\l<=k/\(∀i,i<l->κ.kle (KK κ (arrOf st1) (lo+i)) (KK κ (arrOf st1) (lo+k)))/\(∀i,l<=i->i<k->κ.klt (KK κ (arrOf st1) (lo+k)) (KK κ (arrOf st1) (lo+i)))) ?istep ?ifin ⟨rfl,0,k,rfl,by lia,by lia,by lia,λi hi=>by lia,λi h1 h2=>by lia⟩) ?ipost)
  case ifin=>
   rintro c st2 ⟨rfl,l,r,rfl,g1,g2,g3,g4,g5⟩
   have:r=l:=by lia
   exact⟨rfl,l,r,rfl,by lia,g4,by rw[this] at g5;exact g5⟩
  case istep=>
   rintro x c st2 _ hx ⟨rfl,l,r,rfl,g1,g2,g3,g4,g5⟩
   dsimp only
   by_cases w4:l>=r
   ·rw[Zz w4]
    have:r=l:=by lia
    exact Zx ⟨rfl,l,r,rfl,by lia,g4,by rw[this] at g5;exact g5⟩
   ·rw[Zq w4]
    refine Zp (qo6 hO hk' h0' hsz (show lo+(l+r)/2<_ by lia) ?_)
    cases hb:κ.blt (KK κ (arrOf st2) (lo+k)) (KK κ (arrOf st2) (lo+(l+r)/2))
    ·refine Zx ⟨rfl,(l+r)/2+1,r,rfl,by lia,by lia,by lia,λi hi=>?_,g5⟩
     exact ZR (o2 (lo+i) (lo+(l+r)/2) (by lia) (by lia) (by lia)) (show κ.kle _ _ from hb)
    ·refine Zx ⟨rfl,l,(l+r)/2,rfl,by lia,by lia,by lia,g4,λi h1 h2=>?_⟩
     exact WH hb (o2 (lo+(l+r)/2) (lo+i) (by lia) (by lia) (by lia))
  case ipost=>
   rintro c st2 ⟨rfl,l,r,rfl,g1,g4,g5⟩
   dsimp only
   have ed:lo+k-(lo+l)=k-l:=by lia
   have es:lo+k-(k-l)=lo+l:=by lia
   refine Zp (m:=moveDown' (lo+k) (lo+l)) ?_
   rw[moveDown'_eq]
   refine XJ (Zx ⟨rfl,m1.trans ⟨bubble_perm _ _ _,rfl,rfl,rfl,λi hi=>?_⟩,λi j h1 h2 h3=>?_⟩)
   ·show (bubble (arrOf st2) (lo+k) (lo+k-(lo+l)))[i]?=_
    rw[ed,getElem?_bubble hsz _ (by lia),es,Zq (by lia),Zq (by lia)]
   ·show κ.kle (KK κ (bubble (arrOf st2) (lo+k) (lo+k-(lo+l))) i) (KK κ (bubble (arrOf st2) (lo+k) (lo+k-(lo+l))) j)
    have h3':j<lo+(k+1):=by lia
    have low:∀i,lo<=i->i<lo+l->κ.kle (KK κ (arrOf st2) i) (KK κ (arrOf st2) (lo+k)):=λi a b=>by
     have:=g4 (i-lo) (by lia)
     rwa [show lo+(i-lo)=i by lia] at this
    have high:∀i,lo+l<=i->i<lo+k->κ.kle (KK κ (arrOf st2) (lo+k)) (KK κ (arrOf st2) i):=λi a b=>by
     have:=Z4 (g5 (i-lo) (by lia) (by lia))
     rwa [show lo+(i-lo)=i by lia] at this
    rw[ed,KK_bubble hsz (by lia),KK_bubble hsz (by lia),es]
    repeat' split
    all_goals first
     |(exfalso;lia)
     |exact YR _
     |exact low _ (by lia) (by lia)
     |exact high _ (by lia) (by lia)
     |exact o2 _ _ (by lia) (by lia) (by lia)
theorem qR1 {kd:SortKind}(hO:KLt prog w A s κ kd){st:SortSt}{lo a nrem:Nat}{Q:Option (Option Nat)×Nat->SortSt->Prop}(hk:kindOf st=kd) (h0:KeysOf κ (arrOf st)) (hn:lo+nrem<=(arrOf st).size) (ha:1<=a) (han:a<=nrem) (hs:SrtK κ (arrOf st) lo (lo+a))
  (h:∀n,a<=n->n<=nrem->SrtK κ (arrOf st) lo (lo+n)->(n=nrem\/κ.klt (KK κ (arrOf st) (lo+n)) (KK κ (arrOf st) (lo+n-1)))->Q (none,n) st)
  (f:Nat->Option (Option Nat)×Nat->StateT SortSt Sem (ForInStep (Option (Option Nat)×Nat)))
  (hf:∀x n (Q':ForInStep (Option (Option Nat)×Nat)->SortSt->Prop),lo+n<(arrOf st).size->1<=n->Q' (if κ.blt (KK κ (arrOf st) (lo+n)) (KK κ (arrOf st) (lo+n-1))=true then .done (none,n) else .yield (none,n+1)) st->wpS (model prog w) A E s (f x (none,n)) Q' st) :
  wpS (model prog w) A E s (forIn [a:nrem] (none,a) f) Q st:=by
 refine WG (Y9 (I:=λx c st'=>st'=st/\c=(none,x)/\a<=x/\x<=nrem/\SrtK κ (arrOf st) lo (lo+x)) (Q:=λc st'=>st'=st/\∃n,c=(none,n)/\a<=n/\n<=nrem/\SrtK κ (arrOf st) lo (lo+n)/\(n=nrem\/κ.klt (KK κ (arrOf st) (lo+n)) (KK κ (arrOf st) (lo+n-1)))) ?step ?fin ⟨rfl,rfl,Zd _,han,hs⟩) ?post
 case post=>
  rintro c st' ⟨rfl,n,rfl,g1,g2,g3,g4⟩
  exact h n g1 g2 g3 g4
 case fin=>
  rintro c st' ⟨rfl,rfl,g1,g2,g3⟩
  exact⟨rfl,_,rfl,g1,g2,g3,.inl (by lia)⟩
 case step=>
  rintro x c st' h1 h2 ⟨rfl,rfl,g1,g2,g3⟩
  refine hf x x _ (by lia) (by lia) ?_
  cases hb:κ.blt (KK κ (arrOf st') (lo+x)) (KK κ (arrOf st') (lo+x-1))
  ·refine⟨rfl,rfl,by lia,by lia,λi j h3 h4 h5=>?_⟩
   by_cases hj:j=lo+x
   ·by_cases hi:i=lo+x
    ·rw[hi,hj];exact YR _
    ·rw[hj]
     exact ZR (g3 i (lo+x-1) h3 (by lia) (by lia)) (show κ.kle _ _ from hb)
   ·exact g3 i j h3 h4 (by lia)
  ·exact⟨rfl,x,rfl,g1,g2,g3,.inr hb⟩
end
def qH3 (κ:KeyKind) (xs:Array Keyed) (lo m:Nat):Prop:=∀i j,lo<=i->i<=j->j<lo+m->κ.kle (KK κ xs j) (KK κ xs i)
def EqK (κ:KeyKind) (xs:Array Keyed) (lo m q:Nat):Prop:=∀i,lo+m-(q+1)<=i->i<lo+m->KK κ xs i=KK κ xs (lo+m-1)
section
variable {prog:Program}{w:World}{A:Around}{E:Value->Shared->Prop}{s:Shared}{κ:KeyKind}
theorem qr7 {st:SortSt}{i j:Nat}{Q:Unit->SortSt->Prop}(h:Q () (setArr st (mirror (arrOf st) i j ((j-i)/2)))):wpS (model prog w) A E s (reverseSlice' i j) Q st:=by
 rw[reverseSlice'_eq];exact XJ h
theorem Mv.rev {st st':SortSt}{lo hi i j:Nat}(h:Mv st st' lo hi) (hi1:lo<=i) (hj:j<=hi) (hs:j<=(arrOf st').size):Mv st (setArr st' (mirror (arrOf st') i j ((j-i)/2))) lo hi:=
 h.trans ⟨mirror_perm _ _ _ _,rfl,rfl,rfl,λk hk=>by
  show (mirror (arrOf st') i j ((j-i)/2))[k]?=_
  rw[getElem?_mirror_all hs,Zq (by lia)]⟩
theorem xf6 {st:SortSt}{lo m:Nat}(h:qH3 κ (arrOf st) lo m) (hs:lo+m<=(arrOf st).size):SrtK κ (arrOf (setArr st (mirror (arrOf st) lo (lo+m) ((lo+m-lo)/2)))) lo (lo+m):=λi j h1 h2 h3=>by
 show κ.kle (KK κ (mirror (arrOf st) lo (lo+m) ((lo+m-lo)/2)) i) (KK κ (mirror (arrOf st) lo (lo+m) ((lo+m-lo)/2)) j)
 rw[KK_mirror hs,KK_mirror hs,Zz (by lia),Zz (by lia)]
 exact h _ _ (by lia) (by lia) (by lia)
theorem xj4 {st:SortSt}{lo m q:Nat}(h:EqK κ (arrOf st) lo m q) (hs:lo+m<=(arrOf st).size) (k:Nat):KK κ (arrOf (setArr st (mirror (arrOf st) (lo+m-(q+1)) (lo+m) ((lo+m-(lo+m-(q+1)))/2)))) k=KK κ (arrOf st) k:=
 KK_mirror_equal (xs:=arrOf st) hs (λi h1 h2=>h i h1 h2) k
theorem xp4 {G0:Prop}{P G:SortSt->Prop}(a:(∀m,P m->G m)->G0) (b:∀m,P m->G m):G0:=a b
theorem xf7 {kd:SortKind}(hO:KLt prog w A s κ kd){st:SortSt}{lo nrem:Nat}{Q:Option Nat->SortSt->Prop}(hk:kindOf st=kd) (h0:KeysOf κ (arrOf st)) (hn:lo+nrem<=(arrOf st).size) (h1:1<=nrem)
  (h:∀m st',1<=m->m<=nrem->Mv st st' lo (lo+nrem)->SrtK κ (arrOf st') lo (lo+m)->Q (some m) st'):wpS (model prog w) A E s (countRun' lo nrem) Q st:=by
 refine Zp (qR1 hO hk h0 hn (Zd 1) h1 ?_ (λn g1 g2 g3 g4=>?_) _ (λx n Q' e1 e2 hq=>?_))
 ·intro i j a b c
  have:i=j:=by lia
  rw[this];exact YR _
 ·dsimp only
  by_cases hnn:n=nrem
  ·rw[Zz (by simp[hnn])]
   exact Zx (h n st g1 g2 (Mv.refl _ _ _) g3)
  ·rw[Zq (by simp[hnn])]
   have jB:κ.klt (KK κ (arrOf st) (lo+n)) (KK κ (arrOf st) (lo+n-1)):=g4.resolve_left hnn
   refine' xp4 (P:=λst1=>Mv st st1 lo (lo+nrem)/\qH3 κ (arrOf st1) lo (n+1)) (G:=_) (λkey=>?ka) (λst1 hP=>?kb)
   case ka=>
    by_cases hn1:n>1
    case pos=>
     rw[Zz hn1]
     refine Zp (qo6 hO hk h0 (by lia) (by lia) ?_)
     cases hb:κ.blt (KK κ (arrOf st) lo) (KK κ (arrOf st) (lo+n-1))
     case true=>exact Zx (h n st g1 g2 (Mv.refl _ _ _) g3)
     dsimp only
     rw[Zq (by decide)]
     refine Zp (qr7 ?_)
     have mv:=(Mv.refl st lo (lo+nrem)).rev (i:=lo) (j:=lo+n) (Zd _) (by lia) (by lia)
     have alle:∀i,lo<=i->i<lo+n->KK κ (arrOf st) i=KK κ (arrOf st) (lo+n-1):=λi a b=>
      KeyOrd.kle_antisymm (g3 i (lo+n-1) a (by lia) (by lia)) (ZR (show κ.kle _ _ from hb) (g3 lo i (Zd _) a b))
     have kk:∀k,KK κ (arrOf (setArr st (mirror (arrOf st) lo (lo+n) ((lo+n-lo)/2)))) k=KK κ (arrOf st) k:=KK_mirror_equal (xs:=arrOf st) (by lia) alle
     have hf:qH3 κ (arrOf (setArr st (mirror (arrOf st) lo (lo+n) ((lo+n-lo)/2)))) lo (n+1):=λi j a b c=>by
      rw[kk,kk]
      by_cases ej:j=lo+n
      ·by_cases ei:i=lo+n
       ·rw[ei,ej];exact YR _
       ·rw[ej,alle i a (by lia)];exact Z4 jB
      ·rw[alle i a (by lia),alle j (by lia) (by lia)];exact YR _
     generalize setArr st (mirror (arrOf st) lo (lo+n) ((lo+n-lo)/2))=st1 at mv hf ⊢
     exact key st1 ⟨mv,hf⟩
    case neg=>
     rw[Zq hn1]
     have hf:qH3 κ (arrOf st) lo (n+1):=λi j a b c=>by
      by_cases e:i=j
      ·rw[e];exact YR _
      ·have e1:i=lo+n-1:=by lia
       have e2:j=lo+n:=by lia
       rw[e1,e2];exact Z4 jB
     have mv:=Mv.refl st lo (lo+nrem)
     exact key st ⟨mv,hf⟩
   case kb=>
    obtain⟨mv,hf⟩:=hP
    refine Zp (V8 (Y5 ⟨rfl,?_⟩))
    refine Zp (WG (Y9 (I:=λx c st2=>∃q,c=(none,x,q)/\Mv st st2 lo (lo+nrem)/\n+1<=x/\x<=nrem/\qH3 κ (arrOf st2) lo x/\EqK κ (arrOf st2) lo x q/\q+1<=x) (Q:=λc st2=>∃m q,c=(none,m,q)/\Mv st st2 lo (lo+nrem)/\n+1<=m/\m<=nrem/\qH3 κ (arrOf st2) lo m/\EqK κ (arrOf st2) lo m q/\q+1<=m) ?step ?fin ?init) ?post)
    case init=>
     refine⟨0,rfl,mv,Zd _,by lia,hf,λi a b=>?_,by lia⟩
     rw[show i=lo+(n+1)-1 by lia]
    case fin=>
     rintro c st2 ⟨q,rfl,r1,r2,r3,r4,r5,r6⟩
     exact⟨_,q,rfl,r1,r2,r3,r4,r5,r6⟩
    case step=>
     rintro x c st2 a b ⟨q,rfl,m2,c1,c2,f2,e2,c3⟩
     dsimp only
     have hk2:=m2.kind.trans hk
     have h02:=qg7 h0 m2.perm
     have sz2:=m2.size
     refine Zp (qo6 hO hk2 h02 (by lia) (by lia) ?_)
     cases hb:κ.blt (KK κ (arrOf st2) (lo+x)) (KK κ (arrOf st2) (lo+x-1))
     ·dsimp only
      rw[Zq (by decide)]
      refine Zp (qo6 hO hk2 h02 (by lia) (by lia) ?_)
      cases jW:κ.blt (KK κ (arrOf st2) (lo+x-1)) (KK κ (arrOf st2) (lo+x))
      ·dsimp only
       rw[Zq (by decide)]
       have eqk:KK κ (arrOf st2) (lo+x)=KK κ (arrOf st2) (lo+x-1):=κ.total _ _ hb jW
       refine Zx ⟨q+1,rfl,m2,by lia,by lia,λi j d1 d2 d3=>?_,λi d1 d2=>?_,by lia⟩
       ·by_cases ej:j=lo+x
        ·by_cases ei:i=lo+x
         ·rw[ei,ej];exact YR _
         ·rw[ej,eqk];exact f2 i (lo+x-1) d1 (by lia) (by lia)
        ·exact f2 i j d1 d2 (by lia)
       ·rw[show lo+(x+1)-1=lo+x by lia]
        by_cases ei:i=lo+x
        ·rw[ei]
        ·rw[eqk];exact e2 i (by lia) (by lia)
      ·exact Zx ⟨x,q,rfl,m2,c1,c2,f2,e2,c3⟩
     ·dsimp only
      rw[Zz rfl]
      have nf:∀st3:SortSt,(∀k,KK κ (arrOf st3) k=KK κ (arrOf st2) k)->qH3 κ (arrOf st3) lo (x+1):=λst3 kk i j d1 d2 d3=>by
       rw[kk,kk]
       by_cases ej:j=lo+x
       ·by_cases ei:i=lo+x
        ·rw[ei,ej];exact YR _
        ·rw[ej];exact ZR (Z4 hb) (f2 i (lo+x-1) d1 (by lia) (by lia))
       ·exact f2 i j d1 d2 (by lia)
      have ne:∀st3:SortSt,EqK κ (arrOf st3) lo (x+1) 0:=λst3 i d1 d2=>by rw[show i=lo+(x+1)-1 by lia]
      by_cases hq:q>0
      ·rw[Zz hq]
       exact Zp (qr7 (Zx ⟨0,rfl,m2.rev (by lia) (by lia) (by lia),by lia,by lia,nf _ (xj4 e2 (by lia)),ne _,by lia⟩))
      ·rw[Zq hq]
       exact Zx ⟨0,rfl,m2,by lia,by lia,nf _ (λ_=>rfl),ne _,by lia⟩
    case post=>
     rintro c st2 ⟨m,q,rfl,m2,c1,c2,f2,e2,c3⟩
     dsimp only
     have sz2:=m2.size
     by_cases hq:q>0
     case' neg=>
      rw[Zq hq]
      have m3:=m2
      have f3:=f2
      generalize st2=st3 at m3 f3 ⊢
     case' pos=>
      rw[Zz hq]
      refine Zp (qr7 ?_)
      have m3:=m2.rev (i:=lo+m-(q+1)) (j:=lo+m) (by lia) (by lia) (by lia)
      have kk:=xj4 e2 (by lia)
      have f3:qH3 κ (arrOf (setArr st2 (mirror (arrOf st2) (lo+m-(q+1)) (lo+m) ((lo+m-(lo+m-(q+1)))/2)))) lo m:=λi j d1 d2 d3=>by rw[kk,kk];exact f2 i j d1 d2 d3
      generalize setArr st2 (mirror (arrOf st2) (lo+m-(q+1)) (lo+m) ((lo+m-(lo+m-(q+1)))/2))=st3 at m3 f3 ⊢
     all_goals
      refine Zp (qr7 ?_)
      have m4:=m3.rev (i:=lo) (j:=lo+m) (Zd _) (by lia) (by rw[m3.size];lia)
      have o4:=xf6 f3 (by rw[m3.size];lia)
      have hk4:=m4.kind.trans hk
      have h04:=qg7 h0 m4.perm
      have z4:=m4.size
      generalize setArr st3 (mirror (arrOf st3) lo (lo+m) ((lo+m-lo)/2))=st4 at m4 o4 hk4 h04 z4 ⊢
      refine Zp (qR1 hO hk4 h04 (by lia) (show 1<=m by lia) c2 o4 (λk k1 k2 k3 _=>?_) _ (λx k Q' e1 e2 hq=>?_))
      ·exact Zx (h k st4 (by lia) k2 m4 k3)
      ·refine Zp (qo6 hO hk4 h04 e1 (by lia) ?_)
       cases hb:κ.blt (KK κ (arrOf st4) (lo+k)) (KK κ (arrOf st4) (lo+k-1))
       ·rw[hb] at hq
        exact Zx hq
       ·rw[hb] at hq
        exact Zx hq
 ·refine Zp (qo6 hO hk h0 e1 (by lia) ?_)
  cases hb:κ.blt (KK κ (arrOf st) (lo+n)) (KK κ (arrOf st) (lo+n-1))
  ·rw[hb] at hq
   exact Zx hq
  ·rw[hb] at hq
   exact Zx hq
end
def kv (κ:KeyKind) (p:Keyed):κ.α:=(κ.keyOf p.1).getD κ.dflt
def Asc (κ:KeyKind) (l:List Keyed):Prop:=l.Pairwise λx y=>κ.kle (kv κ x) (kv κ y)
structure Mg (κ:KeyKind) (all out a b:List Keyed):Prop where
 perm:(out++(a++b)).Perm all
 so:Asc κ out
 sa:Asc κ a
 sb:Asc κ b
 la:∀x∈out,∀y∈a,κ.kle (kv κ x) (kv κ y)
 lb:∀x∈out,∀y∈b,κ.kle (kv κ x) (kv κ y)
theorem Mg.takeA {κ:KeyKind}{all out a b:List Keyed}{x:Keyed}(m:Mg κ all out (x::a) b) (h:∀y∈b,κ.kle (kv κ x) (kv κ y)):Mg κ all (out++[x]) a b where
 perm:=by simpa using m.perm
 so:=Wp.mpr ⟨m.so,by simp,λp hp q hq=>by
  have:q=x:=by simpa using hq
  rw[this];exact m.la p hp x (by simp)⟩
 sa:=(YS.mp m.sa).2
 sb:=m.sb
 la:=λp hp y hy=>by
  rcases ZW.mp hp with z|z
  ·exact m.la p z y (Zn _ hy)
  ·have:p=x:=by simpa using z
   rw[this];exact (YS.mp m.sa).1 y hy
 lb:=λp hp y hy=>by
  rcases ZW.mp hp with z|z
  ·exact m.lb p z y hy
  ·have:p=x:=by simpa using z
   rw[this];exact h y hy
theorem Mg.swap {κ:KeyKind}{all out a b:List Keyed}(m:Mg κ all out a b):Mg κ all out b a where
 perm:=(Vf out List.perm_append_comm).trans m.perm
 so:=m.so
 sa:=m.sb
 sb:=m.sa
 la:=m.lb
 lb:=m.la
theorem Mg.takeB {κ:KeyKind}{all out a b:List Keyed}{x:Keyed}(m:Mg κ all out a (x::b)) (h:∀y∈a,κ.kle (kv κ x) (kv κ y)):Mg κ all (out++[x]) a b:=(m.swap.takeA h).swap
theorem Mg.doneB {κ:KeyKind}{all out a:List Keyed}(m:Mg κ all out a []):(out++a).Perm all/\Asc κ (out++a):=
 ⟨by simpa using m.perm,Wp.mpr ⟨m.so,m.sa,m.la⟩⟩
theorem Mg.doneAB {κ:KeyKind}{all out a b:List Keyed}(m:Mg κ all out a b) (h:∀y∈b,∀x∈a,κ.kle (kv κ y) (kv κ x)):(out++(b++a)).Perm all/\Asc κ (out++(b++a)):=
 ⟨m.swap.perm,Wp.mpr ⟨m.so,Wp.mpr ⟨m.sb,m.sa,h⟩,λx hx y hy=>(ZW.mp hy).elim (m.lb x hx y) (m.la x hx y)⟩⟩
def xf8:Array Keyed->Array Keyed->StateT SortSt Sem (Array Keyed):=sortPriv% PySem.Builtin.mergeLo
abbrev qn1 (st:SortSt) (g:Nat):SortSt:=SortSt.mk' (kindOf st) (arrOf st) (pendingOf st) g (failedOf st)
theorem Mg.takesA {κ:KeyKind}{all b:List Keyed}:∀{out l a:List Keyed},Mg κ all out (l++a) b->(∀x∈l,∀y∈b,κ.kle (kv κ x) (kv κ y))->Mg κ all (out++l) a b
 |out,[],a,m,_=>by rw[Y1];exact m
 |out,x::l,a,m,h=>by
  have:=(m.takeA (λy hy=>h x (by simp) y hy)).takesA (λz hz=>h z (by simp[hz]))
  rwa [YX] at this
theorem Mg.takesB {κ:KeyKind}{all out l a b:List Keyed}(m:Mg κ all out a (l++b)) (h:∀x∈l,∀y∈a,κ.kle (kv κ x) (kv κ y)):Mg κ all (out++l) a b:=(m.swap.takesA h).swap
theorem qH4 {p:Nat->Bool}:∀n:Nat,(∀i j,i<=j->j<n->p j=true->p i=true)->∃c,c<=n/\∀i,i<n->p i=decide (i<c)
 |0,_=>⟨0,Zd _,λi hi=>absurd hi (Xh _)⟩
 |n+1,h=>by
  obtain⟨c,c1,c2⟩:=qH4 n (λi j a b e=>h i j a (by lia) e)
  cases e:p n with
  |true=>
   exact⟨n+1,Zd _,λi hi=>by rw[h i n (by lia) (by lia) e,Zk hi]⟩
  |false=>
   refine⟨c,by lia,λi hi=>?_⟩
   by_cases en:i=n
   ·rw[en,e,Zm (by lia)]
   ·exact c2 i (by lia)
theorem q80 {a:Array Keyed}{i:Nat}(h:i<a.size):a.toList.drop i=a[i]::a.toList.drop (i+1):=by
 rw[WA (by simpa using h)];simp
theorem qn2 {κ:KeyKind}{a:Array Keyed}(h:KeysOf κ a){i:Nat}(hi:i<a.size):κ.keyOf a[i].1=some (kv κ a[i]):=by
 obtain⟨x,e⟩:=h a[i] (by simp)
 rw[e];unfold kv;rw[e];rfl
theorem qg8 {κ:KeyKind}{a:Array Keyed}(h:Asc κ a.toList){i j:Nat}(k5:i<=j) (hj:j<a.size):κ.kle (kv κ a[i]) (kv κ a[j]):=by
 rcases Nat.lt_or_eq_of_le k5 with z|z
 ·have:=Xv.mp h i j (by simp;lia) (by simpa using hj) z
  simpa using this
 ·subst z;exact YR _
theorem qk2 {a:Array Keyed}{i:Nat}{x:Keyed}(h:x∈a.toList.drop i):∃j,∃hj:j<a.size,i<=j/\a[j]=x:=by
 obtain⟨k,hk,e⟩:=XQ h
 have hk':i+k<a.size:=by simp at hk;lia
 exact⟨i+k,hk',by lia,by rw[<- e];simp⟩
theorem qH5 {κ:KeyKind}{a:Array Keyed}(ka:KeysOf κ a) (sa:Asc κ a.toList) (k:κ.α){base n:Nat}(hn:base+n<=a.size) :
  ∃c,c<=n/\(∀i,i<n->∃x y,a[base+i]?=some x/\κ.keyOf x.1=some y/\asks false k y=decide (i<c))/\∀i,(h:base+i<a.size)->i<n->(i<c->κ.kle (kv κ a[base+i]) k)/\(c<=i->κ.klt k (kv κ a[base+i])):=by
 have key:∀i,(h:base+i<a.size)->KK κ a (base+i)=kv κ a[base+i]:=λi h=>by unfold KK kv;rw[ZM a _ h]
 obtain⟨c,c1,c2⟩:=qH4 (p:=λi=>!κ.blt k (KK κ a (base+i))) n (λi j k5 hj e=>by
  simp only[W6] at e ⊢
  rw[key _ (by lia)] at e ⊢
  exact ZR (qg8 sa (by lia) (by lia)) e)
 refine⟨c,c1,λi hi=>⟨_,_,ZM a _ (by lia),qn2 ka (by lia),?_⟩,λi h hi=>⟨λhc=>?_,λhc=>?_⟩⟩
 ·rw[<- c2 i hi,key i (by lia)];rfl
 ·have e:=c2 i hi
  rw[key i h,Zk hc] at e
  exact (W6 _).mp e
 ·have e:=c2 i hi
  rw[key i h,Zm (by lia)] at e
  exact (Bool.not_eq_false' _).mp e
theorem qR2 {κ:KeyKind}{a:Array Keyed}(ka:KeysOf κ a) (sa:Asc κ a.toList) (k:κ.α){base n:Nat}(hn:base+n<=a.size) :
  ∃c,c<=n/\(∀i,i<n->∃x y,a[base+i]?=some x/\κ.keyOf x.1=some y/\asks true k y=decide (i<c))/\∀i,(h:base+i<a.size)->i<n->(i<c->κ.klt (kv κ a[base+i]) k)/\(c<=i->κ.kle k (kv κ a[base+i])):=by
 have key:∀i,(h:base+i<a.size)->KK κ a (base+i)=kv κ a[base+i]:=λi h=>by unfold KK kv;rw[ZM a _ h]
 obtain⟨c,c1,c2⟩:=qH4 (p:=λi=>κ.blt (KK κ a (base+i)) k) n (λi j k5 hj e=>by
  rw[key _ (by lia)] at e ⊢
  exact KeyOrd.klt_of_kle_of_klt (qg8 sa (by lia) (by lia)) e)
 refine⟨c,c1,λi hi=>⟨_,_,ZM a _ (by lia),qn2 ka (by lia),?_⟩,λi h hi=>⟨λhc=>?_,λhc=>?_⟩⟩
 ·rw[<- c2 i hi,key i (by lia)];rfl
 ·have e:=c2 i hi
  rw[key i h,Zk hc] at e
  exact e
 ·have e:=c2 i hi
  rw[key i h,Zm (by lia)] at e
  exact e
def Mp (κ:KeyKind) (a b out:Array Keyed) (ia ib:Nat):Prop:=Mg κ (a.toList++b.toList) out.toList (a.toList.drop ia) (b.toList.drop ib)
abbrev Rd (κ:KeyKind) (a b out:Array Keyed):Prop:=out.toList.Perm (a.toList++b.toList)/\Asc κ out.toList
section
variable {κ:KeyKind}{a b out:Array Keyed}{ia ib:Nat}
theorem Mp.ta (sb:Asc κ b.toList) (m:Mp κ a b out ia ib) (vY:ia<a.size) (vX:ib<b.size) (h:κ.kle (kv κ a[ia]) (kv κ b[ib])):Mp κ a b (out.push a[ia]) (ia+1) ib:=by
 unfold Mp at m ⊢
 rw[q80 vY] at m
 rw[Xf]
 refine m.takeA λy hy=>?_
 obtain⟨j,hj,h1,rfl⟩:=qk2 hy
 exact ZR h (qg8 sb h1 hj)
theorem Mp.tb (sa:Asc κ a.toList) (m:Mp κ a b out ia ib) (vY:ia<a.size) (vX:ib<b.size) (h:κ.kle (kv κ b[ib]) (kv κ a[ia])):Mp κ a b (out.push b[ib]) ia (ib+1):=by
 unfold Mp at m ⊢
 rw[q80 vX] at m
 rw[Xf]
 refine m.takeB λy hy=>?_
 obtain⟨j,hj,h1,rfl⟩:=qk2 hy
 exact ZR h (qg8 sa h1 hj)
theorem qR3 {a:Array Keyed}{i k:Nat}(h:i+k<=a.size):a.toList.drop i=(a.extract i (i+k)).toList++a.toList.drop (i+k):=by
 rw[XB,List.extract_eq_drop_take,<- Up,show i+k-i=k by lia,YK]
theorem q81 {a:Array Keyed}{i k:Nat}(h:i+k<=a.size){x:Keyed}(hx:x∈(a.extract i (i+k)).toList):∃j,∃hj:i+j<a.size,j<k/\a[i+j]=x:=by
 obtain⟨j,hj,e⟩:=XQ hx
 have hj':j<k:=by simp at hj;lia
 exact⟨j,by lia,hj',by rw[<- e];simp⟩
theorem Mp.as (sb:Asc κ b.toList) (m:Mp κ a b out ia ib){k:Nat}(hk:ia+k<=a.size) (vX:ib<b.size) (h:∀i,(hi:ia+i<a.size)->i<k->κ.kle (kv κ a[ia+i]) (kv κ b[ib])):Mp κ a b (out++a.extract ia (ia+k)) (ia+k) ib:=by
 unfold Mp at m ⊢
 rw[qR3 hk] at m
 rw[Z9]
 refine m.takesA λx hx y hy=>?_
 obtain⟨i,hi,vL,rfl⟩:=q81 hk hx
 obtain⟨j,hj,h1,rfl⟩:=qk2 hy
 exact ZR (h i hi vL) (qg8 sb h1 hj)
theorem Mp.bs (sa:Asc κ a.toList) (m:Mp κ a b out ia ib){k:Nat}(hk:ib+k<=b.size) (vY:ia<a.size) (h:∀i,(hi:ib+i<b.size)->i<k->κ.kle (kv κ b[ib+i]) (kv κ a[ia])):Mp κ a b (out++b.extract ib (ib+k)) ia (ib+k):=by
 unfold Mp at m ⊢
 rw[qR3 hk] at m
 rw[Z9]
 refine m.takesB λx hx y hy=>?_
 obtain⟨i,hi,vL,rfl⟩:=q81 hk hx
 obtain⟨j,hj,h1,rfl⟩:=qk2 hy
 exact ZR (h i hi vL) (qg8 sa h1 hj)
theorem qB6 {a:Array Keyed}{i:Nat}:(a.extract i a.size).toList=a.toList.drop i:=by
 rw[XB,List.extract_eq_drop_take,Yc (by simp)]
theorem Mp.done (m:Mp κ a b out ia ib) (h:ib=b.size):Rd κ a b (out++a.extract ia a.size++b.extract ib b.size):=by
 unfold Mp at m
 have e:b.toList.drop ib=[]:=by rw[h];simp
 rw[e] at m
 show (out++a.extract ia a.size++b.extract ib b.size).toList.Perm _/\Asc κ (out++a.extract ia a.size++b.extract ib b.size).toList
 rw[Z9,Z9,qB6,qB6,e,Y1]
 exact m.doneB
def ap1 {α:Type}{β:Type _}(f:α->β) (x:α):β:=f x
def ap2 {α γ:Type}{β:Type _}(f:α->γ->β) (x:α) (y:γ):β:=f x y
theorem qc0 {M:Model}{A:Around}{E:Value->Shared->Prop}{s:Shared}{σ α:Type}{c:Prop}[Decidable c]{x y:StateT σ Sem α}{Q:α->σ->Prop}{st:σ}(h:c) (k:wpS M A E s x Q st):wpS M A E s (if c then x else y) Q st:=by rw[Zz h];exact k
theorem qb9 {M:Model}{A:Around}{E:Value->Shared->Prop}{s:Shared}{σ α:Type}{c:Prop}[Decidable c]{x y:StateT σ Sem α}{Q:α->σ->Prop}{st:σ}(h:¬c) (k:wpS M A E s y Q st):wpS M A E s (if c then x else y) Q st:=by rw[Zq h];exact k
theorem qo7 {M:Model}{A:Around}{E:Value->Shared->Prop}{s:Shared}{σ α:Type}{c:Prop}[Decidable c]{x y:StateT σ Sem α}{Q:α->σ->Prop}{st:σ}(h:c->wpS M A E s x Q st) (k:¬c->wpS M A E s y Q st):wpS M A E s (if c then x else y) Q st:=
 if e:c then qc0 e (h e) else qb9 e (k e)
theorem qk3 {M:Model}{A:Around}{E:Value->Shared->Prop}{s:Shared}{σ β γ:Type}{a b:Nat}{f:Nat->β->StateT σ Sem (ForInStep β)}{k:β->StateT σ Sem γ}{Q0:γ->σ->Prop}(I:Nat->β->σ->Prop){Q:β->σ->Prop}
  (step:∀(i:Nat) (c:β) (st:σ),a<=i->i<b->I i c st->wpS M A E s (ap2 f i c) (λr st'=>match r with|ForInStep.done c'=>Q c' st'|ForInStep.yield c'=>I (i+1) c' st') st)
  (fin:∀(c:β) (st:σ),I (max a b) c st->Q c st){c:β}{st:σ}(init:I a c st) (post:∀c' st',Q c' st'->wpS M A E s (ap1 k c') Q0 st'):wpS M A E s (forIn [a:b] c f >>= k) Q0 st:=Zp (WG (Y9 I step fin init) post)
theorem xj5 {G0:Prop}{P G:Nat->Prop}(a:(∀m,P m->G m)->G0) (b:∀m,P m->G m):G0:=a b
theorem xp5 {G0:Prop}{P G:Nat->Array Keyed->Prop}(a:(∀m o,P m o->G m o)->G0) (b:∀m o,P m o->G m o):G0:=a b
theorem Mp.last (m:Mp κ a b out ia ib) (na:0<a.size) (h2:∀j,(hj:j<b.size)->κ.klt (kv κ b[j]) (kv κ a[a.size-1])) (h:ia+1=a.size):Rd κ a b (out++b.extract ib b.size++a.extract ia a.size):=by
 show (out++b.extract ib b.size++a.extract ia a.size).toList.Perm _/\Asc κ (out++b.extract ib b.size++a.extract ia a.size).toList
 rw[Z9,Z9,qB6,qB6,YX]
 refine Mg.doneAB m λy hy x hx=>?_
 obtain⟨i,hi,h3,rfl⟩:=qk2 hx
 obtain⟨j,hj,_,rfl⟩:=qk2 hy
 have:i=a.size-1:=by lia
 subst this
 exact Z4 (h2 j hj)
end
def LoI (κ:KeyKind) (a b:Array Keyed) (st:SortSt) (x:Nat) (out:Array Keyed) (ia ib:Nat) (st':SortSt):Prop:=(∃g,st'=qn1 st g)/\Mp κ a b out ia ib/\ia+1<a.size/\ib<b.size/\x<=ia+ib
def LoD (κ:KeyKind) (a b:Array Keyed) (st:SortSt) (o:Option (Array Keyed)) (st':SortSt):Prop:=∃r,o=some r/\(∃g,st'=qn1 st g)/\Rd κ a b r
theorem LoI.of {κ:KeyKind}{a b out:Array Keyed}{st:SortSt}{x g ia ib:Nat}(m:Mp κ a b out ia ib) (h1:ia+1<a.size) (h2:ib<b.size) (h3:x<=ia+ib):LoI κ a b st x out ia ib (qn1 st g):=⟨⟨g,rfl⟩,m,h1,h2,h3⟩
theorem LoI.mono {κ:KeyKind}{a b out:Array Keyed}{st st':SortSt}{x y ia ib:Nat}(j:LoI κ a b st x out ia ib st') (h:y<=x):LoI κ a b st y out ia ib st':=⟨j.1,j.2.1,j.2.2.1,j.2.2.2.1,ZE h j.2.2.2.2⟩
section
variable {prog:Program}{w:World}{A:Around}{E:Value->Shared->Prop}{s:Shared}{κ:KeyKind}
theorem qL7 {kd:SortKind}(hO:KLt prog w A s κ kd){st:SortSt}{a b:Array Keyed}{Q:Array Keyed->SortSt->Prop}(hk0:kindOf st=kd) (ka:KeysOf κ a) (kb:KeysOf κ b) (sa:Asc κ a.toList) (sb:Asc κ b.toList)
  (na:0<a.size) (nb:0<b.size) (h1:κ.klt (kv κ b[0]) (kv κ a[0])) (h2:∀j,(hj:j<b.size)->κ.klt (kv κ b[j]) (kv κ a[a.size-1]))
  (h:∀out g,Rd κ a b out->Q out (qn1 st g)):wpS (model prog w) A E s (xf8 a b) Q st:=by
 have hk:∀g,kindOf (qn1 st g)=kd:=λg=>hk0
 refine Zp (V8 (Y5 ⟨rfl,?_⟩))
 refine Zp (qb1 (ZM b 0 nb) ?_)
 have m0:Mp κ a b #[b[0]] 0 1:=by
  refine Mp.tb (out:=#[]) (ib:=0) sa ⟨by simp,by simp[Asc],by simpa using sa,by simpa using sb,by simp,by simp⟩ na nb (Z4 h1)
 by_cases e0:1=b.size
 ·exact qc0 (by simp[<- e0]) (Zx (h _ (gallopOf st) (m0.done e0)))
 refine qb9 (by simpa using e0) ?_
 by_cases e1:0+1=a.size
 ·exact qc0 (by simp[<- e1]) (Zx (h _ (gallopOf st) (m0.last na h2 e1)))
 refine qb9 (by simpa using e1) ?_
 refine Zp (Vl ?_)
 refine qk3 (I:=λx c st'=>LoI κ a b st x c.2.1 c.2.2.1 c.2.2.2.1 st') (Q:=λc st'=>LoD κ a b st c.1 st') ?step ?fin (LoI.of (g:=gallopOf st) (ia:=0) (ib:=1) m0 (by lia) (by lia) (by lia)) ?post
 case post=>
  rintro⟨c1,c2⟩ st' ⟨r,e,⟨g,rfl⟩,hr⟩
  cases (show c1=some r from e)
  exact Zx (h r g hr)
 case fin=>
  rintro c st' ⟨_,m,y1,y2,y3⟩
  lia
 case step=>
  rintro x c st' _ hx ⟨⟨g,rfl⟩,m0,y1,y2,y3⟩
  refine qk3 (I:=λy c st'=>LoI κ a b st (x+y) c.2.1 c.2.2.1 c.2.2.2.1 st') (Q:=λc st'=>c.1=none/\LoI κ a b st (x+1) c.2.1 c.2.2.1 c.2.2.2.1 st'\/LoD κ a b st c.1 st') ?step ?fin (LoI.of (g:=g) m0 y1 y2 (by lia)) ?post
  case fin=>
   rintro c st' ⟨_,m,y1,y2,y3⟩
   lia
  case step=>
   rintro y c st' _ hy ⟨⟨g,rfl⟩,m,y1,y2,y3⟩
   refine Zp (qb1 (ZM b c.2.2.2.1 y2) ?_)
   refine Zp (qb1 (ZM a c.2.2.1 (by lia)) ?_)
   refine Zp (qw2 hO (hk g) (qn2 kb y2) (qn2 ka (by lia)) ?_)
   by_cases hb:κ.blt (kv κ b[c.2.2.2.1]) (kv κ (a[c.2.2.1]'(by lia)))=true
   ·refine qc0 hb ?_
    refine Zp (qb1 (ZM b c.2.2.2.1 y2) ?_)
    have m1:=m.tb sa (by lia) y2 (Z4 hb)
    by_cases e1:c.2.2.2.1+1=b.size
    ·exact qc0 (by simp[e1]) (Zx (.inr ⟨_,rfl,⟨_,rfl⟩,m1.done e1⟩))
    have j:=LoI.of (st:=st) (g:=g) (x:=x+(y+1)) m1 y1 (by lia) (by lia)
    exact qb9 (by simp[e1]) (qo7 (λ_=>Zx (.inl ⟨rfl,j.mono (by lia)⟩)) λ_=>Zx j)
   ·refine qb9 hb ?_
    refine Zp (qb1 (ZM a c.2.2.1 (by lia)) ?_)
    have m1:=m.ta sb (by lia) y2 (eq_false_of_ne_true hb)
    by_cases e1:c.2.2.1+1+1=a.size
    ·exact qc0 (by simp[e1]) (Zx (.inr ⟨_,rfl,⟨_,rfl⟩,m1.last na h2 e1⟩))
    have j:=LoI.of (st:=st) (g:=g) (x:=x+(y+1)) m1 (by lia) y2 (by lia)
    exact qb9 (by simp[e1]) (qo7 (λ_=>Zx (.inl ⟨rfl,j.mono (by lia)⟩)) λ_=>Zx j)
  case post=>
   rintro⟨c1,c2⟩ st' (⟨e,⟨g,rfl⟩,m,y1,y2,y3⟩|⟨r,e,hg,hr⟩)
   ·cases (show c1=none from e)
    refine Zp (V8 (Y5 ⟨rfl,?_⟩))
    refine qk3 (I:=λy c st'=>LoI κ a b st (x+1+y) c.2.1 c.2.2.1 c.2.2.2.1 st') (Q:=λc st'=>c.1=none/\LoI κ a b st (x+1) c.2.1 c.2.2.1 c.2.2.2.1 st'\/LoD κ a b st c.1 st') ?step ?fin (LoI.of (g:=g) m y1 y2 y3) ?post
    case fin=>
     rintro c st' ⟨_,m,y1,y2,y3⟩
     lia
    case post=>
     rintro⟨c1,c2⟩ st' (⟨e,⟨g,rfl⟩,m,y1,y2,y3⟩|⟨r,e,hg,hr⟩)
     ·cases (show c1=none from e)
      exact Zp (XJ (Zx ⟨⟨_,rfl⟩,m,y1,y2,y3⟩))
     ·cases (show c1=some r from e)
      exact Zx ⟨r,rfl,hg,hr⟩
    case step=>
     rintro y c st' _ hy ⟨⟨g,rfl⟩,m1,y1,y2,y3⟩
     refine' xj5 (P:=λ_=>True) (G:=_) (λkey=>?ka) (λm _=>?kb)
     case ka=>
      by_cases hc:c.2.2.2.2.1>1
      case neg=>
       refine qb9 hc ?_
       generalize c.2.2.2.2.1=mg
       exact key mg trivial
      case pos=>exact qc0 hc (key _ trivial)
     case kb=>
      refine Zp (XJ ?_)
      refine Zp (qb1 (ZM b c.2.2.2.1 y2) ?_)
      obtain⟨k,c1,c2,c3⟩:=qH5 ka sa (kv κ b[c.2.2.2.1]) (base:=c.2.2.1) (n:=a.size-c.2.2.1) (by lia)
      refine Zp (qf3 hO (hk m) (qn2 kb y2) c2 (by lia) c1 ?_)
      have lc:k<a.size-c.2.2.1:=by
       rcases Nat.lt_or_ge k (a.size-c.2.2.1) with z|z
       ·exact z
       ·have:=(c3 (a.size-1-c.2.2.1) (by lia) (by lia)).1 (by lia)
        have e:a[c.2.2.1+(a.size-1-c.2.2.1)]'(by lia)=a[a.size-1]:=by congr 1;lia
        rw[e] at this
        exact absurd (h2 c.2.2.2.1 y2) (Vg this)
      refine' xp5 (P:=λia1 out1=>∃hz:ia1+1<a.size,c.2.2.1<=ia1/\Mp κ a b out1 ia1 c.2.2.2.1/\κ.klt (kv κ (b[c.2.2.2.1]'y2)) (kv κ (a[ia1]'(by lia)))) (G:=_) (λkey=>?kc) (λia1 out1 hP=>?kd)
      case kc=>
       by_cases hc:k>0
       case neg=>
        refine qb9 hc ?_
        have q2:κ.klt (kv κ b[c.2.2.2.1]) (kv κ a[c.2.2.1]):=(c3 0 (by lia) (by lia)).2 (by lia)
        have key':=key c.2.2.1 c.2.1 ⟨y1,Zd _,m1,q2⟩
        generalize c.2.2.1=ia at key' ⊢
        generalize c.2.1=out at key' ⊢
        exact key'
       case pos=>
        refine qc0 hc ?_
        have m2:=m1.as sb (k:=k) (by lia) y2 (λi hi hic=>(c3 i hi (by lia)).1 hic)
        have q2:κ.klt (kv κ b[c.2.2.2.1]) (kv κ a[c.2.2.1+k]):=(c3 k (by lia) (by lia)).2 (Zd _)
        by_cases e2:c.2.2.1+k+1=a.size
        ·exact qc0 (by simp[e2]) (Zx (.inr ⟨_,rfl,⟨_,rfl⟩,m2.last na h2 e2⟩))
        exact qb9 (by simp[e2]) (qb9 (by simp;lia) (key _ _ ⟨by lia,by lia,m2,q2⟩))
      case kd=>
       obtain⟨hz,w4,m2,q2⟩:=hP
       refine Zp (qb1 (ZM b c.2.2.2.1 y2) ?_)
       have m3:=m2.tb sa (by lia) y2 (Z4 q2)
       by_cases e3:c.2.2.2.1+1=b.size
       ·exact qc0 (by simp[e3]) (Zx (.inr ⟨_,rfl,⟨_,rfl⟩,m3.done e3⟩))
       refine qb9 (by simp[e3]) ?_
       refine Zp (qb1 (ZM a ia1 (by lia)) ?_)
       obtain⟨d,d1,d2,d3⟩:=qR2 kb sb (kv κ a[ia1]) (base:=c.2.2.2.1+1) (n:=b.size-(c.2.2.2.1+1)) (by lia)
       refine Zp (qf3 hO (hk m) (qn2 ka (by lia)) d2 (by lia) d1 ?_)
       by_cases hd:d>0
       case' neg=>
        refine qb9 hd ?_
        have m4:=m3
        have q4:κ.kle (kv κ a[ia1]) (kv κ b[c.2.2.2.1+1]):=(d3 0 (by lia) (by lia)).2 (by lia)
       case' pos=>
        refine qc0 hd ?_
        have m4:=m3.bs sa (k:=d) (by lia) (by lia) (λi hi hid=>Z4 ((d3 i hi (by lia)).1 hid))
        by_cases e4:c.2.2.2.1+1+d=b.size
        ·exact qc0 (by simp[e4]) (Zx (.inr ⟨_,rfl,⟨_,rfl⟩,m4.done e4⟩))
        refine qb9 (by simp[e4]) ?_
        have q4:κ.kle (kv κ a[ia1]) (kv κ b[c.2.2.2.1+1+d]):=(d3 d (by lia) (by lia)).2 (Zd _)
       all_goals
        refine Zp (qb1 (ZM a ia1 (by lia)) ?_)
        have m5:=m4.ta sb (by lia) (by lia) q4
        by_cases e5:ia1+1+1=a.size
        ·exact qc0 (by simp[e5]) (Zx (.inr ⟨_,rfl,⟨_,rfl⟩,m5.last na h2 e5⟩))
        have j:=LoI.of (st:=st) (g:=m) (x:=x+1+(y+1)) m5 (by lia) (by lia) (by lia)
        exact qb9 (by simp[e5]) (qo7 (λ_=>Zx (.inl ⟨rfl,j.mono (by lia)⟩)) λ_=>Zx j)
   ·cases (show c1=some r from e)
    exact Zx ⟨r,rfl,hg,hr⟩
end
def xf9:Array Keyed->Array Keyed->StateT SortSt Sem (Array Keyed):=sortPriv% PySem.Builtin.mergeHi
def xp6 (κ:KeyKind):KeyKind where
 α:=κ.α
 blt:=λa b=>κ.blt b a
 irrefl:=κ.irrefl
 trans:=λa b c h1 h2=>κ.trans _ _ _ h2 h1
 negTrans:=λa b c h=>(κ.negTrans _ b _ h).symm
 total:=λa b h1 h2=>κ.total _ _ h2 h1
 keyOf:=κ.keyOf
 dflt:=κ.dflt
theorem qR4 {κ:KeyKind}{l:List Keyed}(h:Asc (xp6 κ) l):Asc κ l.reverse:=List.pairwise_reverse.mpr h
theorem qH6 {κ:KeyKind}{l:List Keyed}(h:Asc κ l):Asc (xp6 κ) l.reverse:=List.pairwise_reverse.mpr h
theorem q82 {a:Array Keyed}{n:Nat}(h:n<a.size):(a.toList.take (n+1)).reverse=a[n]::(a.toList.take n).reverse:=by
 rw[W5 (by simpa using h),XR];simp
theorem qk4 {a:Array Keyed}{n:Nat}{x:Keyed}(h:x∈(a.toList.take n).reverse):∃j,∃hj:j<a.size,j<n/\a[j]=x:=by
 obtain⟨k,hk,e⟩:=XQ (List.mem_reverse.mp h)
 have hk':k<n/\k<a.size:=by simp at hk;lia
 exact⟨k,hk'.2,hk'.1,by rw[<- e];simp⟩
theorem qR5 {a:Array Keyed}{i n:Nat}(h:i<=n) (hn:n<=a.size):(a.toList.take n).reverse=(a.extract i n).reverse.toList++(a.toList.take i).reverse:=by
 rw[Wq,XB,List.extract_eq_drop_take,<- XR,<- List.take_add,show i+(n-i)=n by lia]
theorem qR6 {a:Array Keyed}{i n:Nat}(hn:n<=a.size){x:Keyed}(hx:x∈(a.extract i n).reverse.toList):∃j,∃hj:j<a.size,i<=j/\j<n/\a[j]=x:=by
 rw[Wq] at hx
 obtain⟨j,hj,e⟩:=XQ (List.mem_reverse.mp hx)
 have hj':i+j<n:=by simp at hj;lia
 exact⟨i+j,by lia,by lia,hj',by rw[<- e];simp⟩
theorem qB7 {a:Array Keyed}{n:Nat}:(a.extract 0 n).toList=a.toList.take n:=by
 rw[XB,List.extract_eq_drop_take];simp
def Hp (κ:KeyKind) (a b out:Array Keyed) (na nb:Nat):Prop:=Mg (xp6 κ) (a.toList++b.toList) out.toList (a.toList.take na).reverse (b.toList.take nb).reverse
section
variable {κ:KeyKind}{a b out:Array Keyed}{na nb:Nat}
theorem Hp.ta (m:Hp κ a b out (na+1) nb) (vE:na<a.size) (h:∀j,(hj:j<b.size)->j<nb->κ.kle (kv κ b[j]) (kv κ a[na])):Hp κ a b (out.push a[na]) na nb:=by
 unfold Hp at m ⊢
 rw[q82 vE] at m
 rw[Xf]
 refine m.takeA λy hy=>?_
 obtain⟨j,hj,h1,rfl⟩:=qk4 hy
 exact h j hj h1
theorem Hp.tb (m:Hp κ a b out na (nb+1)) (vU:nb<b.size) (h:∀j,(hj:j<a.size)->j<na->κ.kle (kv κ a[j]) (kv κ b[nb])):Hp κ a b (out.push b[nb]) na nb:=by
 unfold Hp at m ⊢
 rw[q82 vU] at m
 rw[Xf]
 refine m.takeB λy hy=>?_
 obtain⟨j,hj,h1,rfl⟩:=qk4 hy
 exact h j hj h1
theorem Hp.as (m:Hp κ a b out na nb){k:Nat}(hk:k<=na) (vE:na<=a.size) (h:∀i j,(hi:i<a.size)->(hj:j<b.size)->k<=i->i<na->j<nb->κ.kle (kv κ b[j]) (kv κ a[i])):Hp κ a b (out++(a.extract k na).reverse) k nb:=by
 unfold Hp at m ⊢
 rw[qR5 hk vE] at m
 rw[Z9]
 refine m.takesA λx hx y hy=>?_
 obtain⟨i,hi,vL,k9,rfl⟩:=qR6 vE hx
 obtain⟨j,hj,h1,rfl⟩:=qk4 hy
 exact h i j hi hj vL k9 h1
theorem Hp.bs (m:Hp κ a b out na nb){k:Nat}(hk:k<=nb) (vU:nb<=b.size) (h:∀i j,(hi:i<b.size)->(hj:j<a.size)->k<=i->i<nb->j<na->κ.kle (kv κ a[j]) (kv κ b[i])):Hp κ a b (out++(b.extract k nb).reverse) na k:=by
 unfold Hp at m ⊢
 rw[qR5 hk vU] at m
 rw[Z9]
 refine m.takesB λx hx y hy=>?_
 obtain⟨i,hi,vL,k9,rfl⟩:=qR6 vU hx
 obtain⟨j,hj,h1,rfl⟩:=qk4 hy
 exact h i j hi hj vL k9 h1
theorem Hp.done (m:Hp κ a b out na nb) (h:na=0):Rd κ a b (a.extract 0 na++b.extract 0 nb++out.reverse):=by
 unfold Hp at m
 subst h
 have e:=m.swap.doneB
 have z:(a.extract 0 0++b.extract 0 nb++out.reverse).toList=(out.toList++(b.toList.take nb).reverse).reverse:=by
  rw[Z9,Z9,qB7,qB7,Wq,XR];simp
 show (a.extract 0 0++b.extract 0 nb++out.reverse).toList.Perm _/\Asc κ (a.extract 0 0++b.extract 0 nb++out.reverse).toList
 rw[z]
 exact⟨(W7 _).trans e.1,qR4 e.2⟩
theorem Hp.first (m:Hp κ a b out na nb) (sa:Asc κ a.toList) (ha:0<a.size) (hb:0<b.size) (h1:κ.klt (kv κ b[0]) (kv κ a[0])) (h:nb=1):Rd κ a b (b.extract 0 nb++a.extract 0 na++out.reverse):=by
 unfold Hp at m
 subst h
 have e:=m.swap.doneAB λy hy x hx=>by
  obtain⟨i,hi,_,rfl⟩:=qk4 hy
  obtain⟨j,hj,h3,rfl⟩:=qk4 hx
  have:j=0:=by lia
  subst this
  have q:κ.kle (kv κ b[0]) (kv κ a[i]):=ZR (Z4 h1) (qg8 sa (Zo i) hi)
  exact q
 have z:(b.extract 0 1++a.extract 0 na++out.reverse).toList=(out.toList++((a.toList.take na).reverse++(b.toList.take 1).reverse)).reverse:=by
  rw[Z9,Z9,qB7,qB7,Wq,XR,XR];simp
 show (b.extract 0 1++a.extract 0 na++out.reverse).toList.Perm _/\Asc κ (b.extract 0 1++a.extract 0 na++out.reverse).toList
 rw[z]
 exact⟨(W7 _).trans e.1,qR4 e.2⟩
end
theorem Hp.ta' {κ:KeyKind}{a b out:Array Keyed}{na nb:Nat}(sb:Asc κ b.toList) (m:Hp κ a b out na nb) (h0:0<na) (vE:na<=a.size) (h1:0<nb) (vU:nb<=b.size) (h:κ.kle (kv κ (b[nb-1]'(by lia))) (kv κ (a[na-1]'(by lia)))):Hp κ a b (out.push (a[na-1]'(by lia))) (na-1) nb:=by
 refine Hp.ta (na:=na-1) (by rw[show na-1+1=na by lia];exact m) (by lia) λj hj hn=>?_
 exact ZR (qg8 sb (show j<=nb-1 by lia) (by lia)) h
theorem Hp.tb' {κ:KeyKind}{a b out:Array Keyed}{na nb:Nat}(sa:Asc κ a.toList) (m:Hp κ a b out na nb) (h0:0<na) (vE:na<=a.size) (h1:0<nb) (vU:nb<=b.size) (h:κ.kle (kv κ (a[na-1]'(by lia))) (kv κ (b[nb-1]'(by lia)))):Hp κ a b (out.push (b[nb-1]'(by lia))) na (nb-1):=by
 refine Hp.tb (nb:=nb-1) (by rw[show nb-1+1=nb by lia];exact m) (by lia) λj hj hn=>?_
 exact ZR (qg8 sa (show j<=na-1 by lia) (by lia)) h
theorem xp7 {G0:Prop}{P:Nat->Array Keyed->Prop}{G:Nat->Array Keyed->Nat->Prop}(a:(∀m o c,P m o->G m o c)->G0) (b:∀m o c,P m o->G m o c):G0:=a b
def HiI (κ:KeyKind) (a b:Array Keyed) (st:SortSt) (x na nb:Nat) (out:Array Keyed) (st':SortSt):Prop:=(∃g,st'=qn1 st g)/\Hp κ a b out na nb/\0<na/\na<=a.size/\1<nb/\nb<=b.size/\x+na+nb<=a.size+b.size
theorem HiI.of {κ:KeyKind}{a b out:Array Keyed}{st:SortSt}{x g na nb:Nat}(m:Hp κ a b out na nb) (h1:0<na) (h2:na<=a.size) (h3:1<nb) (h4:nb<=b.size) (h5:x+na+nb<=a.size+b.size):HiI κ a b st x na nb out (qn1 st g):=⟨⟨g,rfl⟩,m,h1,h2,h3,h4,h5⟩
theorem HiI.mono {κ:KeyKind}{a b out:Array Keyed}{st st':SortSt}{x y na nb:Nat}(j:HiI κ a b st x na nb out st') (h:y<=x):HiI κ a b st y na nb out st':=by
 obtain⟨j1,j2,j3,j4,j5,j6,j7⟩:=j
 exact⟨j1,j2,j3,j4,j5,j6,by lia⟩
section
variable {prog:Program}{w:World}{A:Around}{E:Value->Shared->Prop}{s:Shared}{κ:KeyKind}
theorem qL8 {kd:SortKind}(hO:KLt prog w A s κ kd){st:SortSt}{a b:Array Keyed}{Q:Array Keyed->SortSt->Prop}(hk0:kindOf st=kd) (ka:KeysOf κ a) (kb:KeysOf κ b) (sa:Asc κ a.toList) (sb:Asc κ b.toList)
  (pa:0<a.size) (pb:0<b.size) (h1:κ.klt (kv κ b[0]) (kv κ a[0])) (h2:∀j,(hj:j<b.size)->κ.klt (kv κ b[j]) (kv κ a[a.size-1]))
  (h:∀out g,Rd κ a b out->Q out (qn1 st g)):wpS (model prog w) A E s (xf9 a b) Q st:=by
 have hk:∀g,kindOf (qn1 st g)=kd:=λg=>hk0
 have bq:∀{i j:Nat},i=j->(i==j)=true:=λe=>X1.mpr e
 have bn:∀{i j:Nat},i≠j->¬(i==j)=true:=λe z=>e (X1.mp z)
 refine Zp (V8 (Y5 ⟨rfl,?_⟩))
 refine Zp (qb1 (ZM a (a.size-1) (by lia)) ?_)
 have m0:Hp κ a b #[a[a.size-1]] (a.size-1) b.size:=by
  refine Hp.ta' (out:=#[]) sb ⟨by simp only[Array.toList_empty,Uh];rw[Yc (by simp),Yc (by simp)];exact (W7 _).append (W7 _),by simp[Asc],?_,?_,by simp,by simp⟩ pa (Zd _) pb (Zd _) (Z4 (h2 _ (by lia)))
  ·rw[Yc (by simp)];exact qH6 sa
  ·rw[Yc (by simp)];exact qH6 sb
 by_cases e0:a.size-1=0
 ·exact qc0 (bq e0) (Zx (h _ (gallopOf st) (m0.done e0)))
 refine qb9 (bn e0) ?_
 by_cases e1:b.size=1
 ·exact qc0 (bq e1) (Zx (h _ (gallopOf st) (m0.first sa pa pb h1 e1)))
 refine qb9 (bn e1) ?_
 refine Zp (Vl ?_)
 refine qk3 (I:=λx c st'=>HiI κ a b st x c.2.1 c.2.2.1 c.2.2.2.1 st') (Q:=λc st'=>LoD κ a b st c.1 st') ?step ?fin (HiI.of (g:=gallopOf st) (na:=a.size-1) (nb:=b.size) m0 (by lia) (by lia) (by lia) (by lia) (by lia)) ?post
 case post=>
  rintro⟨c1,c2⟩ st' ⟨r,e,⟨g,rfl⟩,hr⟩
  cases (show c1=some r from e)
  exact Zx (h r g hr)
 case fin=>
  rintro c st' ⟨_,m,y1,y2,y3,y4,y5⟩
  lia
 case step=>
  rintro x c st' _ hx ⟨⟨g,rfl⟩,m0,y1,y2,y3,y4,y5⟩
  refine qk3 (I:=λy c st'=>HiI κ a b st (x+y) c.2.1 c.2.2.1 c.2.2.2.1 st') (Q:=λc st'=>c.1=none/\HiI κ a b st (x+1) c.2.1 c.2.2.1 c.2.2.2.1 st'\/LoD κ a b st c.1 st') ?step ?fin (HiI.of (g:=g) m0 y1 y2 y3 y4 (by lia)) ?post
  case fin=>
   rintro c st' ⟨_,m,y1,y2,y3,y4,y5⟩
   lia
  case step=>
   rintro y c st' _ hy ⟨⟨g,rfl⟩,m,y1,y2,y3,y4,y5⟩
   refine Zp (qb1 (ZM b (c.2.2.1-1) (by lia)) ?_)
   refine Zp (qb1 (ZM a (c.2.1-1) (by lia)) ?_)
   refine Zp (qw2 hO (hk g) (qn2 kb (by lia)) (qn2 ka (by lia)) ?_)
   by_cases hb:κ.blt (kv κ (b[c.2.2.1-1]'(by lia))) (kv κ (a[c.2.1-1]'(by lia)))=true
   ·refine qc0 hb ?_
    refine Zp (qb1 (ZM a (c.2.1-1) (by lia)) ?_)
    have m1:=m.ta' sb y1 y2 (by lia) y4 (Z4 hb)
    by_cases e1:c.2.1-1=0
    ·exact qc0 (bq e1) (Zx (.inr ⟨_,rfl,⟨_,rfl⟩,m1.done e1⟩))
    have j:=HiI.of (st:=st) (g:=g) (x:=x+(y+1)) m1 (by lia) (by lia) y3 y4 (by lia)
    exact qb9 (bn e1) (qo7 (λ_=>Zx (.inl ⟨rfl,j.mono (by lia)⟩)) λ_=>Zx j)
   ·refine qb9 hb ?_
    refine Zp (qb1 (ZM b (c.2.2.1-1) (by lia)) ?_)
    have m1:=m.tb' sa y1 y2 (by lia) y4 (eq_false_of_ne_true hb)
    by_cases e1:c.2.2.1-1=1
    ·exact qc0 (bq e1) (Zx (.inr ⟨_,rfl,⟨_,rfl⟩,m1.first sa pa pb h1 e1⟩))
    have j:=HiI.of (st:=st) (g:=g) (x:=x+(y+1)) m1 y1 y2 (by lia) (by lia) (by lia)
    exact qb9 (bn e1) (qo7 (λ_=>Zx (.inl ⟨rfl,j.mono (by lia)⟩)) λ_=>Zx j)
  case post=>
   rintro⟨c1,c2⟩ st' (⟨e,⟨g,rfl⟩,m,y1,y2,y3,y4,y5⟩|⟨r,e,hg,hr⟩)
   ·cases (show c1=none from e)
    refine Zp (V8 (Y5 ⟨rfl,?_⟩))
    refine qk3 (I:=λy c st'=>HiI κ a b st (x+1+y) c.2.1 c.2.2.1 c.2.2.2.1 st') (Q:=λc st'=>c.1=none/\HiI κ a b st (x+1) c.2.1 c.2.2.1 c.2.2.2.1 st'\/LoD κ a b st c.1 st') ?step ?fin (HiI.of (g:=g) m y1 y2 y3 y4 y5) ?post
    case fin=>
     rintro c st' ⟨_,m,y1,y2,y3,y4,y5⟩
     lia
    case post=>
     rintro⟨c1,c2⟩ st' (⟨e,⟨g,rfl⟩,m,y1,y2,y3,y4,y5⟩|⟨r,e,hg,hr⟩)
     ·cases (show c1=none from e)
      exact Zp (XJ (Zx ⟨⟨_,rfl⟩,m,y1,y2,y3,y4,y5⟩))
     ·cases (show c1=some r from e)
      exact Zx ⟨r,rfl,hg,hr⟩
    case step=>
     rintro y c st' _ hy ⟨⟨g,rfl⟩,m1,y1,y2,y3,y4,y5⟩
     refine' xj5 (P:=λ_=>True) (G:=_) (λkey=>?ka) (λm _=>?kb)
     case ka=>
      by_cases hc:c.2.2.2.2.1>1
      case neg=>
       refine qb9 hc ?_
       generalize c.2.2.2.2.1=mg
       exact key mg trivial
      case pos=>exact qc0 hc (key _ trivial)
     case kb=>
      refine Zp (XJ ?_)
      refine Zp (qb1 (ZM b (c.2.2.1-1) (by lia)) ?_)
      obtain⟨k,c1,c2,c0⟩:=qH5 ka sa (kv κ (b[c.2.2.1-1]'(by lia))) (base:=0) (n:=c.2.1) (by lia)
      have c3:∀i,(hi:i<a.size)->i<c.2.1->(i<k->κ.kle (kv κ a[i]) (kv κ (b[c.2.2.1-1]'(by lia))))/\(k<=i->κ.klt (kv κ (b[c.2.2.1-1]'(by lia))) (kv κ a[i])):=λi hi hn=>by
       have:=c0 i (by lia) hn
       simp only[Xz] at this
       exact this
      refine Zp (qf3 hO (hk m) (qn2 kb (by lia)) c2 (by lia) c1 ?_)
      refine' xp7 (P:=λna1 out1=>∃hz:0<na1/\na1<=c.2.1,Hp κ a b out1 na1 c.2.2.1/\κ.kle (kv κ (a[na1-1]'(by lia))) (kv κ (b[c.2.2.1-1]'(by lia)))) (G:=_) (λkey=>?kc) (λna1 out1 cn hP=>?kd)
      case kc=>
       by_cases hc:c.2.1-k>0
       case neg=>
        refine qb9 hc ?_
        have q2:κ.kle (kv κ (a[c.2.1-1]'(by lia))) (kv κ (b[c.2.2.1-1]'(by lia))):=(c3 (c.2.1-1) (by lia) (by lia)).1 (by lia)
        have key':=key c.2.1 c.2.2.2.1 (c.2.1-k) ⟨⟨y1,Zd _⟩,m1,q2⟩
        generalize c.2.1-k=cn at key' ⊢
        generalize c.2.1=na at key' ⊢
        generalize c.2.2.2.1=out at key' ⊢
        exact key'
       case pos=>
        refine qc0 hc ?_
        have m2:=m1.as (k:=k) (by lia) (by lia) (λi j hi hj z1 z2 z3=>ZR (qg8 sb (show j<=c.2.2.1-1 by lia) (by lia)) (Z4 ((c3 i hi z2).2 z1)))
        by_cases e2:k=0
        ·exact qc0 (bq e2) (Zx (.inr ⟨_,rfl,⟨_,rfl⟩,m2.done e2⟩))
        have q2:κ.kle (kv κ (a[k-1]'(by lia))) (kv κ (b[c.2.2.1-1]'(by lia))):=(c3 (k-1) (by lia) (by lia)).1 (by lia)
        exact qb9 (bn e2) (key k _ (c.2.1-k) ⟨⟨by lia,by lia⟩,m2,q2⟩)
      case kd=>
       obtain⟨hz,m2,q2⟩:=hP
       refine Zp (qb1 (ZM b (c.2.2.1-1) (by lia)) ?_)
       have m3:=m2.tb' sa (by lia) (by lia) (by lia) (by lia) q2
       by_cases e3:c.2.2.1-1=1
       ·exact qc0 (bq e3) (Zx (.inr ⟨_,rfl,⟨_,rfl⟩,m3.first sa pa pb h1 e3⟩))
       refine qb9 (bn e3) ?_
       refine Zp (qb1 (ZM a (na1-1) (by lia)) ?_)
       obtain⟨d,d1,d2,d0⟩:=qR2 kb sb (kv κ (a[na1-1]'(by lia))) (base:=0) (n:=c.2.2.1-1) (by lia)
       have d3:∀i,(hi:i<b.size)->i<c.2.2.1-1->(i<d->κ.klt (kv κ b[i]) (kv κ (a[na1-1]'(by lia))))/\(d<=i->κ.kle (kv κ (a[na1-1]'(by lia))) (kv κ b[i])):=λi hi hn=>by
        have:=d0 i (by lia) hn
        simp only[Xz] at this
        exact this
       refine Zp (qf3 hO (hk m) (qn2 ka (by lia)) d2 (by lia) d1 ?_)
       have ld:0<d:=by
        rcases Nat.eq_zero_or_pos d with z|z
        ·have:=(d3 0 (by lia) (by lia)).2 (by lia)
         exact absurd (WH h1 (qg8 sa (Zo (na1-1)) (by lia))) (Vg this)
        ·exact z
       by_cases hd:c.2.2.1-1-d>0
       case' neg=>
        refine qb9 hd ?_
        have m4:=m3
        have q4:κ.klt (kv κ (b[c.2.2.1-1-1]'(by lia))) (kv κ (a[na1-1]'(by lia))):=(d3 (c.2.2.1-1-1) (by lia) (by lia)).1 (by lia)
       case' pos=>
        refine qc0 hd ?_
        have m4:=m3.bs (k:=d) (by lia) (by lia) (λi j hi hj c1 c2 c3=>ZR (qg8 sa (show j<=na1-1 by lia) (by lia)) ((d3 i hi (by lia)).2 c1))
        by_cases e4:d=1
        ·exact qc0 (bq e4) (Zx (.inr ⟨_,rfl,⟨_,rfl⟩,m4.first sa pa pb h1 e4⟩))
        refine qb9 (bn e4) (qb9 (bn (show d≠0 by lia)) ?_)
        have q4:κ.klt (kv κ (b[d-1]'(by lia))) (kv κ (a[na1-1]'(by lia))):=(d3 (d-1) (by lia) (by lia)).1 (by lia)
       all_goals
        refine Zp (qb1 (ZM a (na1-1) (by lia)) ?_)
        have m5:=m4.ta' sb (by lia) (by lia) (by lia) (by lia) (Z4 q4)
        by_cases e5:na1-1=0
        ·exact qc0 (bq e5) (Zx (.inr ⟨_,rfl,⟨_,rfl⟩,m5.done e5⟩))
        have j:=HiI.of (st:=st) (g:=m) (x:=x+1+(y+1)) m5 (by lia) (by lia) (by lia) (by lia) (by lia)
        exact qb9 (bn e5) (qo7 (λ_=>Zx (.inl ⟨rfl,j.mono (by lia)⟩)) λ_=>Zx j)
   ·cases (show c1=some r from e)
    exact Zx ⟨r,rfl,hg,hr⟩
end
theorem qx3 {κ:KeyKind}{a:Array Keyed}{i:Nat}(h:i<a.size):KK κ a i=kv κ a[i]:=by unfold KK kv;rw[ZM a _ h]
theorem qV1 {κ:KeyKind}{a:Array Keyed}(ka:KeysOf κ a){base n:Nat}(sa:SrtK κ a base (base+n)) (k:κ.α) (hn:base+n<=a.size) :
  ∃c,c<=n/\(∀i,i<n->∃x y,a[base+i]?=some x/\κ.keyOf x.1=some y/\asks false k y=decide (i<c))/\∀i,i<n->(i<c->κ.kle (KK κ a (base+i)) k)/\(c<=i->κ.klt k (KK κ a (base+i))):=by
 obtain⟨c,c1,c2⟩:=qH4 (p:=λi=>!κ.blt k (KK κ a (base+i))) n (λi j k5 hj e=>by
  simp only[W6] at e ⊢
  exact ZR (sa (base+i) (base+j) (by lia) (by lia) (by lia)) e)
 refine⟨c,c1,λi hi=>⟨_,_,ZM a _ (by lia),qn2 ka (by lia),?_⟩,λi hi=>⟨λhc=>?_,λhc=>?_⟩⟩
 ·rw[<- c2 i hi,qx3 (by lia)];rfl
 ·have e:=c2 i hi
  rw[Zk hc] at e
  exact (W6 _).mp e
 ·have e:=c2 i hi
  rw[Zm (by lia)] at e
  exact (Bool.not_eq_false' _).mp e
theorem q83 {κ:KeyKind}{a:Array Keyed}(ka:KeysOf κ a){base n:Nat}(sa:SrtK κ a base (base+n)) (k:κ.α) (hn:base+n<=a.size) :
  ∃c,c<=n/\(∀i,i<n->∃x y,a[base+i]?=some x/\κ.keyOf x.1=some y/\asks true k y=decide (i<c))/\∀i,i<n->(i<c->κ.klt (KK κ a (base+i)) k)/\(c<=i->κ.kle k (KK κ a (base+i))):=by
 obtain⟨c,c1,c2⟩:=qH4 (p:=λi=>κ.blt (KK κ a (base+i)) k) n (λi j k5 hj e=>KeyOrd.klt_of_kle_of_klt (sa (base+i) (base+j) (by lia) (by lia) (by lia)) e)
 refine⟨c,c1,λi hi=>⟨_,_,ZM a _ (by lia),qn2 ka (by lia),?_⟩,λi hi=>⟨λhc=>?_,λhc=>?_⟩⟩
 ·rw[<- c2 i hi,qx3 (by lia)];rfl
 ·have e:=c2 i hi
  rw[Zk hc] at e
  exact e
 ·have e:=c2 i hi
  rw[Zm (by lia)] at e
  exact e
def qe1 (xs:Array Keyed) (lo:Nat) (l:List (Keyed×Nat)):Array Keyed:=l.foldl (λa x=>a.setIfInBounds (lo+x.2) x.1) xs
theorem ql6 (lo k:Nat):∀(l:List Keyed) (o:Nat) (xs:Array Keyed),lo+o+l.length<=xs.size->(qe1 xs lo (l.zipIdx o)).size=xs.size/\(qe1 xs lo (l.zipIdx o))[k]?=if lo+o<=k/\k<lo+o+l.length then l[k-(lo+o)]? else xs[k]?
 |[],o,xs,_=>⟨rfl,by rw[Zq (by simp)];rfl⟩
 |p::l,o,xs,h=>by
  have h':lo+(o+1)+l.length<=(xs.setIfInBounds (lo+o) p).size:=by simp at h ⊢;lia
  obtain⟨i1,i2⟩:=ql6 lo k l (o+1) (xs.setIfInBounds (lo+o) p) h'
  have e:qe1 xs lo ((p::l).zipIdx o)=qe1 (xs.setIfInBounds (lo+o) p) lo (l.zipIdx (o+1)):=rfl
  rw[e]
  refine⟨by rw[i1];simp,?_⟩
  rw[i2]
  simp only[ZQ] at h ⊢
  by_cases c1:k=lo+o
  ·subst c1
   rw[Zq (by lia),Zz (by lia),Ub]
   rw[Vv]
   simp
   lia
  ·by_cases c2:lo+o<=k/\k<lo+o+(l.length+1)
   ·rw[Zz (by lia),Zz c2]
    rw[show k-(lo+o)=(k-(lo+(o+1)))+1 by lia]
    simp
   ·rw[Zq (by lia),Zq c2,Vv,Zq (by lia)]
theorem qH7 {xs m:Array Keyed}{lo:Nat}(h:lo+m.size<=xs.size):(qe1 xs lo m.toList.zipIdx).toList=xs.toList.take lo++(m.toList++xs.toList.drop (lo+m.size)):=by
 apply Xd
 intro k
 have g:=(ql6 lo k m.toList 0 xs (by simpa using h)).2
 rw[Z6,g]
 simp only[Wu,ZL]
 by_cases c1:k<lo
 ·rw[Zq (by lia),ZD (by simp;lia),List.getElem?_take_of_lt c1];simp
 ·have el:(xs.toList.take lo).length=lo:=by simp;lia
  rw[ZF (by lia),el]
  by_cases c2:k<lo+m.size
  ·rw[Zz (by lia),ZD (by simp;lia)]
  ·rw[Zq (by lia),ZF (by simp;lia),List.getElem?_drop]
   simp only[ZL]
   rw[show lo+m.size+(k-lo-m.size)=k by lia];simp
theorem qB8 {a:Array Keyed}{i j:Nat}:(a.extract i j).toList=(a.toList.drop i).take (j-i):=by
 rw[XB,List.extract_eq_drop_take]
theorem q84 {κ:KeyKind}{a:Array Keyed}{lo hi:Nat}(h:SrtK κ a lo hi) (hs:hi<=a.size):Asc κ (a.extract lo hi).toList:=by
 refine Xv.mpr λi j hi' hj k5=>?_
 simp at hi' hj
 have:=h (lo+i) (lo+j) (by lia) (by lia) (by lia)
 rw[qx3 (by lia),qx3 (by lia)] at this
 simpa using this
theorem qr8 {κ:KeyKind}{a:Array Keyed}(h:KeysOf κ a) (lo hi:Nat):KeysOf κ (a.extract lo hi):=λp hp=>by
 rw[qB8] at hp
 exact h p (List.mem_of_mem_drop (List.mem_of_mem_take hp))
section
variable {prog:Program}{w:World}{A:Around}{E:Value->Shared->Prop}{s:Shared}{κ:KeyKind}
theorem xp8 {Q:PUnit->SortSt->Prop}{st st':SortSt}(h:Q ⟨⟩ st'):wpS (model prog w) A E s (set st':StateT SortSt Sem PUnit) Q st:=by
 unfold wpS;rw[StateT.run_set];exact Zb ⟨rfl,h⟩
structure Mrg (κ:KeyKind) (st st':SortSt) (i sa na pw nb:Nat):Prop where
 perm:(arrOf st').Perm (arrOf st)
 kind:kindOf st'=kindOf st
 fail:failedOf st'=failedOf st
 out:∀k:Nat,k<sa\/sa+na+nb<=k->(arrOf st')[k]?=(arrOf st)[k]?
 srt:SrtK κ (arrOf st') sa (sa+na+nb)
 pend:pendingOf st'=((pendingOf st).setIfInBounds i (sa,na+nb,pw)).eraseIdxIfInBounds (i+1)
theorem q85 {a m:Array Keyed}{sa na nb k d:Nat}(s1:SrtK κ a sa (sa+na)) (s2:SrtK κ a (sa+na) (sa+na+nb)) (hsz:sa+na+nb<=a.size) (hk:k<na) (hd:d<=nb) (pnb:0<nb)
  (g1:∀i,i<na->i<k->κ.kle (KK κ a (sa+i)) (KK κ a (sa+na))) (g2:∀i,i<nb->d<=i->κ.kle (KK κ a (sa+na-1)) (KK κ a (sa+na+i)))
  (r:Rd κ (a.extract (sa+k) (sa+na)) (a.extract (sa+na) (sa+na+d)) m) :
  (qe1 a (sa+k) m.toList.zipIdx).Perm a/\(∀j:Nat,j<sa\/sa+na+nb<=j->(qe1 a (sa+k) m.toList.zipIdx)[j]?=a[j]?)/\SrtK κ (qe1 a (sa+k) m.toList.zipIdx) sa (sa+na+nb):=by
 have hm:m.size=na-k+d:=by
  have:=r.1.length_eq
  simp at this
  lia
 have cat:(a.extract (sa+k) (sa+na)).toList++(a.extract (sa+na) (sa+na+d)).toList=(a.toList.drop (sa+k)).take (na-k+d):=by
  rw[qB8,qB8,show sa+na-(sa+k)=na-k by lia,show sa+na+d-(sa+na)=d by lia,List.take_add,Up,show sa+k+(na-k)=sa+na by lia]
 have get:=λj=>(ql6 (sa+k) j m.toList 0 a (by simp;lia)).2
 simp only[Wu,ZL] at get
 have p:(qe1 a (sa+k) m.toList.zipIdx).Perm a:=by
  refine Wo.mpr ?_
  rw[qH7 (by lia)]
  have e:a.toList=a.toList.take (sa+k)++((a.toList.drop (sa+k)).take (na-k+d)++a.toList.drop (sa+k+m.size)):=by
   rw[hm,<- Up (i:=na-k+d) (j:=sa+k),YK,YK]
  conv=>rhs;rw[e]
  refine Vf _ (List.Perm.append_right _ ?_)
  rw[<- cat];exact r.1
 refine⟨p,λj hj=>?_,?_⟩
 ·rw[get j,Zq (by lia)]
 ·have low:∀j,j<sa+k\/sa+na+d<=j->KK κ (qe1 a (sa+k) m.toList.zipIdx) j=KK κ a j:=λj hj=>KK_congr (by rw[get j,Zq (by lia)])
  have mid:∀j,sa+k<=j->(hj:j<sa+na+d)->KK κ (qe1 a (sa+k) m.toList.zipIdx) j=kv κ (m[j-(sa+k)]'(by lia)):=λj h1 h2=>by
   unfold KK kv
   rw[get j,Zz (by lia),Z6,ZM m _ (by lia)]
  have src:∀j,sa+k<=j->j<sa+na+d->∃i,sa+k<=i/\i<sa+na+d/\KK κ (qe1 a (sa+k) m.toList.zipIdx) j=KK κ a i:=λj h1 h2=>by
   rw[mid j h1 h2]
   have me:m[j-(sa+k)]'(by lia)∈(a.toList.drop (sa+k)).take (na-k+d):=by
    rw[<- cat];exact r.1.mem_iff.mp (by simp)
   obtain⟨i,hi,e⟩:=XQ me
   simp at hi
   refine⟨sa+k+i,by lia,by lia,?_⟩
   rw[qx3 (by lia),<- e]
   simp
  have last:∀i,sa<=i->i<sa+na->κ.kle (KK κ a i) (KK κ a (sa+na-1)):=λi h1 h2=>s1 i (sa+na-1) h1 (by lia) (by lia)
  intro i j h1 h2 h3
  by_cases ci:i<sa+k
  ·rw[low i (.inl ci)]
   have gi:κ.kle (KK κ a i) (KK κ a (sa+na)):=by
    have:=g1 (i-sa) (by lia) (by lia)
    rwa [show sa+(i-sa)=i by lia] at this
   by_cases cj:j<sa+k\/sa+na+d<=j
   ·rw[low j cj]
    by_cases c:j<sa+na
    ·exact s1 i j h1 h2 c
    ·exact ZR gi (s2 (sa+na) j (Zd _) (by lia) (by lia))
   ·obtain⟨q,q1,q2,q3⟩:=src j (by lia) (by lia)
    rw[q3]
    by_cases c:q<sa+na
    ·exact s1 i q h1 (by lia) c
    ·exact ZR gi (s2 (sa+na) q (Zd _) (by lia) (by lia))
  ·by_cases ci2:i<sa+na+d
   ·by_cases cj:j<sa+na+d
    ·rw[mid i (by lia) ci2,mid j (by lia) cj]
     exact qg8 r.2 (by lia) (by lia)
    ·obtain⟨q,q1,q2,q3⟩:=src i (by lia) ci2
     rw[q3,low j (.inr (by lia))]
     by_cases c:q<sa+na
     ·have:=g2 (j-(sa+na)) (by lia) (by lia)
      rw[show sa+na+(j-(sa+na))=j by lia] at this
      exact ZR (last q (by lia) c) this
     ·exact s2 q j (by lia) (by lia) (by lia)
   ·rw[low i (.inr (by lia)),low j (.inr (by lia))]
    exact s2 i j (by lia) h2 h3
theorem qL9 {kd:SortKind}(hO:KLt prog w A s κ kd){st:SortSt}{i sa na pw nb pw2:Nat}{Q:Bool->SortSt->Prop}(hk:kindOf st=kd) (h0:KeysOf κ (arrOf st)) (hf:failedOf st=none)
  (p1:(pendingOf st)[i]?=some (sa,na,pw)) (p2:(pendingOf st)[i+1]?=some (sa+na,nb,pw2)) (pna:0<na) (pnb:0<nb) (hsz:sa+na+nb<=(arrOf st).size)
  (s1:SrtK κ (arrOf st) sa (sa+na)) (s2:SrtK κ (arrOf st) (sa+na) (sa+na+nb)) (h:∀st',Mrg κ st st' i sa na pw nb->Q true st'):wpS (model prog w) A E s (mergeAt' i) Q st:=by
 refine Zp (Vl ?_)
 dsimp only
 rw[p1,p2]
 refine Zp (xp8 ?_)
 refine Zp (qb1 (ZM (arrOf st) (sa+na) (by lia)) ?_)
 obtain⟨k,k1,k2,k3⟩:=qV1 h0 s1 (KK κ (arrOf st) (sa+na)) (by lia)
 refine Zp (qf3 (st:=SortSt.mk' (kindOf st) (arrOf st) (((pendingOf st).setIfInBounds i (sa,na+nb,pw)).eraseIdxIfInBounds (i+1)) (gallopOf st) (failedOf st)) hO hk (qn2 h0 (by lia)) (by rw[qx3 (by lia)] at k2;exact k2) pna k1 ?_)
 dsimp only
 by_cases c1:na-k=0
 ·rw[Zz (by simp only[X1];exact c1)]
  refine Zx (h _ ⟨.refl _,rfl,rfl,λ_ _=>rfl,λx y d1 d2 d3=>?_,rfl⟩)
  show κ.kle (KK κ (arrOf st) x) (KK κ (arrOf st) y)
  by_cases cx:x<sa+na
  ·by_cases cy:y<sa+na
   ·exact s1 x y d1 d2 cy
   ·have:=(k3 (x-sa) (by lia)).1 (by lia)
    rw[show sa+(x-sa)=x by lia] at this
    exact ZR this (s2 (sa+na) y (Zd _) (by lia) d3)
  ·exact s2 x y (by lia) d2 d3
 ·rw[Zq (by simp only[X1];exact c1)]
  rw[show sa+k+(na-k)-1=sa+na-1 by lia]
  refine Zp (qb1 (ZM (arrOf st) (sa+na-1) (by lia)) ?_)
  obtain⟨d,d1,d2,d3⟩:=q83 h0 s2 (KK κ (arrOf st) (sa+na-1)) (by lia)
  refine Zp (qf3 (st:=SortSt.mk' (kindOf st) (arrOf st) (((pendingOf st).setIfInBounds i (sa,na+nb,pw)).eraseIdxIfInBounds (i+1)) (gallopOf st) (failedOf st)) hO hk (qn2 h0 (by lia)) (by rw[qx3 (by lia)] at d2;exact d2) (by lia) d1 ?_)
  dsimp only
  have lk:κ.klt (KK κ (arrOf st) (sa+na)) (KK κ (arrOf st) (sa+k)):=(k3 k (by lia)).2 (Zd _)
  have ld:d≠0:=λz=>by
   have:=(d3 0 pnb).2 (by lia)
   exact absurd (WH lk (s1 (sa+k) (sa+na-1) (by lia) (by lia) (by lia))) (Vg this)
  rw[Zq (by simp only[X1];exact ld)]
  have sx:((arrOf st).extract (sa+k) (sa+na)).size=na-k:=by simp;lia
  have sy:((arrOf st).extract (sa+na) (sa+na+d)).size=d:=by simp;lia
  have px:0<((arrOf st).extract (sa+k) (sa+na)).size:=by lia
  have py:0<((arrOf st).extract (sa+na) (sa+na+d)).size:=by lia
  have gx:∀j,(hj:j<((arrOf st).extract (sa+k) (sa+na)).size)->kv κ ((arrOf st).extract (sa+k) (sa+na))[j]=KK κ (arrOf st) (sa+k+j):=λj hj=>by rw[qx3 (by lia)];simp
  have gy:∀j,(hj:j<((arrOf st).extract (sa+na) (sa+na+d)).size)->kv κ ((arrOf st).extract (sa+na) (sa+na+d))[j]=KK κ (arrOf st) (sa+na+j):=λj hj=>by rw[qx3 (by lia)];simp
  have q1:κ.klt (kv κ (((arrOf st).extract (sa+na) (sa+na+d))[0]'(by lia))) (kv κ (((arrOf st).extract (sa+k) (sa+na))[0]'(by lia))):=by
   rw[gx,gy];exact lk
  have q2:∀j,(hj:j<((arrOf st).extract (sa+na) (sa+na+d)).size)->κ.klt (kv κ ((arrOf st).extract (sa+na) (sa+na+d))[j]) (kv κ (((arrOf st).extract (sa+k) (sa+na))[((arrOf st).extract (sa+k) (sa+na)).size-1]'(by lia))):=λj hj=>by
   rw[gx,gy,show sa+k+(((arrOf st).extract (sa+k) (sa+na)).size-1)=sa+na-1 by lia]
   exact (d3 j (by lia)).1 (by lia)
  have fin:∀out g,Rd κ ((arrOf st).extract (sa+k) (sa+na)) ((arrOf st).extract (sa+na) (sa+na+d)) out->Q true (SortSt.mk' (kindOf st) (qe1 (arrOf st) (sa+k) out.toList.zipIdx) (((pendingOf st).setIfInBounds i (sa,na+nb,pw)).eraseIdxIfInBounds (i+1)) g (failedOf st)):=λout g r=>by
   obtain⟨r1,r2,r3⟩:=q85 s1 s2 hsz (by lia) d1 pnb (λj j1 j2=>(k3 j j1).1 j2) (λj j1 j2=>(d3 j j1).2 j2) r
   exact h _ ⟨r1,rfl,rfl,r2,r3,rfl⟩
  have fn:∀out g,Rd κ ((arrOf st).extract (sa+k) (sa+na)) ((arrOf st).extract (sa+na) (sa+na+d)) out->Q (failedOf st).isNone (SortSt.mk' (kindOf st) (qe1 (arrOf st) (sa+k) out.toList.zipIdx) (((pendingOf st).setIfInBounds i (sa,na+nb,pw)).eraseIdxIfInBounds (i+1)) g (failedOf st)):=λout g r=>by
   have e:(failedOf st).isNone=true:=by rw[hf];rfl
   rw[e];exact fin out g r
  have ax:Asc κ ((arrOf st).extract (sa+k) (sa+na)).toList:=q84 (λx y e1 e2 e3=>s1 x y (by lia) e2 e3) (by lia)
  have ay:Asc κ ((arrOf st).extract (sa+na) (sa+na+d)).toList:=q84 (λx y e1 e2 e3=>s2 x y e1 e2 (by lia)) (by lia)
  by_cases hle:na-k<=d
  ·rw[Zz hle]
   refine Zp (qL7 (st:=SortSt.mk' (kindOf st) (arrOf st) (((pendingOf st).setIfInBounds i (sa,na+nb,pw)).eraseIdxIfInBounds (i+1)) (gallopOf st) (failedOf st)) hO hk (qr8 h0 _ _) (qr8 h0 _ _) ax ay px py q1 q2 λout g r=>?_)
   exact Zp (XJ (Zp (Vl (Zx (fn out g r)))))
  ·rw[Zq hle]
   refine Zp (qL8 (st:=SortSt.mk' (kindOf st) (arrOf st) (((pendingOf st).setIfInBounds i (sa,na+nb,pw)).eraseIdxIfInBounds (i+1)) (gallopOf st) (failedOf st)) hO hk (qr8 h0 _ _) (qr8 h0 _ _) ax ay px py q1 q2 λout g r=>?_)
   exact Zp (XJ (Zp (Vl (Zx (fn out g r)))))
end
def Runs (κ:KeyKind) (a:Array Keyed):List (Nat×Nat×Nat)->Nat->Nat->Prop
 |[],lo,hi=>lo=hi
 |r::rs,lo,hi=>r.1=lo/\0<r.2.1/\SrtK κ a lo (lo+r.2.1)/\Runs κ a rs (lo+r.2.1) hi
section
variable {κ:KeyKind}{a a':Array Keyed}
theorem Runs.app:∀{p q:List (Nat×Nat×Nat)}{lo hi:Nat},Runs κ a (p++q) lo hi<->∃m,Runs κ a p lo m/\Runs κ a q m hi
 |[],q,lo,hi=>⟨λh=>⟨lo,rfl,h⟩,λ⟨m,e,h⟩=>by cases e;exact h⟩
 |r::p,q,lo,hi=>⟨λ⟨h1,h2,h3,h4⟩=>by
   obtain⟨m,m1,m2⟩:=Runs.app.mp h4
   exact⟨m,⟨h1,h2,h3,m1⟩,m2⟩,λ⟨m,⟨h1,h2,h3,m1⟩,m2⟩=>⟨h1,h2,h3,Runs.app.mpr ⟨m,m1,m2⟩⟩⟩
theorem Runs.le:∀{p:List (Nat×Nat×Nat)}{lo hi:Nat},Runs κ a p lo hi->lo+p.length<=hi
 |[],lo,hi,h=>by cases h;simp
 |r::p,lo,hi,⟨h1,h2,h3,h4⟩=>by
  have:=h4.le
  simp only[ZQ];lia
theorem SrtK.congr {lo hi:Nat}(h:SrtK κ a lo hi) (e:∀k:Nat,lo<=k->k<hi->a'[k]?=a[k]?):SrtK κ a' lo hi:=λi j h1 h2 h3=>by
 rw[KK_congr (e i h1 (by lia)),KK_congr (e j (by lia) h3)];exact h i j h1 h2 h3
theorem Runs.congr:∀{p:List (Nat×Nat×Nat)}{lo hi:Nat},Runs κ a p lo hi->(∀k:Nat,lo<=k->k<hi->a'[k]?=a[k]?)->Runs κ a' p lo hi
 |[],lo,hi,h,_=>h
 |r::p,lo,hi,⟨h1,h2,h3,h4⟩,e=>⟨h1,h2,h3.congr (λk k1 k2=>e k k1 (by have:=h4.le;lia)),h4.congr (λk k1 k2=>e k (by lia) k2)⟩
theorem Runs.mod {f:Nat×Nat×Nat->Nat×Nat×Nat}(hf:∀x,(f x).1=x.1/\(f x).2.1=x.2.1):∀{p:List (Nat×Nat×Nat)}{i lo hi:Nat},Runs κ a p lo hi->Runs κ a (p.modify i f) lo hi
 |[],i,lo,hi,h=>by cases i<;>exact h
 |r::p,0,lo,hi,⟨h1,h2,h3,h4⟩=>by
  show Runs κ a (f r::p) lo hi
  refine⟨by rw[(hf r).1];exact h1,by rw[(hf r).2];exact h2,by rw[(hf r).2];exact h3,by rw[(hf r).2];exact h4⟩
 |r::p,i+1,lo,hi,⟨h1,h2,h3,h4⟩=>⟨h1,h2,h3,h4.mod hf⟩
theorem Runs.one {lo n w:Nat}(h:0<n) (hs:SrtK κ a lo (lo+n)):Runs κ a [(lo,n,w)] lo (lo+n):=⟨rfl,h,hs,rfl⟩
end
theorem xw8 {α:Type}{l:List α}{i:Nat}(h:i+1<l.length):∃pre x y post,l=pre++x::y::post/\pre.length=i:=by
 refine⟨l.take i,l[i],l[i+1],l.drop (i+2),?_,by simp;lia⟩
 rw[<- WA,<- WA,YK]
theorem xw9 {p:Array (Nat×Nat×Nat)}{pre post:List (Nat×Nat×Nat)}{x y v:Nat×Nat×Nat}{i:Nat}(h:p.toList=pre++x::y::post) (hi:pre.length=i):((p.setIfInBounds i v).eraseIdxIfInBounds (i+1)).toList=pre++v::post:=by
 have hl:p.size=i+(post.length+2):=by
  have:=Yd List.length h
  simp at this;lia
 rw[Array.eraseIdxIfInBounds,dif_pos (by simp;lia),Array.toList_eraseIdx,Wj,h]
 subst hi
 have e1:(pre++x::y::post).set pre.length v=pre++v::y::post:=by
  rw[List.set_append_right _ _ (Zd _)];simp
 rw[e1,List.eraseIdx_append_of_length_le (by lia)]
 simp
structure Stands (κ:KeyKind) (kd:SortKind) (a₀:Array Keyed) (st:SortSt) (lo:Nat):Prop where
 perm:(arrOf st).Perm a₀
 kind:kindOf st=kd
 fail:failedOf st=none
 runs:Runs κ (arrOf st) (pendingOf st).toList 0 lo
section
variable {prog:Program}{w:World}{A:Around}{E:Value->Shared->Prop}{s:Shared}{κ:KeyKind}
theorem Stands.merge {kd:SortKind}{a₀:Array Keyed}(hO:KLt prog w A s κ kd) (h0:KeysOf κ a₀){st:SortSt}{lo i:Nat}{Q:Bool->SortSt->Prop}(d:Stands κ kd a₀ st lo) (hlo:lo<=a₀.size) (hi:i+1<(pendingOf st).size)
  (h:∀st',Stands κ kd a₀ st' lo->(pendingOf st').size+1=(pendingOf st).size->(∀k:Nat,lo<=k->(arrOf st')[k]?=(arrOf st)[k]?)->Q true st'):wpS (model prog w) A E s (mergeAt' i) Q st:=by
 obtain⟨pre,⟨s1,n1,w1⟩,⟨s2,n2,w2⟩,post,e,hp⟩:=xw8 (l:=(pendingOf st).toList) (by simpa using hi)
 have r:=d.runs
 rw[e] at r
 obtain⟨m,r1,r2,r3,r4,r5,r6,r7,r8⟩:=Runs.app.mp r
 simp only at r2 r3 r4 r5 r6 r7 r8
 subst r2 r5
 have l8:=r8.le
 have l1:=r1.le
 have sz:(arrOf st).size=a₀.size:=d.perm.size_eq
 have p1:(pendingOf st)[i]?=some (s1,n1,w1):=by
  rw[<- Z6,e,ZF (by lia),hp,Ub];rfl
 have p2:(pendingOf st)[i+1]?=some (s1+n1,n2,w2):=by
  rw[<- Z6,e,ZF (by lia),hp,XT];rfl
 refine qL9 hO d.kind (qg7 h0 d.perm) d.fail p1 p2 r3 r6 (by lia) r4 r7 λst' g=>h st' ⟨g.perm.trans d.perm,g.kind.trans d.kind,g.fail.trans d.fail,?_⟩ ?_ λk hk=>g.out k (.inr (by lia))
 ·rw[g.pend,xw9 e hp]
  refine Runs.app.mpr ⟨s1,r1.congr λk _ k2=>g.out k (.inl k2),rfl,by show 0<n1+n2;lia,?_,?_⟩
  ·have:=g.srt
   rwa [Nat.add_assoc] at this
  ·have:=r8.congr (a':=arrOf st') λk k1 _=>g.out k (.inr k1)
   rwa [Nat.add_assoc] at this
 ·have:=Yd List.length (xw9 (v:=(s1,n1+n2,w1)) e hp)
  rw[<- g.pend] at this
  have e2:=Yd List.length e
  simp at this e2
  lia
theorem qB9 {kd:SortKind}{a₀:Array Keyed}(hO:KLt prog w A s κ kd) (h0:KeysOf κ a₀){st:SortSt}{Q:Unit->SortSt->Prop}(d:Stands κ kd a₀ st 0)
  (h:∀st',(arrOf st').Perm a₀->failedOf st'=none->SortedToK κ (arrOf st') a₀.size->Q () st'):wpS (model prog w) A E s sortRuns' Q st:=by
 rw[sortRuns'_eq]
 refine Zp (Vl ?_)
 dsimp only
 have sz:(arrOf st).size=a₀.size:=d.perm.size_eq
 simp only[sz]
 generalize minRun' a₀.size a₀.size 0=mr
 refine Zp (WG (Y9 (I:=λx c st'=>∃lo,c=(none,lo)/\Stands κ kd a₀ st' lo/\x<=lo/\lo<=a₀.size)
  (Q:=λc st'=>c=(none,a₀.size)/\Stands κ kd a₀ st' a₀.size) ?step ?fin ⟨0,rfl,d,Zd _,Zo _⟩) ?post)
 case fin=>
  rintro c st' ⟨lo,rfl,d,h1,h2⟩
  have:lo=a₀.size:=by lia
  subst this
  exact⟨rfl,d⟩
 case post=>
  rintro c st' ⟨rfl,d⟩
  dsimp only
  refine Zp (WG (Y9 (I:=λx c st'=>c=(none,())/\Stands κ kd a₀ st' a₀.size/\(pendingOf st').size+x<=a₀.size)
   (Q:=λc st'=>c=(none,())/\Stands κ kd a₀ st' a₀.size/\(pendingOf st').size<=1) ?step2 ?fin2 ⟨rfl,d,?init2⟩) ?post2)
  case init2=>
   have:=d.runs.le
   simp at this;lia
  case fin2=>
   rintro c st' ⟨rfl,d,h1⟩
   exact⟨rfl,d,by lia⟩
  case post2=>
   rintro c st' ⟨rfl,d,h1⟩
   refine Zx (h st' d.perm d.fail λi j k5 hj=>?_)
   have r:=d.runs
   cases e:(pendingOf st').toList with
   |nil=>
    rw[e] at r
    have r':0=a₀.size:=r
    lia
   |cons p ps=>
    rw[e] at r
    obtain⟨r1,r2,r3,r4⟩:=r
    have:ps=[]:=by
     have:=Yd List.length e
     simp at this
     exact XV.mp (by lia)
    subst this
    have r4':0+p.2.1=a₀.size:=r4
    rw[r4'] at r3
    exact r3 i j (Zo _) k5 hj
  case step2=>
   rintro x c st' _ hx ⟨rfl,d,h1⟩
   refine Zp (Vl ?_)
   by_cases c1:(pendingOf st').size<=1
   ·rw[Zz c1]
    exact Zx ⟨rfl,d,c1⟩
   ·rw[Zq c1]
    refine Zp (d.merge hO h0 (Zd _) ?_ λst2 d2 e2 _=>?_)
    ·have key:∀c:Bool,(if c=true then (pendingOf st').size-2-1 else (pendingOf st').size-2)+1<(pendingOf st').size:=λc=>by cases c<;>simp<;>lia
     exact key _
    ·simp only[YN,Zr,ZX]
     exact Zx ⟨rfl,d2,by lia⟩
 case step=>
  rintro x c st' _ hx ⟨lo,rfl,d,h1,h2⟩
  dsimp only
  by_cases c1:lo>=a₀.size
  ·rw[Zz c1]
   have:lo=a₀.size:=by lia
   subst this
   exact Zx ⟨rfl,d⟩
  ·rw[Zq c1]
   have sz':(arrOf st').size=a₀.size:=d.perm.size_eq
   have rest:∀(n:Nat) (st2:SortSt),1<=n->lo+n<=a₀.size->Mv st' st2 lo a₀.size->SrtK κ (arrOf st2) lo (lo+n)->Stands κ kd a₀ st2 lo:=λn st2 n1 n2 m2 _=>
    ⟨m2.perm.trans d.perm,m2.kind.trans d.kind,m2.fail.trans d.fail,by rw[m2.pend];exact d.runs.congr λk _ k2=>m2.out k (.inl k2)⟩
   have push:∀(n:Nat) (st2:SortSt),1<=n->Stands κ kd a₀ st2 lo->SrtK κ (arrOf st2) lo (lo+n)->Stands κ kd a₀ (setPending st2 ((pendingOf st2).push (lo,n,0))) (lo+n):=λn st2 n1 d2 s2=>
    ⟨d2.perm,d2.kind,d2.fail,by
     show Runs κ (arrOf st2) ((pendingOf st2).push (lo,n,0)).toList 0 (lo+n)
     rw[Xf]
     exact Runs.app.mpr ⟨lo,d2.runs,Runs.one (by lia) s2⟩⟩
   refine Zp (xf7 hO d.kind (qg7 h0 d.perm) (by lia) (by lia) λm st2 m1 m2 mv s2=>?_)
   have mv':Mv st' st2 lo a₀.size:=by rwa [show lo+(a₀.size-lo)=a₀.size by lia] at mv
   dsimp only
   by_cases c2:m<mr
   case' neg=>
    rw[Zq c2]
    have s3:=s2
    have d3:=rest _ st2 m1 (by lia) mv' s2
    have n1:1<=m:=m1
    have n2:lo+m<=a₀.size:=by lia
    clear s2
    obtain⟨n,hn⟩:∃n,n=m:=⟨_,rfl⟩
    simp only[<- hn] at s3 n1 n2 ⊢
   case' pos=>
    rw[Zz c2]
    refine Zp (V8 (Y5 ⟨rfl,?_⟩))
    have hmin:lo+min (a₀.size-lo) mr<=(arrOf st2).size:=by rw[mv.size];lia
    refine Zp (xf5 hO (mv.kind.trans d.kind) (qg7 h0 (mv.perm.trans d.perm)) hmin (by lia) s2 λst3 mv3 s3=>?_)
    simp only[YN,Zr,ZX]
    have mv3':Mv st' st3 lo a₀.size:=mv'.trans ⟨mv3.perm,mv3.kind,mv3.fail,mv3.pend,λk hk=>mv3.out k (by lia)⟩
    have d3:=rest _ st3 (show 1<=min (a₀.size-lo) mr by lia) (by lia) mv3' s3
    obtain⟨n,hn⟩:∃n,n=min (a₀.size-lo) mr:=⟨_,rfl⟩
    have n1:1<=n:=by lia
    have n2:lo+n<=a₀.size:=by lia
    simp only[<- hn] at s3 ⊢
    clear hn hmin mv3
   all_goals
    refine Zp (Vl ?_)
    split
    ·refine Zp (WG (Y9 (I:=λx c st4=>c=(none,())/\Stands κ kd a₀ st4 lo/\SrtK κ (arrOf st4) lo (lo+n)) (Q:=λc st4=>c=(none,())/\Stands κ kd a₀ st4 lo/\SrtK κ (arrOf st4) lo (lo+n)) ?_ ?_ ⟨rfl,d3,s3⟩) ?_)
     ·rintro y c st4 _ _ ⟨rfl,d4,s4⟩
      refine Zp (Vl ?_)
      split
      ·rename_i e5
       split
       ·exact Zx ⟨rfl,d4,s4⟩
       ·have hsz2:(pendingOf st4).size>1:=by
         by_cases z:(pendingOf st4).size>1
         ·exact z
         ·rw[Zq z] at e5;cases e5
        refine Zp (d4.merge hO h0 h2 (by lia) λst5 d5 _ o5=>?_)
        simp only[YN,Zr,ZX]
        exact Zx ⟨rfl,d5,s4.congr λk k1 _=>o5 k k1⟩
      ·exact Zx ⟨rfl,d4,s4⟩
     ·rintro c st4 ⟨rfl,d4,s4⟩
      exact⟨rfl,d4,s4⟩
     ·rintro c st4 ⟨rfl,d4,s4⟩
      refine Zp (XJ (Zp (XJ (Zx ⟨_,rfl,push _ _ n1 ⟨d4.perm,d4.kind,d4.fail,?_⟩ s4,by lia,n2⟩))))
      show Runs κ (arrOf st4) (Array.modify _ _ _).toList 0 lo
      rw[Array.toList_modify]
      refine Runs.mod ?_ d4.runs
      exact λ_=>⟨rfl,rfl⟩
    ·exact Zp (XJ (Zx ⟨_,rfl,push _ _ n1 d3 s3,by lia,n2⟩))
end
inductive AtK:Bool->Value->List Int->Prop
 |int (i:Int) (t:Tok):AtK false (.int i t) [i]
 |str (x:Str) (t:Tok):AtK true (.str x t) (x.cps.toList.map Int.ofNat)
theorem AtK.uniq {k:Bool}{v:Value}{l m:List Int}(h:AtK k v l) (g:AtK k v m):l=m:=by
 cases h<;>cases g<;>rfl
theorem q86:∀{l m:List Nat},l.map Int.ofNat<m.map Int.ofNat<->l<m
 |[],[]=>by simp
 |[],_::_=>by simp
 |_::_,[]=>by simp
 |x::l,y::m=>by
  rw[ZA,ZA,YL,YL,q86]
  simp only[Int.ofNat_eq_natCast,Int.ofNat_lt,Int.ofNat_inj]
theorem q87:∀{l m:List Nat},l.map Int.ofNat=m.map Int.ofNat->l=m
 |[],[],_=>rfl
 |[],_::_,h=>by simp at h
 |_::_,[],h=>by simp at h
 |x::l,y::m,h=>by
  rw[ZA,ZA] at h
  obtain⟨h1,h2⟩:=YV h
  rw[Int.ofNat.inj h1,q87 h2]
section
variable {prog:Program}{w:World}{A:Around}{E:Value->Shared->Prop}{s:Shared}{pat:Nat->Bool}
theorem xx0 {k:Bool}{x y:Value}{a b:List Int}{Q:Bool->Shared->Prop}(hx:AtK k x a) (hy:AtK k y b) (h:Q (decide (a=b)) s):wpAny (model prog w) A (eqBool x y) Q E s:=by
 cases hx with
 |int i t=>
  cases hy with
  |int j u=>
   refine wpAny_eqBool_int ?_
   have e:decide ([i]=[j])=(i==j):=by simp;rfl
   rw[e] at h;exact h
 |str x t=>
  cases hy with
  |str y u=>
   refine PySem.wpAny_eqBool_str ?_
   have e:decide (x.cps.toList.map Int.ofNat=y.cps.toList.map Int.ofNat)=decide (x=y):=by
    rw[Yv]
    constructor
    ·intro z
     have:=q87 z
     cases x;cases y
     simp at this ⊢
     exact this
    ·rintro rfl;rfl
   rw[e] at h;exact h
theorem qR7 {k c:Bool}{x y:Value}{a b:List Int}{Q:Bool->Shared->Prop}(hx:AtK k x a) (hy:AtK k y b) (h:Q (decide (a<b)) s):wpAny (model prog w) A (oneLt' c x y) Q E s:=by
 cases hx with
 |int i t=>
  cases hy with
  |int j u=>
   have e:decide ([i]<[j])=decide (i<j):=by rw[Yv,YL];simp
   rw[e] at h
   cases c with
   |true=>exact oneLt_int h
   |false=>
    rw[oneLt'_eq]
    simp only[Zr,ZX,WQ]
    exact Za (wpAny_lt_int (Z1 h))
 |str x t=>
  cases hy with
  |str y u=>
   have e:decide (x.cps.toList.map Int.ofNat<y.cps.toList.map Int.ofNat)=decide (x.cps.toList<y.cps.toList):=by rw[Yv];exact q86
   rw[e] at h
   cases c with
   |true=>exact oneLt_str h
   |false=>
    rw[oneLt'_eq]
    simp only[Zr,ZX,WQ]
    exact Za (PySem.P.lt_str (Z1 h))
end
theorem qH8:∀{l m:List (List Int)}(a b:List (List Int)),l.length=m.length->(l++a<m++b<->l<m\/(l=m/\a<b))
 |[],[],a,b,_=>by simp
 |[],_::_,_,_,h=>by simp at h
 |_::_,[],_,_,h=>by simp at h
 |x::l,y::m,a,b,h=>by
  rw[List.cons_append,List.cons_append,YL,YL,qH8 a b (by simpa using h)]
  constructor
  ·rintro (z|⟨z,u|⟨u,v⟩⟩)
   ·exact .inl (.inl z)
   ·exact .inl (.inr ⟨z,u⟩)
   ·exact .inr ⟨by rw[z,u],v⟩
  ·rintro ((z|⟨z,u⟩)|⟨z,v⟩)
   ·exact .inl z
   ·exact .inr ⟨z,.inl u⟩
   ·obtain⟨z1,z2⟩:=YV z
    exact .inr ⟨z1,.inr ⟨z2,v⟩⟩
structure OKind (prog:Program) (w:World) where
 is:Heap->Value->List (List Int)->Prop
 lvl:Nat
 keep:∀{h h':Heap}{v:Value}{l:List (List Int)},(∀b o,h.get? b=some o->o.cls=.type "tuple" -> h'.get? b=some o)->is h v l->is h' v l
 len:∀{h h':Heap}{u v:Value}{l m:List (List Int)},is h u l->is h' v m->l.length=m.length
 uniq:∀{h:Heap}{v:Value}{l m:List (List Int)},is h v l->is h v m->l=m
 eqB:∀{A:Around}{E:Value->Shared->Prop}{s:Shared}{u v:Value}{l m:List (List Int)}{Q:Bool->Shared->Prop},A.units+lvl<cLine->is s.heap u l->is s.heap v m->Q (decide (l=m)) s->wpAny (model prog w) A (eqBool u v) Q E s
 lt:∀{A:Around}{E:Value->Shared->Prop}{s:Shared}{u v:Value}{l m:List (List Int)}{Q:Value->Shared->Prop},A.units+lvl<cLine->is s.heap u l->is s.heap v m->Q (.bool (decide (l<m))) s->wpAny (model prog w) A (richCompare .Lt u v) Q E s
section
variable {prog:Program}{w:World}
theorem dec1 (a b:List Int):decide ([a]=[b])=decide (a=b):=by simp
theorem dec2 (a b:List Int):decide ([a]<[b])=decide (a<b):=by rw[Yv,YL];simp
def atO (k:Bool):OKind prog w where
 is _ v l:=∃x,l=[x]/\AtK k v x
 lvl:=0
 keep:=λ_ h=>h
 len:=λ⟨_,e,_⟩ ⟨_,e',_⟩=>by rw[e,e'];rfl
 uniq:=λ⟨_,e,h⟩ ⟨_,e',h'⟩=>by rw[e,e',h.uniq h']
 eqB:=λ_ ⟨_,e,h⟩ ⟨_,e',h'⟩ q=>by
  subst e e'
  rw[dec1] at q
  exact xx0 h h' q
 lt:=λ_ ⟨_,e,h⟩ ⟨_,e',h'⟩ q=>by
  subst e e'
  rw[dec2] at q
  cases h with
  |int i t=>
   cases h' with
   |int j u=>
    have e:decide ([i]<[j])=decide (i<j):=by rw[Yv,YL];simp
    rw[e] at q
    exact wpAny_lt_int q
  |str x t=>
   cases h' with
   |str y u=>
    have e:decide (x.cps.toList.map Int.ofNat<y.cps.toList.map Int.ofNat)=decide (x.cps.toList<y.cps.toList):=by rw[Yv];exact q86
    rw[e] at q
    exact PySem.P.lt_str q
inductive ItO (h:Heap):List (OKind prog w)->List Value->List (List Int)->Prop
 |nil:ItO h [] [] []
 |cons {k:OKind prog w}{v:Value}{l:List (List Int)}{ks:List (OKind prog w)}{vs:List Value}{ls:List (List Int)}(x:k.is h v l) (r:ItO h ks vs ls):ItO h (k::ks) (v::vs) (l++ls)
theorem ItO.keep {h h':Heap}(kp:∀b o,h.get? b=some o->o.cls=.type "tuple" -> h'.get? b=some o):∀{ks:List (OKind prog w)}{vs:List Value}{l:List (List Int)},ItO h ks vs l->ItO h' ks vs l
 |_,_,_,.nil=>.nil
 |k::_,_,_,.cons x r=>.cons (k.keep kp x) (r.keep kp)
theorem ItO.len {h h':Heap}:∀{ks:List (OKind prog w)}{us vs:List Value}{l m:List (List Int)},ItO h ks us l->ItO h' ks vs m->l.length=m.length
 |_,_,_,_,_,.nil,.nil=>rfl
 |k::_,_,_,_,_,.cons x r,.cons x' r'=>by rw[Zw,Zw,k.len x x',r.len r']
theorem ItO.uniq {h:Heap}:∀{ks:List (OKind prog w)}{vs:List Value}{l m:List (List Int)},ItO h ks vs l->ItO h ks vs m->l=m
 |_,_,_,_,.nil,.nil=>rfl
 |k::_,_,_,_,.cons x r,.cons x' r'=>by rw[k.uniq x x',r.uniq r']
theorem ItO.size {h:Heap}:∀{ks:List (OKind prog w)}{vs:List Value}{l:List (List Int)},ItO h ks vs l->vs.length=ks.length
 |_,_,_,.nil=>rfl
 |_::_,_,_,.cons _ r=>by rw[ZQ,ZQ,r.size]
def IsTO (ks:List (OKind prog w)) (h:Heap) (v:Value) (l:List (List Int)):Prop:=∃a o xs n,v=.ref a/\h.get? a=some o/\o.cls=.type "tuple" /\ o.data=.seq xs n/\ItO h ks xs.toList l
variable {A:Around}{E:Value->Shared->Prop}{s:Shared}
theorem IsTO.keep {ks:List (OKind prog w)}{h h':Heap}{v:Value}{l:List (List Int)}(kp:∀b o,h.get? b=some o->o.cls=.type "tuple" -> h'.get? b=some o) (x:IsTO ks h v l):IsTO ks h' v l:=by
 obtain⟨a,o,xs,n,rfl,e1,e2,e3,e4⟩:=x
 exact⟨a,o,xs,n,rfl,kp _ _ e1 e2,e2,e3,e4.keep kp⟩
theorem IsTO.uniq {ks:List (OKind prog w)}{h:Heap}{v:Value}{l m:List (List Int)}(x:IsTO ks h v l) (y:IsTO ks h v m):l=m:=by
 obtain⟨a,o,xs,n,rfl,e1,e2,e3,e4⟩:=x
 obtain⟨a',o',xs',n',e5,f1,f2,f3,f4⟩:=y
 cases e5
 rw[e1] at f1;cases f1
 rw[e3] at f3;cases f3
 exact e4.uniq f4
theorem xg0 {ks:List (OKind prog w)}{L:Nat}(hL:∀k∈ks,k.lvl<=L) (hu:A.units+L<cLine){l m:List (List Int)}{a b:Addr}{P:Fin->Shared->Prop}(hx:IsTO ks s.heap (.ref a) l) (hy:IsTO ks s.heap (.ref b) m) (h:P (.done (.ret (.bool (decide (l=m))))) s) :
  wpAny (model prog w) A (Builtin.«tuple.__eq__» ⟨[.ref a,.ref b],[]⟩) P E s:=by
 obtain⟨a',oa,xs,na,ea,kH,_,kI,vY⟩:=hx
 obtain⟨b',ob,ys,nb,eb,hob,hcb,vG,vX⟩:=hy
 cases ea
 cases eb
 have hTb:s.TypeIs (.ref b) "tuple":=⟨ob,hob,hcb⟩
 have hsz:xs.size=ys.size:=by have:=vY.size;have:=vX.size;simp at *;lia
 show wpAny _ _ (isInstance (.ref b) (.type "tuple") >>= _) _ _ s
 refine Za (XS hTb isSubtype_tuple_tuple ?_)
 simp only[YN,Zr,ZX]
 refine Za (WP kH kI ?_)
 refine Za (WP hob vG ?_)
 refine Za ?_
 refine Wv _
  (λrest r s'=>r.1=none/\s'=s/\∃(ks':List (OKind prog w)) (xs' ys':List Value) (l' m':List (List Int)),rest=List.zip xs' ys'/\(∀k∈ks',k.lvl<=L)/\ItO s.heap ks' xs' l'/\ItO s.heap ks' ys' m'/\decide (l'=m')=decide (l=m))
  _ ?_ ?_ _ _ ⟨rfl,rfl,ks,xs.toList,ys.toList,l,m,rfl,hL,vY,vX,rfl⟩
 ·rintro⟨u,v⟩ rest r s' ⟨hr,rfl,ks',xs',ys',l',m',hz,hl',hx',hy',kA⟩
  cases hx' with
  |nil=>simp at hz
  |@cons k u' x ks'' xs'' ls x1 r1=>
   cases hy' with
   |@cons _ v' y _ ys'' ms x2 r2=>
    simp only[X6,Y3,V1] at hz
    obtain⟨⟨rfl,rfl⟩,rfl⟩:=hz
    have j9:=k.len x1 x2
    refine Za (k.eqB (by have:=hl' k (by simp);lia) x1 x2 ?_)
    by_cases hk:x=y
    ·subst hk
     rw[Zk rfl]
     simp only[YN,Zr,ZX]
     refine Zb ⟨rfl,rfl,ks'',xs'',ys'',ls,ms,rfl,λq hq=>hl' q (by simp[hq]),r1,r2,?_⟩
     rw[<- kA,Yv,List.append_cancel_left_eq]
    ·rw[Zm hk]
     simp only[WY,Xx]
     have hf:decide (l=m)=false:=by rw[<- kA];exact Zm λz=>hk (List.append_inj_left z j9)
     rw[hf] at h
     exact Za (Zb (Zb (Zb h)))
 ·rintro⟨r1,r2⟩ s' ⟨hr,rfl,ks',xs',ys',l',m',hz,hl',hx',hy',kA⟩
  simp only at hr
  subst hr
  refine Zb ?_
  have hfin:(xs.size==ys.size)=decide (l=m):=by
   rw[<- kA]
   cases hx' with
   |nil=>cases hy';simp[hsz]
   |cons _ _=>cases hy' with|cons _ _=>simp at hz
  show P (.done (.ret (.bool (xs.size==ys.size)))) s'
  rw[hfin];exact h
theorem xg1 {ks:List (OKind prog w)}{L:Nat}(hL:∀k∈ks,k.lvl<=L) (hu:A.units+L<cLine){l m:List (List Int)}{a b:Addr}{P:Fin->Shared->Prop}(hx:IsTO ks s.heap (.ref a) l) (hy:IsTO ks s.heap (.ref b) m) (h:P (.done (.ret (.bool (decide (l<m))))) s) :
  wpAny (model prog w) A (Builtin.«tuple.__lt__» ⟨[.ref a,.ref b],[]⟩) P E s:=by
 obtain⟨a',oa,xs,na,ea,kH,_,kI,vY⟩:=hx
 obtain⟨b',ob,ys,nb,eb,hob,hcb,vG,vX⟩:=hy
 cases ea
 cases eb
 have hTb:s.TypeIs (.ref b) "tuple":=⟨ob,hob,hcb⟩
 have hsz:xs.size=ys.size:=by have:=vY.size;have:=vX.size;simp at *;lia
 show wpAny _ _ (isInstance (.ref b) (.type "tuple") >>= _) _ _ s
 refine Za (XS hTb isSubtype_tuple_tuple ?_)
 simp only[YN,Zr,ZX]
 refine Za (WP kH kI ?_)
 refine Za (WP hob vG ?_)
 refine Za ?_
 refine Wv _
  (λrest r s'=>r.1=none/\s'=s/\∃(ks':List (OKind prog w)) (xs' ys':List Value) (l' m':List (List Int)),rest=List.zip xs' ys'/\(∀k∈ks',k.lvl<=L)/\ItO s.heap ks' xs' l'/\ItO s.heap ks' ys' m'/\decide (l'<m')=decide (l<m))
  _ ?_ ?_ _ _ ⟨rfl,rfl,ks,xs.toList,ys.toList,l,m,rfl,hL,vY,vX,rfl⟩
 ·rintro⟨u,v⟩ rest r s' ⟨hr,rfl,ks',xs',ys',l',m',hz,hl',hx',hy',kA⟩
  cases hx' with
  |nil=>simp at hz
  |@cons k u' x ks'' xs'' ls x1 r1=>
   cases hy' with
   |@cons _ v' y _ ys'' ms x2 r2=>
    simp only[X6,Y3,V1] at hz
    obtain⟨⟨rfl,rfl⟩,rfl⟩:=hz
    have j9:=k.len x1 x2
    refine Za (k.eqB (by have:=hl' k (by simp);lia) x1 x2 ?_)
    by_cases hk:x=y
    ·subst hk
     rw[Zk rfl]
     simp only[YN,Zr,ZX]
     refine Zb ⟨rfl,rfl,ks'',xs'',ys'',ls,ms,rfl,λq hq=>hl' q (by simp[hq]),r1,r2,?_⟩
     rw[<- kA,Yv,qH8 _ _ rfl]
     simp[XW]
    ·rw[Zm hk]
     simp only[WY,Xx]
     have hf:decide (x<y)=decide (l<m):=by rw[<- kA,Yv,qH8 _ _ j9];simp[hk]
     rw[<- hf] at h
     refine Za (Y5 (Za (k.lt (by have:=hl' k (by simp);lia) x1 x2 ?_)))
     exact Za (Zb (Zb (Zb h)))
 ·rintro⟨r1,r2⟩ s' ⟨hr,rfl,ks',xs',ys',l',m',hz,hl',hx',hy',kA⟩
  simp only at hr
  subst hr
  refine Zb ?_
  have hfin:decide (xs.size<ys.size)=decide (l<m):=by
   rw[<- kA]
   cases hx' with
   |nil=>cases hy';simp[hsz]
   |cons _ _=>cases hy' with|cons _ _=>simp at hz
  show P (.done (.ret (.bool (decide (xs.size<ys.size))))) s'
  rw[hfin];exact h
theorem IsTO.typeIs {ks:List (OKind prog w)}{l:List (List Int)}{a:Addr}(x:IsTO ks s.heap (.ref a) l):s.TypeIs (.ref a) "tuple":=by
 obtain⟨a',o,_,_,e,ho,hc,_⟩:=x
 cases e
 exact⟨o,ho,hc⟩
def tpO (ks:List (OKind prog w)) (L:Nat) (hL:∀k∈ks,k.lvl<=L):OKind prog w where
 is:=IsTO ks
 lvl:=L+1
 keep:=λkp x=>x.keep kp
 len:=λ⟨_,_,_,_,_,_,_,_,e⟩ ⟨_,_,_,_,_,_,_,_,e'⟩=>e.len e'
 uniq:=IsTO.uniq
 eqB:=λ{A E s u v l m Q} hu hx hy h=>by
  obtain⟨a,rfl⟩:∃a,u=.ref a:=let ⟨a,_,_,_,e,_⟩:=hx;⟨a,e⟩
  obtain⟨b,rfl⟩:∃a,v=.ref a:=let ⟨a,_,_,_,e,_⟩:=hy;⟨a,e⟩
  unfold eqBool
  try with_reducible refine Z5 ?_
  show wpAny _ _ (if (Value.ref a==Value.ref b)=true then _ else _) Q E s
  by_cases kK:(Value.ref a==Value.ref b)=true
  ·rw[Zz kK]
   have e:a=b:=by have:=eq_of_beq kK;injection this
   subst e
   obtain rfl:=hx.uniq hy
   exact Za (Y5 (Zb (by simpa using h)))
  ·rw[Zq kK]
   exact Za (wpAny_richCompare_same_room (op:=.Eq) hx.typeIs hy.typeIs F.slot_tuple_eq
    (Z3 F.slot_tuple_eq hx.typeIs F.entry_tuple_eq (xg0 hL (by show A.units+1+L<cLine;lia) hx hy ⟨_,rfl,(λe=>nomatch e),Z1 h⟩) (F.args_tuple_eq_2 _ _)) (by lia))
 lt:=λ{A E s u v l m Q} hu hx hy h=>by
  obtain⟨a,rfl⟩:∃a,u=.ref a:=let ⟨a,_,_,_,e,_⟩:=hx;⟨a,e⟩
  obtain⟨b,rfl⟩:∃a,v=.ref a:=let ⟨a,_,_,_,e,_⟩:=hy;⟨a,e⟩
  exact wpAny_richCompare_same_room (op:=.Lt) hx.typeIs hy.typeIs F.slot_tuple_lt
   (Z3 F.slot_tuple_lt hx.typeIs F.entry_tuple_lt (xg1 hL (by show A.units+1+L<cLine;lia) hx hy ⟨_,rfl,(λe=>nomatch e),h⟩) (F.args_tuple_lt_2 _ _)) (by lia)
end
open Classical in
noncomputable def qC0 {prog:Program}{w:World}(κ:OKind prog w) (h:Heap):KeyKind where
 α:=List (List Int)
 blt a b:=decide (a<b)
 irrefl a:=by simpa using XW a
 trans a b c h1 h2:=by simp only[Wd] at *;exact List.lt_trans h1 h2
 negTrans a b c h:=by
  simp only[Wd] at *
  by_cases kK:a<b
  ·exact .inl kK
  ·exact .inr (List.lt_of_le_of_lt (VY.mp kK) h)
 total a b h1 h2:=by simp only[decide_eq_false_iff_not] at *;exact List.le_antisymm (VY.mp h2) (VY.mp h1)
 keyOf v:=if e:∃l,κ.is h v l then some e.choose else none
 dflt:=[]
section
variable {prog:Program}{w:World}{κ:OKind prog w}
open Classical in
theorem xp9 {h:Heap}{v:Value}{l:List (List Int)}(x:κ.is h v l):(qC0 κ h).keyOf v=some l:=by
 have e:∃l,κ.is h v l:=⟨l,x⟩
 show (if e:∃l,κ.is h v l then some e.choose else none)=some l
 rw[dif_pos e,κ.uniq e.choose_spec x]
open Classical in
theorem xg2 {h:Heap}{v:Value}{l:List (List Int)}(x:(qC0 κ h).keyOf v=some l):κ.is h v l:=by
 by_cases e:∃l,κ.is h v l
 ·have:=xp9 e.choose_spec
  rw[this] at x
  cases x
  exact e.choose_spec
 ·have:(qC0 κ h).keyOf v=none:=by
   show (if e:∃l,κ.is h v l then some e.choose else none)=none
   rw[dif_neg e]
  rw[this] at x;cases x
structure SKd (κ:OKind prog w) (kd:SortKind):Prop where
 kind:∀{A:Around}{E:Value->Shared->Prop}{s:Shared}{vs:List Value}{Q:SortKind->Shared->Prop},vs≠[]->(∀v∈vs,∃l,κ.is s.heap v l)->Q kd s->wpAny (model prog w) A (keyKind' vs.toArray) Q E s
 klt:∀{A:Around}{s:Shared},A.units+κ.lvl<cLine->KLt prog w A s (qC0 κ s.heap) kd
def tyA (k:Bool):Value:=if k then .type "str" else .type "int"
theorem xq0 {k:Bool}{u:Value}{l:List Int}(h:AtK k u l):typeOf u=pure (tyA k):=by cases h<;>rfl
theorem qH9 {k:Bool}:∀{us:List Value},(∀u∈us,∃l,AtK k u l)->us.mapM typeOf=pure (us.map λ_=>tyA k)
 |[],_=>by simp
 |u::us,h=>by
  rw[Uq,qH9 (us:=us) λq hq=>h q (by simp[hq])]
  obtain⟨l,hl⟩:=h u (by simp)
  rw[xq0 hl];simp
theorem qR8 {k:Bool}{us:List Value}(h0:us≠[]) (h:∀u∈us,∃l,AtK k u l):oneTypeOnly' us.toArray=pure (some (tyA k)):=by
 rw[oneTypeOnly'_eq,VZ,qH9 h]
 simp only[map_pure,WQ]
 cases us with
 |nil=>exact absurd rfl h0
 |cons u us=>
  have e0:((u::us).map λ_=>tyA k).toArray[0]?=some (tyA k):=by simp
  have e1:(((u::us).map λ_=>tyA k).toArray.all λx=>x==tyA k)=true:=by
   simp only[V7,List.all_map,Ye]
   intro _ _
   show (tyA k==tyA k)=true
   cases k<;>rfl
  rw[e0]
  simp only[e1,Xx]
theorem xg3 {k:Bool}{u:Value}{l:List Int}(h:AtK k u l):firstOfTuple' u=pure none:=by cases h<;>rfl
theorem qI0 {k:Bool}:∀{us:List Value},(∀u∈us,∃l,AtK k u l)->us.mapM firstOfTuple'=pure (us.map λ_=>none)
 |[],_=>by simp
 |u::us,h=>by
  rw[Uq,qI0 (us:=us) λq hq=>h q (by simp[hq])]
  obtain⟨l,hl⟩:=h u (by simp)
  rw[xg3 hl];simp
theorem xC1 (k:Bool):SKd (prog:=prog) (w:=w) (atO k) oneType' where
 kind:=λ{A E s vs Q} h0 hv h=>by
  have hv':∀u∈vs,∃l,AtK k u l:=λu hu=>let ⟨_,x,_,e⟩:=hv u hu;⟨x,e⟩
  have e:keyKind' vs.toArray=pure oneType':=by
   rw[keyKind'_eq,VZ,qI0 hv']
   simp only[map_pure,WQ]
   cases vs with
   |nil=>exact absurd rfl h0
   |cons v vs=>
    rw[Zq (by simp),Zq (by simp),qR8 h0 hv']
    simp
  rw[e]
  exact Zb h
 klt:=λ{A s} _ E x y a b Q ha hb hq=>by
  obtain⟨x1,rfl,hx⟩:=xg2 ha
  obtain⟨y1,rfl,hy⟩:=xg2 hb
  have hq':Q (decide ([x1]<[y1])) s:=hq
  rw[dec2] at hq'
  exact qR7 (c:=true) hx hy hq'
theorem qI1 {k:Bool}{ks:List (OKind prog w)}{A:Around}{E:Value->Shared->Prop}{s:Shared}:∀{vs:List Value}{Q:List (Option Value)->Shared->Prop},(∀v∈vs,∃l,IsTO (atO k::ks) s.heap v l)->(∀us:List Value,us.length=vs.length->(∀u∈us,∃l,AtK k u l)->Q (us.map some) s)->wpAny (model prog w) A (vs.mapM firstOfTuple') Q E s
 |[],Q,_,h=>by rw[List.mapM_nil];exact Zb (h [] rfl (by simp))
 |v::vs,Q,hv,h=>by
  rw[Uq]
  obtain⟨l,a,o,xs,n,rfl,e1,e2,e3,e4⟩:=hv v (by simp)
  refine Za (m:=firstOfTuple' (.ref a)) (Za (WS (T:= "tuple") ⟨o,e1,e2⟩ ?_))
  rw[Zq (by simp)]
  refine Za (listItems_at e1 e3 (Zb (Za (qI1 (λu hu=>hv u (by simp[hu])) λus hl hu=>Zb ?_))))
  generalize hx:xs.toList=ys at e4
  cases e4 with
  |@cons _ u l _ _ _ hk _=>
   have ex:xs[0]?=some u:=by rw[<- Z6,hx];rfl
   rw[ex]
   refine h (u::us) (by simp[hl]) λq hq=>?_
   rcases Zs.mp hq with rfl|z
   ·obtain⟨x,_,hk⟩:=hk
    exact⟨x,hk⟩
   ·exact hu q z
theorem sk_tp {k:Bool}{ks:List (OKind prog w)}{L:Nat}(hL:∀q∈atO k::ks,q.lvl<=L):SKd (tpO (atO k::ks) L hL) (tuples' true) where
 kind:=λ{A E s vs Q} h0 hv h=>by
  rw[keyKind'_eq,VZ]
  simp only[bind_map_left]
  refine Za (qI1 hv λus hl hu=>?_)
  rw[Zz (by simp)]
  refine Za (Y5 ?_)
  have e:(us.map some).toArray.filterMap id=us.toArray:=by
   rw[List.filterMap_toArray];congr 1;rw[List.filterMap_map];exact List.filterMap_some
  have h1:us≠[]:=λz=>h0 (XV.mp (by rw[<- hl,z];rfl))
  rw[e,qR8 h1 hu]
  simp only[WQ]
  have e2:((some (tyA k)).any λx=>x != Value.type "tuple")=true:=by cases k<;>rfl
  rw[e2]
  exact Zb h
 klt:=λ{A s} hu E x y (a:List (List Int)) (b:List (List Int)) Q ha hb hq=>by
  obtain⟨p,o,xs,n,rfl,e1,e2,e3,e4⟩:=xg2 ha
  obtain⟨p',o',xs',n',rfl,f1,f2,f3,f4⟩:=xg2 hb
  have hq:Q (decide (a<b)) s:=hq
  have hsz:xs.size=xs'.size:=by have:=e4.size;have:=f4.size;simp at *;lia
  have hu:A.units+(L+1)<cLine:=hu
  refine Za (listItems_at e1 e3 ?_)
  refine Za (listItems_at f1 f3 ?_)
  have go:∀(ks':List (OKind prog w)) (vs us:List Value) (i:Nat) (l m:List (List Int)),(∀q∈ks',q.lvl<=L)->(i=0->ks'=atO k::ks)->ItO s.heap ks' vs l->ItO s.heap ks' us m->∀(F:(Value×Value)×Nat->Option Bool×Unit->Sem (ForInStep (Option Bool×Unit))) (R:Option Bool×Unit->Shared->Prop),
    (∀(κ:OKind prog w) p q j x y Q',κ.lvl<=L->(j=0->κ=atO k)->κ.is s.heap p x->κ.is s.heap q y->(if x=y then Q' (.yield (none,())) s else Q' (.done (some (decide (x<y)),())) s)->wpAny (model prog w) A (F ((p,q),j) (none,())) Q' E s) ->
    (∀r,(r=(some (decide (l<m)),())\/(r=(none,())/\decide (l<m)=false))->R r s)->wpAny (model prog w) A (forIn ((vs.zip us).zipIdx i) (none,()) F) R E s:=by
   intro ks'
   induction ks' with
   |nil=>
    intro vs us i l m _ _ hl hm F R hF hR
    cases hl;cases hm
    rw[List.zip_nil_left,List.zipIdx_nil,List.forIn_nil]
    exact Zb (hR _ (.inr ⟨rfl,by simp⟩))
   |cons q ks' ih=>
    intro vs us i l m hL' h0 hl hm F R hF hR
    cases hl with
    |@cons _ v x _ vs ls x1 r1=>
    cases hm with
    |@cons _ u y _ us ms x2 r2=>
     have j9:=q.len x1 x2
     rw[X6,List.zipIdx_cons,Vr]
     refine Za (hF q _ _ _ _ _ _ (hL' q (by simp)) (λz=>(YV (h0 z)).1) x1 x2 ?_)
     by_cases e:x=y
     ·rw[Zz e]
      dsimp only
      refine ih vs us (i+1) ls ms (λr hr=>hL' r (by simp[hr])) (λz=>by lia) r1 r2 F R hF λr hr=>hR r ?_
      have e2:decide (x++ls<y++ms)=decide (ls<ms):=by
       rw[Yv,qH8 _ _ j9,e]
       simp[XW]
      rw[e2]
      exact hr
     ·rw[Zq e]
      dsimp only
      refine Zb (hR _ (.inl ?_))
      have e2:decide (x++ls<y++ms)=decide (x<y):=by
       rw[Yv,qH8 _ _ j9]
       simp[e]
      rw[e2]
  refine Za (go _ _ _ 0 a b hL (λ_=>rfl) e4 f4 _ _ (λκ p q j x y Q' hl hj hx hy hQ=>?_) λr hr=>?_)
  ·dsimp only
   refine Za (κ.eqB (by lia) hx hy ?_)
   by_cases e:x=y
   ·rw[Zz e] at hQ
    rw[Zk e]
    exact Zb hQ
   ·rw[Zq e] at hQ
    rw[Zm e]
    refine Za ?_
    by_cases ej:j=0
    ·have:=hj ej
     subst this
     subst ej
     obtain⟨x1,rfl,hx⟩:=hx
     obtain⟨y1,rfl,hy⟩:=hy
     rw[dec2] at hQ
     exact qR7 hx hy (Zb hQ)
    ·have e5:(true&&j==0)=false:=by simp[ej]
     rw[e5]
     show wpAny (model prog w) A (oneLt' false p q) _ E s
     rw[oneLt'_eq]
     simp only[Zr,ZX,WQ]
     exact Za (κ.lt (by lia) hx hy (Z1 (Zb hQ)))
  ·rcases hr with rfl|⟨rfl,e⟩
   ·exact Zb hq
   ·rw[e] at hq
    refine Zb ?_
    simpa [hsz] using hq
def AscO (κ:OKind prog w) (h:Heap) (vs:List Value):Prop:=vs.Pairwise λu v=>∀l m,κ.is h u l->κ.is h v m->¬m<l
theorem xC2 {vs:List Value}{h:Heap}{xs:Array Keyed}(hv:∀v∈vs,∃l,κ.is h v l) (hp:xs.Perm (pairsOf vs)) (hs:SortedToK (qC0 κ h) xs (pairsOf vs).size) :
  (xs.map (·.2)).toList.Perm vs/\AscO κ h (xs.map (·.2)).toList:=by
 have hl:xs.toList.Perm (vs.zip vs):=by rw[<- pairsOf_toList];exact Wo.mp hp
 have mem:∀p,p∈xs.toList->p.1=p.2/\p.1∈vs:=λp q=>mem_zip_self (hl.mem_iff.mp q)
 constructor
 ·rw[Array.toList_map]
  have z:=hl.map Prod.snd
  rwa [List.map_snd_zip (Zd _)] at z
 ·refine Xv.mpr λi j hi hj k5 l m hl hm=>?_
  have i1:i<xs.size:=by simpa using hi
  have j1:j<xs.size:=by simpa using hj
  have z:=hs i j (Xk k5) (by rw[<- hp.size_eq];exact j1)
  have kk:∀(i:Nat) (i1:i<xs.size) l,κ.is h xs[i].2 l->KK (qC0 κ h) xs i=l:=λi i1 l hl=>by
   have a:=(mem xs[i] (by simp)).1
   have b:κ.is h xs[i].1 l:=by rw[a];exact hl
   rw[qx3 i1];unfold kv;rw[xp9 b];rfl
  rw[kk i i1 l (by simpa using hl),kk j j1 m (by simpa using hm)] at z
  exact Yz z
variable {A:Around}{E:Value->Shared->Prop}{s:Shared}
theorem xq1 {kd:SortKind}(sk:SKd κ kd) (hu:A.units+κ.lvl<cLine){p:Addr}{vs:List Value}{n:Nat}{P:Fin->Shared->Prop}(hL:s.heap.get? p=some (seqObj "list" vs.toArray n)) (hv:∀v∈vs,∃l,κ.is s.heap v l) (hz:vs.length<=sizeLine)
  (h:∀out:Array Value,out.toList.Perm vs->AscO κ s.heap out.toList->P (.done (.ret .none)) { s with heap:=sortedHeap s.heap p vs out }) :
  wpAny (model prog w) A (Builtin.«list.sort» ⟨[.ref p],[]⟩) P E s:=by
 have lt:=Zi hL
 obtain⟨c1,hE⟩:∃c,(s.heap.update p (Obj.mapSeq λ_=>#[])).get? p=some (seqObj "list" #[] c):=⟨_,get?_update_seq hL (λ_=>#[])⟩
 have kp:∀b o,b≠p->s.heap.get? b=some o->(((s.heap.update p (Obj.mapSeq λ_=>#[])).push (seqObj "tuple" vs.toArray 0)).push (seqObj "list" #[] 0)).get? b=some o:=λb o hb q=>by
  have l2:=Zi q
  rw[W8 _ _ _ (by rw[size_push',Vk];exact Zl (ZZ l2)),W8 _ _ _ (by rw[Vk];exact Zl l2),Heap.get?_update_ne _ _ _ _ hb];exact q
 have hT:(((s.heap.update p (Obj.mapSeq λ_=>#[])).push (seqObj "tuple" vs.toArray 0)).push (seqObj "list" #[] 0)).get? p=some (seqObj "list" #[] c1):=by
  rw[W8 _ _ _ (by rw[size_push',Vk];exact Zl (ZZ lt)),W8 _ _ _ (by rw[Vk];exact Zl lt)];exact hE
 have kT:∀b o,s.heap.get? b=some o->o.cls=.type "tuple" -> (((s.heap.update p (Obj.mapSeq λ_=>#[])).push (seqObj "tuple" vs.toArray 0)).push (seqObj "list" #[] 0)).get? b=some o:=λb o q c=>kp b o (by rintro rfl;rw[hL] at q;cases q;simp at c) q
 rw[list_sort_plain]
 refine Za (listItems_at hL rfl (Za (listUpdate_at hL rfl (Za (seqEpoch_at hE rfl (Za (wpAny_newTuple (Za (wpAny_newList (Z5 ?_) (Zo _))) (by simpa using hz))))) (by simpa using hz) (Zo _))))
 show wpAny (model prog w) A _ P E { s with heap:=((s.heap.update p (Obj.mapSeq λ_=>#[])).push (seqObj "tuple" vs.toArray 0)).push (seqObj "list" #[] 0) }
 have fin:∀h' out,(∀b o,s.heap.get? b=some o->o.cls=.type "tuple" -> h'.get? b=some o)->out.toList.Perm vs->AscO κ h' out.toList->P (.done (.ret .none)) { s with heap:=sortedHeap s.heap p vs out }:=λh' out k1 o1 o2=>h out o1 (YY (λz l m x y=>z l m (κ.keep k1 x) (κ.keep k1 y)) o2)
 have hv':∀v∈vs,∃l,κ.is (((s.heap.update p (Obj.mapSeq λ_=>#[])).push (seqObj "tuple" vs.toArray 0)).push (seqObj "list" #[] 0)) v l:=λv q=>by
  obtain⟨l,x⟩:=hv v q
  exact⟨l,κ.keep kT x⟩
 dsimp only
 by_cases small:vs.toArray.size<2
 ·rw[Zz small,Zz small]
  refine Za (Zb ?_)
  rw[StateT.run_pure]
  refine Za (Zb ?_)
  dsimp only
  have e:(vs.toArray.zip vs.toArray).map (·.2)=vs.toArray:=by
   apply Array.toList_inj.mp;simp[List.map_snd_zip]
  refine Za (seqEpoch_at hT rfl (Za (listUpdate_at hT rfl ?_ (Zo _) (by show ((vs.toArray.zip vs.toArray).map (·.2)).size<=_;rw[e];simp;lia))))
  simp only[bne_self_eq_false,Zr,ZX]
  refine Zb ?_
  show P _ { s with heap:=sortedHeap s.heap p vs ((vs.toArray.zip vs.toArray).map (·.2)) }
  rw[e]
  refine h _ (by simp) ?_
  have:vs.length<2:=by simpa using small
  match vs,this with
  |[],_=>exact List.Pairwise.nil
  |[x],_=>exact List.pairwise_singleton _ _
  |_::_::_,z=>simp at z;lia
 ·rw[Zq small,Zq small]
  refine Za (sk.kind (λz=>small (by rw[z];decide)) hv' ?_)
  generalize hh:((s.heap.update p (Obj.mapSeq λ_=>#[])).push (seqObj "tuple" vs.toArray 0)).push (seqObj "list" #[] 0)=h1 at *
  have ka:KeysOf (qC0 κ h1) (pairsOf vs):=λq hq=>by
   rw[pairsOf_toList] at hq
   obtain⟨l,x⟩:=hv' _ (mem_zip_self hq).2
   exact⟨l,xp9 x⟩
  refine Za (Yw (qB9 (κ:=qC0 κ h1) (kd:=kd) (a₀:=pairsOf vs) (st:=SortSt.mk' kd (vs.toArray.zip vs.toArray) #[] 7 none)
   (Q:=λ_ st'=>(arrOf st').Perm (pairsOf vs)/\failedOf st'=none/\SortedToK (qC0 κ h1) (arrOf st') (pairsOf vs).size)
   (sk.klt (s:={ s with heap:=h1 }) hu) ka ⟨Array.Perm.refl _,rfl,rfl,rfl⟩ λst' a b c=>⟨a,b,c⟩) ?_ λ_ _ e=>e)
  rintro⟨⟨⟩,st'⟩ s' ⟨rfl,hp,hf,hs⟩
  dsimp only
  obtain⟨o1,o2⟩:=xC2 hv' hp hs
  refine Za (seqEpoch_at hT rfl (Za (listUpdate_at hT rfl ?_ (Zo _) ?_)))
  ·rw[hf]
   simp only[bne_self_eq_false,Zr,ZX]
   refine Zb ?_
   subst hh
   exact fin _ _ kT o1 o2
  ·refine ZE (Wt ?_) (VV hz)
   have:=o1.length_eq
   rw[ZL] at this
   exact this
theorem qC1 {kd:SortKind}(sk:SKd κ kd) (hu:A.units+3+κ.lvl<cLine){x:Value}{Pv:List Value->Prop}{Q:Value->Shared->Prop}(hv:∀vs,Pv vs->(∀v∈vs,∃l,κ.is s.heap v l)/\vs.length<=sizeLine)
  (hc:∀Q':List Value->Shared->Prop,(∀(vs:List Value) (h':Heap) (tk:Nat) (d:Drawn),Pv vs->(∀b o,s.heap.get? b=some o->h'.get? b=some o)->Q' vs { s with heap:=h',drawn:=d,toks:=tk })->wpAny (model prog w) A.in1 (collect x) Q' E s)
  (h:∀(vs:List Value) (out:Array Value) (h1 h2:Heap) (tk:Nat) (d:Drawn) (c:Nat),Pv vs->(∀b o,s.heap.get? b=some o->h1.get? b=some o)->(∀b o,h1.get? b=some o->h2.get? b=some o)->h2.get? h1.objs.size=some (seqObj "list" out c)->out.toList.Perm vs->AscO κ s.heap out.toList->Q (.ref h1.objs.size) { s with heap:=h2,drawn:=d,toks:=tk }) :
  wpAny (model prog w) A (call (.builtin "sorted") [x]) Q E s:=by
 refine Calls.call_function_entry kind_sorted plain_sorted entry_sorted (args_sorted1 _) ?_
 unfold Builtin.«sorted»
 refine Za (m:=checkCount "sorted" 1 1 _) (Zb (Za (hc _ λvs h1 tk d pv k1=>Za (wpAny_newList ?_ (hv vs pv).2))))
 obtain⟨hv,hz⟩:=hv vs pv
 have hL:(h1.push (seqObj "list" vs.toArray 0)).get? h1.objs.size=some (seqObj "list" vs.toArray 0):=Zh _ rfl
 have k2:∀b o,s.heap.get? b=some o->(h1.push (seqObj "list" vs.toArray 0)).get? b=some o:=λb o e=>Zc _ (k1 b o e)
 show wpAny _ _ _ _ _ { s with heap:=h1.push (seqObj "list" vs.toArray 0),drawn:=d,toks:=tk }
 refine Za (Z5 (Z3 (s:={ s with heap:=h1.push (seqObj "list" vs.toArray 0),drawn:=d,toks:=tk }) slot_list_sort ⟨_,hL,rfl⟩ entry_list_sort (xq1 sk ?_ hL (λv q=>(hv v q).imp λ_ z=>κ.keep (λb o e _=>k2 b o e) z) hz λout a1 a2=>⟨_,rfl,Zb ⟨_,rfl,?_⟩⟩) (args_list_sort _)))
 ·show A.units+1+1+κ.lvl<cLine;lia
 ·obtain⟨c,hc⟩:=sortedHeap_at (out:=out) hL
  refine h vs out h1 _ tk d c pv k1 (λb o e=>?_) hc a1 (YY (λz l m x y=>z l m (κ.keep (λb o e _=>k2 b o e) x) (κ.keep (λb o e _=>k2 b o e) y)) a2)
  have lt:=Zi e
  rw[sortedHeap_old (Zl lt) (by rw[size_push'];exact ZZ lt)]
  exact Zc _ e
end
section
variable {prog:Program}{w:World}{A:Around}{E:Value->Shared->Prop}{s:Shared}
section
variable {R:Result->Shared->Prop}{I:Addr}{fp wr:List Addr}{G:Array GenState->Array GenState->Prop}{n:Nat}{P:Nat->Value->Prop}{St:Nat->Shared->Prop}
end
end
section
variable {prog:Program}{w:World}{A:Around}{E:Value->Shared->Prop}{s:Shared}{pat:Nat->Bool}
end
end PyProof.Rows
namespace L2
open PySem PySem.Spec PyProof.Rows
theorem qw3:∀{us us':List Value},us'.Perm us->∀{xs:List V},Vals xs us->∃xs',Vals xs' us'/\xs'.Perm xs:=by
 intro us us' p
 induction p with
 |nil=>intro xs r;exact⟨xs,r,.refl _⟩
 |cons u p ih=>
  intro xs r
  cases r with
  |cons h r=>
   obtain⟨xs',r',p'⟩:=ih r
   exact⟨_::xs',.cons h r',p'.cons _⟩
 |swap u v l=>
  intro xs r
  cases r with
  |cons h r=>
   cases r with
   |cons h2 r=>exact⟨_::_::_,.cons h2 (.cons h r),List.Perm.swap _ _ _⟩
 |trans p q ihp ihq=>
  intro xs r
  obtain⟨x1,r1,p1⟩:=ihq r
  obtain⟨x2,r2,p2⟩:=ihp r1
  exact⟨x2,r2,p2.trans p1⟩
theorem qC2:∀{xs:List V}{us:List Value}{u:Value},Vals xs us->u∈us->∃x,x∈xs/\RelV x u
 |_,_,u,.nil,h=>by simp at h
 |_,_,u,.cons r rs,h=>by
  rcases Zs.mp h with rfl|z
  ·exact⟨_,by simp,r⟩
  ·obtain⟨x,h1,h2⟩:=qC2 rs z
   exact⟨x,by simp[h1],h2⟩
section
variable {X:Cx}
end
end L2
namespace L2
open PySem PySem.Spec PyProof.Rows PySem.W
theorem Inv.keptD {X:Cx}{j8:List (Addr×Obj)}{σ:St}{H:Hp}{s:Shared}{h':Heap}{t':Nat}{d':Drawn}(I:Inv X j8 σ H s) (k:∀b u,s.heap.get? b=some u->h'.get? b=some u):Inv X j8 σ H { s with heap:=h',drawn:=d',toks:=t' }:=
 I.call (ch:=[]) (g':=s.gens) (Un.kept k) (I.hok.kept k) I.bare (λb hb=>nomatch hb)
end L2
namespace L2
open PySem PyProof.Rows
theorem qd5 {α β:Type}{R:α->β->Prop}:∀{us us':List α},us'.Perm us->∀{xs:List β},Paired R us xs->∃xs',Paired R us' xs'/\xs'.Perm xs:=by
 intro us us' p
 induction p with
 |nil=>intro xs r;exact⟨xs,r,.refl _⟩
 |cons u p ih=>
  intro xs r
  cases r with
  |cons h r=>
   obtain⟨xs',r',p'⟩:=ih r
   exact⟨_::xs',.cons h r',p'.cons _⟩
 |swap u v l=>
  intro xs r
  cases r with
  |cons h r=>
   cases r with
   |cons h2 r=>exact⟨_::_::_,.cons h2 (.cons h r),List.Perm.swap _ _ _⟩
 |trans p q ihp ihq=>
  intro xs r
  obtain⟨x1,r1,p1⟩:=ihq r
  obtain⟨x2,r2,p2⟩:=ihp r1
  exact⟨x2,r2,p2.trans p1⟩
theorem qe2 {α β:Type}{R:α->β->Prop}:∀{us:List α}{xs:List β},us.length=xs.length->(∀(i:Nat) u x,us[i]?=some u->xs[i]?=some x->R u x)->Paired R us xs
 |[],[],_,_=>.nil
 |[],_::_,h,_=>by simp at h
 |_::_,[],h,_=>by simp at h
 |u::us,x::xs,h,f=>.cons (f 0 u x rfl rfl) (qe2 (by simpa using h) λi y v hy hv=>f (i+1) y v (by simpa using hy) (by simpa using hv))
theorem qe3 {α β:Type}{R:α->β->Prop}:∀{us:List α}{xs:List β},Paired R us xs->∀(i:Nat) u,us[i]?=some u->∃x,xs[i]?=some x/\R u x
 |_,_,.nil,i,u,h=>by simp at h
 |_,_,.cons h r,0,u,e=>by simp at e;subst e;exact⟨_,rfl,h⟩
 |_,_,.cons h r,i+1,u,e=>by
  obtain⟨x,h1,h2⟩:=qe3 r i u (by simpa using e)
  exact⟨x,by simpa using h1,h2⟩
theorem qI2 {α β:Type}{R:α->β->Prop}{A:α->α->Prop}{B:β->β->Prop}(h:∀u v x y,R u x->R v y->A u v->B x y):∀{us:List α}{xs:List β},Paired R us xs->us.Pairwise A->xs.Pairwise B
 |_,_,.nil,_=>.nil
 |u::us,x::xs,.cons r rs,a=>by
  obtain⟨a1,a2⟩:=YS.mp a
  refine YS.mpr ⟨λy hy=>?_,qI2 h rs a2⟩
  obtain⟨i,hi,rfl⟩:=ZJ.mp hy
  have hl:=YD rs
  have hiu:i<us.length:=by lia
  obtain⟨z,e1,e2⟩:=qe3 rs i us[i] (Ze hiu)
  rw[Ze hi] at e1
  cases e1
  exact h u _ x _ r e2 (a1 _ (Y6 hiu))
end L2
namespace L2
open PySem PySem.Spec PyProof.Rows PySem.W
section
variable {P:Program}{w:World}{H:Hp}
def isL (κ:OKind P w) (H:Hp) (v:V) (l:List (List Int)):Prop:=∀(h:Heap) (u:Value),HOk P w H h->RelV v u->κ.is h u l
theorem qM0 (x:Str):isL (P:=P) (w:=w) (atO true) H (.str x) [x.cps.toList.map Int.ofNat]:=λh u _ r=>by
 obtain⟨t,rfl⟩:=r
 exact⟨_,rfl,.str x t⟩
inductive ItL (H:Hp):List (OKind P w)->List V->List (List Int)->Prop
 |nil:ItL H [] [] []
 |cons {k:OKind P w}{v:V}{l:List (List Int)}{ks:List (OKind P w)}{vs:List V}{ls:List (List Int)}(x:isL k H v l) (r:ItL H ks vs ls):ItL H (k::ks) (v::vs) (l++ls)
theorem ItL.rel {h:Heap}(ok:HOk P w H h):∀{ks:List (OKind P w)}{vs:List V}{ls:List (List Int)}{us:List Value},ItL H ks vs ls->Vals vs us->ItO h ks us ls
 |_,_,_,_,.nil,.nil=>.nil
 |_,_,_,_,.cons x r,.cons h' r'=>.cons (x _ _ ok h') (r.rel ok r')
theorem xq2 {ks:List (OKind P w)}{L:Nat}{hL:∀k∈ks,k.lvl<=L}{a:Addr}{xs:List V}{l:List (List Int)}(e:H a=some (.tup xs)) (it:ItL H ks xs l):isL (tpO ks L hL) H (.ref a) l:=λh u ok r=>by
 cases (show u=Value.ref a from r)
 obtain⟨_,its,rv,o,ho,hc,n,hd⟩:=ok a _ e
 exact⟨a,o,_,n,rfl,ho,hc,hd,by simpa using it.rel ok rv⟩
def AscL (κ:OKind P w) (H:Hp) (vs:List V):Prop:=vs.Pairwise λu v=>∀l m,isL κ H u l->isL κ H v m->¬m<l
theorem qR9:∀{xs:List V}{us:List Value}{x:V},Vals xs us->x∈xs->∃u,u∈us/\RelV x u
 |_,_,u,.nil,h=>by simp at h
 |_,_,u,.cons r rs,h=>by
  rcases Zs.mp h with rfl|z
  ·exact⟨_,by simp,r⟩
  ·obtain⟨x,h1,h2⟩:=qR9 rs z
   exact⟨x,by simp[h1],h2⟩
theorem qC3 {κ:OKind P w}{h:Heap}(ok:HOk P w H h):∀{xs:List V}{us:List Value},Vals xs us->AscO κ h us->AscL κ H xs
 |_,_,.nil,_=>.nil
 |x::xs,u::us,.cons r rs,a=>by
  obtain⟨a1,a2⟩:=YS.mp a
  refine YS.mpr ⟨λy hy l m tl tm=>?_,qC3 ok rs a2⟩
  obtain⟨v,hv,rv⟩:=qR9 rs hy
  exact a1 v hv l m (tl _ _ ok r) (tm _ _ ok rv)
end
section
variable {X:Cx}
theorem qp7 {κ:OKind X.prog X.w}{kd:SortKind}(sk:SKd κ kd){k:Nat}(hr:Room k X.A) (hk:κ.lvl<=20):qe4 X (.builtin "sorted") (λxs H Q=>∃(p:Addr) (vs:List V),xs=[.ref p]/\H p=some (.lst vs)/\(∀v∈vs,∃l,isL κ H v l) /\
  ∀q us,H q=none->us.Perm vs->AscL κ H us->Q (.ref q) (upd H q (.lst us))):=by
 intro j8 s σ H xs us Q I r h
 obtain⟨p,vs,rfl,hp,ht,q⟩:=h
 obtain⟨u,rfl,ru⟩:=qe9 r
 cases ru
 obtain⟨hz,its,n,rv,ho⟩:=I.hok p _ hp
 have hl:=rv.length
 have un:=hr.units
 refine qC1 sk (by lia) (Pv:=λvs=>vs=its) (λ_ e=>⟨λv hv=>?_,by rw[e];lia⟩) (λQ' k=>collect_list ⟨_,ho,rfl,n,rfl⟩ (k _ _ s.toks s.drawn rfl λb o e=>?_) (by lia)) λ_ out h1 h2 tk d c pv k1 k2 he o1 o2=>?_
 ·rw[e] at hv
  obtain⟨x,hx,rx⟩:=qC2 rv hv
  obtain⟨l,t⟩:=ht x hx
  exact⟨l,t _ _ I.hok rx⟩
 ·rw[Heap.get?_update_ne _ _ _ _ (Zl (Zi e))]
  exact Zc _ e
 ·rw[pv] at o1
  obtain⟨xs',r',p'⟩:=qw3 o1 rv
  have I1:=I.keptD (t':=tk) (d':=d) k1
  exact⟨.ref _,_,I1.laid (a:=h1.objs.size) (o:=.lst xs') (t':=tk) (λb o z=>k2 b o z) (Zd _) ⟨by rw[p'.length_eq];exact hz,out.toList,c,r',by simpa using he⟩,rfl,q _ xs' (I1.hok.fresh (Zd _)) p' (qC3 I.hok r' o2)⟩
theorem qC4 (hc:X.calm=true){κ:OKind X.prog X.w}{kd:SortKind}(sk:SKd κ kd){k:Nat}(hr:Room k X.A) (hk:κ.lvl<=20):qe4 X (.builtin "sorted") (λxs H Q=>∃(d:Addr) (kvs:List (List Key×V)),xs=[.ref d]/\H d=some (.dT kvs) /\
  (∀(b:Addr) kv,kv∈kvs->H b=some (.tup (kv.1.map kV))->∃l,isL κ H (.ref b) l) /\
  ∀(q:Addr) (bs us:List Addr),H q=none->bs.length=kvs.length->(∀(i:Nat) b kv,bs[i]?=some b->kvs[i]?=some kv->H b=some (.tup (kv.1.map kV)))->us.Perm bs->AscL κ H (us.map V.ref)->Q (.ref q) (upd H q (.lst (us.map V.ref)))):=by
 intro j8 s σ H xs us Q I r h
 obtain⟨d,kvs,rfl,hd,ht,q⟩:=h
 obtain⟨u,rfl,ru⟩:=qe9 r
 cases ru
 obtain⟨z,lo,ys,rel,o,tab,ep,ho,hx,jX,ent,uni⟩:=(show ObjOk X.prog X.w H s.heap d (.dT kvs) from I.hok d _ hd)
 have hl:kvs.length=ys.length:=YD rel
 have htz:tab.size=ys.length:=size_of_entries ent
 have at_:∀(i:Nat) p y,kvs[i]?=some p->ys[i]?=some y->H y.2.1=some (.tup (p.1.map kV)):=by
  have gen:∀{l:List (List Key×V)}{m:List (List Key×Addr×Value)},Paired (λ(p:List Key×V) (q:List Key×Addr×Value)=>p.1=q.1/\H q.2.1=some (.tup (p.1.map kV))/\RelV p.2 q.2.2) l m->∀(i:Nat) p y,l[i]?=some p->m[i]?=some y->H y.2.1=some (.tup (p.1.map kV)):=by
   intro l m pr
   induction pr with
   |nil=>intro i p y h1;simp at h1
   |cons a1 a2 ih=>
    intro i p y h1 h2
    cases i with
    |zero=>simp at h1 h2;subst h1;subst h2;exact a1.2.1
    |succ i=>exact ih i p y (by simpa using h1) (by simpa using h2)
  exact gen rel
 have jN:(ys.map (·.2.1)).length=kvs.length:=by rw[Zf,hl]
 have jE:∀(i:Nat) b kv,(ys.map (·.2.1))[i]?=some b->kvs[i]?=some kv->H b=some (.tup (kv.1.map kV)):=λi b kv e1 e2=>by
  rw[Zg] at e1
  obtain⟨y,hy,rfl⟩:=Zj.mp e1
  exact at_ i kv y e2 hy
 have un:=hr.units
 refine qC1 sk (by lia) (Pv:=λvs=>vs=(ys.map (·.2.1)).map Value.ref) (λvs e=>⟨λv hv=>?_,?_⟩) (λQ' k'=>qv3 (qP5 (tab:=tab) (ep:=ep) lo) (I.ok.hd hc) ⟨o,ho,hx,jX⟩ (by lia) λh' tk acc kp jH=>k' _ _ tk s.drawn ?_ kp) λvs out h1 h2 tk d c e k1 k2 he o1 o2=>?_
 ·subst e
  obtain⟨b,hb,rfl⟩:=ZH.mp hv
  obtain⟨i,hi,ei⟩:=ZJ.mp hb
  have vL:i<kvs.length:=by rw[<- jN];exact hi
  obtain⟨l,hl'⟩:=ht b kvs[i] (Y6 vL) (jE i b _ (by rw[Ze hi,ei]) (Ze vL))
  exact⟨l,hl' _ _ I.hok rfl⟩
 ·subst e
  rw[Zf,jN]
  exact z
 ·refine Xd λi=>?_
  rw[Z6,Zg,Zg]
  by_cases hi:i<acc.size
  ·obtain⟨e,he,hv⟩:=jH.2 i acc[i] (Yo hi)
   rw[entry_at ent i] at he
   have hiy:i<ys.length:=by rw[jH.1,htz] at hi;exact hi
   rw[Ze hiy] at he ⊢
   have:=ZK he
   subst this
   rw[Yo hi,hv]
   rfl
  ·rw[X4 (by lia),Yk (by rw[<- htz,<- jH.1];lia)]
   rfl
 ·subst e
  have rv:Vals ((ys.map (·.2.1)).map V.ref) ((ys.map (·.2.1)).map Value.ref):=qt7 (by simp) λi x v e1 e2=>by
   rw[Zg] at e1 e2
   obtain⟨b,hb,rfl⟩:=Zj.mp e1
   rw[hb] at e2
   exact (ZK e2).symm
  obtain⟨xs',r',p'⟩:=qw3 o1 rv
  have prs:Paired (λ(v:V) (b:Addr)=>v=.ref b) ((ys.map (·.2.1)).map V.ref) (ys.map (·.2.1)):=qe2 (by rw[Zf]) λi v x e1 e2=>by
   rw[Zg,e2] at e1
   exact (ZK e1).symm
  obtain⟨us2,q1,q2⟩:=qd5 p' prs
  have ex:xs'=us2.map V.ref:=by
   clear r' p' q2
   induction q1 with
   |nil=>rfl
   |cons h _ ih=>rw[h,ih];rfl
  have I1:=I.keptD (t':=tk) (d':=d) k1
  subst ex
  refine⟨.ref _,_,I1.laid (a:=h1.objs.size) (o:=.lst (us2.map V.ref)) (t':=tk) (λb o z=>k2 b o z) (Zd _) ⟨?_,out.toList,c,r',by simpa using he⟩,rfl,q _ (ys.map (·.2.1)) us2 (I1.hok.fresh (Zd _)) jN jE q2 (qC3 I.hok r' o2)⟩
  rw[Zf,q2.length_eq,jN]
  exact z
end
end L2
namespace L2
open PySem
theorem qM1 {J:It}{H:Hp}{n k:Nat}{item:Nat->V->Hp->Prop}{g:TG}{tt:TT}{te:TE}{σ:St}{Fin:Hp->Prop}{D:Addr}(hD:H D=none) (yes:Nat->Bool) (Rel:Nat->V->Hp->Prop) (G:Goes J H n item) (hsz:n<sizeLine)
  (mono:∀i y H1 H2,Tups H1 H2->Rel i y H1->Rel i y H2)
  (step:∀i x H2,i<n->item i x H2->Same H H2->∀os:St,os.length=k->∀(Q1:Hp->Prop) (Q2:VK),(yes i=false->∀H3,Same H2 H3->Q1 H3)->(yes i=true->∀v H3,Same H2 H3->Rel i v H3->Q2 v H3) ->
   g x (os++σ) H2 λσ4 H4=>tt σ4 H4 λb H5=>if b=true then te σ4 H5 Q2 else Q1 H5)
  (fin:∀ys H2,Same H H2->H2 D=some (.lst ys)->ys.length=((List.range n).filter yes).length->(∀(m:Nat) y j,ys[m]?=some y->((List.range n).filter yes)[m]?=some j->Rel j y H2)->Fin H2) :
  ∃W:Nat->Nat->List V->Hp->Prop,(∃m,W 0 m [] (upd H D (.lst []))) /\
   ∀i m xs H2,W i m xs H2->H2 D=some (.lst xs)/\xs.length<sizeLine/\((J.stop i H2/\Fin H2)\/(J.go i H2/\∀y H3,J.yld i H2 y H3->∀os:St,os.length=k ->
    g y (os++σ) H3 λσ4 H4=>tt σ4 H4 λb H5=>if b=true then te σ4 H5 λv H6=>H6 D=some (.lst xs)/\∃m',m'<m/\W (i+1) m' (xs++[v]) (upd H6 D (.lst (xs++[v]))) else ∃m',m'<m/\W (i+1) m' xs H5)):=by
 refine⟨λi m ys H2=>i<=n/\m=n-i/\ys.length=((List.range i).filter yes).length/\H2 D=some (.lst ys)/\Same H H2/\∀(m:Nat) y j,ys[m]?=some y->((List.range i).filter yes)[m]?=some j->Rel j y H2,⟨n,Zo _,rfl,rfl,qa2,qb7 hD,λm y j h=>by simp at h⟩,?_⟩
 rintro i m ys H2 ⟨hi,rfl,hl,hd,s2,rel⟩
 have j9:ys.length<=i:=by
  rw[hl]
  exact ZE (W9 _ _) (by simp)
 refine⟨hd,by lia,?_⟩
 by_cases he:i=n
 ·subst he
  exact .inl ⟨G.st H2 s2,fin ys H2 s2 hd hl rel⟩
 ·refine .inr ⟨G.go i H2 (by lia) s2,λy H3 hy os ho=>?_⟩
  obtain⟨s3,it⟩:=G.yl i H2 y H3 (by lia) s2 hy
  refine step i y H3 (by lia) it (s2.trans s3) os ho _ _ (λwN H4 s4=>?_) (λhyes v H4 s4 r4=>?_)
  ·have ef:(List.range (i+1)).filter yes=(List.range i).filter yes:=by
    rw[Xi,WO]
    simp[wN]
   refine⟨n-(i+1),by lia,by lia,rfl,by rw[ef];exact hl,s4 _ _ (s3 _ _ hd),(s2.trans s3).trans s4,λm y j h1 h2=>?_⟩
   rw[ef] at h2
   exact mono j y H2 H4 (s3.trans s4).tups (rel m y j h1 h2)
  ·have jY:=s4 _ _ (s3 _ _ hd)
   have ef:(List.range (i+1)).filter yes=(List.range i).filter yes++[i]:=by
    rw[Xi,WO]
    simp[hyes]
   have tk:Tups H4 (upd H4 D (.lst (ys++[v]))):=λb u e=>by
    have:b≠D:=λz=>by subst z;rw[jY] at e;cases e
    rw[qb2 this];exact e
   refine⟨jY,n-(i+1),by lia,by lia,rfl,by rw[ef,Zw,Zw,hl];rfl,qa2,λb o e=>?_,λm z j h1 h2=>?_⟩
   ·rw[qb2 (qa7 e hD)]
    exact s4 _ _ (s3 _ _ (s2 _ _ e))
   ·rw[ef] at h2
    by_cases hm:m<ys.length
    ·rw[ZD hm] at h1
     rw[ZD (by lia)] at h2
     exact mono j z H4 _ tk (mono j z H2 H4 (s3.trans s4).tups (rel m z j h1 h2))
    ·have hm2:m=ys.length:=by
      have:=(gS_ h1).1
      simp at this
      lia
     rw[ZF (by lia),hm2] at h1
     rw[ZF (by lia),hm2,hl] at h2
     have e1:z=v:=by simpa using h1.symm
     have e2:j=i:=by simpa using h2.symm
     rw[e1,e2]
     exact mono i v H4 _ tk r4
end L2
namespace L2
open PySem PyProof.Rows
def k2t {P:Program}{w:World}:OKind P w:=tpO [atO true,atO true] 0 (by simp[atO])
theorem qM2 {P:Program}{w:World}:(k2t (P:=P) (w:=w)).lvl<=20:=by show 1<=20;decide
end L2
namespace Pr
open PySem L2 Qf
abbrev PrT:=List Nat×List Nat
def tkey (a:List Nat):List Int:=a.map λx:Nat=>((48+x:Nat):Int)
theorem qS0 (a:List Nat):(txt a).cps.toList.map Int.ofNat=tkey a:=by
 unfold txt tkey
 rw[YH]
 rfl
theorem qC5:∀{a b:List Nat},tkey a=tkey b->a=b
 |[],[],_=>rfl
 |[],_::_,h=>by cases h
 |_::_,[],h=>by cases h
 |x::a,y::b,h=>by
  unfold tkey at h
  rw[ZA,ZA] at h
  obtain⟨h1,h2⟩:=YV h
  rw[qC5 (a:=a) (b:=b) h2,show x=y by lia]
def pkey (e:PrT):List (List Int):=[tkey e.1,tkey e.2]
theorem xg4 {e f:PrT}(h:pkey e=pkey f):e=f:=by
 unfold pkey at h
 obtain⟨h1,h2⟩:=YV h
 exact Vm (qC5 h1) (qC5 (YV h2).1)
def qi7 (H:Hp) (b:Addr) (e:PrT):Prop:=H b=some (.tup [.str (txt e.1),.str (txt e.2)])
theorem qn3 {P:Program}{w:World}{H:Hp}{b:Addr}{e:PrT}(h:qi7 H b e):isL (P:=P) (w:=w) k2t H (.ref b) (pkey e):=by
 unfold pkey
 rw[<- qS0,<- qS0]
 exact xq2 h (.cons (qM0 _) (.cons (qM0 _) .nil))
def PrL (H:Hp) (l:Addr) (prs:List PrT):Prop:=∃bs:List Addr,H l=some (.lst (bs.map V.ref))/\Paired (qi7 H) bs prs
theorem qe6 {α β:Type}{R S:α->β->Prop}(h:∀a b,R a b->S a b):∀{l:List α}{m:List β},Paired R l m->Paired S l m
 |_,_,.nil=>.nil
 |_,_,.cons a r=>.cons (h _ _ a) (qe6 h r)
theorem PrL.same {H H':Hp}{l:Addr}{prs:List PrT}(h:PrL H l prs) (s:Same H H'):PrL H' l prs:=by
 obtain⟨bs,h1,h2⟩:=h
 exact⟨bs,s _ _ h1,qe6 (λb e h=>s _ _ h) h2⟩
def qw4 (prs:List PrT):Prop:=prs.Pairwise λe f=>pkey e<pkey f
theorem qj7 {P:Program}{w:World}{H:Hp}{bs us:List Addr}{prs:List PrT}(nd:prs.Nodup) (hb:Paired (qi7 H) bs prs) (hp:us.Perm bs) (ha:AscL (P:=P) (w:=w) k2t H (us.map V.ref)):∃qrs:List PrT,Paired (qi7 H) us qrs/\(∀e,e∈qrs<->e∈prs)/\qw4 qrs/\qrs.length=prs.length:=by
 obtain⟨qrs,r,p⟩:=qd5 hp hb
 refine⟨qrs,r,λe=>p.mem_iff,?_,p.length_eq⟩
 have nd2:qrs.Nodup:=p.nodup_iff.mpr nd
 have ha':us.Pairwise λu v=>∀l m,isL (P:=P) (w:=w) k2t H (.ref u) l->isL (P:=P) (w:=w) k2t H (.ref v) m->¬m<l:=by
  unfold AscL at ha
  rwa [XA] at ha
 have h1:qrs.Pairwise λe f=>¬pkey f<pkey e:=qI2 (λu v x y hu hv h=>h _ _ (qn3 hu) (qn3 hv)) r ha'
 refine List.Pairwise.imp₂ (λa b h1 h2=>?_) h1 (ZT.mp nd2)
 by_cases z:pkey a<pkey b
 ·exact z
 ·exact absurd (xg4 (List.le_antisymm (VY.mp h1) (VY.mp z))) h2
theorem qj8:∀{l m:List PrT},qw4 l->qw4 m->(∀x,x∈l<->x∈m)->l=m
 |[],[],_,_,_=>rfl
 |[],y::m,_,_,h=>absurd ((h y).mpr (by simp)) (by simp)
 |x::l,[],_,_,h=>absurd ((h x).mp (by simp)) (by simp)
 |x::l,y::m,hl,hm,h=>by
  obtain⟨l1,l2⟩:=YS.mp hl
  obtain⟨m1,m2⟩:=YS.mp hm
  have e:x=y:=by
   rcases Zs.mp ((h x).mp (by simp)) with z|z
   ·exact z
   ·rcases Zs.mp ((h y).mpr (by simp)) with z2|z2
    ·exact z2.symm
    ·exact absurd (List.lt_trans (m1 x z) (l1 y z2)) (XW _)
  subst e
  rw[qj8 l2 m2 λz=>?_]
  constructor
  ·intro hz
   rcases Zs.mp ((h z).mp (by simp[hz])) with e|e
   ·subst e;exact absurd (l1 z hz) (XW _)
   ·exact e
  ·intro hz
   rcases Zs.mp ((h z).mpr (by simp[hz])) with e|e
   ·subst e;exact absurd (m1 z hz) (XW _)
   ·exact e
def qx4 (e:PrT):List Key:=[Sum.inr (txt e.1),Sum.inr (txt e.2)]
theorem q88 {e f:PrT}(h:qx4 e=qx4 f):e=f:=by
 unfold qx4 at h
 obtain⟨h1,h2⟩:=YV h
 exact Vm (qo4 (Sum.inr.inj h1)) (qo4 (Sum.inr.inj (YV h2).1))
def prK (prs:List PrT):List (List Key×V):=prs.map λe=>(qx4 e,V.bl true)
theorem xq3 (prs:List PrT) (a:PrT):putK (prK prs) (qx4 a) (.bl true)=prK (if a∈prs then prs else prs++[a]):=by
 unfold putK
 have e:((prK prs).any λkv=>decide (kv.1=qx4 a))=decide (a∈prs):=by
  rw[Y0,XU,decide_eq_true_iff]
  constructor
  ·rintro⟨kv,h1,h2⟩
   obtain⟨b,hb,rfl⟩:=ZH.mp h1
   have:=ZB h2
   rw[<- q88 this];exact hb
  ·intro h
   exact⟨_,ZH.mpr ⟨a,h,rfl⟩,Zk rfl⟩
 rw[e]
 by_cases h:a∈prs
 ·rw[Zz (Zk h),Zz h]
  unfold prK
  rw[YH]
  refine Ym λb _=>?_
  show (if qx4 b=qx4 a then _ else _)=_
  split<;>rfl
 ·rw[Zq (by simpa using h),Zq h]
  unfold prK
  rw[ZU]
  rfl
section
variable {P:Program}{w:World}{K:PySem.W.Frag}{mg:Str->Option Value}{base:Heap}
abbrev nTo:List Str:=["_law_told_here", "_law_down", "_law_right", "_law_side", "_law_found", "_law_k", "_law_row", "_law_column", "_law_one", "_law_other"]
abbrev nTo3:List Str:=["_law_told_here", "_law_down", "_law_right"]
theorem scTo:FnScope nTo nTo3 (qa3 qP1):=qc6
def spTo:Sp:=λvs H Q _=>∃(t:Addr) (n tp d g:Nat) (rows:List Row),vs=[.ref t,.int (d:Nat),.int (g:Nat)]/\qd6 H t n tp rows/\n<=4/\d<=1/\g<=1 /\
 ∀H' l prs,Same H H'->PrL H' l prs->qw4 prs->prs.length<=256->(∀e,e∈prs<->qB4 n (T rows tp) d g e.1 e.2)->Q (.ref l) H'
theorem xC3 {f fL:Addr}{fd fdL:FuncData}(F:Fun K "_law_touching" "_law_touching" qP1 f fd) (B:Blt mg) (kR:mg "sorted" = none) (hL:mg "_law_leaf" = some (.ref fL)) (FL:Fun K "_law_leaf" "_law_leaf" q34 fL fdL) (bL:Binds K fdL nLf3 []) (GL:FnOk P w K mg base CX0 1 fL fdL nLf3 spLf) :
  FnOk P w K mg base CX0 2 f fd nTo3 spTo:=by
 refine F.ok scTo (λvs H Q E h=>?_) (λcdv A outer s H vs Q E hr h=>?_)
 ·obtain⟨t,n,tp,d,g,rows,rfl,_⟩:=h
  rfl
 ·obtain⟨t,n,tp,d,g,rows,rfl,hS,hn,hd1,hg1,q⟩:=h
  have un:=hr.units
  have hu1:_+1<cLine:=Y4 (Nat.add_le_add_left (show 1<=64 by decide) _) un
  refine seqE ⟨_,⟨psN 3 scTo.nd (qa5 qi3 qa4 (pxN qc8 (pv 0) qa4))⟩,?_⟩
  refine seqE ⟨_,⟨psN 4 scTo.nd qN3⟩,?_⟩
  refine seqE ⟨_,⟨qk6 YO rfl (qg6 (by rfl) B.range (qa0 (qa5 qf4 (pv 3) (pv 3)) qa1)) (pgN 5 scTo.nd)
   (StB.go (.cons ⟨psN 6 scTo.nd (PEb.go ⟨qa5 qd1 (qa5 qg3 (pv 5) (pv 3)) (pv 1)⟩)⟩
    (.cons ⟨psN 7 scTo.nd (PEb.go ⟨qa5 qd1 (qa5 qm0 (pv 5) (pv 3)) (pv 2)⟩)⟩
    (.one ⟨qd8 (PW.pt (xh3 (qb6 qh3 (pv 6) (pv 3) (qb5 _)) (qW6 (qb6 qh3 (pv 7) (pv 3) (qb5 _)))))
     (StB.go (.cons ⟨psN 8 scTo.nd (PEb.go ⟨pcN GL hr hL FL.kp bL (Ars2.go (.cons ⟨pv 0⟩ (.cons ⟨qa5 qg3 (pv 5) (pv 3)⟩ (.cons ⟨qa5 qm0 (pv 5) (pv 3)⟩ .nil rfl) rfl) rfl))⟩)⟩
      (.cons ⟨psN 9 scTo.nd (PEb.go ⟨pcN GL hr hL FL.kp bL (Ars2.go (.cons ⟨pv 0⟩ (.cons ⟨pv 6⟩ (.cons ⟨pv 7⟩ .nil rfl) rfl) rfl))⟩)⟩
      (.one ⟨qd8 (qb6 xk5 (pv 8) (pv 9) (qb5 _)) (StB.go (.one ⟨qK2 hu1 (pv 4) (PEb.go ⟨qi4 (qa0 (pv 8) (qa0 (pv 9) qa1))⟩) qp9 rfl⟩)) qb3⟩)))) qb3⟩))))⟩,?_⟩
  refine qh7 ⟨_,⟨qa9 (qa8 (qC4 rfl (κ:=k2t) (PyProof.Rows.sk_tp _) hr qM2) (by rfl) kR XM (qa0 (pv 4) qa1))⟩,?_⟩
  obtain⟨⟨rp,ht,hR⟩,cn,hrl⟩:=id hS
  have e1n:(1:Int)*2^((n:Nat):Int).toNat=((2^n:Nat):Int):=by rw[Uo,Zy];simp
  have vR:0<2^n:=Z7 (by decide)
  have hS16:2^n<=16:=YB (n:=2) (by decide) hn
  refine⟨_,rfl,t,_,0,.int (n:Nat),rfl,rfl,SqT.of ht,rfl,_,_,rfl,rfl,⟨by lia,by lia,by decide⟩,?_⟩
  refine qx2 (σ':=[some (.ref t),some (.int (d:Nat)),some (.int (g:Nat)),some (.int ((2^n:Nat):Int)),none,none,none,none,none,none]) (Yd (λz:Int=>[some (V.ref t),some (V.int (d:Nat)),some (V.int (g:Nat)),some (V.int z),none,none,none,none,none,none]) e1n) ?_
  unfold qB4 at q
  generalize wI:2^n=S at *
  refine (λdd vO=>?_)
  have s1:Same H (upd H dd (.dT [])):=qb7 vO
  have hd1':upd H dd (.dT []) dd=some (.dT []):=qa2
  generalize upd H dd (.dT [])=H1 at s1 hd1' ⊢
  have hSS:S*S<=256:=VJ hS16 hS16
  have eN:(((S:Nat):Int)*((S:Nat):Int))=((S*S:Nat):Int):=by rw[X9]
  have eN2:(((S:Nat):Int)*((S:Nat):Int)).toNat=S*S:=by rw[eN,Zy]
  refine⟨_,rfl,_,rfl,_,_,rfl,rfl,.inl ⟨by lia,by lia⟩,_,rfl,by rw[eN];lia,by rw[eN];lia,?_⟩
  rw[eN2]
  refine qD1 (lo:=0) (n:=S*S) (λi σ H2=>Same H H2/\(∃prs,H2 dd=some (.dT (prK prs))/\prs.Nodup/\prs.length<=i/\∀e:PrT,e∈prs<->∃j,j<i/\j/S+d<S/\j%S+g<S/\lfAd (T rows tp) n (j/S) (j%S)=e.1/\lfAd (T rows tp) n (j/S+d) (j%S+g)=e.2/\e.1≠e.2)/\∃v5 v6 v7 v8 v9,σ=[some (.ref t),some (.int (d:Nat)),some (.int (g:Nat)),some (.int (S:Nat)),some (.ref dd),v5,v6,v7,v8,v9])
   ⟨s1,⟨[],hd1',YM,Zd _,λx=>⟨λh=>(nomatch h),λ⟨j,h,_⟩=>absurd h (Xh _)⟩⟩,none,none,none,none,none,rfl⟩ ?_ ?_
  ·rintro i σ H2 hi ⟨s2,⟨prs,k6,nd,jF,jI⟩,v5,v6,v7,v8,v9,rfl⟩
   have eD:((i:Nat):Int)/((S:Nat):Int)=((i/S:Nat):Int):=(Wy ..).symm
   have eM:((i:Nat):Int)%((S:Nat):Int)=((i%S:Nat):Int):=(Wz ..).symm
   have eR:((i:Nat):Int)/((S:Nat):Int)+(d:Nat)=((i/S+d:Nat):Int):=by rw[eD];lia
   have eC:((i:Nat):Int)%((S:Nat):Int)+(g:Nat)=((i%S+g:Nat):Int):=by rw[eM];lia
   have no:∀{σ':St},(∃v5 v6 v7 v8 v9,σ'=[some (.ref t),some (.int (d:Nat)),some (.int (g:Nat)),some (.int (S:Nat)),some (.ref dd),v5,v6,v7,v8,v9])->¬(i/S+d<S/\i%S+g<S/\lfAd (T rows tp) n (i/S) (i%S)≠lfAd (T rows tp) n (i/S+d) (i%S+g)) ->
     (Same H H2/\(∃prs,H2 dd=some (.dT (prK prs))/\prs.Nodup/\prs.length<=i+1/\∀e:PrT,e∈prs<->∃j,j<i+1/\j/S+d<S/\j%S+g<S/\lfAd (T rows tp) n (j/S) (j%S)=e.1/\lfAd (T rows tp) n (j/S+d) (j%S+g)=e.2/\e.1≠e.2)/\∃v5 v6 v7 v8 v9,σ'=[some (.ref t),some (.int (d:Nat)),some (.int (g:Nat)),some (.int (S:Nat)),some (.ref dd),v5,v6,v7,v8,v9]):=λhσ hc=>by
    refine⟨s2,⟨prs,k6,nd,by lia,λe=>(jI e).trans ⟨?_,?_⟩⟩,hσ⟩
    ·rintro⟨j,h1,h2⟩
     exact⟨j,by lia,h2⟩
    ·rintro⟨j,h1,h2,h3,h4,h5,h6⟩
     by_cases z:j=i
     ·subst z
      exact absurd ⟨h2,h3,by rw[h4,h5];exact h6⟩ hc
     ·exact⟨j,by lia,h2,h3,h4,h5,h6⟩
   rw[Ue]
   refine⟨_,rfl,_,rfl,_,_,rfl,rfl,⟨by lia,by lia⟩,_,rfl,_,_,rfl,rfl,?_⟩
   refine qx2 (σ':=[some (.ref t),some (.int (d:Nat)),some (.int (g:Nat)),some (.int (S:Nat)),some (.ref dd),some (.int (i:Nat)),some (.int ((i/S+d:Nat):Int)),v7,v8,v9]) (Yd (λz:Int=>[some (V.ref t),some (V.int (d:Nat)),some (V.int (g:Nat)),some (V.int (S:Nat)),some (V.ref dd),some (V.int (i:Nat)),some (V.int z),v7,v8,v9]) eR) ?_
   refine⟨_,rfl,_,rfl,_,_,rfl,rfl,by lia,_,rfl,_,_,rfl,rfl,?_⟩
   refine qx2 (σ':=[some (.ref t),some (.int (d:Nat)),some (.int (g:Nat)),some (.int (S:Nat)),some (.ref dd),some (.int (i:Nat)),some (.int ((i/S+d:Nat):Int)),some (.int ((i%S+g:Nat):Int)),v8,v9]) (Yd (λz:Int=>[some (V.ref t),some (V.int (d:Nat)),some (V.int (g:Nat)),some (V.int (S:Nat)),some (V.ref dd),some (V.int (i:Nat)),some (V.int ((i/S+d:Nat):Int)),some (V.int z),v8,v9]) eC) ?_
   refine⟨_,rfl,_,rfl,_,_,rfl,rfl,_,rfl,?_⟩
   refine ite2 (λc1=>?_) (λc1=>?_)
   ·have c1:i/S+d<S:=by have:=ZB c1;lia
    refine⟨_,rfl,_,rfl,_,_,rfl,rfl,_,rfl,?_⟩
    refine ite2 (λc2=>?_) (λc2=>?_)
    ·have c2:i%S+g<S:=by have:=ZB c2;lia
     have wT:qd6 H2 t n tp rows:=qh8 hS s2
     refine⟨_,rfl,_,rfl,_,rfl,_,_,rfl,rfl,⟨by lia,by lia⟩,_,rfl,_,rfl,_,_,rfl,rfl,by lia,t,n,tp,i/S,i%S,rows,(by show[V.ref t,V.int ((i:Int)/(S:Int)),V.int ((i:Int)%(S:Int))]=_;rw[eD,eM]),wT,by lia,?_⟩
     refine⟨_,rfl,_,rfl,_,rfl,t,n,tp,i/S+d,i%S+g,rows,rfl,wT,by lia,?_⟩
     refine⟨_,rfl,_,rfl,rfl,_,rfl,?_⟩
     refine ite2 (λc3=>?_) (λc3=>?_)
     ·have c3:lfAd (T rows tp) n (i/S) (i%S)≠lfAd (T rows tp) n (i/S+d) (i%S+g):=λz=>by
       have c3':(!decide (V.str (txt (lfAd (T rows tp) n (i/S) (i%S)))=V.str (txt (lfAd (T rows tp) n (i/S+d) (i%S+g)))))=true:=c3
       rw[z,Zk rfl] at c3'
       cases c3'
      refine⟨_,rfl,_,rfl,_,rfl,(by show 2<=sizeLine;decide),λk hk=>?_⟩
      have hkk:upd H2 k (.tup [.str (txt (lfAd (T rows tp) n (i/S) (i%S))),.str (txt (lfAd (T rows tp) n (i/S+d) (i%S+g)))]) k=some (.tup ((qx4 (lfAd (T rows tp) n (i/S) (i%S),lfAd (T rows tp) n (i/S+d) (i%S+g))).map kV)):=qa2
      have dp:=DPut.t (v:=.bl true) (qe5 (u:=.tup [.str (txt (lfAd (T rows tp) n (i/S) (i%S))),.str (txt (lfAd (T rows tp) n (i/S+d) (i%S+g)))]) k6 hk) hkk (by show (List.map _ _).length<_;rw[Zf];exact qu7 (by lia))
      refine⟨dd,_,rfl,dp,?_⟩
      rw[xq3]
      refine⟨λb o e=>?_,⟨_,qa2,?_,?_,λe=>?_⟩,_,_,_,_,_,rfl⟩
      ·rw[qb2 (qa7 e vO)]
       exact qe5 (s2 _ _ e) hk
      ·split
       ·exact nd
       ·rename_i z
        exact Xc.mpr ⟨nd,by simp,λu hu v hv e=>z (by rw[Y7.mp hv] at e;rw[<- e];exact hu)⟩
      ·split
       ·lia
       ·rw[Zw];show _+1<=_;lia
      ·have e1:e∈(if (lfAd (T rows tp) n (i/S) (i%S),lfAd (T rows tp) n (i/S+d) (i%S+g))∈prs then prs else prs++[(lfAd (T rows tp) n (i/S) (i%S),lfAd (T rows tp) n (i/S+d) (i%S+g))])<->e∈prs\/e=(lfAd (T rows tp) n (i/S) (i%S),lfAd (T rows tp) n (i/S+d) (i%S+g)):=by
        split
        ·rename_i z
         exact⟨.inl,λh=>h.elim id λe=>by rw[e];exact z⟩
        ·rw[ZW,Y7]
       rw[e1,jI]
       constructor
       ·rintro (⟨j,h1,h2⟩|rfl)
        ·exact⟨j,by lia,h2⟩
        ·exact⟨i,by lia,c1,c2,rfl,rfl,c3⟩
       ·rintro⟨j,h1,h2,h3,h4,h5,h6⟩
        by_cases z:j=i
        ·subst z
         exact .inr (Vm h4.symm h5.symm)
        ·exact .inl ⟨j,by lia,h2,h3,h4,h5,h6⟩
     ·refine no ⟨_,_,_,_,_,rfl⟩ λz=>c3 ?_
      show (!decide (V.str (txt (lfAd (T rows tp) n (i/S) (i%S)))=V.str (txt (lfAd (T rows tp) n (i/S+d) (i%S+g)))))=true
      rw[Zm]
      ·rfl
      ·intro e
       injection e with e
       exact z.2.2 (qo4 e)
    ·exact no ⟨_,_,_,_,_,rfl⟩ λz=>c2 (Zk (by lia))
   ·exact no ⟨_,_,_,_,_,rfl⟩ λz=>c1 (Zk (by lia))
  ·rintro σ H2 ⟨s2,⟨prs,k6,nd,jF,jI⟩,v5,v6,v7,v8,v9,rfl⟩
   refine⟨_,rfl,dd,prK prs,rfl,k6,λb kv hkv hb=>?_,λq5 bs us wC vI jE hp ha=>?_⟩
   ·obtain⟨e,_,rfl⟩:=ZH.mp hkv
    exact⟨_,qn3 (e:=e) hb⟩
   ·have pb:Paired (qi7 H2) bs prs:=qe2 (by rw[vI];unfold prK;rw[Zf]) λi b e h1 h2=>jE i b (qx4 e,.bl true) h1 (by unfold prK;rw[Zg,h2];rfl)
    obtain⟨qrs,r1,r2,r3,r4⟩:=qj7 nd pb hp ha
    have s5:Same H2 (upd H2 q5 (.lst (us.map V.ref))):=qb7 wC
    refine q _ q5 qrs (s2.trans s5) ⟨us,qa2,qe6 (λb e h=>s5 _ _ h) r1⟩ r3 (by lia) λe=>?_
    rw[r2,jI]
    constructor
    ·rintro⟨j,h1,h2,h3,h4,h5,h6⟩
     exact⟨j/S,j%S,j/S+d,j%S+g,by lia,by lia,h2,h3,h4,h5,by lia,by lia,h6⟩
    ·rintro⟨r,c,r',c',a1,a2,a3,a4,b1,b2,b3,b4,b5⟩
     have hj:r*S+c<S*S:=by
      have:(r+1)*S<=S*S:=YC _ a1
      rw[Xa] at this
      lia
     have ed:(r*S+c)/S=r:=by rw[Yl,Uk vR,Xn a2,Wu]
     have em:(r*S+c)%S=c:=by rw[Yl,Nat.mul_add_mod,YG a2]
     refine⟨r*S+c,hj,?_⟩
     rw[ed,em]
     have er:r'=r+d:=by lia
     have ec:c'=c+g:=by lia
     subst er ec
     exact⟨a3,a4,b1,b2,b5⟩
end
def besL (n s:Nat) (t:Tr) (ls:List (List Nat)):List PrT:=ls.flatMap λx=>(bsd n t x s).map λy=>(x,y)
theorem besL_mem {n s:Nat}{t:Tr}{ls:List (List Nat)}{e:PrT}:e∈besL n s t ls<->e.1∈ls/\e.2∈bsd n t e.1 s:=by
 unfold besL
 rw[List.mem_flatMap]
 constructor
 ·rintro⟨x,hx,h⟩
  obtain⟨y,hy,rfl⟩:=ZH.mp h
  exact⟨hx,hy⟩
 ·rintro⟨h1,h2⟩
  exact⟨e.1,h1,ZH.mpr ⟨e.2,h2,rfl⟩⟩
theorem qy9 {n s:Nat}{t:Tr}:∀{ls:List (List Nat)},ls.Nodup->(∀x∈ls,(bsd n t x s).Nodup)->(besL n s t ls).Nodup
 |[],_,_=>YM
 |x::ls,h,hb=>by
  obtain⟨h1,h2⟩:=Yg.mp h
  show ((bsd n t x s).map (λy=>(x,y))++besL n s t ls).Nodup
  refine Xc.mpr ⟨?_,qy9 h2 λy hy=>hb y (by simp[hy]),λu hu v hv e=>?_⟩
  ·rw[ZT,XA]
   exact YY (λ{u v} jJ e=>jJ (Prod.mk.inj e).2) (ZT.mp (hb x (by simp)))
  ·obtain⟨y,_,rfl⟩:=ZH.mp hu
   subst e
   exact h1 (besL_mem.mp hv).1
theorem q89 (n s:Nat) (t:Tr) (ds:List Nat):(bsd n t ds s).length<=2^n:=by
 unfold bsd
 split
 ·split
  ·exact Zo _
  ·rw[Zf];exact qB2 _ _ _ _
 ·exact Zo _
theorem qS1 {n s:Nat}{t:Tr}(hn:n<=4):∀ls:List (List Nat),(besL n s t ls).length<=16*ls.length
 |[]=>Zo _
 |x::ls=>by
  show ((bsd n t x s).map (λy=>(x,y))++besL n s t ls).length<=_
  have h1:=q89 n s t x
  have h2:2^n<=16:=YB (n:=2) (by decide) hn
  have h3:=qS1 (n:=n) (s:=s) (t:=t) hn ls
  rw[Zw,Zf,ZQ]
  lia
theorem q90 {n s:Nat}{t:Tr}(ls:List (List Nat)) (x:List Nat):besL n s t (ls++[x])=besL n s t ls++(bsd n t x s).map λy=>(x,y):=by
 unfold besL
 rw[List.flatMap_append]
 show _++(_++[])=_
 rw[Y1]
theorem qz0 {α β:Type}{R:α->β->Prop}:∀{l l':List α}{m m':List β},Paired R l m->Paired R l' m'->Paired R (l++l') (m++m')
 |_,_,_,_,.nil,h=>h
 |_,_,_,_,.cons a r,h=>.cons a (qz0 r h)
theorem xq4 {β:Type}{R:Addr->β->Prop}:∀{ys:List V}{es:List β},Paired (λ(y:V) (e:β)=>∃b,y=.ref b/\R b e) ys es->∃cs:List Addr,ys=cs.map V.ref/\Paired R cs es
 |_,_,.nil=>⟨[],rfl,.nil⟩
 |_,_,.cons h r=>by
  obtain⟨b,rfl,hb⟩:=h
  obtain⟨cs,rfl,hc⟩:=xq4 r
  exact⟨b::cs,rfl,.cons hb hc⟩
section
variable {P:Program}{w:World}{K:PySem.W.Frag}{mg:Str->Option Value}{base:Heap}
abbrev nTl:List Str:=["_law_told_here", "_law_leaves", "_law_side", "_law_found", "_law_leaf_here"]
abbrev nTl3:List Str:=["_law_told_here", "_law_leaves", "_law_side"]
theorem scTl:FnScope nTl nTl3 (qa3 q35):=qc6
def spTl:Sp:=λvs H Q _=>∃(t lv:Addr) (n tp s:Nat) (ls:List (List Nat)) (rows:List Row),vs=[.ref t,.ref lv,.int (s:Nat)]/\qd6 H t n tp rows/\n<=4/\s<4/\nlf (T rows tp)<=2000/\H lv=some (.lst (vT ls))/\ls.Nodup/\ls.length<=2000/\(∀x∈ls,∃f,(x,f)∈lvT (T rows tp)) /\
 ∀H' l prs,Same H H'->PrL H' l prs->qw4 prs->(∀e:PrT,e∈prs<->e.1∈ls/\e.2∈bsd n (T rows tp) e.1 s)->Q (.ref l) H'
theorem xC4 {f fB:Addr}{fd fdB:FuncData}(F:Fun K "_law_told" "_law_told" q35 f fd) (kR:mg "sorted" = none) (hB:mg "beside" = some (.ref fB)) (FB:Fun K "beside" "beside" qr1 fB fdB) (bB:Binds K fdB ["shape", "address", "side"] []) (GB:FnOk P w K mg base CX0 17 fB fdB ["shape", "address", "side"] spBs) :
  FnOk P w K mg base CX0 18 f fd nTl3 spTl:=by
 refine F.ok scTl (λvs H Q E h=>?_) (λcdv A outer s H vs Q E hr h=>?_)
 ·obtain⟨t,lv,n,tp,sd,ls,rows,rfl,_⟩:=h
  rfl
 ·obtain⟨t,lv,n,tp,sd,ls,rows,rfl,hS,hn,wL,k8,hlv,kE,hll,hlf,q⟩:=h
  refine seqE ⟨_,⟨psN 3 scTl.nd (qj0 qa1)⟩,?_⟩
  refine seqE ⟨_,⟨qk6 YO rfl (qs1 (pv 1)) (pgN 4 scTl.nd)
   (StB.go (.one ⟨qd9 (PEb.go (xv7 Xe PySem.F.slot_list_extend PySem.F.type_list_extend qY6 ⟨pv 3⟩ (.cons ⟨qe7 nTl (qa3 q35) rfl rfl rfl scTl.nd (qs1 (PEb.go ⟨pcN GB hr hB FB.kp bB (qa0 (pv 0) (qa0 (pv 4) (qa0 (pv 2) qa1)))⟩)) (λcl C fp s₀ H₀=>qi4 (qa0 (pv 5) (qa0 (pv 0) qa1)))⟩ .nil rfl)))⟩))⟩,?_⟩
  refine qh7 ⟨_,⟨qa9 (qa8 (qp7 (κ:=k2t) (PyProof.Rows.sk_tp _) hr qM2) (by rfl) kR XM (qa0 (pv 3) qa1))⟩,?_⟩
  obtain⟨⟨rp,ht,hR⟩,cn,hrl⟩:=id hS
  have hdT:Tr.dep (T rows tp)<=n:=qv5 cn
  refine⟨(by show 0<=sizeLine;decide),λfl hfl=>?_⟩
  have s1:Same H (upd H fl (.lst [])):=qb7 hfl
  have hf1:upd H fl (.lst []) fl=some (.lst []):=qa2
  generalize upd H fl (.lst [])=H1 at s1 hf1 ⊢
  refine⟨_,rfl,lv,rfl,⟨_,SqL.of (s1 _ _ hlv)⟩,xa2 (K:=K) (xs:=vT ls) (λi σ H2=>Same H H2/\PrL H2 fl (besL n sd (T rows tp) (ls.take i))/\∃v4,σ=[some (.ref t),some (.ref lv),some (.int (sd:Nat)),some (.ref fl),v4]) ⟨s1,⟨[],hf1,.nil⟩,none,rfl⟩ (λi σ H2 _ ⟨s2,_⟩=>SqL.of (s2 _ _ hlv)) ?_ ?_⟩
  ·rintro i x σ H2 hx ⟨s2,jP,v4,rfl⟩
   unfold vT at hx
   rw[Zg] at hx
   obtain⟨ds,jO,rfl⟩:=Zj.mp hx
   obtain⟨ff,hff⟩:=hlf ds (Zv jO)
   obtain⟨h4,hl⟩:=qy8 n _ _ hdT hff
   have hi:i<ls.length:=(gS_ jO).1
   have etk:ls.take (i+1)=ls.take i++[ds]:=by rw[Um,jO];rfl
   obtain⟨bs,kZ,jW⟩:=id jP
   have vI:=YD jW
   have hbb:=qS1 (n:=n) (s:=sd) (t:=T rows tp) hn (ls.take i)
   have htl:(ls.take i).length<=2000:=by rw[Xm];lia
   have hfw:=q89 n sd (T rows tp) ds
   have h16:2^n<=16:=YB (n:=2) (by decide) hn
   refine⟨_,rfl,.inl ⟨rfl,_,SqL.of kZ⟩,?_⟩
   refine⟨_,rfl,_,rfl,_,rfl,t,n,tp,sd,ds,rows,rfl,qh8 hS s2,by lia,h4,hl,wL,k8,λH3 lb s3 jN hlb2=>?_⟩
   refine⟨lb,rfl,⟨_,SqL.of hlb2⟩,λD hD=>qf8 hD (λi y H4=>∃b x,y=.ref b/\(bsd n (T rows tp) ds sd)[i]?=some x/\qi7 H4 b (ds,x)) (qq9 (K:=K) hlb2) (by unfold vT;rw[Zf];exact qu7 (by lia)) ?_ ?_ ?_⟩
   ·rintro i y H4 H5 _ t5 ⟨b,x,h1,h2,h3⟩
    exact⟨b,x,h1,h2,t5 _ _ h3⟩
   ·intro j x H4 hj hx s4 Q' q'
    unfold vT at hx
    rw[Zg] at hx
    obtain⟨y,hy,rfl⟩:=Zj.mp hx
    exact⟨_,rfl,_,rfl,(by show 2<=sizeLine;decide),λk hk=>q' _ _ (qb7 hk) ⟨k,y,rfl,hy,qa2⟩⟩
   ·intro ys H4 s4 wJ wA hyr
    have wA:ys.length=(bsd n (T rows tp) ds sd).length:=by rw[wA];unfold vT;rw[Zf]
    obtain⟨cs,wQ,hcp⟩:∃cs:List Addr,ys=cs.map V.ref/\Paired (qi7 H4) cs ((bsd n (T rows tp) ds sd).map λy=>(ds,y)):=by
     have pr:Paired (λ(y:V) (e:PrT)=>∃b,y=.ref b/\qi7 H4 b e) ys ((bsd n (T rows tp) ds sd).map λy=>(ds,y)):=qe2 (by rw[wA,Zf]) λj y e e1 e2=>by
      obtain⟨b,x,h1,h2,h3⟩:=hyr j y e1
      rw[Zg,h2] at e2
      cases e2
      exact⟨b,h1,h3⟩
     exact xq4 pr
    have s24:Same H2 H4:=s3.trans s4
    refine⟨fl,D,_,_,rfl,rfl,s24 _ _ kZ,wJ,?_,?_⟩
    ·have:32016<=sizeLine:=by decide
     rw[Zf,wA]
     lia
    ·have nfl:∀b o,H4 b=some (.tup o)->b≠fl:=λb o e z=>by
      rw[z,s24 _ _ kZ] at e;cases e
     refine⟨λb o e=>?_,⟨bs++cs,?_,?_⟩,_,rfl⟩
     ·rw[qb2 (qa7 e hfl)]
      exact s24 _ _ (s2 _ _ e)
     ·rw[qa2,wQ,ZU]
     ·rw[etk,q90]
      refine qz0 (qe6 (λb e h=>?_) jW) (qe6 (λb e h=>?_) hcp)
      ·have h':=s24 _ _ h
       show upd H4 fl _ b=_
       rw[qb2 (nfl b _ h')];exact h'
      ·show upd H4 fl _ b=_
       rw[qb2 (nfl b _ h)];exact h
  ·rintro σ H2 ⟨s2,jP,v4,rfl⟩
   have elen:(vT ls).length=ls.length:=by unfold vT;rw[Zf]
   rw[elen,Wx] at jP
   obtain⟨bs,kZ,jW⟩:=jP
   refine⟨_,rfl,fl,_,rfl,kZ,λv hv=>?_,λq5 us wC hp ha=>?_⟩
   ·obtain⟨b,hb,rfl⟩:=ZH.mp hv
    obtain⟨i,hi,ei⟩:=ZJ.mp hb
    obtain⟨e,_,he⟩:=qe3 jW i b (by rw[Ze hi,ei])
    exact⟨_,qn3 he⟩
   ·have prs:Paired (λ(v:V) (b:Addr)=>v=.ref b) (bs.map V.ref) bs:=qe2 (by rw[Zf]) λi v x e1 e2=>by
     rw[Zg,e2] at e1
     exact (ZK e1).symm
    obtain⟨us2,q1,q2⟩:=qd5 hp prs
    have ex:us=us2.map V.ref:=by
     clear hp ha q2
     induction q1 with
     |nil=>rfl
     |cons h _ ih=>rw[h,ih];rfl
    subst ex
    obtain⟨qrs,r1,r2,r3,_⟩:=qj7 (qy9 kE λx hx=>by
     obtain⟨f,hf⟩:=hlf x hx
     exact (qB5 hdT hf wL).1) jW q2 ha
    have s5:Same H2 (upd H2 q5 (.lst (us2.map V.ref))):=qb7 wC
    refine q _ q5 qrs (s2.trans s5) ⟨us2,qa2,qe6 (λb e h=>s5 _ _ h) r1⟩ r3 λe=>?_
    rw[r2]
    exact besL_mem
abbrev nBk:List Str:=["_law_some"]
theorem scBkL:FnScope nBk nBk (qa3 qG2):=qc6
def xx1:Sp:=λvs H Q _=>∃(l:Addr) (prs:List PrT),vs=[.ref l]/\PrL H l prs/\prs.Nodup/\prs.length<=100000 /\
 ∀H' l' qrs,Same H H'->PrL H' l' qrs->qw4 qrs->(∀e:PrT,e∈qrs<->(e.2,e.1)∈prs)->Q (.ref l') H'
theorem xx2 {f:Addr}{fd:FuncData}(F:Fun K "_law_back" "_law_back" qG2 f fd) (kR:mg "sorted" = none):FnOk P w K mg base CX0 1 f fd nBk xx1:=by
 refine F.ok scBkL (λvs H Q E h=>?_) (λcdv A outer s H vs Q E hr h=>?_)
 ·obtain⟨l,prs,rfl,_⟩:=h
  rfl
 ·obtain⟨l,prs,rfl,hl,kE,jF,q⟩:=h
  refine qh7 ⟨_,⟨qa9 (qa8 (qp7 (κ:=k2t) (PyProof.Rows.sk_tp _) hr qM2) (by rfl) kR XM (qa0 (PEb.go ⟨qN9 nBk (qa3 qG2) rfl rfl rfl scBkL.nd (qs1 (pv 0)) (λcl C fp s₀ H₀=>qi4 (qa0 (pv 1) (qa0 (pv 0) qa1)))⟩) qa1))⟩,?_⟩
  obtain⟨bs,kZ,jW⟩:=hl
  have vI:=YD jW
  refine⟨_,rfl,l,rfl,⟨_,SqL.of kZ⟩,λD hD=>qM1 hD (λ_=>true) (λi y H3=>∃b e,y=.ref b/\prs[i]?=some e/\qi7 H3 b (e.2,e.1)) (qq9 (K:=K) kZ) (by rw[Zf];exact qu7 (by lia)) ?_ ?_ ?_⟩
  ·rintro i y H3 H4 t4 ⟨b,e,h1,h2,h3⟩
   exact⟨b,e,h1,h2,t4 _ _ h3⟩
  ·intro i x H3 hi hx s3 os ho Q1 Q2 _ q2
   rw[Zg] at hx
   obtain⟨b,hb,rfl⟩:=Zj.mp hx
   obtain⟨e,he,kJ⟩:=qe3 jW i b hb
   match os,ho with
   |[o1,o2],_=>
    refine⟨b,_,rfl,SqT.of (s3 _ _ kJ),rfl,_,_,rfl,_,_,rfl,rfl,?_⟩
    refine⟨_,rfl,_,rfl,(by show 2<=sizeLine;decide),λk hk=>q2 rfl _ _ (qb7 hk) ⟨k,e,rfl,he,qa2⟩⟩
  ·intro ys H3 s3 hD3 j9 hrel
   have ef:(List.range (bs.map V.ref).length).filter (λ_=>true)=List.range (bs.map V.ref).length:=List.filter_eq_self.mpr λ_ _=>rfl
   rw[ef] at j9 hrel
   have wA:ys.length=prs.length:=by rw[j9,Yx,Zf,vI]
   obtain⟨cs,wQ,hcp⟩:∃cs:List Addr,ys=cs.map V.ref/\Paired (qi7 H3) cs (prs.map λe=>(e.2,e.1)):=by
    have pr:Paired (λ(y:V) (e:PrT)=>∃b,y=.ref b/\qi7 H3 b e) ys (prs.map λe=>(e.2,e.1)):=qe2 (by rw[wA,Zf]) λj y e e1 e2=>by
     have hj:j<(bs.map V.ref).length:=by
      have:=(gS_ e1).1
      rw[j9,Yx] at this
      exact this
     obtain⟨b,x,h1,h2,h3⟩:=hrel j y j e1 (Xj hj)
     rw[Zg,h2] at e2
     cases e2
     exact⟨b,h1,h3⟩
    exact xq4 pr
   subst wQ
   refine⟨D,_,rfl,hD3,λv hv=>?_,λq5 us wC hp ha=>?_⟩
   ·obtain⟨b,hb,rfl⟩:=ZH.mp hv
    obtain⟨i,hi,ei⟩:=ZJ.mp hb
    obtain⟨e,_,he⟩:=qe3 hcp i b (by rw[Ze hi,ei])
    exact⟨_,qn3 he⟩
   ·have prs':Paired (λ(v:V) (b:Addr)=>v=.ref b) (cs.map V.ref) cs:=qe2 (by rw[Zf]) λi v x e1 e2=>by
     rw[Zg,e2] at e1
     exact (ZK e1).symm
    obtain⟨us2,q1,q2⟩:=qd5 hp prs'
    have ex:us=us2.map V.ref:=by
     clear hp ha q2
     induction q1 with
     |nil=>rfl
     |cons h _ ih=>rw[h,ih];rfl
    subst ex
    have nd':(prs.map λe:PrT=>(e.2,e.1)).Nodup:=by
     rw[ZT,XA]
     exact YY (λ{u v} jJ e=>jJ (Vm (Prod.mk.inj e).2 (Prod.mk.inj e).1)) (ZT.mp kE)
    obtain⟨qrs,r1,r2,r3,_⟩:=qj7 nd' hcp q2 ha
    have s5:Same H3 (upd H3 q5 (.lst (us2.map V.ref))):=qb7 wC
    refine q _ q5 qrs (s3.trans s5) ⟨us2,qa2,qe6 (λb e h=>s5 _ _ h) r1⟩ r3 λe=>?_
    rw[r2,ZH]
    constructor
    ·rintro⟨f,hf,rfl⟩
     exact hf
    ·intro h
     exact⟨_,h,rfl⟩
end
end Pr
namespace L2
open PySem PySem.Spec PyProof.Rows PySem.W
theorem slot_seti_next:Slot "set_iterator" "__next__" "set_iterator.__next__":=
 .of (owner:= "set_iterator") (n:= "__next__") (by rw[typeLookup_type,Vh];kernel_rfl) (by decide +kernel) (by decide +kernel) (by decide +kernel) (by first|exact .inl (by decide +kernel)|exact .inr (by decide +kernel)) (by rw[VL];kernel_rfl)
theorem qj9:entryFor table "set_iterator.__next__" = some Builtin.«set_iterator.__next__»:=entryFor_of_tree (by kernel_rfl)
theorem qk9 (a:Value):argsOk "set_iterator.__next__" ⟨[a],[]⟩:=by unfold argsOk;kernel_rfl
theorem ql0:Slot "set_iterator" "__iter__" "set_iterator.__iter__":=
 .of (owner:= "set_iterator") (n:= "__iter__") (by rw[typeLookup_type,Vh];kernel_rfl) (by decide +kernel) (by decide +kernel) (by decide +kernel) (by first|exact .inl (by decide +kernel)|exact .inr (by decide +kernel)) (by rw[VL];kernel_rfl)
theorem qx5 (a:Value):argsOk "set_iterator.__iter__" ⟨[a],[]⟩:=by unfold argsOk;kernel_rfl
theorem qx6:entryFor table "set.__iter__" = some Builtin.«frozenset.__iter__»:=entryFor_alias (id':= "frozenset.__iter__") (by kernel_rfl) rfl (by decide +kernel) (by kernel_rfl)
theorem qw5:entryFor table "set_iterator.__iter__" = some Builtin.«dict_keyiterator.__iter__»:=entryFor_alias (id':= "dict_keyiterator.__iter__") (by kernel_rfl) rfl (by decide +kernel) (by kernel_rfl)
theorem qo8 {α:Type}:∀{l:List α}{i:Nat}(h:i<l.length),(l[i]::l.eraseIdx i).Perm l
 |x::l,0,_=>.refl _
 |x::l,i+1,h=>by
  have h':i<l.length:=by simpa using h
  show (l[i]::x::l.eraseIdx i).Perm (x::l)
  exact (List.Perm.swap _ _ _).trans ((qo8 h').cons _)
theorem slot_set_len':Slot "set" "__len__" "set.__len__":=
 .of (owner:= "set") (n:= "__len__") (by rw[typeLookup_type,Vh];kernel_rfl) (by decide +kernel) (by decide +kernel) (by decide +kernel) (by first|exact .inl (by decide +kernel)|exact .inr (by decide +kernel)) (by rw[VL];kernel_rfl)
theorem qI3 {α:Type}(next:Nat->Nat):∀(fuel k:Nat) (left:List α) (out:Array α),left.length=fuel->(pickOrder.go next fuel k left out).toList.Perm (out.toList++left)
 |0,k,left,out,h=>by
  have:left=[]:=XV.mp h
  subst this
  unfold pickOrder.go
  rw[Y1]
 |fuel+1,k,left,out,h=>by
  unfold pickOrder.go
  have jB:next k%left.length<left.length:=XC _ (by lia)
  rw[Ze jB]
  dsimp only
  refine (qI3 next fuel (k+1) (left.eraseIdx (next k%left.length)) (out.push left[next k%left.length]) (by rw[VM jB];lia)).trans ?_
  rw[Xf,YX]
  refine Vf _ ?_
  exact (qo8 jB)
theorem ql1 {α:Type}(next:Nat->Nat) (xs:Array α):(pickOrder next xs).toList.Perm xs.toList:=by
 unfold pickOrder
 have:=qI3 next xs.size 0 xs.toList #[] (by simp)
 simpa using this
section
variable {prog:Program}{w:World}{A:Around}{E:Value->Shared->Prop}{s:Shared}
theorem qI4 {src:Source}{n:Nat}{Q:Nat->Shared->Prop}(hn:0<n) (h:∀i d,i<n->Q i { s with drawn:=d }):wpAny (model prog w) A (choose src n) Q E s:=λΓ p _=>by
 show Sem.wp _ _ (.choose src n .pure) _ _ _ _
 rw[Sem.wp_choose]
 exact⟨by lia,h _ _ (XC _ hn)⟩
theorem qI5 {α:Type}:∀(n:Nat) (xs:List α) (s:Shared) (Q:List α->Shared->Prop),xs.length=n->(∀ys d,ys.Perm xs->Q ys { s with drawn:=d })->wpAny (model prog w) A (drawOrder n xs) Q E s
 |0,xs,s,Q,hl,h=>by
  have:xs=[]:=XV.mp hl
  subst this
  exact Zb (h [] s.drawn (.refl _))
 |n+1,[],s,Q,hl,h=>by simp at hl
 |n+1,x::xs,s,Q,hl,h=>by
  show wpAny _ _ (choose .order (x::xs).length >>= _) _ _ _
  refine Za (qI4 (by simp) λi d hi=>?_)
  rw[Ze hi]
  refine Za (qI5 n ((x::xs).eraseIdx i) _ _ (by rw[VM hi];simpa using hl) λys d' hy=>?_)
  exact Zb (h _ _ ((hy.cons _).trans (qo8 hi)))
def SetB (h:Heap) (a:Addr) (es:Array (Int×Value)) (ep:Nat) (t:SetTable):Prop:=∃o,h.get? a=some o/\o.ExactSet/\o.data=.set es ep t
theorem SetB.stay {h h':Heap}{a:Addr}{es:Array (Int×Value)}{ep:Nat}{t:SetTable}(x:SetB h a es ep t) (k:∀o,h.get? a=some o->h'.get? a=some o):SetB h' a es ep t:=let ⟨o,ho,r⟩:=x;⟨o,k o ho,r⟩
theorem SetB.ty {s:Shared}{a:Addr}{es:Array (Int×Value)}{ep:Nat}{t:SetTable}(x:SetB s.heap a es ep t):s.TypeIs (.ref a) "set":=let ⟨o,ho,hc,_⟩:=x;⟨o,ho,hc.1⟩
theorem SetB.lt {h:Heap}{a:Addr}{es:Array (Int×Value)}{ep:Nat}{t:SetTable}(x:SetB h a es ep t):a<h.objs.size:=let ⟨_,ho,_⟩:=x;Zi ho
def IsSetI (h:Heap) (it:Addr) (first:Value) (i:Nat) (a:Addr) (n ep:Nat):Prop:=∃o,h.get? it=some o/\o.cls=.type "set_iterator" /\ o.data=.fields #[first,.int i 0,.ref a,.int n 0,.int ep 0]
theorem IsSetI.ty {s:Shared}{it:Addr}{first:Value}{i:Nat}{a:Addr}{n ep:Nat}(x:IsSetI s.heap it first i a n ep):s.TypeIs (.ref it) "set_iterator":=let ⟨o,ho,hc,_⟩:=x;⟨o,ho,hc⟩
inductive Md (w:World) (a:Addr) (es:Array (Int×Value)) (ep:Nat) (t:SetTable):(Heap->Prop)->(Nat->Value)->List Value->Prop
 |text (b:w.params.followText "set-order" = true):Md w a es ep t (λ_=>True) (λ_=>.int 0 0) ((pickOrder (w.params.setOrder a ep) es).toList.map (·.2))
 |plain (b:w.params.followText "set-order" = false) (nd:(!t.plain&&decide (es.size>1))=false) (led:t.led=true) (sl:Nat->Nat) (s0:sl 0=0) (bl:∀i,i<=es.size->SetTable.below t.place (sl i)=i) (sn:∀i j,t.place[i]?=some j->sl (i+1)=j+1):Md w a es ep t (λ_=>True) (λi=>.int (sl i) 0) (es.toList.map (·.2))
 |draw (b:w.params.followText "set-order" = false) (tp:Addr) (ps:List Nat) (pp:ps.Perm (List.range es.size)):Md w a es ep t (λh=>h.IsTuple tp (ps.map λ(i:Nat)=>Value.int i 0).toArray) (λ_=>.ref tp) (ps.map λi=>(es.getD i (0,.none)).2)
variable {it a:Addr}{es:Array (Int×Value)}{ep i:Nat}{t:SetTable}{OK:Heap->Prop}{fst:Nat->Value}{ord:List Value}
theorem q91 {Q:Option Value->Shared->Prop}(m:Md w a es ep t OK fst ord) (st:IsSetI s.heap it (fst i) i a es.size ep) (x:SetB s.heap a es ep t) (hf:t.fits es.size=true) (ok:OK s.heap){v:Value}(hi:ord[i]?=some v)
  (q:∀h',IsSetI h' it (fst (i+1)) (i+1) a es.size ep->Heap.SameBut it s.heap h'->Q (some v) { s with heap:=h' }):wpAny (model prog w) A (pyNext (.ref it)) Q E s:=by
 obtain⟨o,ho,hc,hd⟩:=id st
 obtain⟨oa,kH,hca,kI⟩:=id x
 unfold pyNext
 refine Za (XE (Z2 (name:=Str.ofString "__next__") st.ty slot_seti_next (Z3 slot_seti_next st.ty qj9 ?_ (qk9 _))))
 refine Za (Zb (Za (Wn ho hd ?_)))
 show wpAny _ _ (setEntries a >>= _) _ _ s
 refine Za (Vy kH kI hf ?_)
 rw[Zq (by simp)]
 refine Za (Zb ?_)
 have fin1:∀{E':Value->Shared->Prop}(s':Shared) (o':Obj) (f:Value),s'.heap.get? it=some o'->o'.cls=.type "set_iterator" -> o'.data=.fields #[f,.int i 0,.ref a,.int es.size 0,.int ep 0]->f=fst (i+1)->Heap.SameBut it s.heap s'.heap->s'={ s with heap:=s'.heap } ->
   wpAny (model prog w) A.in1 (setField (.ref it) 1 (rawInt ((i:Int)+1)) >>= λ_=>ret v) (λfin s'=>∃v,fin=Fin.done (Flow.ret v)/\wpAny (model prog w) A (pure (some v)) Q E s') E' s':=λs' o' f ho' hc' hd' ef sb es'=>by
  refine Za (Xq ho' hd' (by simp) (Zb ⟨v,rfl,Zb ?_⟩))
  rw[es']
  refine q _ ⟨_,ZY _ ho' (Xs (Yp hd' _)),(W0 ..).trans hc',?_⟩ (sb.trans (ZV ..))
  rw[Yp hd',ef]
  simp[rawInt]
 have fin2:∀{E':Value->Shared->Prop}(nx:Nat),Value.int nx 0=fst (i+1)->wpAny (model prog w) A.in1 (setField (.ref it) 0 (rawInt nx) >>= λ_=>setField (.ref it) 1 (rawInt ((i:Int)+1)) >>= λ_=>ret v) (λfin s'=>∃v,fin=Fin.done (Flow.ret v)/\wpAny (model prog w) A (pure (some v)) Q E s') E' s:=λnx e=>by
  refine Za (Xq ho hd (by simp) ?_)
  exact fin1 { s with heap:=s.heap.update it (Obj.mapFields (·.setIfInBounds 0 (rawInt nx))) } _ (.int nx 0) (ZY _ ho (Xs (Yp hd _))) ((W0 ..).trans hc) (by rw[Yp hd];simp[rawInt]) e (ZV ..) rfl
 cases m with
 |text b=>
  show wpAny _ _ (setNext a 0 ((i:Nat):Int).toNat ((ep:Nat):Int).toNat >>= _) _ _ s
  rw[Zy,Zy]
  unfold setNext
  refine Za (Za (Z0 kH kI hf ?_))
  dsimp only
  unfold setsByText
  refine Za (Za (YI (Zb ?_)))
  refine ZO (λ_=>?_) (λh=>absurd b h)
  rw[Zq (by simp)]
  unfold setWalk
  refine Za (Za (Z0 kH kI hf ?_))
  dsimp only
  unfold setsByText
  refine Za (Za (YI (Zb ?_)))
  refine ZO (λ_=>?_) (λh=>absurd b h)
  refine Za (YI (Zb (Zb ?_)))
  have hi':((pickOrder (w.params.setOrder a ep) es).toList.map (·.2))[i]?=some v:=hi
  rw[Zg,Z6] at hi'
  obtain⟨e,he,rfl⟩:=Zj.mp hi'
  show wpAny _ _ (match Option.map (λe=>(e.2,0)) (pickOrder (w.params.setOrder a ep) es)[i]? with|some (x,next)=>_|none=>_) _ _ s
  rw[he]
  exact fin2 0 rfl
 |plain b nd led sl s0 bl sn=>
  show wpAny _ _ (setNext a ((sl i:Nat):Int).toNat ((i:Nat):Int).toNat ((ep:Nat):Int).toNat >>= _) _ _ s
  rw[Zy,Zy,Zy]
  unfold setNext
  refine Za (Za (Z0 kH kI hf ?_))
  dsimp only
  unfold setsByText
  refine Za (Za (YI (Zb ?_)))
  refine ZO (λh=>absurd (show w.params.followText "set-order" = true from h) (by rw[b];exact Zt)) (λ_=>?_)
  refine ZO (λh=>absurd (show (!t.plain&&decide (es.size>1))=true from h) (by rw[nd];exact Zt)) (λ_=>?_)
  have hi':(es.toList.map (·.2))[i]?=some v:=hi
  rw[Zg,Z6] at hi'
  obtain⟨e,he,rfl⟩:=Zj.mp hi'
  have hil:=(Wk.mp he).1
  have hps:t.place.size=es.size:=by
   have:=hf
   unfold SetTable.fits at this
   simp at this
   exact this.1
  obtain⟨j,hj⟩:∃j,t.place[i]?=some j:=⟨_,Yo (by lia)⟩
  refine Za ?_
  refine ZO (λh=>?_) (λ_=>Zb (Zb ?_))
  ·have h':(!t.led&&!es.isEmpty)=true:=h
   rw[led] at h'
   cases h'
  ·rw[bl i (by lia),he,hj]
   exact fin2 (j+1) (by show Value.int _ 0=Value.int _ 0;rw[sn i j hj])
 |draw b tp ps pp=>
  obtain⟨ot,hot,hct,nt,vF⟩:=id ok
  show wpAny _ _ (seqItems? (.ref tp) >>= _) _ _ s
  refine Za (WX hot vF ?_)
  have hi':(ps.map λi=>(es.getD i (0,.none)).2)[i]?=some v:=hi
  rw[Zg] at hi'
  obtain⟨k,hk,rfl⟩:=Zj.mp hi'
  have hkn:k<es.size:=Yq.mp (pp.mem_iff.mp (Zv hk))
  have ek:(ps.map λ(i:Nat)=>Value.int i 0).toArray[((i:Nat):Int).toNat]?=some (.int k 0):=by rw[Zy,List.getElem?_toArray,Zg,hk];rfl
  have ex:es[k]?=some (es.getD k (0,.none)):=by rw[Yo hkn];simp[Array.getD,hkn]
  dsimp only
  rw[ek]
  show wpAny _ _ (setNextDrawn a ((k:Nat):Int).toNat ((ep:Nat):Int).toNat >>= _) _ _ s
  rw[Zy,Zy]
  unfold setNextDrawn
  refine Za (Za (Z0 kH kI hf ?_))
  dsimp only
  rw[Zq (by simp)]
  rw[ex]
  refine Zb ?_
  exact fin1 s o (.ref tp) ho hc hd rfl (We _ _) rfl
theorem xg5 {Q:Option Value->Shared->Prop}(hh:A.handled=none) (m:Md w a es ep t OK fst ord) (st:IsSetI s.heap it (fst es.size) es.size a es.size ep) (x:SetB s.heap a es ep t) (hf:t.fits es.size=true) (ok:OK s.heap)
  (q:∀h',Heap.ExtBut it s.heap h'->Q none { s with heap:=h' }):wpAny (model prog w) A (pyNext (.ref it)) Q E s:=by
 obtain⟨o,ho,hc,hd⟩:=id st
 obtain⟨oa,kH,hca,kI⟩:=id x
 unfold pyNext
 refine Za (XE (Z2 (name:=Str.ofString "__next__") st.ty slot_seti_next (Z3 slot_seti_next st.ty qj9 ?_ (qk9 _))))
 refine Za (Zb (Za (Wn ho hd ?_)))
 show wpAny _ _ (setEntries a >>= _) _ _ s
 refine Za (Vy kH kI hf ?_)
 rw[Zq (by simp)]
 refine Za (Zb ?_)
 have fin:∀(s':Shared) (o':Obj) (xs:Array Value),s'.heap.get? it=some o'->o'.data=.fields xs->xs.size=5->Heap.SameBut it s.heap s'.heap->s'={ s with heap:=s'.heap } ->
   wpAny (model prog w) A.in1 (setField (.ref it) 2 .none >>= λ_=>newExc (.type "StopIteration") [] >>= λe=>raiseNew e) (λfin s'=>∃v,fin=Fin.done (Flow.ret v)/\wpAny (model prog w) A (pure (some v)) Q E s') (λe s'=>wpAny (model prog w) A (isInstance e (.type "StopIteration") >>= λb=>if b=true then pure none else throw e) Q E s') s':=λs' o' xs ho' hd' hx sb es'=>by
  refine Za (Xq ho' hd' (by lia) ?_)
  refine Za ?_
  simp only[newExc,newTuple]
  refine Za (ZP ?_ (by size_fits))
  refine Za (m:=firstArgMember _ _) (VT (a:=Value.none) (by first|rfl|(simp only[firstArgMember];rfl)) (ZP ?_ (by size_fits)))
  simp only[raiseNew]
  refine Za (wpAny_handled ?_)
  rw[show A.in1.handled=none by exact hh]
  refine Za (Zb (wpAny_throw ?_))
  refine Za (XS (T:= "StopIteration") (b:=true) ⟨_,Zh _ rfl,rfl⟩ isSubtype_stop ?_)
  rw[es']
  exact Zb (q _ (((sb.trans (ZV ..)).extBut.push _).push _))
 cases m with
 |text b=>
  show wpAny _ _ (setNext a 0 ((es.size:Nat):Int).toNat ((ep:Nat):Int).toNat >>= _) _ _ s
  rw[Zy,Zy]
  unfold setNext
  refine Za (Za (Z0 kH kI hf ?_))
  dsimp only
  unfold setsByText
  refine Za (Za (YI (Zb ?_)))
  refine ZO (λ_=>?_) (λh=>absurd b h)
  rw[Zq (by simp)]
  unfold setWalk
  refine Za (Za (Z0 kH kI hf ?_))
  dsimp only
  unfold setsByText
  refine Za (Za (YI (Zb ?_)))
  refine ZO (λ_=>?_) (λh=>absurd b h)
  refine Za (YI (Zb (Zb ?_)))
  have hn:(pickOrder (w.params.setOrder a ep) es)[es.size]?=none:=by
   rw[VN]
   have:=(ql1 (w.params.setOrder a ep) es).length_eq
   simp at this
   lia
  show wpAny _ _ (match Option.map (λe=>(e.2,0)) (pickOrder (w.params.setOrder a ep) es)[es.size]? with|some (x,next)=>_|none=>_) _ _ s
  rw[hn]
  exact fin s o _ ho hd rfl (We _ _) rfl
 |plain b nd led sl s0 bl sn=>
  show wpAny _ _ (setNext a ((sl es.size:Nat):Int).toNat ((es.size:Nat):Int).toNat ((ep:Nat):Int).toNat >>= _) _ _ s
  rw[Zy,Zy,Zy]
  unfold setNext
  refine Za (Za (Z0 kH kI hf ?_))
  dsimp only
  unfold setsByText
  refine Za (Za (YI (Zb ?_)))
  refine ZO (λh=>absurd (show w.params.followText "set-order" = true from h) (by rw[b];exact Zt)) (λ_=>?_)
  refine ZO (λh=>absurd (show (!t.plain&&decide (es.size>1))=true from h) (by rw[nd];exact Zt)) (λ_=>?_)
  have hn:es[es.size]?=none:=X4 (Zd _)
  refine Za ?_
  refine ZO (λh=>?_) (λ_=>Zb (Zb ?_))
  ·have h':(!t.led&&!es.isEmpty)=true:=h
   rw[led] at h'
   cases h'
  ·rw[bl es.size (Zd _),hn]
   exact fin s o _ ho hd rfl (We _ _) rfl
 |draw b tp ps pp=>
  obtain⟨ot,hot,hct,nt,vF⟩:=id ok
  show wpAny _ _ (seqItems? (.ref tp) >>= _) _ _ s
  refine Za (WX hot vF ?_)
  have jF:ps.length=es.size:=by rw[pp.length_eq,Yx]
  have ek:(ps.map λ(i:Nat)=>Value.int i 0).toArray[((es.size:Nat):Int).toNat]?=none:=by rw[Zy,VN];simp;lia
  dsimp only
  rw[ek]
  show wpAny _ _ (setField (.ref it) 0 (rawInt 0) >>= _) _ _ s
  refine Za (Xq ho hd (by simp) ?_)
  exact fin { s with heap:=s.heap.update it (Obj.mapFields (·.setIfInBounds 0 (rawInt 0))) } _ _ (ZY _ ho (Xs (Yp hd _))) (Yp hd _) (by simp) (ZV ..) rfl
end
end L2
namespace SetT
open PySem
def Rise (xs:Array Nat):Prop:=∀i j (hi:i<xs.size) (hj:j<xs.size),i<j->xs[i]<xs[j]
theorem qC6 {xs:Array Nat}(hr:Rise xs) (j:Nat):∀(f lo hi:Nat),hi-lo<=f->lo<=hi->hi<=xs.size->(∀k (h:k<xs.size),k<lo->xs[k]<j)->(∀k (h:k<xs.size),hi<=k->j<=xs[k]) ->
  SetTable.below.go xs j f lo hi<=xs.size/\(∀k (h:k<xs.size),k<SetTable.below.go xs j f lo hi->xs[k]<j)/\(∀k (h:k<xs.size),SetTable.below.go xs j f lo hi<=k->j<=xs[k])
 |0,lo,hi,hf,hl,hs,h1,h2=>by
  have e:lo=hi:=by lia
  subst e
  exact⟨hs,h1,h2⟩
 |f+1,lo,hi,hf,hl,hs,h1,h2=>by
  unfold SetTable.below.go
  by_cases hc:lo<hi
  ·rw[Zz hc]
   have hm:(lo+hi)/2<xs.size:=by lia
   have em:xs.getD ((lo+hi)/2) j=xs[(lo+hi)/2]:=by simp[Array.getD,hm]
   simp only
   rw[em]
   by_cases hx:xs[(lo+hi)/2]<j
   ·rw[Zz hx]
    refine qC6 hr j f _ hi (by lia) (by lia) hs (λk h hk=>?_) h2
    by_cases ek:k=(lo+hi)/2
    ·subst ek;exact hx
    ·exact Vz (hr k _ h hm (by lia)) hx
   ·rw[Zq hx]
    refine qC6 hr j f lo _ (by lia) (by lia) (by lia) h1 (λk h hk=>?_)
    by_cases ek:k=(lo+hi)/2
    ·subst ek;lia
    ·have:=hr _ k hm h (by lia);lia
  ·rw[Zq hc]
   have e:lo=hi:=by lia
   subst e
   exact⟨hs,h1,h2⟩
theorem below_is {xs:Array Nat}(hr:Rise xs) (j:Nat):SetTable.below xs j<=xs.size/\(∀k (h:k<xs.size),k<SetTable.below xs j->xs[k]<j)/\(∀k (h:k<xs.size),SetTable.below xs j<=k->j<=xs[k]):=
 qC6 hr j xs.size 0 xs.size (by lia) (Zo _) (Zd _) (λk h hk=>absurd hk (Xh _)) (λk h hk=>absurd h (by lia))
end SetT
namespace L2
open PySem PySem.Spec PyProof.Rows PySem.W
section
variable {prog:Program}{w:World}{A:Around}{E:Value->Shared->Prop}{s:Shared}{it a:Addr}{es:Array (Int×Value)}{ep:Nat}{t:SetTable}{OK:Heap->Prop}{fst:Nat->Value}{ord:List Value}
theorem qV2 (hh:A.handled=none) (m:Md w a es ep t OK fst ord) (wE:ord.length=es.size) (hf:t.fits es.size=true) (jJ:a≠it) (fpO:List Addr) (hni:it∉fpO) (kO:∀h h':Heap,OK h->(∀b∈fpO,∀o,h.get? b=some o->h'.get? b=some o)->OK h') :
  Walks prog w A it (it::a::fpO) [it] es.size (λi v=>ord[i]?=some v) (λi h=>IsSetI h it (fst i) i a es.size ep/\SetB h a es ep t/\OK h) where
 sub:=λb hb=>by simp at hb;simp[hb]
 frame:=λ_ _ _ st k=>⟨(let ⟨o,ho,r⟩:=st.1;⟨o,k it (by simp) o ho,r⟩),st.2.1.stay λo e=>k a (by simp) o e,kO _ _ st.2.2 λb hb o e=>k b (by simp[hb]) o e⟩
 item:=λi s Q E hi st q=>by
  have hv:ord[i]?=some (ord[i]'(by lia)):=Ze (by lia)
  refine q91 m st.1 st.2.1 hf st.2.2 hv λh' st' sb=>q _ h' s.toks hv ⟨st',st.2.1.stay λo e=>sb.extBut a o jJ e,kO _ _ st.2.2 λb hb o e=>sb.extBut b o (λz=>hni (by rw[<- z];exact hb)) e⟩ λb o hb e=>sb.extBut b o (λh=>hb (by simp[h])) e
 done:=λs Q E st q=>xg5 hh m st.1 st.2.1 hf st.2.2 λh' eb=>q h' s.toks λb o hb e=>eb b o (λh=>hb (by simp[h])) e
 self:=λ_ _ _ _ st q=>by
  refine VX st.1.ty ql0 (Z3 ql0 st.1.ty qw5 ?_ (qx5 _))
  show wpAny _ _ (ret (.ref it)) _ _ _
  exact Zb ⟨_,rfl, "set_iterator",_,st.1.ty,slot_seti_next.lookup,q⟩
theorem xg6 {Q:Bool->Shared->Prop}(hT:s.TypeIs (.ref a) "set") (h:Q false s):wpAny (model prog w) A (Builtin.List.listLengthHint (.ref a)) Q E s:=by
 unfold Builtin.List.listLengthHint
 refine Za (wpAny_specialOf hT slot_set_len'.lookup ?_)
 generalize hid:("set.__len__" : String)=id0
 wp_delta
 rw[show splitId id0=some ("set", "__len__") from by subst hid;decide +kernel]
 subst hid
 refine Za (XS (T:= "set") (b:=true) hT (by rw[VL];kernel_rfl) ?_)
 refine ZO (λkK=>absurd kK (by decide)) (λ_=>?_)
 refine ZO (λ_=>?_) (λkK=>absurd (by decide +kernel) kK)
 refine Za (WS hT ?_)
 exact Zb h
structure Itd_ (prog:Program) (w:World) (A:Around) (a:Addr) (es:Array (Int×Value)) (ep:Nat) (t:SetTable) (s s':Shared) (it:Addr) (vs:List Value):Prop where
 perm:vs.Perm (es.toList.map (·.2))
 new:s.heap.objs.size<=it
 keep:∀b o,s.heap.get? b=some o->s'.heap.get? b=some o
 same:∃d,s'={ s with heap:=s'.heap,drawn:=d }
 wk:∃fpO St,it∉fpO/\(∀b∈fpO,s.heap.objs.size<=b/\b<s'.heap.objs.size)/\it<s'.heap.objs.size/\Walks prog w A it (it::a::fpO) [it] es.size (λi v=>vs[i]?=some v) St/\St 0 s'.heap
theorem set_iter {Q:Value->Shared->Prop}{A':Around}(hh:A'.handled=none) (x:SetB s.heap a es ep t) (hf:t.fits es.size=true) (hn:es.size<=sizeLine) (hl:t.led=!w.params.followText "set-order") (hr:(!t.plain&&decide (es.size>1))=true\/SetT.Rise t.place)
  (q:∀it vs s',Itd_ prog w A' a es ep t s s' it vs->Q (.ref it) s'):wpAny (model prog w) A (pyIter (.ref a)) Q E s:=by
 obtain⟨o,ho,hc,hd⟩:=id x
 have hal:=x.lt
 refine VX x.ty PySem.F.slot_set_iter (Z3 PySem.F.slot_set_iter x.ty qx6 ?_ (PySem.F.args_set_iter_1 _))
 refine Za (Zb ?_)
 show wpAny _ _ (Builtin.Frozenset.sizeOf a >>= _) _ _ _
 unfold Builtin.Frozenset.sizeOf
 refine Za (Za (Vy ho hd hf (Zb ?_)))
 unfold setDrawn setsByText
 refine Za (Za (Z0 ho hd hf ?_))
 dsimp only
 refine Za (Za (YI (Zb (Zb ?_))))
 have last:∀(s1:Shared) (first:Value) (OK:Heap->Prop) (fst:Nat->Value) (ord:List Value) (fpO:List Addr) (d:Drawn),s1={ s with heap:=s1.heap,drawn:=d }->(∀b o,s.heap.get? b=some o->s1.heap.get? b=some o)->s.heap.objs.size<=s1.heap.objs.size->Md w a es ep t OK fst ord->fst 0=first->OK s1.heap->ord.Perm (es.toList.map (·.2))->(∀b∈fpO,s.heap.objs.size<=b/\b<s1.heap.objs.size)->(∀h h':Heap,OK h->(∀b∈fpO,∀o,h.get? b=some o->h'.get? b=some o)->OK h') ->
   wpAny (model prog w) A.in1 (setEpoch a >>= λe=>newFields "set_iterator" [first,rawInt 0,.ref a,rawInt es.size,rawInt e] >>= λv=>ret v) (λfin s'=>∃v,fin=.done (.ret v)/\∃T u,s'.TypeIs v T/\typeLookup (.type T) "__next__" = pure (some u)/\Q v s') E s1:=λs1 first OK fst ord fpO d e1 k1 z1 m ef ok op fp0 kO=>by
  have vD:=k1 _ _ ho
  refine Za (wpAny_setEpoch_of vD hd hf ?_)
  refine Za (ZP (Zb ⟨_,rfl, "set_iterator",_,⟨_,Zh _ rfl,rfl⟩,slot_seti_next.lookup,?_⟩))
  have wE:ord.length=es.size:=by rw[op.length_eq,Zf,ZL]
  refine q s1.heap.objs.size ord _ ⟨op,z1,λb o e=>Zc _ (k1 b o e),⟨d,by rw[e1]⟩,fpO,_,λz=>Ys _ (fp0 _ z).2,λb hb=>⟨(fp0 b hb).1,by rw[Yh];exact ZZ (fp0 b hb).2⟩,by rw[Yh];exact YT _,qV2 hh m wE hf (Zl (ZN hal z1)) fpO (λz=>Ys _ (fp0 _ z).2) kO,?_⟩
  exact⟨⟨_,Zh _ rfl,rfl,by rw[ef];simp[rawInt]⟩,⟨o,Zc _ vD,hc,hd⟩,kO _ _ ok λb _ o e=>Zc _ e⟩
 by_cases hb:w.params.followText "set-order" = true
 ·refine ZO (λh=>?_) (λ_=>?_)
  ·have h':(!w.params.followText "set-order" && (!t.plain&&decide (es.size>1)))=true:=h
   rw[hb] at h'
   cases h'
  ·refine Za (Zb ?_)
   exact last s (.int 0 0) _ _ _ [] s.drawn rfl (λ_ _ e=>e) (Zd _) (.text hb) rfl trivial ((ql1 _ _).map _) (λb hb=>nomatch hb) (λ_ _ _ _=>trivial)
 ·have hb':w.params.followText "set-order" = false:=Yj.mpr hb
  have led:t.led=true:=by rw[hl,hb'];rfl
  refine ZO (λh=>?_) (λh=>?_)
  ·refine Za (qI5 es.size (List.range es.size) _ _ (by simp) λps d hp=>Za ?_)
   have jF:ps.length=es.size:=by rw[hp.length_eq,Yx]
   refine wpAny_newTuple ?_ (by rw[Zf];lia)
   have hT:(s.heap.push (seqObj "tuple" (ps.map λ(i:Nat)=>Value.int i 0).toArray 0)).get? s.heap.objs.size=some (seqObj "tuple" (ps.map λ(i:Nat)=>Value.int i 0).toArray 0):=Zh _ rfl
   have er:((List.range es.size).map λi=>(es.getD i (0,.none)).2)=es.toList.map (·.2):=by
    refine List.ext_getElem (by simp) λi h1 h2=>?_
    have hi:i<es.size:=by simpa using h1
    simp[Array.getD,hi]
   have op:(ps.map λi=>(es.getD i (0,.none)).2).Perm (es.toList.map (·.2)):=by rw[<- er];exact hp.map _
   exact last { s with heap:=s.heap.push (seqObj "tuple" (ps.map λ(i:Nat)=>Value.int i 0).toArray 0),drawn:=d } (.ref s.heap.objs.size) _ _ _ [s.heap.objs.size] d rfl (λb o e=>Zc _ e) (by rw[Yh];exact Wm _) (.draw hb' s.heap.objs.size ps hp) rfl ⟨_,hT,rfl,0,rfl⟩ op
    (λb hb=>by rw[Y7.mp hb,Yh];exact⟨Zd _,YT _⟩) (λh h' ⟨o,ho,r⟩ k=>⟨o,k _ (by simp) o ho,r⟩)
  ·refine Za (Zb ?_)
   have nd:(!t.plain&&decide (es.size>1))=false:=by
    have h':¬(!w.params.followText "set-order" && (!t.plain&&decide (es.size>1)))=true:=h
    rw[hb'] at h'
    simpa using h'
   have ri:SetT.Rise t.place:=by
    rcases hr with z|z
    ·rw[nd] at z;cases z
    ·exact z
   have hps:t.place.size=es.size:=by
    have:=hf
    unfold SetTable.fits at this
    simp at this
    exact this.1
   refine last s (.int 0 0) _ _ _ [] s.drawn rfl (λ_ _ e=>e) (Zd _) (.plain hb' nd led (λi=>if i=0 then 0 else t.place.getD (i-1) 0+1) rfl (λi hi=>?_) (λi j hj=>?_)) rfl trivial (List.Perm.refl _) (λb hb=>nomatch hb) (λ_ _ _ _=>trivial)
   ·obtain⟨b0,b1,b2⟩:=SetT.below_is ri (if i=0 then 0 else t.place.getD (i-1) 0+1)
    generalize SetTable.below t.place (if i=0 then 0 else t.place.getD (i-1) 0+1)=B at b0 b1 b2
    by_cases h0:i=0
    ·subst h0
     rw[Zz rfl] at b1
     by_cases hB:B=0
     ·exact hB
     ·exact absurd (b1 0 (by lia) (by lia)) (Xh _)
    ·rw[Zq h0] at b1 b2
     have hi1:i-1<t.place.size:=by lia
     have eg:t.place.getD (i-1) 0=t.place[i-1]:=by simp[Array.getD,hi1]
     rw[eg] at b1 b2
     rcases VW B i with z|z|z
     ·have:=b2 (i-1) hi1 (by lia);lia
     ·exact z
     ·have vZ:i<t.place.size:=by lia
      have q1:=b1 i vZ z
      have q2:=ri (i-1) i hi1 vZ (by lia)
      lia
   ·show (if i+1=0 then 0 else t.place.getD (i+1-1) 0+1)=j+1
    rw[Zq (by lia),VI]
    obtain⟨h1,h2⟩:=Wk.mp hj
    simp[Array.getD,h1,h2]
theorem qM3 {Q:List Value->Shared->Prop}(hh:A.handled=none) (x:SetB s.heap a es ep t) (hf:t.fits es.size=true) (hn:es.size<=sizeLine) (hl:t.led=!w.params.followText "set-order") (hr:(!t.plain&&decide (es.size>1))=true\/SetT.Rise t.place)
  (hQ:∀vs h' tk d,vs.Perm (es.toList.map (·.2))->(∀b o,s.heap.get? b=some o->h'.get? b=some o)->Q vs { s with heap:=h',drawn:=d,toks:=tk }):wpAny (model prog w) A (collect (.ref a)) Q E s:=by
 have jB:=x.lt
 unfold collect
 refine Za (VH (Yn PySem.F.entry_proto_collect ?_))
 rw[Yi PySem.F.plain_proto_collect _]
 show wpAny _ A.in1 (newList [] >>= λl=>again (.builtin "list.__iadd__" ⟨[l,.ref a],[]⟩)) _ _ s
 refine Za (ZP ?_)
 refine Zb ⟨XD PySem.F.plain_list_iadd _,Yn PySem.F.entry_list_iadd ?_⟩
 rw[Yi PySem.F.plain_list_iadd _]
 have hS:(s.heap.push (seqObj "list" #[] 0)).get? s.heap.objs.size=some (seqObj "list" #[] 0):=Zh _ rfl
 show wpAny _ A.in1 (Builtin.List.listExtendWith (.ref s.heap.objs.size) (.ref a) (.ref s.heap.objs.size)) _ _ { s with heap:=s.heap.push (seqObj "list" #[] 0) }
 have x1:SetB (s.heap.push (seqObj "list" #[] 0)) a es ep t:=x.stay λo e=>Zc _ e
 unfold Builtin.List.listExtendWith
 refine Za (WS (T:= "set") (s:={ s with heap:=s.heap.push (seqObj "list" #[] 0) }) x1.ty ?_)
 have h1:Builtin.List.listSameRef (.ref s.heap.objs.size) (.ref a)=false:=by simp[Builtin.List.listSameRef,XX jB]
 simp only[h1,show (Value.type "set" == Value.type "list")=false by decide,show (Value.type "set" == Value.type "tuple")=false by decide,Bool.or_false,Zr,ZX]
 refine Za (set_iter (A':=A.in1) (s:={ s with heap:=s.heap.push (seqObj "list" #[] 0) }) hh x1 hf hn hl hr λit vs s1 I=>?_)
 obtain⟨op,nw,kp,⟨d,e1⟩,fpO,St,hni,hfo,hil,W,st⟩:=I
 have hz:(s.heap.push (seqObj "list" #[] 0)).objs.size=s.heap.objs.size+1:=Yh ..
 have nw':s.heap.objs.size+1<=it:=by rw[<- hz];exact nw
 have v0:s.heap.objs.size∉it::a::fpO:=by
  intro z
  rcases Zs.mp z with z|z
  ·exact absurd z (Zl nw')
  ·rcases Zs.mp z with z|z
   ·exact absurd z (XX jB)
   ·have:=(hfo _ z).1
    rw[hz] at this
    exact absurd this (Nat.not_le.mpr (YT _))
 have x2:SetB s1.heap a es ep t:=x1.stay λo e=>kp _ _ e
 have hS1:=kp _ _ hS
 have key:∀(h:Heap) (c₁ tk:Nat),St 0 h->(∀b o,b≠s.heap.objs.size->s1.heap.get? b=some o->h.get? b=some o)->h.get? s.heap.objs.size=some (seqObj "list" #[] c₁) ->
   codeAny (model prog w) A (.builtin "list.extend.loop" ⟨[.ref s.heap.objs.size,.ref it,.ref s.heap.objs.size],[]⟩) (wants (λv s'=>wpAny (model prog w) A (match v with|.ref a=>(do let ob <- load a;match ob.data with|.seq xs _=>pure xs.toList|_=>unsupported "internal:collect")|_=>unsupported "internal:collect") Q E s') E) { s with heap:=h,drawn:=d,toks:=tk }:=by
  intro h c₁ tk kB hk hSl
  refine codeAny_extend_loopS W.toS hn s.heap.objs.size v0 (.ref s.heap.objs.size) es.size 0 _ #[] c₁ rfl (Zo _) kB hSl (ItemsOf.nil _) λs' acc' c' hm hS' jH=>?_
  rw[Moved.eq_with hm]
  show wpAny _ A (load s.heap.objs.size >>= _) _ _ _
  refine Za (wpAny_load hS' ?_)
  have ev:acc'.toList=vs:=by
   have hvl:vs.length=es.size:=by rw[op.length_eq,Zf,ZL]
   refine Xd λi=>?_
   rw[Z6]
   by_cases hi:i<acc'.size
   ·have:=jH.2 i acc'[i] (Yo hi)
    rw[Yo hi,this]
   ·rw[X4 (by lia),Yk (by rw[hvl,<- jH.1];lia)]
  refine Zb ?_
  show Q acc'.toList _
  rw[ev]
  refine hQ vs s'.heap s'.toks d op λb o e=>?_
  have hb:=Zi e
  have e2:s1.heap.get? b=some o:=kp _ _ (Zc _ e)
  refine hm.heap b o (λz=>?_) (hk b o (Zl hb) e2)
  rcases Zs.mp z with z|z
  ·exact Zl hb z
  ·exact Zl (ZN (ZZ hb) nw') (Y7.mp z)
 rw[e1]
 refine Za (Z5 (xg6 (s:={ s with heap:=s1.heap,drawn:=d }) x2.ty ?_))
 refine ZO (λ_=>?_) (λ_=>Zb ⟨XD VP _,key _ 0 _ st (λb o _ e=>e) hS1⟩)
 refine Za (Y5 ?_)
 refine Za ?_
 show wpAny _ _ (updateSeq s.heap.objs.size (·.push .none) >>= λ_=>updateSeq s.heap.objs.size (·.pop)) _ _ _
 refine Za (wpAny_updateSeq hS1 rfl ?_)
 have wT:=ZY (Obj.mapSeq (·.push Value.none)) hS1 rfl
 refine wpAny_updateSeq (hz:=by seq_fits) wT rfl ?_
 have hS3:=ZY (Obj.mapSeq (·.pop)) wT rfl
 refine Zb ⟨XD VP _,key _ _ _ ?_ (λb o hb e=>?_) hS3⟩
 ·refine W.frame 0 _ _ st λb hb o e=>?_
  have hbS:b≠s.heap.objs.size:=λh=>v0 (h▸hb)
  exact (YW _ _ (Xr hbS)).trans ((YW _ _ (Xr hbS)).trans e)
 ·exact (YW _ _ (Xr hb)).trans ((YW _ _ (Xr hb)).trans e)
end
theorem xq5 (t:SetTable) (es:Array (Int×Value)) (h:Int) (x:Value):(layNew t es h x).2.1.led=t.led:=by
 unfold layNew
 split
 ·show (SetTable.orStandIn _ _).led=t.led
  unfold SetTable.orStandIn
  split<;>rfl
 ·rfl
theorem qM4 (t:SetTable) (es:Array (Int×Value)) (n:Nat):(relayAll t es n).2.1.led=t.led/\((relayAll t es n).2.1.plain=true->t.plain=true):=by
 unfold relayAll
 split
 ·rename_i t' order e
  dsimp only
  split
  ·have:t'.led=t.led/\t'.plain=t.plain:=by
    unfold SetTable.relaid SetTable.laid at e
    cases ho:SetTable.layClean (SetTable.sizeAbove n-1) (es.map (·.1)) with
    |none=>rw[ho] at e;cases e
    |some owner=>
     rw[ho] at e
     have e:=ZK e
     injection e with e1 _
     rw[<- e1]
     exact⟨rfl,rfl⟩
   exact⟨this.1,λz=>by rw[<- this.2];exact z⟩
  ·exact⟨rfl,λz=>nomatch z⟩
 ·exact⟨rfl,λz=>nomatch z⟩
section
variable {prog:Program}{w:World}{K:Type}[DecidableEq K] (knd:KeyKind prog w K)
def EntK (e:Int×Value) (k:K):Prop:=knd.is k e.2=true/\e.1=knd.hash k/\e.2.scannable=true
def TxS (h:Heap) (a:Addr) (ks:List K):Prop:=∃es ep t,SetB h a es ep t/\t.fits es.size=true/\t.led=(!w.params.followText "set-order")/\(t.plain=true->es.size=0)/\es.size<scanBound/\∃ks',Paired (EntK knd) es.toList ks'/\ks'.Nodup/\∀k,k∈ks'<->k∈ks
variable {knd}
variable {A:Around}{E:Value->Shared->Prop}{s:Shared}
theorem TxS.stay {h h':Heap}{a:Addr}{ks:List K}(x:TxS knd h a ks) (k:∀o,h.get? a=some o->h'.get? a=some o):TxS knd h' a ks:=by
 obtain⟨es,ep,t,b,r⟩:=x
 exact⟨es,ep,t,b.stay k,r⟩
theorem TxS.congr {h:Heap}{a:Addr}{ks ks2:List K}(x:TxS knd h a ks) (e:∀k,k∈ks<->k∈ks2):TxS knd h a ks2:=by
 obtain⟨es,ep,t,b,h1,h2,h3,h4,ks',h5,h6,h7⟩:=x
 exact⟨es,ep,t,b,h1,h2,h3,h4,ks',h5,h6,λk=>(h7 k).trans (e k)⟩
theorem xq6 {h:Heap}{a:Addr}(e:h.get? a=some (SetT.newS (!w.params.followText "set-order"))):TxS knd h a []:=
 ⟨#[],0,_,⟨_,e,⟨rfl,rfl,rfl⟩,rfl⟩,rfl,rfl,λ_=>rfl,by decide,[],.nil,YM,λ_=>Iff.rfl⟩
theorem q92 {l:List (Int×Value)}{ks:List K}(p:Paired (EntK knd) l ks):ElemsOf knd l:=λe he=>by
 obtain⟨i,hi,rfl⟩:=ZJ.mp he
 obtain⟨k,_,h1,h2,h3⟩:=qe3 p i _ (Ze hi)
 exact⟨⟨k,h1,h2⟩,h3⟩
theorem qw6 {α β:Type}{R:α->β->Prop}{x:α}{y:β}(h:R x y):∀{l:List α}{m:List β},Paired R l m->Paired R (l++[x]) (m++[y])
 |_,_,.nil=>.cons h .nil
 |_,_,.cons a r=>.cons a (qw6 h r)
theorem xq7 {a:Addr}{ks:List K}{k:K}{x:Value}{Q:Bool->Shared->Prop}(kG:knd.is k x=true) (kM:x.scannable=true) (jF:plainKind x=false) (hS:TxS knd s.heap a ks) (hroom:ks.length+1<scanBound)
  (h:∀b h',Heap.SameBut a s.heap h'->TxS knd h' a (k::ks)->Q b { s with heap:=h' }):wpAny (model prog w) A (setAddHashed a x (knd.hash k)) Q E s:=by
 obtain⟨es,ep,t,⟨o,ho,kX,hd⟩,hf,kF,wD,hb,ks',hp,kE,jI⟩:=hS
 have vM:=q92 hp
 have j9:es.size=ks'.length:=by have:=YD hp;simpa using this
 have hle:ks'.length<=ks.length:=by
  have:∀(l m:List K),l.Nodup->(∀k,k∈l->k∈m)->l.length<=m.length:=λl=>by
   induction l with
   |nil=>intro m _ _;exact Zo _
   |cons y l ih=>
    intro m nd sub
    obtain⟨n1,n2⟩:=Yg.mp nd
    have hy:=sub y (by simp)
    have:=ih (m.erase y) n2 λz hz=>(Vp (λe=>n1 (by rw[<- e];exact hz))).mpr (sub z (by simp[hz]))
    rw[WE hy] at this
    have:=WW hy
    rw[ZQ]
    lia
  exact this _ _ kE λk hk=>(jI k).mp hk
 have kZ:es.size+1<scanBound:=by lia
 unfold setAddHashed setAddHashedIn
 refine Z5 (Za (Z0 ho hd hf ?_))
 dsimp only
 rw[byScan_of kM hb vM]
 simp only[↓reduceIte]
 unfold setAddByScan
 refine Za ?_
 refine Za (Y5 ?_)
 refine Za (wpAny_setScan_of kG ho hd hf vM ?_)
 cases hr:List.findIdx? (λe=>knd.is k e.2) es.toList with
 |some j=>
  dsimp only
  obtain⟨hj,hpj,_⟩:=List.findIdx?_eq_some_iff_getElem.mp hr
  obtain⟨k1,e1,e2,_⟩:=qe3 hp j _ (Ze hj)
  have ek:k1=k:=knd.inj _ _ _ e2 hpj
  subst ek
  have k9:k1∈ks':=Zv e1
  refine Zb (Zb ?_)
  have e:s={ s with heap:=s.heap }:=by cases s;rfl
  rw[e]
  exact h _ s.heap (We a s.heap) ⟨es,ep,t,⟨o,ho,kX,hd⟩,hf,kF,wD,hb,ks',hp,kE,λk'=>⟨λz=>Zn _ ((jI k').mp z),λz=>(Zs.mp z).elim (λe=>by rw[e];exact k9) (λz=>(jI k').mpr z)⟩⟩
 |none=>
  dsimp only
  have hni:k∉ks':=λhk=>by
   obtain⟨i,hi,ei⟩:=ZJ.mp hk
   have hie:i<es.toList.length:=by rw[ZL,j9];exact hi
   obtain⟨k1,e1,e2,_⟩:=qe3 hp i _ (Ze hie)
   rw[Ze hi,ei] at e1
   cases e1
   have:=List.findIdx?_eq_none_iff.mp hr _ (Y6 hie)
   rw[e2] at this
   cases this
  have hgw:∀(b:Bool){s₁:Shared}{Q':Unit->Shared->Prop},Q' () s₁->wpAny (model prog w) A (match b with|true=>rule "set.scan.the-table-gave-way" | false=>pure ()) Q' E s₁:=λb s₁ Q' hq=>by cases b<;>first|exact Zb hq|exact Y5 hq
  have hperm:=layNew_perm t es (knd.hash k) x
  have hfits:=layNew_fits t es (knd.hash k) x
  have jV:=xq5 t es (knd.hash k) x
  generalize hL:layNew t es (knd.hash k) x=L at hperm hfits jV ⊢
  obtain⟨es1,t1,wasDummy,gave⟩:=L
  dsimp only at hperm hfits jV ⊢
  rw[Xf] at hperm
  obtain⟨ks1,p1,kp⟩:=qd5 hperm (qw6 (show EntK knd (knd.hash k,x) k from ⟨kG,rfl,kM⟩) hp)
  have nd1:ks1.Nodup:=kp.nodup_iff.mpr (Xc.mpr ⟨kE,by simp,λu hu v hv e=>hni (by rw[Y7.mp hv] at e;rw[<- e];exact hu)⟩)
  have mem1:∀k',k'∈ks1<->k'∈k::ks:=λk'=>by
   rw[kp.mem_iff,ZW,Y7,Zs,jI,or_comm]
  have hsz1:es1.size<scanBound:=by
   have:=hperm.length_eq
   rw[ZL,Zw,ZL] at this
   simp at this
   lia
  refine Za (hgw _ ?_)
  have tail:∀(t2:SetTable),t2.fits es1.size=true->t2.led=t.led->t2.plain=false->wpAny (model prog w) A (do
    storeSet a es1 t2
    if (!wasDummy&&t2.tooFull)=true then do
      (match (relayAll t2 es1 (SetTable.grown es1.size)).2.2 with|true=>rule "set.scan.the-table-gave-way" | false=>pure ())
      storeSet a (relayAll t2 es1 (SetTable.grown es1.size)).1 (relayAll t2 es1 (SetTable.grown es1.size)).2.1
      pure (some true)
     else pure (some true)) (λr s'=>wpAny (model prog w) A (match r with|some added=>pure added|none=>setAddHashedIn a x (knd.hash k) 99999) Q E s') E s:=λt2 hf2 jM jP=>by
   refine Za (WZ ho hd ?_ (V0 hsz1))
   have vD:(s.heap.update a (Obj.putSet es1 t2)).get? a=some { o with data:=.set es1 (ep+1) t2 }:=by
    have:=ZY (Obj.putSet es1 t2) ho (by rw[V5 es1 t2 hd];rfl)
    rw[V5 es1 t2 hd] at this;exact this
   have hsb1:=ZV s.heap a (Obj.putSet es1 t2)
   refine ZO (λ_=>?_) (λ_=>?_)
   ·have hq:=relayAll_perm t2 es1 (SetTable.grown es1.size)
    have jQ:=relayAll_fits t2 es1 (SetTable.grown es1.size)
    obtain⟨g1,g2⟩:=qM4 t2 es1 (SetTable.grown es1.size)
    generalize relayAll t2 es1 (SetTable.grown es1.size)=Rl at hq jQ g1 g2 ⊢
    obtain⟨es2,t3,gave2⟩:=Rl
    dsimp only at hq jQ g1 g2 ⊢
    obtain⟨ks2,p2,kp2⟩:=qd5 hq p1
    have hsz2:es2.size=es1.size:=by have:=hq.length_eq;simpa using this
    refine Za (hgw _ ?_)
    refine Za (WZ vD rfl ?_ (V0 (by lia)))
    have ho2:((s.heap.update a (Obj.putSet es1 t2)).update a (Obj.putSet es2 t3)).get? a=some { o with data:=.set es2 (ep+1+1) t3 }:=by
     have:=ZY (Obj.putSet es2 t3) vD (by rw[V5 es2 t3 rfl];rfl)
     rw[V5 es2 t3 rfl] at this;exact this
    refine Zb (Zb (h _ _ (hsb1.trans (ZV _ a _)) ⟨es2,_,t3,⟨_,ho2,kX,rfl⟩,jQ,(by rw[g1,jM];exact kF),λz=>?_,by lia,ks2,p2,kp2.nodup_iff.mpr nd1,λk'=>kp2.mem_iff.trans (mem1 k')⟩))
    have:=g2 z
    rw[jP] at this;cases this
   ·exact Zb (Zb (h _ _ hsb1 ⟨es1,_,t2,⟨_,vD,kX,rfl⟩,hf2,(by rw[jM];exact kF),(λz=>by rw[jP] at z;cases z),hsz1,ks1,p1,nd1,mem1⟩))
  cases hpl1:t1.plain with
  |true=>
   rw[Zz rfl]
   rw[hashByValue_scannable 8 kM,jF]
   refine Za (Zb ?_)
   rw[Zq Zt]
   exact tail _ (SetTable.fits_plain_off hfits) jV rfl
  |false=>
   rw[Zq Zt]
   refine Za (Zb ?_)
   rw[Zz rfl]
   exact tail _ hfits jV hpl1
end
section
variable {prog:Program}{w:World}{A:Around}{E:Value->Shared->Prop}{s:Shared}
theorem xq8 (a:Value){Q₁:Value->Shared->Prop}(h:Q₁ (.ref s.heap.objs.size) { s with heap:=s.heap.push (SetT.newS (!w.params.followText "set-order")) }) :
  codeAny (model prog w) A (.call (.builtin "set.__new__") ⟨[.type "set",a],[]⟩) (wants Q₁ E) s:=by
 refine Vs ?_
 show wpAny _ A.in1 (do checkBuiltinCall "set.__new__" ⟨[.type "set",a],[]⟩;again (.builtin "set.__new__" ⟨[.type "set",a],[]⟩)) _ _ s
 refine Za (VT (PySem.F.newCall_set_1 a) (Zb ⟨XD PySem.F.plain_set_new _,Yn PySem.F.entry_set_new ?_⟩))
 rw[Yi PySem.F.plain_set_new _]
 unfold Builtin.«set.__new__» Builtin.Frozenset.newClass
 have hsub:=sub_set_self
 obtain⟨hp,g,d,tk,os⟩:=s
 dsimp only
 wp_walk
 refine YI (Zb ?_)
 dsimp only
 simp only[newObj]
 refine Za (wpAny_alloc (Zb ?_))
 exact Zb h
end
section
variable {prog:Program}{w:World}{A:Around}{R:Result->Shared->Prop}{I:Addr}{fp wr:List Addr}{G:Array GenState->Array GenState->Prop}{n:Nat}{P:Nat->Value->Prop}{St:Nat->Shared->Prop}
theorem xq9 (W:WalksS prog w A.in1 I fp wr G n P St) (S:Addr) (v0:S∉fp) (val:Nat->Str) (hval:∀i v,P i v->∃t,v=.str (val i) t) (hb:n+1<scanBound) :
  ∀(k i:Nat) (s:Shared),n-i=k->i<=n->St i s->TxS (strKind prog w) s.heap S ((List.range i).map val) ->
   (∀s',Moved (S::wr) G s s'->TxS (strKind prog w) s'.heap S ((List.range n).map val)->R (.ok (.ret .none)) s')->codeAny (model prog w) A (.builtin "set.update.loop" ⟨[.ref S,.ref I],[]⟩) R s:=by
 have hSw:S∉wr:=λh=>v0 (W.sub _ h)
 have hsub:∀b∈wr,b∈S::wr:=λb hb=>Zn _ hb
 intro k
 induction k with
 |zero=>
  intro i s hk hi kB hS hR
  have k9:i=n:=by lia
  subst k9
  refine Yn YJ ?_
  rw[Yi Z8 _]
  show wpAny _ A.in1 (pyNext (.ref I) >>= _) _ _ s
  refine Za (W.done s _ _ kB λs' hm=>?_)
  show wpAny _ A.in1 (ret Value.none) _ _ s'
  exact Zb (hR s' (hm.mono hsub) (hS.stay λo e=>hm.heap S _ hSw e))
 |succ k ih=>
  intro i s hk hi kB hS hR
  have jB:i<n:=by lia
  refine Yn YJ ?_
  rw[Yi Z8 _]
  show wpAny _ A.in1 (pyNext (.ref I) >>= _) _ _ s
  refine Za (W.item i s _ _ jB kB λv s' hP hst' hm=>?_)
  obtain⟨t,rfl⟩:=hval i v hP
  have hS':=hS.stay λo e=>hm.heap S _ hSw e
  show wpAny _ A.in1 (holding [Value.str (val i) t] (setAdd S (.str (val i) t)) >>= _) _ _ s'
  refine Za (Z5 ?_)
  unfold setAdd
  refine Z5 ?_
  have hk:(strKind prog w).is (val i) (.str (val i) t)=true:=strKind_is _ _ _ _
  refine Za ((strKind prog w).pyHash (k:=val i) hk ?_)
  refine xq7 (s:={ s' with toks:=s'.toks+1 }) hk rfl rfl hS' (by rw[Zf,Yx];lia) λb h' wB wT=>?_
  have hSi:TxS (strKind prog w) h' S ((List.range (i+1)).map val):=wT.congr λx=>by
   rw[Xi,ZU,ZW,Zs]
   show _<->_\/x∈[val i]
   rw[Y7,or_comm]
  refine Zb ⟨XD Z8 _,ih (i+1) _ (by lia) jB (W.frame _ s' _ _ hst' (Wm _) λb hb o e=>?_) hSi λs'' hm'' hS''=>?_⟩
  ·rw[wB.2 b (λh:b=S=>v0 (by rw[<- h];exact hb))];exact e
  ·refine hR s'' (Moved.trans W.gtrans ((hm.mono hsub).then_heap (Wm _) λb o hb e=>?_) hm'') hS''
   rw[wB.2 b (λh:b=S=>hb (by rw[h];exact ZC))];exact e
end
section
variable {prog:Program}{w:World}{A:Around}{E:Value->Shared->Prop}{s:Shared}
theorem q93 {l:Addr}{items:Array Value}{val:Nat->Str}{Q:Value->Shared->Prop}(hh:A.handled=none) (hl:s.heap.IsList l items)
  (hi:∀(i:Nat) (v:Value),items[i]?=some v->∃t,v=.str (val i) t) (hb:items.size+1<scanBound)
  (h:∀(h':Heap) (tk:Nat),TxS (strKind prog w) h' s.heap.objs.size ((List.range items.size).map val)->(∀b o,b<s.heap.objs.size->s.heap.get? b=some o->h'.get? b=some o)->Q (.ref s.heap.objs.size) { s with heap:=h',toks:=tk }) :
  wpAny (model prog w) A (call (.type "set") [.ref l]) Q E s:=by
 obtain⟨c,tl,hmro⟩:=PySem.F.called_set.mro
 have made0:=PySem.F.called_set.made
 have sub0:=PySem.F.called_set.sub
 refine wpAny_call (Vs ?_)
 show wpAny _ _ (callAny (.type "set") _) _ _ _
 refine Zb ⟨VG _ (by decide +kernel),Yn PySem.F.entry_type_call ?_⟩
 rw[Around.under_plain (weight_type_call_type "set" [.ref l] []) rfl]
 have f1:=PySem.F.called_set.notType
 have f2:=PySem.F.called_set.canCreate
 have f3:=PySem.F.typeCall_set_1 (.ref l)
 repeat (any_goals first|assumption|wp_step)
 refine Ws (xq8 (.ref l) (E:=E) (Q₁:=λobj s₁=>obj=.ref s.heap.objs.size/\s₁={ s with heap:=s.heap.push (SetT.newS (!w.params.followText "set-order")) }) ⟨rfl,rfl⟩) λr s₁ hr=>?_
 generalize kF:(!w.params.followText "set-order")=led at hr
 cases r with
 |error e=>exact hr
 |ok fl=>
  cases fl with
  |ret obj=>
   obtain⟨rfl,rfl⟩:=hr
   have hS:(s.heap.push (SetT.newS led)).get? s.heap.objs.size=some (SetT.newS led):=Zh _ rfl
   have hT:Shared.TypeIs { s with heap:=s.heap.push (SetT.newS led) } (.ref s.heap.objs.size) "set":=⟨_,hS,rfl⟩
   have i1:=PySem.F.called_set.init.lookup
   have i2:=PySem.F.called_set.init.bind (.ref s.heap.objs.size)
   repeat (any_goals first|assumption|wp_step)
   refine Ws (Wl (R:=wants (λr s₂=>r=.none/\∃h' tk,s₂={ s with heap:=h',toks:=tk }/\TxS (strKind prog w) h' s.heap.objs.size ((List.range items.size).map val) /\
     (∀b o,b<s.heap.objs.size->s.heap.get? b=some o->h'.get? b=some o)) E) PySem.F.called_set.init.plain PySem.F.entry_set_init (check_set_init_1 hT ?_)) λr₂ s₂ hr₂=>?_
   ·obtain⟨ol,wE,hcl,nl,hdl⟩:=id hl
    obtain⟨ocls,odict,odata,oslots⟩:=ol
    simp only at hcl hdl
    subst hcl;subst hdl
    have hol':(s.heap.push (SetT.newS led)).get? l=some { cls:=.type "list",dict:=odict,data:=.seq items nl,slots:=oslots }:=Zc _ wE
    have st1:=PySem.F.sub_list_set
    have st2:=PySem.F.sub_list_frozenset
    have ned:(Value.type "list" == Value.type "dict")=false:=by decide
    have jV:(s.heap.push (SetT.newS led)).IsList l items:=⟨_,hol',rfl,nl,rfl⟩
    unfold Builtin.«set.__init__» noKeywords Builtin.Frozenset.updateFrom
    generalize hPI:pyIter=PI
    wp_walk
    subst hPI
    refine Xw jV ?_
    refine Za (VH ?_)
    have hlS:l<s.heap.objs.size:=Zi wE
    have hsz:(s.heap.push (SetT.newS led)).objs.size=s.heap.objs.size+1:=Yh _ _
    have hneI:l≠(s.heap.push (SetT.newS led)).objs.size:=by rw[hsz];exact Zl (ZZ hlS)
    have v0:s.heap.objs.size∉[(s.heap.push (SetT.newS led)).objs.size,l]:=by
     rw[hsz];simp only[Zs,Ww,Ur,not_or]
     exact⟨Zl (YT _),XX hlS⟩
    refine xq9 ((Ud (by simp[hh]) _ l hneI items).toS) s.heap.objs.size v0 val hi hb (items.size-0) 0 _ (by lia) (Zo _)
     ⟨⟨_,Zh _ rfl,rfl,rfl⟩,jV.push _⟩ (xq6 (by rw[kF];exact Zc _ hS)) λs' mv fin=>?_
    obtain⟨h',g',d',tk',os'⟩:=s'
    have eg:g'=s.gens:=mv.gens
    have ed:d'=s.drawn:=mv.drawn
    have eo:os'=s.os:=mv.os
    subst eg;subst ed;subst eo
    show wpAny _ _ _ _ _ _
    refine Zb ?_
    show wpAny _ _ (ret Value.none) _ _ _
    refine Zb ⟨rfl,h',tk',rfl,fin,λb o jB e=>?_⟩
    exact mv.heap b o (by rw[hsz];simp only[Zs,Ww,Ur,not_or];exact⟨Zl jB,Zl (ZZ jB)⟩) (Zc _ (Zc _ e))
   ·cases r₂ with
    |error e=>exact hr₂
    |ok fl₂=>
     cases fl₂ with
     |ret r=>
      obtain⟨rfl,h',tk,rfl,fin,kp⟩:=hr₂
      repeat (any_goals first|assumption|wp_step)
      exact h _ _ fin kp
     |_=>exact hr₂.elim
  |_=>exact hr.elim
end
section
variable {X:Cx}
def TxH (P:Program) (w:World) (r:Addr) (L:List Str):HO:=.ext λh=>TxS (strKind P w) h r L
theorem qV3 (hc:X.calm=true):qe4 X (.type "set") (λxs H Q=>∃(p:Addr) (L:List Str),xs=[.ref p]/\H p=some (.lst (L.map V.str))/\L.length+1<scanBound/\∀r,H r=none->Q (.ref r) (upd H r (TxH X.prog X.w r L))):=by
 intro j8 s σ H xs us Q I rv h
 obtain⟨p,L,rfl,hp,hsz,q⟩:=h
 obtain⟨u,rfl,ru⟩:=qe9 rv
 cases ru
 obtain⟨hz,its,n,r2,ho⟩:=I.hok p _ hp
 have jM:its.length=L.length:=by have:=r2.length;simpa using this.symm
 refine q93 (items:=its.toArray) (val:=λi=>L.getD i "") (I.ok.hd hc) ⟨_,ho,rfl,n,rfl⟩ (λi v hv=>?_) (by rw[ZG,jM];exact hsz) λh' tk fin kp=>?_
 ·have hv':its[i]?=some v:=by simpa using hv
  have hi:i<L.length:=by rw[<- jM];exact (gS_ hv').1
  obtain⟨w',e1,t,e2⟩:=r2.get (i:=i) (x:=V.str L[i]) (by simp[hi])
  rw[hv'] at e1;cases e1
  exact⟨t,by rw[e2];simp[List.getD,hi]⟩
 ·have eL:(List.range its.toArray.size).map (λi=>L.getD i "")=L:=by
   refine List.ext_getElem (by simp[jM]) λi h1 h2=>?_
   simp[List.getD,h2]
  rw[eL] at fin
  obtain⟨es,ep,t,⟨o,hoo,_⟩,_⟩:=id fin
  exact⟨.ref s.heap.objs.size,_,I.laid (a:=s.heap.objs.size) (o:=TxH X.prog X.w s.heap.objs.size L) (t':=tk) (λb o e=>kp b o (Zi e) e) (Zd _) ⟨fin,⟨o,hoo⟩,λh1 h2 φ k=>φ.stay k⟩,rfl,q _ (I.hok.fresh (Zd _))⟩
theorem qC7 (hc:X.calm=true){k:Nat}(hr:Room k X.A):qe4 X (.builtin "sorted") (λxs H Q=>∃(r:Addr) (L:List Str),xs=[.ref r]/\H r=some (TxH X.prog X.w r L) /\
  ∀q us (ls:List Str),H q=none->us=ls.map V.str->ls.Nodup->(∀x,x∈ls<->x∈L)->AscL (P:=X.prog) (w:=X.w) (atO true) H us->Q (.ref q) (upd H q (.lst us))):=by
 intro j8 s σ H xs us Q I rv h
 obtain⟨r,L,rfl,hr0,q⟩:=h
 obtain⟨u,rfl,ru⟩:=qe9 rv
 cases ru
 obtain⟨fin,_,_⟩:=(show ObjOk X.prog X.w H s.heap r (TxH X.prog X.w r L) from I.hok r _ hr0)
 obtain⟨es,ep,t,b,hf,kF,wD,wB,ks,hp,kE,jI⟩:=(show TxS (strKind X.prog X.w) s.heap r L from fin)
 have un:=hr.units
 have hz:=V0 wB
 have hps:t.place.size=es.size:=by
  have:=hf
  unfold SetTable.fits at this
  simp at this
  exact this.1
 have hrise:(!t.plain&&decide (es.size>1))=true\/SetT.Rise t.place:=by
  by_cases h1:es.size>1
  ·left
   have:t.plain=false:=by
    cases z:t.plain with
    |false=>rfl
    |true=>have:=wD z;lia
   rw[this,Zk h1];rfl
  ·right
   intro i j hi hj k5
   lia
 have key:∀vs:List Value,vs.Perm (es.toList.map (·.2))->∃ls:List Str,Vals (ls.map V.str) vs/\ls.Perm ks:=λvs hv=>by
  have pr:Paired (λ(v:Value) (x:Str)=>∃t,v=.str x t) (es.toList.map (·.2)) ks:=by
   refine qe2 (by rw[Zf];exact YD hp) λi v x h1 h2=>?_
   rw[Zg] at h1
   obtain⟨e,he,rfl⟩:=Zj.mp h1
   obtain⟨k1,e1,e2,_⟩:=qe3 hp i e he
   rw[h2] at e1
   cases e1
   exact Value.isStrOf_shape e2
  obtain⟨ls,p1,p2⟩:=qd5 hv pr
  refine⟨ls,?_,p2⟩
  clear hv p2
  induction p1 with
  |nil=>exact .nil
  |cons h _ ih=>exact .cons h ih
 refine qC1 (xC1 true) (by show _+3+0<cLine;lia) (Pv:=λvs=>∃ls:List Str,Vals (ls.map V.str) vs/\ls.Perm ks) (λvs ⟨ls,rv,pl⟩=>⟨λv hv=>?_,?_⟩) (λQ' k'=>qM3 (I.ok.hd hc) b hf hz kF hrise λvs h' tk d hv kp=>k' vs h' tk d (key vs hv) kp) λvs out h1 h2 tk d c ⟨ls,rv,pl⟩ k1 k2 he o1 o2=>?_
 ·obtain⟨x,hx,rx⟩:=qC2 rv hv
  obtain⟨y,_,rfl⟩:=ZH.mp hx
  exact⟨_,qM0 (P:=X.prog) (w:=X.w) y _ _ I.hok rx⟩
 ·have h1:=rv.length
  rw[Zf,pl.length_eq] at h1
  have h2:=YD hp
  simp at h2
  lia
 ·obtain⟨xs',r',p'⟩:=qw3 o1 rv
  have prs:Paired (λ(v:V) (x:Str)=>v=.str x) (ls.map V.str) ls:=qe2 (by rw[Zf]) λi v x h1 h2=>by
   rw[Zg,h2] at h1
   exact (ZK h1).symm
  obtain⟨ls2,q1,q2⟩:=qd5 p' prs
  have ex:xs'=ls2.map V.str:=by
   clear r' p' q2
   induction q1 with
   |nil=>rfl
   |cons h _ ih=>rw[h,ih];rfl
  have I1:=I.keptD (t':=tk) (d':=d) k1
  refine⟨.ref _,_,I1.laid (a:=h1.objs.size) (o:=.lst xs') (t':=tk) (λb o z=>k2 b o z) (Zd _) ⟨?_,out.toList,c,r',by simpa using he⟩,rfl,q _ xs' ls2 (I1.hok.fresh (Zd _)) ex ((q2.trans pl).nodup_iff.mpr kE) (λx=>(q2.trans pl).mem_iff.trans (jI x)) (qC3 I.hok r' o2)⟩
  have h3:=p'.length_eq
  rw[Zf,pl.length_eq] at h3
  have h2:=YD hp
  simp at h2
  lia
end
end L2
namespace Qf
def qV4 (n:Nat) (b:Row):Prop:=∃r c h w,b=[r,c,h,w]/\1<=h/\1<=w/\r+h<=2^n/\c+w<=2^n
def xr0 (b:Row):Prop:=∃r c h w,b=[r,c,h,w]/\((h<=9/\w<=9)\/∃s i j,h=2^s/\w=2^s/\r=i*2^s/\c=j*2^s)
def xg7 (n:Nat) (bs:List Row):Prop:=(∀b∈bs,qV4 n b)/\((n<4/\bs.length<=64)\/(bs.length<=5/\∀b∈bs,xr0 b))
theorem qw7 (k:Nat):(1:Int)*2^((k:Int)).toNat=((2^k:Nat):Int):=by
 rw[Zy,Uo];push_cast;rfl
theorem qk5 {n:Nat}(h:n<=12):2^n<=4096/\0<2^n:=⟨by
 have:=YB (n:=2) (by decide) h
 simpa using this,Z7 (by decide)⟩
end Qf
namespace Pr
open PySem L2 Qf
section
variable {P:Program}{w:World}{K:PySem.W.Frag}{mg:Str->Option Value}{base:Heap}
theorem scBox:FnScope ["_law_pot_here", "_law_n", "_law_most", "_law_side", "_law_size", "_law_row", "_law_column", "_law_high", "_law_wide"] ["_law_pot_here", "_law_n", "_law_most"] (qa3 lBox):=qc6
def xr1:Sp:=λvs H Q _=>∃(p:Addr) (n:Nat),vs=[.ref p,.int (n:Nat),.int 9]/\PurseAt H p/\n<=12 /\
 ∀(H':Hp) (t:Addr) (b:Row),But p H H'->PurseAt H' p->H' t=some (.tup (vN b))->qV4 n b->xr0 b->Q (.ref t) H'
theorem xx3 {f fD:Addr}{fd fdD:FuncData}(F:Fun K "_law_box" "_law_box" lBox f fd) (B:Blt mg) (hD:mg "_law_digit" = some (.ref fD)) (FD:Fun K "_law_digit" "_law_digit" qu3 fD fdD) (bD:Binds K fdD ["_law_pot_here", "_law_many"] []) :
  FnOk P w K mg base CX0 2 f fd ["_law_pot_here", "_law_n", "_law_most"] xr1:=by
 have GD:FnOk P w K mg base CX0 1 fD fdD ["_law_pot_here", "_law_many"] qo5:=qr6 FD
 refine F.ok scBox (λvs H Q E h=>?_) (λcdv A outer s H vs Q E hr h=>?_)
 ·obtain⟨p,n,rfl,_⟩:=h
  rfl
 ·obtain⟨p,n,rfl,hp,hn,q⟩:=h
  refine seqE ⟨_,⟨psN 3 scBox.nd (qa5 qi3 qa4 (pv 1))⟩,?_⟩
  refine seqE ⟨_,⟨qd8 (qb6 xk4 (pcN GD hr hD FD.kp bD (qa0 (pv 0) (qa0 qa4 qa1))) qa4 (qb5 _))
   (StB.go (.cons ⟨psN 4 scBox.nd (pcN GD hr hD FD.kp bD (qa0 (pv 0) (qa0 (qa5 qd1 (pv 1) qa4) qa1)))⟩
    (.cons ⟨psN 5 scBox.nd (qa5 qf4 (pcN GD hr hD FD.kp bD (qa0 (pv 0) (qa0 (qa5 qi3 qa4 (qa5 qf0 (pv 1) (pv 4))) qa1))) (qa5 qi3 qa4 (pv 4)))⟩
    (.cons ⟨psN 6 scBox.nd (qa5 qf4 (pcN GD hr hD FD.kp bD (qa0 (pv 0) (qa0 (qa5 qi3 qa4 (qa5 qf0 (pv 1) (pv 4))) qa1))) (qa5 qi3 qa4 (pv 4)))⟩
    (.one ⟨qa9 (qi4 (Ars2.go (.cons ⟨pv 5⟩ (.cons ⟨pv 6⟩ (.cons ⟨qa5 qi3 qa4 (pv 4)⟩ (.cons ⟨qa5 qi3 qa4 (pv 4)⟩ .nil rfl) rfl) rfl) rfl)))⟩))))) qb3⟩,?_⟩
  refine seqE ⟨_,⟨psN 5 scBox.nd (pcN GD hr hD FD.kp bD (qa0 (pv 0) (qa0 (pv 3) qa1)))⟩,?_⟩
  refine seqE ⟨_,⟨psN 6 scBox.nd (pcN GD hr hD FD.kp bD (qa0 (pv 0) (qa0 (pv 3) qa1)))⟩,?_⟩
  refine seqE ⟨_,⟨psN 7 scBox.nd (qa5 qd1 qa4 (pcN GD hr hD FD.kp bD (qa0 (pv 0) (qa0 (qa8 (qs3 rfl) (by rfl) B.min Vi (qa0 (pv 2) (qa0 (qa5 qf0 (pv 3) (pv 5)) qa1))) qa1))))⟩,?_⟩
  refine seqE ⟨_,⟨psN 8 scBox.nd (qa5 qd1 qa4 (pcN GD hr hD FD.kp bD (qa0 (pv 0) (qa0 (qa8 (qs3 rfl) (by rfl) B.min Vi (qa0 (pv 2) (qa0 (qa5 qf0 (pv 3) (pv 6)) qa1))) qa1))))⟩,?_⟩
  refine qh7 ⟨_,⟨qa9 (qi4 (Ars2.go (.cons ⟨pv 5⟩ (.cons ⟨pv 6⟩ (.cons ⟨pv 7⟩ (.cons ⟨pv 8⟩ .nil rfl) rfl) rfl) rfl)))⟩,?_⟩
  obtain⟨p1,p2⟩:=qk5 hn
  refine⟨_,rfl,_,_,rfl,rfl,⟨by lia,by lia,by decide⟩,?_⟩
  refine⟨_,rfl,p,2,rfl,hp,by decide,by decide,λd H1 hd b1 kU=>⟨rfl,_,rfl,?_⟩⟩
  refine ite2 (λhc=>?_) (λhc=>?_)
  ·refine⟨_,rfl,_,rfl,_,_,rfl,rfl,p,n+1,rfl,kU,by lia,by lia,λz H2 hz b2 jP=>?_⟩
   have hzn:z<=n:=by lia
   obtain⟨s1,s2⟩:=qk5 (ZE hzn hn)
   obtain⟨m1,m2⟩:=qk5 (ZE (Nat.sub_le n z) hn)
   have em:(1:Int)*2^((n:Int)-(z:Int)).toNat=((2^(n-z):Nat):Int):=by
    rw[<- qw7 (n-z)]
    congr 3
    lia
   have ez:=qw7 z
   have hsplit:2^(n-z)*2^z=2^n:=by rw[<- Xl];congr 1;lia
   refine⟨_,rfl,_,rfl,_,rfl,_,_,rfl,rfl,_,_,rfl,rfl,⟨by lia,by lia,by decide⟩,p,2^(n-z),Yd (λx=>[V.ref p,V.int x]) em,jP,m2,by lia,λi H3 hi b3 kS=>?_⟩
   refine⟨_,rfl,_,_,rfl,rfl,⟨by lia,by lia,by decide⟩,_,_,rfl,rfl,.inl ⟨by lia,by lia⟩,?_⟩
   refine⟨_,rfl,_,rfl,_,rfl,_,_,rfl,rfl,_,_,rfl,rfl,⟨by lia,by lia,by decide⟩,p,2^(n-z),Yd (λx=>[V.ref p,V.int x]) em,kS,m2,by lia,λj H4 hj b4 vS=>?_⟩
   refine⟨_,rfl,_,_,rfl,rfl,⟨by lia,by lia,by decide⟩,_,_,rfl,rfl,.inl ⟨by lia,by lia⟩,?_⟩
   refine⟨_,rfl,_,rfl,_,rfl,_,_,rfl,rfl,⟨by lia,by lia,by decide⟩,_,rfl,_,_,rfl,rfl,⟨by lia,by lia,by decide⟩,(by show 4<=sizeLine;decide),λt ht=>?_⟩
   have bnd:∀i,i<2^(n-z)->i*2^z+2^z<=2^n:=λi hi=>by
    rw[<- hsplit,<- Xa]
    exact YC _ hi
   refine q _ t [i*2^z,j*2^z,2^z,2^z] ((((b1.trans b2).trans b3).trans b4).trans (But.of (qb7 ht))) (vS.same (qb7 ht)) ?_ ⟨_,_,_,_,rfl,s2,s2,bnd i hi,bnd j hj⟩ ⟨_,_,_,_,rfl,.inr ⟨z,i,j,rfl,rfl,rfl,rfl⟩⟩
   rw[qa2]
   show some (HO.tup [V.int ((i:Int)*(1*2^((z:Int)).toNat)),V.int ((j:Int)*(1*2^((z:Int)).toNat)),V.int (1*2^((z:Int)).toNat),V.int (1*2^((z:Int)).toNat)])=some (HO.tup [V.int ((i*2^z:Nat):Int),V.int ((j*2^z:Nat):Int),V.int ((2^z:Nat):Int),V.int ((2^z:Nat):Int)])
   rw[ez]
   push_cast
   rfl
  ·have es:=qw7 n
   have hside:[V.ref p,V.int ((1:Int)*2^((n:Int)).toNat)]=[V.ref p,V.int ((2^n:Nat):Int)]:=by rw[es]
   refine⟨_,rfl,_,rfl,p,2^n,hside,kU,p2,by lia,λr H2 kC b2 jP=>?_⟩
   refine⟨_,rfl,_,rfl,p,2^n,hside,jP,p2,by lia,λc H3 hc3 b3 kS=>?_⟩
   have emin:∀r:Nat,r<2^n->[V.ref p,V.int (if (1:Int)*2^((n:Int)).toNat-(r:Int)<9 then (1:Int)*2^((n:Int)).toNat-(r:Int) else 9)]=[V.ref p,V.int ((min 9 (2^n-r):Nat):Int)]:=λr hr=>by
    rw[es]
    congr 3
    split<;>lia
   refine⟨_,rfl,_,rfl,_,rfl,_,rfl,_,_,rfl,rfl,_,_,rfl,p,min 9 (2^n-r),emin r kC,kS,by lia,by lia,λh H4 hh b4 vS=>?_⟩
   refine⟨_,_,rfl,rfl,?_⟩
   refine⟨_,rfl,_,rfl,_,rfl,_,rfl,_,_,rfl,rfl,_,_,rfl,p,min 9 (2^n-c),emin c hc3,vS,by lia,by lia,λw' H5 hw b5 hp5=>?_⟩
   refine⟨_,_,rfl,rfl,?_⟩
   refine⟨_,rfl,_,rfl,_,rfl,_,rfl,(by show 4<=sizeLine;decide),λt ht=>?_⟩
   refine q _ t [r,c,1+h,1+w'] (((((b1.trans b2).trans b3).trans b4).trans b5).trans (But.of (qb7 ht))) (hp5.same (qb7 ht)) ?_ ⟨_,_,_,_,rfl,by lia,by lia,by lia,by lia⟩ ⟨_,_,_,_,rfl,.inl ⟨by lia,by lia⟩⟩
   rw[qa2]
   rfl
end
end Pr
namespace Qf
open Tr
def qi8 (r c s:Nat) (b:Row):Bool:=decide (b.getD 0 0<r+s/\r<b.getD 0 0+b.getD 2 0/\c<b.getD 1 0+b.getD 3 0/\b.getD 1 0<c+s)
def hasB (r c s:Nat) (b:Row):Bool:=decide (b.getD 0 0<=r/\r+s<=b.getD 0 0+b.getD 2 0/\b.getD 1 0<=c/\c+s<=b.getD 1 0+b.getD 3 0)
def mk (a b c d:Tr):Tr:=if a=z/\b=z/\c=z/\d=z then z else if a=o/\b=o/\c=o/\d=o then o else .nd a b c d
def met (boxes:List Row) (r c s:Nat):List Row:=boxes.filter (qi8 r c s)
def bt:Nat->List Row->Nat->Nat->Tr
 |0,boxes,r,c=>if met boxes r c 1=[] then z else if (met boxes r c 1).any (hasB r c 1) then o else z
 |k+1,boxes,r,c=>if met boxes r c (2^(k+1))=[] then z else if (met boxes r c (2^(k+1))).any (hasB r c (2^(k+1))) then o else
   mk (bt k (met boxes r c (2^(k+1))) r c) (bt k (met boxes r c (2^(k+1))) r (c+2^k)) (bt k (met boxes r c (2^(k+1))) (r+2^k) c) (bt k (met boxes r c (2^(k+1))) (r+2^k) (c+2^k))
theorem xx4 {a b c d:Tr}(ha:Red a) (hb:Red b) (hc:Red c) (hd:Red d):Red (mk a b c d):=by
 unfold mk
 split
 ·trivial
 ·split
  ·trivial
  ·exact⟨by assumption,by assumption,ha,hb,hc,hd⟩
theorem qI6:∀(k:Nat) (boxes:List Row) (r c:Nat),Red (bt k boxes r c)
 |0,boxes,r,c=>by
  unfold bt
  split
  ·trivial
  ·split<;>trivial
 |k+1,boxes,r,c=>by
  unfold bt
  split
  ·trivial
  ·split
   ·trivial
   ·exact xx4 (qI6 k _ _ _) (qI6 k _ _ _) (qI6 k _ _ _) (qI6 k _ _ _)
theorem xx5 {a b c d:Tr}{k:Nat}(ha:dep a<=k) (hb:dep b<=k) (hc:dep c<=k) (hd:dep d<=k):dep (mk a b c d)<=k+1:=by
 unfold mk
 split
 ·show 0<=_;lia
 ·split
  ·show 0<=_;lia
  ·show 1+mx [dep a,dep b,dep c,dep d]<=k+1
   have:=xu7 (l:=[dep a,dep b,dep c,dep d]) (b:=k) (by
    intro x hx
    have:x=dep a\/x=dep b\/x=dep c\/x=dep d:=by simpa using hx
    rcases this with rfl|rfl|rfl|rfl<;>assumption)
   lia
theorem qI7:∀(k:Nat) (boxes:List Row) (r c:Nat),dep (bt k boxes r c)<=k
 |0,boxes,r,c=>by
  unfold bt
  split
  ·exact Zd 0
  ·split<;>exact Zd 0
 |k+1,boxes,r,c=>by
  unfold bt
  split
  ·exact Zo _
  ·split
   ·exact Zo _
   ·exact xx5 (qI7 k _ _ _) (qI7 k _ _ _) (qI7 k _ _ _) (qI7 k _ _ _)
def nds:Tr->Nat
 |.nd a b c d=>1+nds a+nds b+nds c+nds d
 |_=>0
theorem qo9:∀(t:Tr) (e:List Tr),(post t e).length<=e.length+nds t
 |.z,e=>Zd _
 |.o,e=>Zd _
 |.nd a b c d,e=>by
  unfold post
  split
  ·exact Yu _ _
  ·have h1:=qo9 a e
   have h2:=qo9 b (post a e)
   have h3:=qo9 c (post b (post a e))
   have h4:=qo9 d (post c (post b (post a e)))
   rw[Zw]
   show _+1<=e.length+(1+nds a+nds b+nds c+nds d)
   lia
theorem xj6 (a b c d:Tr):nds (mk a b c d)<=1+nds a+nds b+nds c+nds d:=by
 unfold mk
 split
 ·exact Zo _
 ·split
  ·exact Zo _
  ·exact Zd _
def cnt (b:Row):Nat->Nat->Nat->Nat
 |0,_,_=>0
 |k+1,r,c=>if qi8 r c (2^(k+1)) b=true/\hasB r c (2^(k+1)) b=false then 1+cnt b k r c+cnt b k r (c+2^k)+cnt b k (r+2^k) c+cnt b k (r+2^k) (c+2^k) else 0
def cnts (boxes:List Row) (k r c:Nat):Nat:=(boxes.map λb=>cnt b k r c).sum
theorem qM5 {p:Row->Bool}(boxes:List Row) (k r c:Nat):cnts (boxes.filter p) k r c<=cnts boxes k r c:=by
 induction boxes with
 |nil=>exact Zd _
 |cons b bs ih=>
  unfold cnts at ih ⊢
  rw[Xo]
  split
  ·simp only[ZA,Wb];lia
  ·simp only[ZA,Wb];lia
theorem qV5 {boxes:List Row}{k r c:Nat}(hm:∀b∈boxes,qi8 r c (2^(k+1)) b=true/\hasB r c (2^(k+1)) b=false) :
  cnts boxes (k+1) r c=boxes.length+cnts boxes k r c+cnts boxes k r (c+2^k)+cnts boxes k (r+2^k) c+cnts boxes k (r+2^k) (c+2^k):=by
 induction boxes with
 |nil=>rfl
 |cons b bs ih=>
  have h1:=ih λx hx=>hm x (Zn _ hx)
  have e:cnt b (k+1) r c=1+cnt b k r c+cnt b k r (c+2^k)+cnt b k (r+2^k) c+cnt b k (r+2^k) (c+2^k):=by
   show (if _ then _ else _)=_
   rw[Zz (hm b ZC)]
  unfold cnts at h1 ⊢
  simp only[ZA,Wb,ZQ,e,h1]
  lia
theorem qI8:∀(k:Nat) (boxes:List Row) (r c:Nat),nds (bt k boxes r c)<=cnts boxes k r c
 |0,boxes,r,c=>by
  unfold bt
  split
  ·exact Zo _
  ·split<;>exact Zo _
 |k+1,boxes,r,c=>by
  unfold bt
  split
  ·exact Zo _
  ·rename_i jJ
   split
   ·exact Zo _
   ·rename_i hany
    refine ZE (xj6 _ _ _ _) ?_
    have h1:=qI8 k (met boxes r c (2^(k+1))) r c
    have h2:=qI8 k (met boxes r c (2^(k+1))) r (c+2^k)
    have h3:=qI8 k (met boxes r c (2^(k+1))) (r+2^k) c
    have h4:=qI8 k (met boxes r c (2^(k+1))) (r+2^k) (c+2^k)
    have h5:cnts (met boxes r c (2^(k+1))) (k+1) r c<=cnts boxes (k+1) r c:=qM5 _ _ _ _
    have hm:∀b∈met boxes r c (2^(k+1)),qi8 r c (2^(k+1)) b=true/\hasB r c (2^(k+1)) b=false:=λb hb=>by
     refine⟨(X7.mp hb).2,?_⟩
     cases hh:hasB r c (2^(k+1)) b with
     |false=>rfl
     |true=>exact absurd (XU.mpr ⟨b,hb,hh⟩) hany
    rw[qV5 hm] at h5
    have hl:0<(met boxes r c (2^(k+1))).length:=Vw.mpr jJ
    lia
def sz:Nat->Nat
 |0=>0
 |k+1=>4*sz k+1
theorem qV6:∀(k:Nat) (boxes:List Row) (r c:Nat),nds (bt k boxes r c)<=sz k
 |0,boxes,r,c=>by
  unfold bt
  split
  ·exact Zo _
  ·split<;>exact Zo _
 |k+1,boxes,r,c=>by
  unfold bt
  split
  ·exact Zo _
  ·split
   ·exact Zo _
   ·refine ZE (xj6 _ _ _ _) ?_
    have h1:=qV6 k (met boxes r c (2^(k+1))) r c
    have h2:=qV6 k (met boxes r c (2^(k+1))) r (c+2^k)
    have h3:=qV6 k (met boxes r c (2^(k+1))) (r+2^k) c
    have h4:=qV6 k (met boxes r c (2^(k+1))) (r+2^k) (c+2^k)
    show _<=4*sz k+1
    lia
def lin (a h j:Nat):Nat->Nat->Nat
 |0,x=>0
 |k+1,x=>if j=k+1 then (if a<x+2^(k+1)/\x<a+h then 1 else 0) else lin a h j k x+lin a h j k (x+2^k)
def squ (a h c w:Nat):Nat->Nat->Nat->Nat->Nat
 |0,_,_,_=>0
 |j+1,k,x,y=>squ a h c w j k x y+lin a h (j+1) k x*lin c w (j+1) k y
theorem qI9 (a h c w:Nat):∀(j k x y:Nat),j<=k->squ a h c w j (k+1) x y=squ a h c w j k x y+squ a h c w j k x (y+2^k)+squ a h c w j k (x+2^k) y+squ a h c w j k (x+2^k) (y+2^k)
 |0,k,x,y,_=>rfl
 |j+1,k,x,y,hj=>by
  have ih:=qI9 a h c w j k x y (by lia)
  have e1:∀a h x,lin a h (j+1) (k+1) x=lin a h (j+1) k x+lin a h (j+1) k (x+2^k):=λa h x=>by
   show (if j+1=k+1 then _ else _)=_
   rw[Zq (by lia)]
  show squ a h c w j (k+1) x y+lin a h (j+1) (k+1) x*lin c w (j+1) (k+1) y=_
  rw[ih,e1,e1]
  show _=(squ a h c w j k x y+lin a h (j+1) k x*lin c w (j+1) k y)+(squ a h c w j k x (y+2^k)+lin a h (j+1) k x*lin c w (j+1) k (y+2^k))+(squ a h c w j k (x+2^k) y+lin a h (j+1) k (x+2^k)*lin c w (j+1) k y)+(squ a h c w j k (x+2^k) (y+2^k)+lin a h (j+1) k (x+2^k)*lin c w (j+1) k (y+2^k))
  generalize lin a h (j+1) k x=p,lin a h (j+1) k (x+2^k)=p',lin c w (j+1) k y=q,lin c w (j+1) k (y+2^k)=q'
  rw[Vo,Wi,Wi]
  lia
theorem qw8 (a c h w:Nat):∀(k x y:Nat),cnt [a,c,h,w] k x y<=squ a h c w k k x y
 |0,x,y=>Zd _
 |k+1,x,y=>by
  show (if qi8 x y (2^(k+1)) [a,c,h,w]=true/\_ then _ else _)<=squ a h c w k (k+1) x y+lin a h (k+1) (k+1) x*lin c w (k+1) (k+1) y
  split
  ·rename_i hm
   have m:a<x+2^(k+1)/\x<a+h/\y<c+w/\c<y+2^(k+1):=ZB hm.1
   have e1:lin a h (k+1) (k+1) x=1:=by
    show (if k+1=k+1 then (if _ then 1 else 0) else _)=1
    rw[Zz rfl,Zz ⟨m.1,m.2.1⟩]
   have e2:lin c w (k+1) (k+1) y=1:=by
    show (if k+1=k+1 then (if _ then 1 else 0) else _)=1
    rw[Zz rfl,Zz ⟨m.2.2.2,m.2.2.1⟩]
   rw[qI9 a h c w k k x y (Zd _),e1,e2]
   have h1:=qw8 a c h w k x y
   have h2:=qw8 a c h w k x (y+2^k)
   have h3:=qw8 a c h w k (x+2^k) y
   have h4:=qw8 a c h w k (x+2^k) (y+2^k)
   lia
  ·exact Zo _
theorem mm {l1 l2 u p t A:Nat}(h1:l1<=min (u+p) t-max u A) (h2:l2<=min (u+p+p) t-max (u+p) A):l1+l2<=min (u+(p+p)) t-max u A:=by
 rw[<- Nat.add_assoc]
 by_cases a:t<=u+p
 ·rw[Nat.min_eq_right a] at h1
  rw[Nat.min_eq_right (ZE a (Yu _ _))] at h2 ⊢
  have:=Nat.le_max_left (u+p) A
  lia
 ·rw[Nat.min_eq_left (V9 a)] at h1
  have m1:u+p<=min (u+p+p) t:=Nat.le_min.mpr ⟨Yu _ _,V9 a⟩
  by_cases b:A<=u+p
  ·rw[Nat.max_eq_left b] at h2
   have m2:max u A<=u+p:=Nat.max_le.mpr ⟨Yu _ _,b⟩
   lia
  ·have b':=V9 b
   rw[Nat.max_eq_right b'] at h2
   rw[Nat.max_eq_right (ZE (Yu _ _) b')] at h1 ⊢
   lia
theorem qC8 (a h j:Nat) (hh:1<=h):∀(i u:Nat),lin a h (j+1) (j+1+i) (u*2^(j+1))<=min (u+2^i) ((a+h-1)/2^(j+1)+1)-max u (a/2^(j+1))
 |0,u=>by
  have hp:0<2^(j+1):=Z7 (by decide)
  show (if j+1=j+1 then (if _ then 1 else 0) else _)<=_
  rw[Zz rfl]
  split
  ·rename_i m
   have h1:a/2^(j+1)<=u:=by
    have:a/2^(j+1)<u+1:=(Nat.div_lt_iff_lt_mul hp).mpr (by rw[Xa];exact m.1)
    lia
   have h2:u<=(a+h-1)/2^(j+1):=(Nat.le_div_iff_mul_le hp).mpr (by lia)
   rw[Nat.pow_zero]
   lia
  ·exact Zo _
 |i+1,u=>by
  have e:lin a h (j+1) (j+1+(i+1)) (u*2^(j+1))=lin a h (j+1) (j+1+i) (u*2^(j+1))+lin a h (j+1) (j+1+i) (u*2^(j+1)+2^(j+1+i)):=by
   show (if j+1=j+1+i+1 then _ else _)=_
   rw[Zq (by lia)]
   rfl
  have e2:u*2^(j+1)+2^(j+1+i)=(u+2^i)*2^(j+1):=by rw[Vo,Xl 2 (j+1) i,Yl (2^i)]
  have h1:=qC8 a h j hh i u
  have h2:=qC8 a h j hh i (u+2^i)
  have e3:2^(i+1)=2^i+2^i:=by rw[Yb];lia
  rw[e,e2,e3]
  exact mm h1 h2
def lim:Nat->Nat
 |1=>6
 |2=>4
 |3=>3
 |_=>2
theorem q94 {a h k j:Nat}(hh:1<=h) (h9:h<=9) (hj:j+1<=k):lin a h (j+1) k 0<=lim (j+1):=by
 obtain⟨i,rfl⟩:∃i,k=j+1+i:=⟨k-(j+1),by lia⟩
 have h1:=qC8 a h j hh i 0
 rw[Nat.zero_mul] at h1
 have hp:0<2^(j+1):=Z7 (by decide)
 have h2:(a+h-1)/2^(j+1)<=a/2^(j+1)+8/2^(j+1)+1:=by
  have:=Nat.add_div (a:=a) (b:=8) hp
  have h3:(a+h-1)/2^(j+1)<=(a+8)/2^(j+1):=Nat.div_le_div_right (by lia)
  split at this<;>lia
 have h4:8/2^(j+1)+2<=lim (j+1):=by
  match j with
  |0=>decide
  |1=>decide
  |2=>decide
  |j+3=>
   have:2^(j+3+1)>=16:=by
    have:=YB (n:=2) (by decide) (show 4<=j+3+1 by lia)
    simpa using this
   rw[Xn (by lia)]
   exact Zd 2
 lia
def lims:Nat->Nat
 |0=>0
 |j+1=>lims j+lim (j+1)*lim (j+1)
theorem qS2 {a h c w k:Nat}(h1:1<=h) (h2:h<=9) (w1:1<=w) (w2:w<=9):∀j,j<=k->squ a h c w j k 0 0<=lims j
 |0,_=>Zd _
 |j+1,hj=>Nat.add_le_add (qS2 h1 h2 w1 w2 j (by lia)) (VJ (q94 h1 h2 hj) (q94 w1 w2 hj))
theorem qJ0:∀{j k:Nat},j<=k->lims j<=lims k
 |j,0,h=>by rw[show j=0 by lia];exact Zd _
 |j,k+1,h=>by
  by_cases e:j=k+1
  ·rw[e];exact Zd _
  ·exact ZE (qJ0 (show j<=k by lia)) (Yu _ _)
theorem qg9 (s i j:Nat):∀(k u v:Nat),cnt [i*2^s,j*2^s,2^s,2^s] k (u*2^k) (v*2^k)<=k
 |0,u,v=>Zd _
 |k+1,u,v=>by
  show (if qi8 (u*2^(k+1)) (v*2^(k+1)) (2^(k+1)) [i*2^s,j*2^s,2^s,2^s]=true/\hasB (u*2^(k+1)) (v*2^(k+1)) (2^(k+1)) [i*2^s,j*2^s,2^s,2^s]=false then _ else _)<=_
  split
  ·rename_i hm
   have m:i*2^s<u*2^(k+1)+2^(k+1)/\u*2^(k+1)<i*2^s+2^s/\v*2^(k+1)<j*2^s+2^s/\j*2^s<v*2^(k+1)+2^(k+1):=ZB hm.1
   have nh:¬(i*2^s<=u*2^(k+1)/\u*2^(k+1)+2^(k+1)<=i*2^s+2^s/\j*2^s<=v*2^(k+1)/\v*2^(k+1)+2^(k+1)<=j*2^s+2^s):=Yz hm.2
   have mul_up:∀{x y m:Nat},0<m->x*m<y*m+m->x*m<=y*m:=λ{x y m} hm h=>by
    have:x<y+1:=VO (a:=m) (by rw[Xa];exact h)
    exact YC _ (by lia)
   have hk:s<=k:=by
    by_cases z:s<=k
    ·exact z
    ·exfalso
     apply nh
     obtain⟨d,rfl⟩:∃d,s=k+1+d:=⟨s-(k+1),by lia⟩
     have hp:0<2^(k+1):=Z7 (by decide)
     have ep:2^(k+1+d)=2^d*2^(k+1):=by rw[Xl,Yl]
     have e:∀i,i*2^(k+1+d)=i*2^d*2^(k+1):=λi=>by rw[ep,Yt]
     have e':∀i,i*2^(k+1+d)+2^(k+1+d)=(i*2^d+2^d)*2^(k+1):=λi=>by rw[Vo,<- ep,<- e]
     have low:∀u i,i*2^(k+1+d)<u*2^(k+1)+2^(k+1)->i*2^(k+1+d)<=u*2^(k+1):=λu i h=>by
      rw[e] at h ⊢
      exact mul_up hp h
     have up:∀u i,u*2^(k+1)<i*2^(k+1+d)+2^(k+1+d)->u*2^(k+1)+2^(k+1)<=i*2^(k+1+d)+2^(k+1+d):=λu i h=>by
      rw[e'] at h ⊢
      rw[<- Xa]
      exact YC _ (VO h)
     exact⟨low u i m.1,up u i m.2.1,low v j m.2.2.2,up v j m.2.2.1⟩
   obtain⟨d,rfl⟩:∃d,k=s+d:=⟨k-s,by lia⟩
   have hp:0<2^s:=Z7 (by decide)
   have es:2^(s+d)=2^d*2^s:=by rw[Xl,Yl]
   have ek:∀u,u*2^(s+d+1)=(2*u)*2^(s+d):=λu=>by rw[Yb,Yl (2^(s+d)) 2,<- Yt,Yl u 2]
   have ek2:∀u,u*2^(s+d+1)+2^(s+d)=(2*u+1)*2^(s+d):=λu=>by rw[ek];exact (Xa _ _).symm
   have half:∀u i,i*2^s+2^s<=(2*u+1)*2^(s+d)\/(2*u+1)*2^(s+d)<=i*2^s:=λu i=>by
    rw[es,<- Yt,<- Xa]
    rcases Nat.lt_or_ge i ((2*u+1)*2^d) with z|z
    ·exact .inl (YC _ z)
    ·exact .inr (YC _ z)
   have q0:∀x y,¬(x<i*2^s+2^s)\/¬(i*2^s<x+2^(s+d))\/¬(y<j*2^s+2^s)\/¬(j*2^s<y+2^(s+d))->cnt [i*2^s,j*2^s,2^s,2^s] (s+d) x y=0:=λx y hn=>by
    cases wL:s+d with
    |zero=>rfl
    |succ k'=>
     rw[wL] at hn
     show (if qi8 x y (2^(k'+1)) [i*2^s,j*2^s,2^s,2^s]=true/\_ then _ else _)=0
     rw[Zq]
     rintro⟨h1,_⟩
     have m:i*2^s<x+2^(k'+1)/\x<i*2^s+2^s/\y<j*2^s+2^s/\j*2^s<y+2^(k'+1):=ZB h1
     rcases hn with z|z|z|z
     ·exact z m.2.1
     ·exact z m.1
     ·exact z m.2.2.1
     ·exact z m.2.2.2
   have c1:=qg9 s i j (s+d) (2*u) (2*v)
   have c2:=qg9 s i j (s+d) (2*u) (2*v+1)
   have c3:=qg9 s i j (s+d) (2*u+1) (2*v)
   have c4:=qg9 s i j (s+d) (2*u+1) (2*v+1)
   rw[ek2,ek2,ek,ek]
   have st:∀u:Nat,(2*u)*2^(s+d)+2^(s+d)=(2*u+1)*2^(s+d):=λu=>(Xa _ _).symm
   rcases half u i with hu|hu
   ·have z3:=q0 ((2*u+1)*2^(s+d)) ((2*v)*2^(s+d)) (.inl (by lia))
    have z4:=q0 ((2*u+1)*2^(s+d)) ((2*v+1)*2^(s+d)) (.inl (by lia))
    rcases half v j with hv|hv
    ·have z2:=q0 ((2*u)*2^(s+d)) ((2*v+1)*2^(s+d)) (.inr (.inr (.inl (by lia))))
     lia
    ·have z1:=q0 ((2*u)*2^(s+d)) ((2*v)*2^(s+d)) (.inr (.inr (.inr (by rw[st];lia))))
     lia
   ·have z1:=q0 ((2*u)*2^(s+d)) ((2*v)*2^(s+d)) (.inr (.inl (by rw[st];lia)))
    have z2:=q0 ((2*u)*2^(s+d)) ((2*v+1)*2^(s+d)) (.inr (.inl (by rw[st];lia)))
    rcases half v j with hv|hv
    ·have z4:=q0 ((2*u+1)*2^(s+d)) ((2*v+1)*2^(s+d)) (.inr (.inr (.inl (by lia))))
     lia
    ·have z3:=q0 ((2*u+1)*2^(s+d)) ((2*v)*2^(s+d)) (.inr (.inr (.inr (by rw[st];lia))))
     lia
  ·exact Zo _
theorem qJ1 {n:Nat}{bs:List Row}(hn:n<=12) (h:xg7 n bs):nds (bt n bs 0 0)<=485:=by
 rcases h.2 with ⟨h4,_⟩|⟨h5,hs⟩
 ·refine ZE (qV6 n bs 0 0) ?_
  match n,h4 with
  |0,_|1,_|2,_|3,_=>decide
 ·refine ZE (qI8 n bs 0 0) ?_
  have each:∀b∈bs,cnt b n 0 0<=97:=λb hb=>by
   obtain⟨r,c,hh,w,rfl,h1,w1,_⟩:=h.1 b hb
   obtain⟨r',c',hh',w',e,sm⟩:=hs _ hb
   simp only[Y3,Ul] at e
   obtain⟨rfl,rfl,rfl,rfl⟩:=e
   rcases sm with ⟨h9,w9⟩|⟨s,i,j,rfl,rfl,rfl,rfl⟩
   ·refine ZE (qw8 r c hh w n 0 0) (ZE (qS2 h1 h9 w1 w9 n (Zd _)) (ZE (qJ0 hn) (by decide)))
   ·have:=qg9 s i j n 0 0
    rw[Nat.zero_mul] at this
    lia
  unfold cnts
  have gen:∀l:List Row,(∀b∈l,cnt b n 0 0<=97)->(l.map λb=>cnt b n 0 0).sum<=l.length*97:=λl hl=>by
   induction l with
   |nil=>exact Zo _
   |cons b l ih=>
    have h1:=hl b ZC
    have h2:=ih λx hx=>hl x (Zn _ hx)
    rw[ZA,Wb,ZQ,Xa]
    lia
  have:=gen bs each
  lia
theorem kp0 {t0 t1 t2 t3:Tr}{L L4:List Tr}(e4:L4=post t3 (post t2 (post t1 (post t0 L)))) (z:[0,0,0,0]=[name L4 t0,name L4 t1,name L4 t2,name L4 t3].map λx:Nat=>(x:Int)):L4=L/\mk t0 t1 t2 t3=.z/\name L4 t0=0:=by
 simp only[ZA,Ua,Y3,Ul] at z
 have g0:=qe8 (L:=L4) (t:=t0) (by lia)
 have g1:=qe8 (L:=L4) (t:=t1) (by lia)
 have g2:=qe8 (L:=L4) (t:=t2) (by lia)
 have g3:=qe8 (L:=L4) (t:=t3) (by lia)
 subst g0 g1 g2 g3
 exact⟨e4,rfl,rfl⟩
theorem kp1 {t0 t1 t2 t3:Tr}{L L4:List Tr}(e4:L4=post t3 (post t2 (post t1 (post t0 L)))) (z:[1,1,1,1]=[name L4 t0,name L4 t1,name L4 t2,name L4 t3].map λx:Nat=>(x:Int)):L4=L/\mk t0 t1 t2 t3=.o/\name L4 t0=1:=by
 simp only[ZA,Ua,Y3,Ul] at z
 have g0:=qg1 (L:=L4) (t:=t0) (by lia)
 have g1:=qg1 (L:=L4) (t:=t1) (by lia)
 have g2:=qg1 (L:=L4) (t:=t2) (by lia)
 have g3:=qg1 (L:=L4) (t:=t3) (by lia)
 subst g0 g1 g2 g3
 exact⟨e4,rfl,rfl⟩
theorem kpn {t0 t1 t2 t3:Tr}{L4:List Tr}(hc:¬(decide ([0,0,0,0]=[name L4 t0,name L4 t1,name L4 t2,name L4 t3].map λx:Nat=>(x:Int))||decide ([1,1,1,1]=[name L4 t0,name L4 t1,name L4 t2,name L4 t3].map λx:Nat=>(x:Int)))=true):mk t0 t1 t2 t3=.nd t0 t1 t2 t3:=by
 unfold mk
 rw[Zq,Zq]
 ·rintro⟨rfl,rfl,rfl,rfl⟩
  exact hc (by rw[Vt];exact .inr (Zk rfl))
 ·rintro⟨rfl,rfl,rfl,rfl⟩
  exact hc (by rw[Vt];exact .inl (Zk rfl))
theorem kpi {t0 t1 t2 t3:Tr}{L L4:List Tr}(hO:Ord L) (e4:L4=post t3 (post t2 (post t1 (post t0 L)))) (wR:Tr.nd t0 t1 t2 t3∈L4):Tr.nd t0 t1 t2 t3∈L/\L4=L:=by
 have wH:Tr.nd t0 t1 t2 t3∈L:=by
  by_cases zz:Tr.nd t0 t1 t2 t3∈L
  ·exact zz
  ·exact absurd (e4▸wR) (Tr.not_below zz)
 obtain⟨i,hi,ei⟩:=ZJ.mp wH
 have kin:=λs hs=>(Tr.kid_in hO (i:=i) (t:=.nd t0 t1 t2 t3) (by rw[Ze hi,ei]) (s:=s) hs).1
 exact⟨wH,by rw[e4,qv4 (kin t0 (by simp[Tr.kids])),qv4 (kin t1 (by simp[Tr.kids])),qv4 (kin t2 (by simp[Tr.kids])),qv4 (kin t3 (by simp[Tr.kids]))]⟩
theorem kpx {t0 t1 t2 t3:Tr}{L L4:List Tr}(e4:L4=post t3 (post t2 (post t1 (post t0 L)))) (wR:Tr.nd t0 t1 t2 t3∉L4):post (.nd t0 t1 t2 t3) L=L4++[.nd t0 t1 t2 t3]:=by
 have wH:Tr.nd t0 t1 t2 t3∉L:=λz=>wR (by
  rw[e4]
  obtain⟨s1,h1⟩:=Tr.post_ext t0 L
  obtain⟨s2,h2⟩:=Tr.post_ext t1 (Tr.post t0 L)
  obtain⟨s3,h3⟩:=Tr.post_ext t2 (Tr.post t1 (Tr.post t0 L))
  obtain⟨s4,h4⟩:=Tr.post_ext t3 (Tr.post t2 (Tr.post t1 (Tr.post t0 L)))
  rw[h4,h3,h2,h1]
  simp[z])
 rw[e4]
 show (if Tr.nd t0 t1 t2 t3∈L then L else _)=_
 rw[Zq wH]
end Qf
namespace Pr
open PySem L2 Qf
theorem xx6 {t0 t1 t2 t3:Tr}{L4:List Tr}(O4:Tr.Ord L4) (hk:∀s∈Tr.kids (.nd t0 t1 t2 t3),Tr.In L4 s) (hm:¬[Tr.name L4 t0,Tr.name L4 t1,Tr.name L4 t2,Tr.name L4 t3]∈Tr.rowsOf L4) :
  putK (tK (Tr.rowsOf L4)) (keyN [Tr.name L4 t0,Tr.name L4 t1,Tr.name L4 t2,Tr.name L4 t3]) (.int (((tK (Tr.rowsOf L4)).length:Int)+2))=tK (Tr.rowsOf (L4++[.nd t0 t1 t2 t3])):=by
 have er:=qy7 O4 hk
 rw[show (Tr.kids (.nd t0 t1 t2 t3)).map (Tr.name L4)=[Tr.name L4 t0,Tr.name L4 t1,Tr.name L4 t2,Tr.name L4 t3] from rfl] at er
 have jB:(tK (Tr.rowsOf L4)).length=L4.length:=by unfold tK;rw[qr3,Tr.rowsOf_len]
 have h1:=xd4 (key:=keyN) (k:=2) (λa b=>qA4) hm
 rw[er,jB]
 unfold tK
 rw[<- h1,Tr.rowsOf_len]
 congr 2
 lia
structure Grow (p D:Addr) (H:Hp) (ok:Row->Prop) (i:Nat) (xs:List V) (H2:Hp):Prop where
 but:But p H H2
 pot:PurseAt H2 p
 at_:H2 D=some (.lst xs)
 len:xs.length<=i
 its:∃(cs:List Addr) (bs:List Row),xs=cs.map V.ref/\cs.length=bs.length/\(∀b∈bs,ok b)/\∀(j:Nat) c b,cs[j]?=some c->bs[j]?=some b->H2 c=some (.tup (vN b))
theorem Grow.start {p D:Addr}{H:Hp}{ok:Row->Prop}(hp:PurseAt H p) (hD:H D=none):Grow p D H ok 0 [] (upd H D (.lst [])):=
 ⟨But.of (qb7 hD),hp.same (qb7 hD),qa2,Zd _,[],[],rfl,rfl,λb hb=>(nomatch hb),λj c b e=>by simp at e⟩
theorem Grow.kept {p D:Addr}{H H2 H3:Hp}{ok:Row->Prop}{i:Nat}{xs:List V}(g:Grow p D H ok i xs H2) (npD:p≠D) (b:But p H2 H3) (hp:PurseAt H3 p):Grow p D H ok (i+1) xs H3:=by
 obtain⟨b2,p2,a2,l2,cs,bs,e,hl,hok,hr⟩:=g
 refine⟨b2.trans b,hp,b _ _ a2 (Xr npD),by lia,cs,bs,e,hl,hok,λj c r e1 e2=>?_⟩
 have:=hr j c r e1 e2
 refine b _ _ this λz=>?_
 obtain⟨x,y,e3,_⟩:=p2
 rw[z,e3] at this
 cases this
theorem Grow.more {p D t:Addr}{H H2 H3:Hp}{ok:Row->Prop}{i:Nat}{xs:List V}{r:Row}(g:Grow p D H ok i xs H2) (vA:H D=none) (npD:p≠D) (b:But p H2 H3) (hp:PurseAt H3 p) (ht:H3 t=some (.tup (vN r))) (hr:ok r) :
  H3 D=some (.lst xs)/\Grow p D H ok (i+1) (xs++[.ref t]) (upd H3 D (.lst (xs++[.ref t]))):=by
 have k:=g.kept npD b hp
 obtain⟨b2,p2,a2,l2,cs,bs,rfl,hl,hok,hrr⟩:=k
 have l1:=g.len
 refine⟨a2,λc o e n=>?_,?_,qa2,by rw[Zw];show (cs.map V.ref).length+1<=_;lia,cs++[t],bs++[r],xd5 cs t,by rw[Zw,Zw,hl];rfl,?_,?_⟩
 ·rw[qb2 (qa7 e vA)]
  exact b2 c o e n
 ·obtain⟨x,y,e,rr⟩:=hp
  exact⟨x,y,by rw[qb2 npD];exact e,rr⟩
 ·intro z hz
  rcases ZW.mp hz with hz|hz
  ·exact hok z hz
  ·have:z=r:=by simpa using hz
   rw[this];exact hr
 ·intro j c q e1 e2
  have nD:∀{c:Addr}{u:List V},H3 c=some (.tup u)->c≠D:=λ{c u} e z=>by rw[z,a2] at e;cases e
  by_cases hj:j<cs.length
  ·rw[ZD hj] at e1
   rw[ZD (by lia)] at e2
   have:=hrr j c q e1 e2
   rw[qb2 (nD this)];exact this
  ·rw[ZF (by lia)] at e1
   rw[ZF (by lia)] at e2
   have hj0:j-cs.length=0:=by
    have:=(gS_ e1).1
    simp at this
    lia
   rw[hj0] at e1
   rw[<- hl,hj0] at e2
   have ec:c=t:=by simpa using e1.symm
   have eq:q=r:=by simpa using e2.symm
   rw[ec,eq,qb2 (nD ht)];exact ht
theorem Grow.rows {p D:Addr}{H H2:Hp}{ok:Row->Prop}{i:Nat}{xs:List V}(g:Grow p D H ok i xs H2):∃bs:List Row,RowsL H2 D bs/\(∀b∈bs,ok b)/\bs.length<=i:=by
 obtain⟨_,_,a2,l2,cs,bs,rfl,hl,hok,hr⟩:=g
 exact⟨bs,⟨cs,a2,hl,hr⟩,hok,by rw[Zf] at l2;lia⟩
section
variable {P:Program}{w:World}{K:PySem.W.Frag}{mg:Str->Option Value}{base:Heap}
abbrev xj7:List Str:=["_law_pot_here", "_law_n", "_law_side"]
theorem scCells:FnScope xj7 ["_law_pot_here", "_law_n"] (qa3 qG0):=qc6
def q95:Sp:=λvs H Q _=>∃(p:Addr) (n:Nat),vs=[.ref p,.int (n:Nat)]/\PurseAt H p/\n<4 /\
 ∀(H':Hp) (l:Addr) (bs:List Row),But p H H'->PurseAt H' p->H l=none->RowsL H' l bs->(∀b∈bs,qV4 n b)->bs.length<=64->Q (.ref l) H'
theorem xg8 {f fD:Addr}{fd fdD:FuncData}(F:Fun K "_law_cells" "_law_cells" qG0 f fd) (B:Blt mg) (hD:mg "_law_digit" = some (.ref fD)) (FD:Fun K "_law_digit" "_law_digit" qu3 fD fdD) (bD:Binds K fdD ["_law_pot_here", "_law_many"] []) :
  FnOk P w K mg base CX0 2 f fd ["_law_pot_here", "_law_n"] q95:=by
 have GD:FnOk P w K mg base CX0 1 fD fdD ["_law_pot_here", "_law_many"] qo5:=qr6 FD
 refine F.ok scCells (λvs H Q E h=>?_) (λcdv A outer s H vs Q E hr h=>?_)
 ·obtain⟨p,n,rfl,_⟩:=h
  rfl
 ·obtain⟨p,n,rfl,hp,hn,q⟩:=h
  refine seqE ⟨_,⟨psN 2 scCells.nd (qa5 qi3 qa4 (pv 1))⟩,?_⟩
  refine qh7 ⟨_,⟨qa9 (qF4 xj7 (qa3 qG0) rfl rfl rfl scCells.nd (qg6 (by rfl) B.range (qa0 (qa5 qf4 (pv 2) (pv 2)) qa1))
   (λcl C fp s₀ H₀=>qb6 xk4 (pcN GD hr hD FD.kp bD (qa0 (pv 1) (qa0 qa4 qa1))) qa4 (qb5 _))
   (λcl C fp s₀ H₀=>PEb.go ⟨qi4 (Ars2.go (.cons ⟨qa5 qg3 (pv 0) (pv 3)⟩ (.cons ⟨qa5 qm0 (pv 0) (pv 3)⟩ (.cons ⟨qa4⟩ (.cons ⟨qa4⟩ .nil rfl) rfl) rfl) rfl))⟩))⟩,?_⟩
  obtain⟨p1,p2⟩:=qk5 (show n<=12 by lia)
  have p8:2^n<=8:=by
   have:=YB (n:=2) (by decide) (show n<=3 by lia)
   simpa using this
  have es:=qw7 n
  refine⟨_,rfl,_,_,rfl,rfl,⟨by lia,by lia,by decide⟩,?_⟩
  have hsz:(2^n*2^n:Nat)<=64:=by
   have:=VJ p8 p8
   lia
  have esq:((1:Int)*2^((n:Int)).toNat)*(1*2^((n:Int)).toNat)=((2^n*2^n:Nat):Int):=by rw[es];push_cast;rfl
  have etn:(((1:Int)*2^((n:Int)).toNat)*(1*2^((n:Int)).toNat)).toNat=2^n*2^n:=by rw[esq,Zy]
  refine⟨_,rfl,_,rfl,_,_,rfl,rfl,.inl ⟨by lia,by lia⟩,_,rfl,by lia,by lia,λD vA=>?_⟩
  have npD:p≠D:=by obtain⟨a,b,e,_⟩:=hp;exact qa7 e vA
  refine q79 (Grow p D H (qV4 n)) (by rw[etn];exact qc4 (by lia)) (Grow.start hp vA) (λi xs H2 g=>⟨g.at_,g.len⟩) ?_ ?_
  ·intro i xs H2 hi g os ho Q1 Q2 q1 q2
   rw[etn] at hi
   match os,ho with
   |[o1],_=>
    refine⟨_,rfl,p,2,rfl,g.pot,by decide,by decide,λd H3 hd b3 kS=>⟨rfl,_,rfl,?_⟩⟩
    refine ite2 (λ_=>?_) (λ_=>q1 H3 (g.kept npD b3 kS))
    refine⟨_,rfl,_,rfl,_,_,rfl,rfl,⟨by lia,by lia⟩,_,rfl,_,rfl,_,_,rfl,rfl,(by show (0:Int)<1*2^((n:Int)).toNat;lia),(by show 4<=sizeLine;decide),λt ht=>?_⟩
    have hbx:qV4 n [i/2^n,i%2^n,1,1]:=by
     refine⟨_,_,_,_,rfl,Zd _,Zd _,?_,?_⟩
     ·exact (Nat.div_lt_iff_lt_mul p2).mpr hi
     ·exact XC _ p2
    have e4:HO.tup [V.int ((0+(i:Int))/(1*2^((n:Int)).toNat)),V.int ((0+(i:Int))%(1*2^((n:Int)).toNat)),V.int 1,V.int 1]=HO.tup (vN [i/2^n,i%2^n,1,1]):=by
     rw[es,Ue]
     show HO.tup [V.int ((i:Int)/((2^n:Nat):Int)),V.int ((i:Int)%((2^n:Nat):Int)),V.int 1,V.int 1]=HO.tup [V.int ((i/2^n:Nat):Int),V.int ((i%2^n:Nat):Int),V.int 1,V.int 1]
     rw[Wy,Wz]
    show Q2 (.ref t) (upd H3 t (HO.tup [V.int ((0+(i:Int))/(1*2^((n:Int)).toNat)),V.int ((0+(i:Int))%(1*2^((n:Int)).toNat)),V.int 1,V.int 1]))
    rw[e4]
    have m:=g.more (t:=t) (r:=[i/2^n,i%2^n,1,1]) vA npD (b3.trans (But.of (qb7 ht))) (kS.same (qb7 ht)) qa2 hbx
    exact q2 _ _ m.1 m.2
  ·intro xs H2 g
   obtain⟨bs,h1,h2,h3⟩:=g.rows
   exact q H2 D bs g.but g.pot vA h1 h2 (by rw[etn] at h3;lia)
abbrev xj8:List Str:=["_law_pot_here", "_law_n"]
theorem scBoxes:FnScope xj8 ["_law_pot_here", "_law_n"] (qa3 qG1):=qc6
def q96:Sp:=λvs H Q _=>∃(p:Addr) (n:Nat),vs=[.ref p,.int (n:Nat)]/\PurseAt H p/\n<=12 /\
 ∀(H':Hp) (l:Addr) (bs:List Row),But p H H'->PurseAt H' p->H l=none->RowsL H' l bs->xg7 n bs->Q (.ref l) H'
theorem xg9 {f fD fC fB:Addr}{fd fdD fdC fdB:FuncData}(F:Fun K "_law_boxes" "_law_boxes" qG1 f fd) (B:Blt mg) (hD:mg "_law_digit" = some (.ref fD)) (FD:Fun K "_law_digit" "_law_digit" qu3 fD fdD) (bD:Binds K fdD ["_law_pot_here", "_law_many"] [])
  (hC:mg "_law_cells" = some (.ref fC)) (FC:Fun K "_law_cells" "_law_cells" qG0 fC fdC) (bC:Binds K fdC ["_law_pot_here", "_law_n"] [])
  (hB:mg "_law_box" = some (.ref fB)) (FB:Fun K "_law_box" "_law_box" lBox fB fdB) (bB:Binds K fdB ["_law_pot_here", "_law_n", "_law_most"] []) :
  FnOk P w K mg base CX0 3 f fd ["_law_pot_here", "_law_n"] q96:=by
 have GD:FnOk P w K mg base CX0 1 fD fdD ["_law_pot_here", "_law_many"] qo5:=qr6 FD
 have GC:FnOk P w K mg base CX0 2 fC fdC ["_law_pot_here", "_law_n"] q95:=xg8 FC B hD FD bD
 have GB:FnOk P w K mg base CX0 2 fB fdB ["_law_pot_here", "_law_n", "_law_most"] xr1:=xx3 FB B hD FD bD
 refine F.ok scBoxes (λvs H Q E h=>?_) (λcdv A outer s H vs Q E hr h=>?_)
 ·obtain⟨p,n,rfl,_⟩:=h
  rfl
 ·obtain⟨p,n,rfl,hp,hn,q⟩:=h
  have jL:Room 1 _:=hr.mono (by decide)
  refine seqE ⟨_,⟨qd8 (PW.pt (xh3 (qb6 qh3 (pv 1) qa4 (qb5 _)) (qW6 (qb6 xk4 (pcN GD jL hD FD.kp bD (qa0 (pv 0) (qa0 qa4 qa1))) qa4 (qb5 _)))))
   (qa6 (qa9 (pcN GC hr hC FC.kp bC (qa0 (pv 0) (qa0 (pv 1) qa1))))) qb3⟩,?_⟩
  refine qh7 ⟨_,⟨qa9 (qe7 xj8 (qa3 qG1) rfl rfl rfl scBoxes.nd (qg6 (by rfl) B.range (qa0 (pcN GD jL hD FD.kp bD (qa0 (pv 0) (qa0 qa4 qa1))) qa1))
   (λcl C fp s₀ H₀=>pcN GB hr hB FB.kp bB (qa0 (pv 1) (qa0 (pv 2) (qa0 qa4 qa1)))))⟩,?_⟩
  have rest:∀H1,But p H H1->PurseAt H1 p->xl3 (xs7 (qD4 (xa4 qo5 [] E0 (qD4 (tVar 0) (qD4 (tC (.int 6)) tNil))) tNil)) (xa4 xr1 [] E0 (qD4 (tVar 1) (qD4 (tVar 2) (qD4 (tC (.int 9)) tNil)))) [some (.ref p),some (.int (n:Nat))] H1 Q:=λH1 b1 kU=>by
   refine⟨_,rfl,p,6,rfl,kU,by decide,by decide,λd H2 hd b2 jP=>⟨_,rfl,by lia,by lia,λD vA=>?_⟩⟩
   have npD:p≠D:=by obtain⟨a,b,e,_⟩:=jP;exact qa7 e vA
   have hDH:H D=none:=by
    cases e:H D with
    |none=>rfl
    |some o=>rw[(b1.trans b2) _ _ e (Xr npD)] at vA;cases vA
   refine qR0 (Grow p D H2 (λb=>qV4 n b/\xr0 b)) (by rw[Zy];exact qc4 (by lia)) (Grow.start jP vA) (λi xs H2 g=>⟨g.at_,g.len⟩) ?_ ?_
   ·intro i xs H3 hi g Q2 q2
    refine⟨_,rfl,_,rfl,p,n,rfl,g.pot,hn,λH4 t b b4 vS ht h1 h2=>?_⟩
    have m:=g.more (t:=t) (r:=b) vA npD b4 vS ht ⟨h1,h2⟩
    exact q2 _ _ m.1 m.2
   ·intro xs H3 g
    obtain⟨bs,h1,h2,h3⟩:=g.rows
    rw[Zy] at h3
    exact q H3 D bs ((b1.trans b2).trans g.but) g.pot hDH h1 ⟨λb hb=>(h2 b hb).1,.inr ⟨by lia,λb hb=>(h2 b hb).2⟩⟩
  refine⟨_,rfl,_,_,rfl,rfl,_,rfl,?_⟩
  refine ite2 (λhc=>?_) (λhc=>?_)
  ·have n4:n<4:=by have:=ZB hc;lia
   refine⟨_,rfl,p,2,rfl,hp,by decide,by decide,λd H1 hd b1 kU=>⟨rfl,_,rfl,?_⟩⟩
   refine ite2 (λ_=>?_) (λ_=>rest H1 b1 kU)
   refine⟨_,rfl,_,rfl,p,n,rfl,kU,n4,λH2 l bs b2 jP hl hR hb j9=>q H2 l bs (b1.trans b2) jP ?_ hR ⟨hb,.inl ⟨n4,j9⟩⟩⟩
   cases e:H l with
   |none=>rfl
   |some o=>
    have nlp:l≠p:=by obtain⟨a,b,e2,_⟩:=kU;exact (qa7 e2 hl).symm
    rw[b1 _ _ e nlp] at hl;cases hl
  ·exact iteF (rest H (But.refl p H) hp)
end
end Pr
namespace Qf
open Tr
theorem qS3 {m:Row->Bool}:∀(bs:List Nat) (rs:List Row),bs.length=rs.length ->
  ((List.range bs.length).filter (λi=>m (rs.getD i []))).map (λi=>bs.getD i 0)=((bs.zip rs).filter (λq=>m q.2)).map Prod.fst
 |[],[],_=>rfl
 |b::bs,r::rs,h=>by
  have ih:=qS3 (m:=m) bs rs (by simpa using h)
  rw[ZQ,List.range_succ_eq_map,Xo,X6,Xo,List.filter_map]
  have e1:((λi=>m ((r::rs).getD i []))∘Nat.succ)=λi=>m (rs.getD i []):=by funext i;rfl
  have e2:((λi=>(b::bs).getD i 0)∘Nat.succ)=λi=>bs.getD i 0:=by funext i;rfl
  rw[e1]
  show List.map _ (if m r=true then _ else _)=List.map _ (if m r=true then _ else _)
  split
  ·rw[ZA,YH,e2,ih,ZA];rfl
  ·rw[YH,e2,ih]
theorem qC9 {m:Row->Bool}:∀(bs:List Nat) (rs:List Row),bs.length=rs.length->((bs.zip rs).filter (λq=>m q.2)).map Prod.snd=rs.filter m
 |[],[],_=>rfl
 |b::bs,r::rs,h=>by
  have ih:=qC9 (m:=m) bs rs (by simpa using h)
  rw[X6,Xo,Xo]
  show List.map _ (if m r=true then _ else _)=_
  split
  ·rw[ZA,ih]
  ·exact ih
end Qf
namespace Pr
open PySem L2 Qf
theorem RowsL.filter {H H':Hp}{p D:Addr}{rs:List Row}{bs:List Addr}(m:Row->Bool) (hl:bs.length=rs.length) (hr:∀(i:Nat) b r,bs[i]?=some b->rs[i]?=some r->H b=some (.tup (vN r))) (s:Same H H')
  (hD:H' D=some (.lst (((List.range bs.length).filter (λi=>m (rs.getD i []))).map (λi=>V.ref (bs.getD i 0))))):RowsL H' D (rs.filter m):=by
 have e:((List.range bs.length).filter (λi=>m (rs.getD i []))).map (λi=>V.ref (bs.getD i 0))=(((bs.zip rs).filter (λq=>m q.2)).map Prod.fst).map V.ref:=by
  rw[<- qS3 bs rs hl,YH];rfl
 rw[e] at hD
 refine⟨_,hD,by rw[<- qC9 bs rs hl,Zf,Zf],λi b r e1 e2=>?_⟩
 rw[<- qC9 bs rs hl] at e2
 rw[Zg] at e1 e2
 obtain⟨q,hq,rfl⟩:=Zj.mp e1
 rw[hq] at e2
 have e3:q.2=r:=by simpa using e2
 have hm:=(X7.mp (Zv hq)).1
 obtain⟨j,hj,ej⟩:=ZJ.mp hm
 rw[List.length_zip] at hj
 have ez:(bs.zip rs)[j]?=some q:=by rw[Ze (by rw[List.length_zip];exact hj),ej]
 rw[List.getElem?_zip_eq_some] at ez
 rw[<- e3]
 exact s _ _ (hr j q.1 q.2 ez.1 ez.2)
section
variable {P:Program}{w:World}{K:PySem.W.Frag}{mg:Str->Option Value}{base:Heap}
abbrev qn4:List Str:=["_law_box_here", "_law_row", "_law_column", "_law_side"]
theorem xr2:FnScope qn4 qn4 (qa3 qy3):=qc6
theorem xC5:FnScope qn4 qn4 (qa3 lHas):=qc6
def qD0 (m:Nat->Nat->Nat->Row->Bool):Sp:=λvs H Q _=>∃(b:Addr) (bx:Row) (r c s:Nat),vs=[.ref b,.int (r:Nat),.int (c:Nat),.int (s:Nat)]/\H b=some (.tup (vN bx))/\bx.length=4/\Q (.bl (m r c s bx)) H
theorem xh0 {f:Addr}{fd:FuncData}(F:Fun K "_law_meets" "_law_meets" qy3 f fd):FnOk P w K mg base CX0 1 f fd qn4 (qD0 qi8):=by
 refine F.ok xr2 (λvs H Q E h=>?_) (λcdv A outer s H vs Q E hr h=>?_)
 ·obtain⟨b,bx,r,c,s,rfl,_⟩:=h
  rfl
 ·obtain⟨b,bx,r,c,s,rfl,hb,h4,q⟩:=h
  obtain⟨x,y,h',w',rfl⟩:=qo0 h4
  refine seqE ⟨_,⟨qd8 (qn6 (qb6 qq0 (qa5 qd1 (pv 1) (pv 3)) (pxN qc8 (pv 0) qa4) (qb5 _))
   (qi1 (qb6 qq0 (qa5 qd1 (pxN qc8 (pv 0) qa4) (pxN qc8 (pv 0) qa4)) (pv 1) (qb5 _)))).pt (qa6 (qa9 qp9)) qb3⟩,?_⟩
  refine qh7 ⟨_,⟨qa9 (qi2 (qf5 qh3 (pv 2) (qa5 qd1 (pxN qc8 (pv 0) qa4) (pxN qc8 (pv 0) qa4)) (qb5 _)) (ql7 (qf5 qh3 (pxN qc8 (pv 0) qa4) (qa5 qd1 (pv 2) (pv 3)) (qb5 _))))⟩,?_⟩
  have em:qi8 r c s [x,y,h',w']=decide (x<r+s/\r<x+h'/\c<y+w'/\y<c+s):=rfl
  rw[em] at q
  refine⟨_,rfl,_,rfl,_,_,rfl,rfl,_,rfl,b,_,0,.int (x:Nat),rfl,rfl,SqT.of hb,rfl,_,_,rfl,rfl,_,rfl,?_⟩
  refine ite2 (λhc=>?_) (λhc=>?_)
  ·have:=ZB hc
   rw[Zm (by lia)] at q
   exact iteT q
  ·have h1:=Yz (Yj.mpr hc)
   refine⟨_,rfl,b,_,0,.int (x:Nat),rfl,rfl,SqT.of hb,rfl,_,rfl,b,_,2,.int (h':Nat),rfl,rfl,SqT.of hb,rfl,_,_,rfl,rfl,_,rfl,_,_,rfl,rfl,_,rfl,?_⟩
   refine ite2 (λhc=>?_) (λhc=>?_)
   ·have:=ZB hc
    rw[Zm (by lia)] at q
    exact q
   ·have h2:=Yz (Yj.mpr hc)
    refine⟨_,rfl,_,rfl,b,_,1,.int (y:Nat),rfl,rfl,SqT.of hb,rfl,_,rfl,b,_,3,.int (w':Nat),rfl,rfl,SqT.of hb,rfl,_,_,rfl,rfl,_,_,rfl,rfl,_,rfl,?_⟩
    refine ite2 (λhc=>?_) (λhc=>?_)
    ·have h3:=ZB hc
     refine⟨_,rfl,b,_,1,.int (y:Nat),rfl,rfl,SqT.of hb,rfl,_,rfl,_,rfl,_,_,rfl,rfl,_,_,rfl,rfl,?_⟩
     have e:decide ((y:Int)<(c:Int)+(s:Int))=decide (x<r+s/\r<x+h'/\c<y+w'/\y<c+s):=by
      congr 1
      exact propext ⟨λz=>⟨by lia,by lia,by lia,by lia⟩,λz=>by lia⟩
     show Q (.bl (decide ((y:Int)<(c:Int)+(s:Int)))) H
     rw[e]
     exact q
    ·have h3:=Yz (Yj.mpr hc)
     rw[Zm (by lia)] at q
     exact q
theorem xx7 {f:Addr}{fd:FuncData}(F:Fun K "_law_has" "_law_has" lHas f fd):FnOk P w K mg base CX0 1 f fd qn4 (qD0 hasB):=by
 refine F.ok xC5 (λvs H Q E h=>?_) (λcdv A outer s H vs Q E hr h=>?_)
 ·obtain⟨b,bx,r,c,s,rfl,_⟩:=h
  rfl
 ·obtain⟨b,bx,r,c,s,rfl,hb,h4,q⟩:=h
  obtain⟨x,y,h',w',rfl⟩:=qo0 h4
  refine seqE ⟨_,⟨qd8 (qn6 (qb6 qh3 (pv 1) (pxN qc8 (pv 0) qa4) (qb5 _))
   (qi1 (qb6 qh3 (qa5 qd1 (pxN qc8 (pv 0) qa4) (pxN qc8 (pv 0) qa4)) (qa5 qd1 (pv 1) (pv 3)) (qb5 _)))).pt (qa6 (qa9 qp9)) qb3⟩,?_⟩
  refine qh7 ⟨_,⟨qa9 (qi2 (qf5 qq0 (pxN qc8 (pv 0) qa4) (pv 2) (qb5 _)) (ql7 (qf5 qq0 (qa5 qd1 (pv 2) (pv 3)) (qa5 qd1 (pxN qc8 (pv 0) qa4) (pxN qc8 (pv 0) qa4)) (qb5 _))))⟩,?_⟩
  have em:hasB r c s [x,y,h',w']=decide (x<=r/\r+s<=x+h'/\y<=c/\c+s<=y+w'):=rfl
  rw[em] at q
  refine⟨_,rfl,_,rfl,b,_,0,.int (x:Nat),rfl,rfl,SqT.of hb,rfl,_,_,rfl,rfl,_,rfl,?_⟩
  refine ite2 (λhc=>?_) (λhc=>?_)
  ·have:=ZB hc
   rw[Zm (by lia)] at q
   exact iteT q
  ·have h1:=Yz (Yj.mpr hc)
   refine⟨_,rfl,b,_,0,.int (x:Nat),rfl,rfl,SqT.of hb,rfl,_,rfl,b,_,2,.int (h':Nat),rfl,rfl,SqT.of hb,rfl,_,_,rfl,rfl,_,rfl,_,rfl,_,_,rfl,rfl,_,_,rfl,rfl,_,rfl,?_⟩
   refine ite2 (λhc=>?_) (λhc=>?_)
   ·have:=ZB hc
    rw[Zm (by lia)] at q
    exact q
   ·have h2:=Yz (Yj.mpr hc)
    refine⟨_,rfl,b,_,1,.int (y:Nat),rfl,rfl,SqT.of hb,rfl,_,rfl,_,_,rfl,rfl,_,rfl,?_⟩
    refine ite2 (λhc=>?_) (λhc=>?_)
    ·have h3:=ZB hc
     refine⟨_,rfl,_,rfl,_,_,rfl,rfl,_,rfl,b,_,1,.int (y:Nat),rfl,rfl,SqT.of hb,rfl,_,rfl,b,_,3,.int (w':Nat),rfl,rfl,SqT.of hb,rfl,_,_,rfl,rfl,_,_,rfl,rfl,?_⟩
     have e:decide ((c:Int)+(s:Int)<=(y:Int)+(w':Int))=decide (x<=r/\r+s<=x+h'/\y<=c/\c+s<=y+w'):=by
      congr 1
      exact propext ⟨λz=>⟨by lia,by lia,by lia,by lia⟩,λz=>by lia⟩
     show Q (.bl (decide ((c:Int)+(s:Int)<=(y:Int)+(w':Int)))) H
     rw[e]
     exact q
    ·have h3:=Yz (Yj.mpr hc)
     rw[Zm (by lia)] at q
     exact q
end
end Pr
namespace Qf
open Tr
def qt (k:Nat) (m:List Row) (r c i:Nat):Tr:=bt k m (r+2^k*(i/2)) (c+2^k*(i%2))
def qL (k:Nat) (m:List Row) (r c:Nat) (L:List Tr):Nat->List Tr
 |0=>L
 |i+1=>post (qt k m r c i) (qL k m r c L i)
theorem qJ2 {k:Nat}{m:List Row}{r c:Nat}{L:List Tr}(h:Ord L):∀i,Ord (qL k m r c L i)
 |0=>h
 |i+1=>(post_ord _ _ (qJ2 h i)).1
theorem qV7 {k:Nat}{m:List Row}{r c:Nat}{L:List Tr}(h:Ord L){j:Nat}:∀i,j<i->In (qL k m r c L i) (qt k m r c j)
 |i+1,hj=>by
  by_cases e:j=i
  ·rw[e];exact (post_ord _ _ (qJ2 h i)).2
  ·exact (qV7 h i (by lia)).post _
theorem xr3 {k:Nat}{m:List Row}{r c:Nat}{L:List Tr}(h:Ord L){i:Nat}{t:Tr}(ht:In (qL k m r c L i) t):name (qL k m r c L (i+1)) t=name (qL k m r c L i) t:=by
 obtain⟨s,e⟩:=post_ext (qt k m r c i) (qL k m r c L i)
 show name (post _ _) t=_
 rw[e]
 exact name_app ht (qJ2 h i)
theorem q97 {k:Nat}{m:List Row}{r c:Nat}{L:List Tr}:∀i,(qL k m r c L i).length<=L.length+i*sz k
 |0=>by show L.length<=_;lia
 |i+1=>by
  have h1:=q97 (k:=k) (m:=m) (r:=r) (c:=c) (L:=L) i
  have h2:=qo9 (qt k m r c i) (qL k m r c L i)
  have h3:=qV6 k m (r+2^k*(i/2)) (c+2^k*(i%2))
  show (post _ _).length<=_
  rw[Xa]
  unfold qt at h2
  unfold qt
  lia
def names (k:Nat) (m:List Row) (r c:Nat) (L:List Tr) (i:Nat):List Nat:=(List.range i).map λj=>name (qL k m r c L i) (qt k m r c j)
theorem qV8 {k:Nat}{m:List Row}{r c:Nat}{L:List Tr}(h:Ord L) (i:Nat):names k m r c L (i+1)=names k m r c L i++[name (post (qt k m r c i) (qL k m r c L i)) (qt k m r c i)]:=by
 unfold names
 rw[Xi,ZU]
 congr 1
 exact Ym λj hj=>xr3 h (qV7 h i (Yq.mp hj))
theorem xC6 (k:Nat) (boxes:List Row) (r c:Nat) (h1:met boxes r c (2^(k+1))≠[]) (h2:(met boxes r c (2^(k+1))).any (hasB r c (2^(k+1)))=false) :
  bt (k+1) boxes r c=mk (qt k (met boxes r c (2^(k+1))) r c 0) (qt k (met boxes r c (2^(k+1))) r c 1) (qt k (met boxes r c (2^(k+1))) r c 2) (qt k (met boxes r c (2^(k+1))) r c 3):=by
 unfold bt
 rw[Zq h1,Zq (by rw[h2];decide)]
 unfold qt
 simp
theorem xr4 {boxes:List Row}{r c s:Nat}:(met boxes r c s).length<=boxes.length:=W9 _ _
theorem xr5 {boxes:List Row}{r c:Nat}(h:met boxes r c 1≠[]):(met boxes r c 1).any (hasB r c 1)=true:=by
 obtain⟨b,hb⟩:=List.exists_mem_of_ne_nil _ h
 refine XU.mpr ⟨b,hb,?_⟩
 have m:b.getD 0 0<r+1/\r<b.getD 0 0+b.getD 2 0/\c<b.getD 1 0+b.getD 3 0/\b.getD 1 0<c+1:=ZB (X7.mp hb).2
 exact Zk ⟨by lia,by lia,by lia,by lia⟩
theorem xx8:∀{k n:Nat},k<=n->sz k<=sz n
 |k,0,h=>by rw[show k=0 by lia];exact Zd _
 |k,n+1,h=>by
  by_cases e:k=n+1
  ·rw[e];exact Zd _
  ·have:=xx8 (show k<=n by lia)
   show _<=4*sz n+1
   lia
end Qf
namespace L2
open PySem
theorem q98 {H:Hp}{n:Nat}{te:TE}{σ:St}{Fin:Hp->Prop}{D:Addr}(Iv:Nat->List V->Hp->Prop) (hsz:n<sizeLine) (i0:Iv 0 [] (upd H D (.lst []))) (hD:∀i xs H2,Iv i xs H2->H2 D=some (.lst xs)/\xs.length<=i)
  (step:∀i xs H2,i<n->Iv i xs H2->∀Q2:VK,(∀v H3,H3 D=some (.lst xs)->Iv (i+1) (xs++[v]) (upd H3 D (.lst (xs++[v])))->Q2 v H3)->te (some (.int (0+(i:Int)))::σ) H2 Q2)
  (fin:∀xs H2,Iv n xs H2->Fin H2) :
  ∃W:Nat->Nat->List V->Hp->Prop,(∃m,W 0 m [] (upd H D (.lst []))) /\
   ∀i m xs H2,W i m xs H2->H2 D=some (.lst xs)/\xs.length<sizeLine/\(((Itr 0 n).stop i H2/\Fin H2)\/((Itr 0 n).go i H2/\∀y H3,(Itr 0 n).yld i H2 y H3->∀os:St,os.length=1 ->
    qh1 0 y (os++σ) H3 λσ4 H4=>xm3 σ4 H4 λb H5=>if b=true then te σ4 H5 λv H6=>H6 D=some (.lst xs)/\∃m',m'<m/\W (i+1) m' (xs++[v]) (upd H6 D (.lst (xs++[v]))) else ∃m',m'<m/\W (i+1) m' xs H5)):=by
 obtain⟨W,w0,w⟩:=qR0 (te:=te) (σ:=σ) Iv hsz i0 hD step fin
 refine⟨W,w0,λi m xs H2 h=>?_⟩
 obtain⟨h1,h2,h3⟩:=w i m xs H2 h
 refine⟨h1,h2,h3.imp id λ⟨g,y⟩=>⟨g,λx H3 hx os ho=>?_⟩⟩
 match os,ho with
 |[o],_=>
  show (if (true:Bool)=true then te (some x::σ) H3 (λv H6=>H6 D=some (.lst xs)/\∃m',m'<m/\W (i+1) m' (xs++[v]) (upd H6 D (.lst (xs++[v])))) else ∃m',m'<m/\W (i+1) m' xs H3)
  rw[Zz rfl]
  exact y x H3 hx
end L2
namespace Qf
theorem xr6:∀{k:Nat}{boxes:List Row}{r c:Nat},met boxes r c (2^k)=[]->bt k boxes r c=.z
 |0,_,_,_,h=>Zz h
 |_+1,_,_,_,h=>Zz h
theorem xr7:∀{k:Nat}{boxes:List Row}{r c:Nat},met boxes r c (2^k)≠[]->(met boxes r c (2^k)).any (hasB r c (2^k))=true->bt k boxes r c=.o
 |0,_,_,_,h,g=>(Zq h).trans (Zz g)
 |_+1,_,_,_,h,g=>(Zq h).trans (Zz g)
end Qf
namespace Pr
open PySem L2 Qf
section
variable {P:Program}{w:World}{K:PySem.W.Frag}{mg:Str->Option Value}{base:Heap}
abbrev qJ3:List Str:=["_law_rows", "_law_boxes_here", "_law_row", "_law_column", "_law_side"]
abbrev nNum:List Str:=["_law_rows", "_law_boxes_here", "_law_row", "_law_column", "_law_side", "_law_met", "_law_half", "_law_quarters"]
theorem scNum:FnScope nNum qJ3 (qa3 qj3):=qc6
def xh1 (k:Nat):Sp:=λvs H Q _=>∃(e bp:Addr) (boxes:List Row) (r c:Nat) (L:List Tr),vs=[.ref e,.ref bp,.int (r:Nat),.int (c:Nat),.int ((2^k:Nat):Int)]/\RowsL H bp boxes/\(∀b∈boxes,b.length=4)/\boxes.length<=900/\bp≠e/\Tr.Ord L /\
 H e=some (.dT (tK (Tr.rowsOf L)))/\L.length+sz k<=6000000/\∀H',But e H H'->H' e=some (.dT (tK (Tr.rowsOf (Tr.post (bt k boxes r c) L))))->Q (.int (Tr.name (Tr.post (bt k boxes r c) L) (bt k boxes r c):Nat)) H'
theorem q99 {f fM fH:Addr}{fd fdM fdH:FuncData}(F:Fun K "_law_number" "_law_number" qj3 f fd) (B:Blt mg) (hN:mg "_law_number" = some (.ref f)) (bN:Binds K fd qJ3 [])
  (hM:mg "_law_meets" = some (.ref fM)) (FM:Fun K "_law_meets" "_law_meets" qy3 fM fdM) (bM:Binds K fdM qn4 [])
  (hH:mg "_law_has" = some (.ref fH)) (FH:Fun K "_law_has" "_law_has" lHas fH fdH) (bH:Binds K fdH qn4 []){m:Nat}(hk:m<=12){sp':Sp}(GI:FnOk P w K mg base CX0 (m+1) f fd qJ3 sp') (vK:∀j,m=j+1->sp'=xh1 j):FnOk P w K mg base CX0 (m+2) f fd qJ3 (xh1 m):=by
 have GM:FnOk P w K mg base CX0 1 fM fdM qn4 (qD0 qi8):=xh0 FM
 have GH:FnOk P w K mg base CX0 1 fH fdH qn4 (qD0 hasB):=xx7 FH
 refine F.ok scNum (λvs H Q E h=>?_) (λcdv A outer s H vs Q E hr h=>?_)
 ·obtain⟨e,bp,boxes,r,c,L,rfl,_⟩:=h
  rfl
 ·obtain⟨e,bp,boxes,r,c,L,rfl,hB,h4,vI,kJ,hO,he,hLs,q⟩:=h
  have jL:Room 1 _:=hr.mono (by lia)
  have hu:A.units+3+1<cLine:=by
   have h2:A.units+3+16*(m+1)+200<cLine:=hr.un
   lia
  refine seqE ⟨_,⟨psN 5 scNum.nd (qF4 nNum (qa3 qj3) rfl rfl rfl scNum.nd (qs1 (pv 1))
   (λcl C fp s₀ H₀=>qf9 (pcN GM jL hM FM.kp bM (qa0 (pv 0) (qa0 (pv 3) (qa0 (pv 4) (qa0 (pv 5) qa1)))))) (λcl C fp s₀ H₀=>pv 0))⟩,?_⟩
  refine seqE ⟨_,⟨qd8 (PW.pt (qn6 (qb6 (q10 hr) (pv 5) (qj0 qa1) (qb5 _)) (qi1 (qf9 (qa8 (qF6 rfl) (by rfl) B.any PyProof.Rows.boot_any (qa0 (qe7 nNum (qa3 qj3) rfl rfl rfl scNum.nd (qs1 (pv 5))
   (λcl C fp s₀ H₀=>pcN GH jL hH FH.kp bH (qa0 (pv 0) (qa0 (pv 3) (qa0 (pv 4) (qa0 (pv 5) qa1)))))) qa1))))))
   (qa6 (qa9 (qc3 qX5 (by rfl) B.int Xu (qa0 (qf5 (qF0 hr) (pv 5) (qj0 qa1) (qb5 _)) qa1)))) qb3⟩,?_⟩
  refine seqE ⟨_,⟨psN 6 scNum.nd (qa5 qg3 (pv 4) qa4)⟩,?_⟩
  refine seqE ⟨_,⟨xn9 (i0:=7) nNum (qa3 qj3) rfl rfl rfl scNum.nd rfl rfl (qg6 (by rfl) B.range (qa0 qa4 qa1)) (λcl C fp s₀ H₀=>PEb.go ⟨pcN GI hr hN F.kp bN (Ars2.go (.cons ⟨pv 1⟩ (.cons ⟨pv 6⟩
   (.cons ⟨qa5 qd1 (pv 3) (qa5 qf4 (pv 7) (qa5 qg3 (pv 0) qa4))⟩ (.cons ⟨qa5 qd1 (pv 4) (qa5 qf4 (pv 7) (qa5 qm0 (pv 0) qa4))⟩ (.cons ⟨pv 7⟩ .nil rfl) rfl) rfl) rfl) rfl))⟩)⟩,?_⟩
  refine seqE ⟨_,⟨qd8 (qb6 (xv6 hr) (pv 7) (PEb.go ⟨qi4 (Ars2.go (.cons ⟨qj0 (Ars2.go (.cons qg4 (.cons qg4 (.cons qg4 (.cons qg4 .nil rfl) rfl) rfl) rfl))⟩ (.cons ⟨qj0 (Ars2.go (.cons qg4 (.cons qg4 (.cons qg4 (.cons qg4 .nil rfl) rfl) rfl) rfl))⟩ .nil rfl) rfl))⟩) (by first|rfl|decide|with_unfolding_all rfl))
   (qa6 (qa9 (pxN qh4 (pv 7) qa4))) qb3⟩,?_⟩
  refine seqE ⟨_,⟨qd8 (qW5 (qZ5 hu (qc3 (tupO K rfl) (by rfl) B.tuple Yy (qa0 (pv 7) qa1)) (pv 0)))
   (qa6 (qK2 hu (pv 0) (qc3 (tupO K rfl) (by rfl) B.tuple Yy (qa0 (pv 7) qa1)) (qa5 qd1 (qa8 q50 (by rfl) B.len YA (qa0 (pv 0) qa1)) qa4) (by rfl))) qb3⟩,?_⟩
  refine qh7 ⟨_,⟨qa9 (xl8 hu (pv 0) (qc3 (tupO K rfl) (by rfl) B.tuple Yy (qa0 (pv 7) qa1)) (λ_ _=>rfl))⟩,?_⟩
  obtain⟨bs,hb,j9,jE⟩:=id hB
  have jN:(bs.map V.ref).length=bs.length:=Zf ..
  refine⟨_,rfl,bp,rfl,⟨_,SqL.of hb⟩,λD hD=>qy2 hD (λi=>qi8 r c (2^m) (boxes.getD i [])) (λi=>.ref (bs.getD i 0)) (qq9 (K:=K) hb) (by rw[jN];exact qc4 (by lia)) ?_ ?_⟩
  ·intro j x H2 hj hx s2 os ho Q1 Q2 q1 q2
   rw[Zg] at hx
   obtain⟨b,hbj,rfl⟩:=Zj.mp hx
   have vW:j<boxes.length:=by rw[jN] at hj;lia
   have hg:boxes[j]?=some (boxes.getD j []):=by rw[ZS,Ze vW];rfl
   have eb:bs.getD j 0=b:=by rw[ZS,hbj];rfl
   rw[eb] at q2
   match os,ho with
   |[o1],_=>
    refine⟨_,rfl,_,rfl,_,rfl,_,rfl,b,boxes.getD j [],r,c,2^m,rfl,s2 _ _ (jE j b _ hbj hg),h4 _ (Zv hg),_,rfl,?_⟩
    refine ite2 (λhc=>⟨_,rfl,q2 hc H2 (Same.refl _)⟩) (λhc=>q1 (Yj.mpr hc) H2 (Same.refl _))
  ·intro H2 s2 wU
   rw[jN] at wU
   have hRm:RowsL H2 D (met boxes r c (2^m)):=RowsL.filter (p:=bp) (qi8 r c (2^m)) j9 jE s2 wU
   have hml:(met boxes r c (2^m)).length<=900:=ZE xr4 vI
   have kN:∀b∈met boxes r c (2^m),b.length=4:=λb hb=>h4 b (X7.mp hb).1
   have kY:=s2 _ _ he
   have nDe:D≠e:=(qa7 he hD).symm
   have etree:bt m boxes r c=bt m boxes r c:=rfl
   refine⟨_,rfl,(by show 0<=sizeLine;decide),λl hl=>?_⟩
   refine⟨_,_,qo2 (hRm.same (qb7 hl)),.lst qa2 .nil,qr4 _,rfl,ql4 _,_,rfl,?_⟩
   rw[q56]
   have S3:Same H (upd H2 l (.lst [])):=s2.trans (qb7 hl)
   have hR3:=hRm.same (qb7 (o:=.lst []) hl)
   have he3:=qe5 (u:=.lst []) kY hl
   generalize upd H2 l (.lst [])=H3 at S3 hR3 he3
   cases hmt:met boxes r c (2^m) with
   |nil=>
    have hT:bt m boxes r c=.z:=xr6 hmt
    rw[hT] at q
    rw[hmt] at hR3
    refine iteT (iteT ?_)
    refine⟨_,rfl,(by show 0<=sizeLine;decide),λl2 jM=>?_⟩
    refine⟨_,_,qo2 (hR3.same (qb7 jM)),.lst qa2 .nil,qr4 _,rfl,ql4 _,.inr ⟨_,rfl,?_⟩⟩
    exact q _ (But.of (S3.trans (qb7 jM))) (qe5 he3 jM)
   |cons b0 ml=>
    have jJ:met boxes r c (2^m)≠[]:=by rw[hmt];exact λz=>nomatch z
    rw[<- hmt]
    clear hmt
    have hie:(met boxes r c (2^m)).isEmpty=false:=by
     cases hq:met boxes r c (2^m) with
     |nil=>exact absurd hq jJ
     |cons _ _=>rfl
    rw[hie]
    refine iteF ?_
    obtain⟨ms,hms,hmsl,hmrow⟩:=id hR3
    have hml2:(ms.map V.ref).length=(met boxes r c (2^m)).length:=by rw[Zf,hmsl]
    refine⟨_,rfl,D,rfl,⟨_,SqL.of hms⟩,λD2 hDD=>qf8 hDD (λi y _=>y=.bl (hasB r c (2^m) ((met boxes r c (2^m)).getD i []))) (qq9 (K:=K) hms) (by rw[hml2];exact qc4 (by lia)) (λ_ _ _ _ _ _ h=>h) ?_ ?_⟩
    ·intro j x H4 hj hx s4 Q' hq
     rw[Zg] at hx
     obtain⟨b,hbj,rfl⟩:=Zj.mp hx
     have vW:j<(met boxes r c (2^m)).length:=by rw[hml2] at hj;exact hj
     have hg:(met boxes r c (2^m))[j]?=some ((met boxes r c (2^m)).getD j []):=by rw[ZS,Ze vW];rfl
     exact⟨_,rfl,_,rfl,_,rfl,_,rfl,b,_,r,c,2^m,rfl,s4 _ _ (hmrow j b _ hbj hg),kN _ (Zv hg),hq _ _ (Same.refl _) rfl⟩
    ·intro ys H4 s4 jY kW vJ
     have ey:ys=((met boxes r c (2^m)).map (hasB r c (2^m))).map V.bl:=by
      refine qk1 (by rw[kW,hml2,Zf,Zf]) λj x hx=>?_
      have vW:j<(met boxes r c (2^m)).length:=by
       have:=(gS_ hx).1
       rw[kW,hml2] at this
       exact this
      rw[vJ j x hx,Zg,Zg,Ze vW,ZS,Ze vW]
      rfl
     subst ey
     refine⟨D2,_,rfl,jY,_,rfl,?_⟩
     have eany:((met boxes r c (2^m)).map (hasB r c (2^m))).any id=(met boxes r c (2^m)).any (hasB r c (2^m)):=by rw[List.any_map];rfl
     rw[eany]
     have S4:=S3.trans s4
     have hR4:=hR3.same s4
     have he4:=s4 _ _ he3
     cases hh:(met boxes r c (2^m)).any (hasB r c (2^m)) with
     |true=>
      have hT:bt m boxes r c=.o:=xr7 jJ hh
      rw[hT] at q
      refine iteT ?_
      refine⟨_,rfl,(by show 0<=sizeLine;decide),λl2 jM=>?_⟩
      refine⟨_,_,qo2 (hR4.same (qb7 jM)),.lst qa2 .nil,qr4 _,rfl,ql4 _,.inr ⟨_,rfl,?_⟩⟩
      rw[q56,hie]
      exact q _ (But.of (S4.trans (qb7 jM))) (qe5 he4 jM)
     |false=>
      obtain⟨k,rfl⟩:∃k,m=k+1:=by
       rcases m with _|k
       ·simp only[Nat.pow_zero] at jJ hh
        rw[xr5 jJ] at hh
        cases hh
       ·exact⟨k,rfl⟩
      cases vK k rfl
      refine iteF ?_
      have hT:=xC6 k boxes r c jJ hh
      obtain⟨p1,p2⟩:=qk5 (show k<=12 by lia)
      obtain⟨p3,p4⟩:=qk5 hk
      have ehalf:(((2^(k+1):Nat):Int))/2=((2^k:Nat):Int):=by
       rw[Yb]
       lia
      clear hie hms hmsl hmrow hml2 jY kW vJ eany hRm hR3 wU S3 s4 jN
      generalize met boxes r c (2^(k+1))=m at hT hR4 hml kN jJ hh
      refine⟨_,rfl,_,_,rfl,rfl,⟨by decide,by decide⟩,?_⟩
      refine⟨_,rfl,by decide,by decide,λD4 wJ=>?_⟩
      have nD4e:D4≠e:=(qa7 he4 wJ).symm
      refine q98 (λi xs H5=>But e H4 H5/\H5 D4=some (.lst xs)/\xs=vN (names k m r c L i)/\H5 e=some (.dT (tK (Tr.rowsOf (qL k m r c L i))))) (by decide) ⟨But.of (qb7 wJ),qa2,rfl,qe5 he4 wJ⟩ (λi xs H5 h=>⟨h.2.1,by rw[h.2.2.1,qk8];simp[names]⟩) ?_ ?_
      ·rintro i xs H5 hi ⟨b5,wG,rfl,he5⟩ Q2 q2
       have hi4:i<4:=hi
       have veq:[V.ref e,V.ref D,V.int ((r:Int)+((2^(k+1):Nat):Int)/2*((0+(i:Int))/2)),V.int ((c:Int)+((2^(k+1):Nat):Int)/2*((0+(i:Int))%2)),V.int (((2^(k+1):Nat):Int)/2)]=[V.ref e,V.ref D,V.int ((r+2^k*(i/2):Nat):Int),V.int ((c+2^k*(i%2):Nat):Int),V.int ((2^k:Nat):Int)]:=by
        rw[ehalf,Ue,Vu,X9,Wy,Vu,X9,Wz]
        rfl
       refine⟨_,rfl,_,rfl,_,rfl,_,rfl,_,rfl,_,_,rfl,rfl,⟨by decide,by decide⟩,_,_,rfl,rfl,.inl ⟨by lia,by lia⟩,_,_,rfl,rfl,_,rfl,_,rfl,_,rfl,_,_,rfl,rfl,(by show (0:Int)<2;decide),_,_,rfl,rfl,.inl ⟨by lia,by lia⟩,_,_,rfl,rfl,_,rfl,
        e,D,m,r+2^k*(i/2),c+2^k*(i%2),qL k m r c L i,veq,hR4.but b5 nDe he4 (λu z=>by cases z),kN,hml,nDe,qJ2 hO i,he5,?_,λH6 b6 he6=>?_⟩
       ·have h1:=q97 (k:=k) (m:=m) (r:=r) (c:=c) (L:=L) i
        have h2:sz (k+1)=4*sz k+1:=rfl
        have h3:i*sz k<=3*sz k:=YC _ (by lia)
        lia
       ·refine q2 _ _ (b6 _ _ wG nD4e) ⟨?_,qa2,?_,?_⟩
        ·intro b o z nb
         rw[qb2 (qa7 z wJ)]
         exact b6 _ _ (b5 _ _ z nb) nb
        ·rw[qV8 hO]
         unfold vN
         rw[ZU]
         rfl
        ·rw[qb2 (Xr nD4e)]
         exact he6
      ·rintro xs H5 ⟨b5,wG,rfl,he5⟩
       have wG:H5 D4=some (.lst (vN (names k m r c L 4))):=wG
       have he5:H5 e=some (.dT (tK (Tr.rowsOf (qL k m r c L 4)))):=he5
       have O4:=qJ2 (k:=k) (m:=m) (r:=r) (c:=c) hO 4
       have in0:=qV7 (k:=k) (m:=m) (r:=r) (c:=c) hO (j:=0) 4 (by decide)
       have in1:=qV7 (k:=k) (m:=m) (r:=r) (c:=c) hO (j:=1) 4 (by decide)
       have in2:=qV7 (k:=k) (m:=m) (r:=r) (c:=c) hO (j:=2) 4 (by decide)
       have in3:=qV7 (k:=k) (m:=m) (r:=r) (c:=c) hO (j:=3) 4 (by decide)
       have hl4:=q97 (k:=k) (m:=m) (r:=r) (c:=c) (L:=L) 4
       have hs4:sz (k+1)=4*sz k+1:=rfl
       have e4:qL k m r c L 4=Tr.post (qt k m r c 3) (Tr.post (qt k m r c 2) (Tr.post (qt k m r c 1) (Tr.post (qt k m r c 0) L))):=rfl
       have en:names k m r c L 4=[Tr.name (qL k m r c L 4) (qt k m r c 0),Tr.name (qL k m r c L 4) (qt k m r c 1),Tr.name (qL k m r c L 4) (qt k m r c 2),Tr.name (qL k m r c L 4) (qt k m r c 3)]:=rfl
       rw[en] at wG
       rw[hT] at q
       generalize qL k m r c L 4=L4 at he5 O4 in0 in1 in2 in3 hl4 e4 wG
       generalize qt k m r c 0=t0,qt k m r c 1=t1,qt k m r c 2=t2,qt k m r c 3=t3 at in0 in1 in2 in3 e4 wG q
       have B5:But e H H5:=(But.of S4).trans b5
       refine⟨_,rfl,(by show 4<=sizeLine;decide),λa ha=>⟨(by show 4<=sizeLine;decide),λb hb'=>⟨(by show 2<=sizeLine;decide),λt ht=>?_⟩⟩⟩
       have S6:Same H5 (upd (upd (upd H5 a (.lst [.int 0,.int 0,.int 0,.int 0])) b (.lst [.int 1,.int 1,.int 1,.int 1])) t (.tup [.ref a,.ref b])):=((qb7 ha).trans (qb7 hb')).trans (qb7 ht)
       have da:DataAt (upd (upd (upd H5 a (.lst [.int 0,.int 0,.int 0,.int 0])) b (.lst [.int 1,.int 1,.int 1,.int 1])) t (.tup [.ref a,.ref b])) (.ref a) (dL [0,0,0,0]):=.lst (qe5 (qe5 qa2 hb') ht) (DatasAt.ints [0,0,0,0])
       have db:DataAt (upd (upd (upd H5 a (.lst [.int 0,.int 0,.int 0,.int 0])) b (.lst [.int 1,.int 1,.int 1,.int 1])) t (.tup [.ref a,.ref b])) (.ref b) (dL [1,1,1,1]):=.lst (qe5 qa2 ht) (DatasAt.ints [1,1,1,1])
       have wF:=S6 _ _ wG
       have he6:=S6 _ _ he5
       have ht6:upd (upd (upd H5 a (.lst [.int 0,.int 0,.int 0,.int 0])) b (.lst [.int 1,.int 1,.int 1,.int 1])) t (.tup [.ref a,.ref b]) t=some (.tup [.ref a,.ref b]):=qa2
       generalize upd (upd (upd H5 a (.lst [.int 0,.int 0,.int 0,.int 0])) b (.lst [.int 1,.int 1,.int 1,.int 1])) t (.tup [.ref a,.ref b])=H6 at S6 da db wF he6 ht6 ⊢
       refine⟨t,[.ref a,.ref b],[dL [0,0,0,0],dL [1,1,1,1]],dL ([Tr.name L4 t0,Tr.name L4 t1,Tr.name L4 t2,Tr.name L4 t3].map λx:Nat=>(x:Int)),rfl,ht6,.cons da (.cons db .nil),.lst (wF.trans (Yd (λz=>some (HO.lst z)) (qp5 _))) (DatasAt.ints _),qN7 _,(by simp[PyData.canLayAll0,qN7]),ZE (qP4 _) (by decide),?_⟩
       rw[Wa,Wa,List.any_nil,q12,q12,Bool.or_false]
       have B6:But e H H6:=B5.trans (But.of S6)
       refine⟨_,rfl,?_⟩
       have hk:∀s∈Tr.kids (.nd t0 t1 t2 t3),Tr.In L4 s:=λs hs=>by
        have:s=t0\/s=t1\/s=t2\/s=t3:=by simpa [Tr.kids] using hs
        rcases this with rfl|rfl|rfl|rfl<;>assumption
       refine ite2 (λhc=>?_) (λhc=>?_)
       ·rcases Vt _ _▸hc with z|z
        ·obtain⟨eL,em,e0⟩:=kp0 e4 (ZB z)
         rw[em] at q
         have q':=q H6 B6 (show H6 e=some (.dT (tK (Tr.rowsOf L))) from eL▸he6)
         exact⟨_,rfl,D4,_,0,.int (Tr.name L4 t0:Nat),rfl,rfl,SqL.of wF,rfl,by rw[e0];exact q'⟩
        ·obtain⟨eL,em,e0⟩:=kp1 e4 (ZB z)
         rw[em] at q
         have q':=q H6 B6 (show H6 e=some (.dT (tK (Tr.rowsOf L))) from eL▸he6)
         exact⟨_,rfl,D4,_,0,.int (Tr.name L4 t0:Nat),rfl,rfl,SqL.of wF,rfl,by rw[e0];exact q'⟩
       ·have hmk:=kpn hc
        rw[hmk] at q
        have hrow4:(Tr.kids (.nd t0 t1 t2 t3)).map (Tr.name L4)=[Tr.name L4 t0,Tr.name L4 t1,Tr.name L4 t2,Tr.name L4 t3]:=rfl
        have jI:=xo0 O4 hk
        rw[hrow4] at jI
        refine⟨_,rfl,D4,_,rfl,.inl ⟨SqL.of wF,λu hu=>?_⟩⟩
        have S7:=qb7 (o:=.tup (vN [Tr.name L4 t0,Tr.name L4 t1,Tr.name L4 t2,Tr.name L4 t3])) hu
        have he7:=S7 _ _ he6
        have hu7:upd H6 u (.tup (vN [Tr.name L4 t0,Tr.name L4 t1,Tr.name L4 t2,Tr.name L4 t3])) u=some (.tup ((keyN [Tr.name L4 t0,Tr.name L4 t1,Tr.name L4 t2,Tr.name L4 t3]).map kV)):=by rw[qa2,qv2]
        have wP:=S7 _ _ wF
        have B7:=B6.trans (But.of (e:=e) S7)
        generalize upd H6 u (.tup (vN [Tr.name L4 t0,Tr.name L4 t1,Tr.name L4 t2,Tr.name L4 t3]))=H7 at S7 he7 hu7 wP B7 ⊢
        refine⟨_,rfl,e,_,rfl,DGet.t he7 hu7,_,rfl,?_⟩
        rw[xi9]
        by_cases hm:[Tr.name L4 t0,Tr.name L4 t1,Tr.name L4 t2,Tr.name L4 t3]∈Tr.rowsOf L4
        ·rw[Zz hm]
         refine iteF ?_
         have wR:=jI.mp hm
         obtain⟨wH,eL⟩:=kpi hO e4 wR
         rw[qv4 (.inr (.inr wH))] at q
         rw[<- eL] at q wH
         refine⟨_,rfl,_,rfl,D4,_,rfl,.inl ⟨SqL.of wP,λu2 wK=>⟨e,_,rfl,xj0 O4 wH (qe5 he7 wK) qa2,?_⟩⟩⟩
         exact q _ (B7.trans (But.of (qb7 wK))) (qe5 he7 wK)
        ·rw[Zq hm]
         refine iteT ?_
         have wR:Tr.nd t0 t1 t2 t3∉L4:=λz=>hm (jI.mpr z)
         have ep:=kpx e4 wR
         have O5:=(Tr.post_ord (.nd t0 t1 t2 t3) L hO).1
         rw[ep] at q O5
         have er:=qy7 O4 hk
         rw[hrow4] at er
         have jB:(tK (Tr.rowsOf L4)).length=L4.length:=by unfold tK;rw[qr3,Tr.rowsOf_len]
         have hli:L4.length+1<=6000000:=by lia
         refine⟨_,rfl,e,_,rfl,he7,_,_,rfl,rfl,_,rfl,_,rfl,D4,_,rfl,.inl ⟨SqL.of wP,λu2 wK=>?_⟩⟩
         have he8:=qe5 (u:=.tup (vN [Tr.name L4 t0,Tr.name L4 t1,Tr.name L4 t2,Tr.name L4 t3])) he7 wK
         refine⟨e,_,rfl,DPut.t he8 (by rw[qa2,qv2]) (by rw[jB];exact Y4 (show L4.length<=6000000 by lia) (by decide)),?_⟩
         have eput:=xx6 O4 hk hm
         rw[eput]
         have hd8:upd (upd H7 u2 (.tup (vN [Tr.name L4 t0,Tr.name L4 t1,Tr.name L4 t2,Tr.name L4 t3]))) e (.dT (tK (Tr.rowsOf (L4++[.nd t0 t1 t2 t3])))) D4=some (.lst (vN [Tr.name L4 t0,Tr.name L4 t1,Tr.name L4 t2,Tr.name L4 t3])):=by
          rw[qb2 nD4e]
          exact qe5 wP wK
         have he9:upd (upd H7 u2 (.tup (vN [Tr.name L4 t0,Tr.name L4 t1,Tr.name L4 t2,Tr.name L4 t3]))) e (.dT (tK (Tr.rowsOf (L4++[.nd t0 t1 t2 t3])))) e=some (.dT (tK (Tr.rowsOf (L4++[.nd t0 t1 t2 t3])))):=qa2
         have B8:But e H (upd (upd H7 u2 (.tup (vN [Tr.name L4 t0,Tr.name L4 t1,Tr.name L4 t2,Tr.name L4 t3]))) e (.dT (tK (Tr.rowsOf (L4++[.nd t0 t1 t2 t3]))))):=(B7.trans (But.of (qb7 wK))).trans But.upd
         generalize upd (upd H7 u2 (.tup (vN [Tr.name L4 t0,Tr.name L4 t1,Tr.name L4 t2,Tr.name L4 t3]))) e (.dT (tK (Tr.rowsOf (L4++[.nd t0 t1 t2 t3]))))=H8 at hd8 he9 B8 ⊢
         have enm:∀s,Tr.In L4 s->Tr.name (L4++[.nd t0 t1 t2 t3]) s=Tr.name L4 s:=λs hs=>Tr.name_app hs O4
         refine⟨_,rfl,_,rfl,D4,_,rfl,.inl ⟨SqL.of hd8,λu3 hu3=>⟨e,_,rfl,xj0 (a:=t0) (b:=t1) (c:=t2) (d:=t3) O5 (by simp) (qe5 he9 hu3) (by rw[qa2,enm t0 in0,enm t1 in1,enm t2 in2,enm t3 in3]),?_⟩⟩⟩
         exact q _ (B8.trans (But.of (qb7 hu3))) (qe5 he9 hu3)
theorem xj9 {f fM fH:Addr}{fd fdM fdH:FuncData}(F:Fun K "_law_number" "_law_number" qj3 f fd) (B:Blt mg) (hN:mg "_law_number" = some (.ref f)) (bN:Binds K fd qJ3 [])
  (hM:mg "_law_meets" = some (.ref fM)) (FM:Fun K "_law_meets" "_law_meets" qy3 fM fdM) (bM:Binds K fdM qn4 [])
  (hH:mg "_law_has" = some (.ref fH)) (FH:Fun K "_law_has" "_law_has" lHas fH fdH) (bH:Binds K fdH qn4 []):∀k,k<=12->FnOk P w K mg base CX0 (k+2) f fd qJ3 (xh1 k)
 |0,h=>q99 F B hN bN hM FM bM hH FH bH h (sp':=λ_ _ _ _=>False) ⟨λ_ _ _ _ h=>h.elim,λ_ _ _ _ _ _ _ _ _ _ _ _ _ h=>h.elim⟩ (λj e=>nomatch e)
 |k+1,h=>q99 F B hN bN hM FM bM hH FH bH h (xj9 F B hN bN hM FM bM hH FH bH k (by lia)) (λj e=>by cases e;rfl)
end
def bTop (n:Nat) (boxes:List Row):Nat:=Tr.name (Tr.post (bt n boxes 0 0) []) (bt n boxes 0 0)
def qp0 (n:Nat) (boxes:List Row):List Row:=Tr.rowsOf (Tr.post (bt n boxes 0 0) [])
theorem xr8 {n:Nat}{boxes:List Row}(hn:n<=12):Canon n (bTop n boxes) (qp0 n boxes):=qU4 hn (qI6 n boxes 0 0) (qI7 n boxes 0 0)
theorem xC7 {n:Nat}{boxes:List Row}(hn:n<=12) (h:xg7 n boxes):(qp0 n boxes).length<=485:=by
 unfold qp0
 rw[Tr.rowsOf_len]
 have h1:=qo9 (bt n boxes 0 0) []
 have h2:=qJ1 hn h
 simp at h1
 lia
theorem b_T {n:Nat}{boxes:List Row}:T (qp0 n boxes) (bTop n boxes)=bt n boxes 0 0:=by
 obtain⟨ho,hi⟩:=Tr.post_ord (bt n boxes 0 0) [] Tr.ord_nil
 exact qv1 ho _ hi
section
variable {P:Program}{w:World}{K:PySem.W.Frag}{mg:Str->Option Value}{base:Heap}
abbrev nBSh:List Str:=["_law_n", "_law_boxes_here", "_law_rows", "_law_top"]
theorem scBSh:FnScope nBSh ["_law_n", "_law_boxes_here"] (qa3 qP0):=qc6
def xx9:Sp:=λvs H Q _=>∃(bp:Addr) (n:Nat) (boxes:List Row),vs=[.int (n:Nat),.ref bp]/\RowsL H bp boxes/\xg7 n boxes/\n<=12/\∀(H':Hp) (t:Addr),Same H H'->qd6 H' t n (bTop n boxes) (qp0 n boxes)->Q (.ref t) H'
theorem xy0 {f fN fM fH:Addr}{fd fdN fdM fdH:FuncData}(F:Fun K "_law_shape" "_law_shape" qP0 f fd) (B:Blt mg) (hN:mg "_law_number" = some (.ref fN)) (FN:Fun K "_law_number" "_law_number" qj3 fN fdN) (bN:Binds K fdN qJ3 [])
  (hM:mg "_law_meets" = some (.ref fM)) (FM:Fun K "_law_meets" "_law_meets" qy3 fM fdM) (bM:Binds K fdM qn4 [])
  (hH:mg "_law_has" = some (.ref fH)) (FH:Fun K "_law_has" "_law_has" lHas fH fdH) (bH:Binds K fdH qn4 []):FnOk P w K mg base CX0 15 f fd ["_law_n", "_law_boxes_here"] xx9:=by
 have GN:∀k,k<=12->FnOk P w K mg base CX0 (k+2) fN fdN qJ3 (xh1 k):=xj9 FN B hN bN hM FM bM hH FH bH
 refine F.ok scBSh (λvs H Q E h=>?_) (λcdv A outer s H vs Q E hr h=>?_)
 ·obtain⟨bp,n,boxes,rfl,_⟩:=h
  rfl
 ·obtain⟨bp,n,boxes,rfl,hR,hBx,hn,q⟩:=h
  have hrN:Room (n+2) _:=hr.mono (by lia)
  refine seqE ⟨_,⟨psN 2 scBSh.nd qN3⟩,?_⟩
  refine seqE ⟨_,⟨psN 3 scBSh.nd (qX9 (GN n hn) hrN (by rfl) hN FN.kp bN .nil xt5 (Ars2.go (.cons ⟨pv 2⟩ (.cons ⟨pv 1⟩ (.cons qg4 (.cons qg4 (.cons ⟨qa5 qi3 qa4 (pv 0)⟩ .nil rfl) rfl) rfl) rfl) rfl)))⟩,?_⟩
  refine qh7 ⟨_,⟨qa9 (qi4 (Ars2.go (.cons ⟨pv 0⟩ (.cons ⟨pv 3⟩ (.cons ⟨qc3 (qG7 rfl) (by rfl) B.tuple Yy (qa0 (pv 2) qa1)⟩ .nil rfl) rfl) rfl)))⟩,?_⟩
  intro e he
  have nbe:bp≠e:=by obtain⟨bs,hb,_⟩:=hR;exact qa7 hb he
  have h4:∀b∈boxes,b.length=4:=λb hb=>by
   obtain⟨r,c,h,w',rfl,_⟩:=hBx.1 b hb
   rfl
  have vI:boxes.length<=900:=by
   rcases hBx.2 with ⟨_,h⟩|⟨h,_⟩<;>lia
  have hsz:sz n<=6000000:=ZE (xx8 hn) (by decide)
  have veq:[V.ref e,V.ref bp,V.int 0,V.int 0,V.int (1*2^((n:Int)).toNat)]=[V.ref e,V.ref bp,V.int ((0:Nat):Int),V.int ((0:Nat):Int),V.int ((2^n:Nat):Int)]:=by rw[qw7];rfl
  refine⟨_,rfl,_,rfl,_,rfl,_,_,rfl,rfl,⟨by lia,by lia,by decide⟩,e,bp,boxes,0,0,[],veq,hR.same (qb7 he),h4,vI,nbe,Tr.ord_nil,qa2,by simpa using hsz,λH1 b1 he1=>?_⟩
  have S1:Same H H1:=λb o z=>b1 _ _ (qe5 z he) (qa7 z he)
  refine⟨_,rfl,_,rfl,_,rfl,e,_,rfl,he1,λl bs hl hbl2 hbs=>⟨(by show 3<=sizeLine;decide),λt ht=>?_⟩⟩
  refine q _ t ((S1.trans (qb7 hl)).trans (qb7 ht)) ⟨⟨l,qa2,bs,qe5 qa2 ht,?_,?_⟩,xr8 hn,?_⟩
  ·rw[hbl2]
   unfold tK
   rw[qr3]
   rfl
  ·intro i b r e1 e2
   have hi:=(gS_ e2).1
   have jB:(tK (qp0 n boxes)).length=(qp0 n boxes).length:=by unfold tK;rw[qr3]
   have hkv:(tK (qp0 n boxes))[i]?=some ((tK (qp0 n boxes))[i]'(by lia)):=Ze (by lia)
   have hk1:((tK (qp0 n boxes))[i]'(by lia)).1=keyN r:=by
    have h0:=hkv
    unfold tK tabl at h0
    rw[Zg] at h0
    obtain⟨p,hp,ep⟩:=Zj.mp h0
    rw[List.getElem?_zipIdx] at hp
    obtain⟨r',hr',rfl⟩:=Zj.mp hp
    rw[e2] at hr'
    cases hr'
    exact (Yd Prod.fst ep).symm
   have:=hbs i b _ e1 hkv
   rw[hk1,qv2] at this
   exact qe5 (qe5 this hl) ht
  ·exact ZE (xC7 hn hBx) (by decide)
end
end Pr
namespace Qf
open Tr
theorem qw9:∀t:Tr,nlf t=3*nds t+1
 |.z=>rfl
 |.o=>rfl
 |.nd a b c d=>by
  show nlf a+nlf b+nlf c+nlf d=3*(1+nds a+nds b+nds c+nds d)+1
  rw[qw9 a,qw9 b,qw9 c,qw9 d]
  lia
end Qf
namespace Pr
open PySem L2 Qf
def dPr (prs:List PrT):List PyData:=prs.map λe=>PyData.tuple [.str (txt e.1),.str (txt e.2)]
theorem qS4 {H:Hp}:∀{bs:List Addr}{prs:List PrT},Paired (qi7 H) bs prs->DatasAt H (bs.map V.ref) (dPr prs)
 |_,_,.nil=>.nil
 |_,_,.cons h r=>.cons (.tup h (.cons (.str _) (.cons (.str _) .nil))) (qS4 r)
theorem xk0 {e:List Nat}(he:∀d∈e,d<4):PyData.canLay0 (.str (txt e))=true:=by
 show PyData.strOk (txt e)=true
 unfold PyData.strOk
 simp only[txt,V7,List.all_map,Ye]
 intro d hd
 have:=he d hd
 match d,this with
 |0,_|1,_|2,_|3,_=>decide +kernel
theorem qJ4:∀prs:List PrT,(∀e∈prs,(∀d∈e.1,d<4)/\∀d∈e.2,d<4)->PyData.canLayAll0 (dPr prs)=true
 |[],_=>rfl
 |e::prs,h=>by
  obtain⟨h1,h2⟩:=h e (by simp)
  show (PyData.canLay0 (.tuple [.str (txt e.1),.str (txt e.2)])&&PyData.canLayAll0 (dPr prs))=true
  rw[qJ4 prs (λx hx=>h x (Zn _ hx)),Bool.and_true]
  show (PyData.canLay0 (.str (txt e.1))&&(PyData.canLay0 (.str (txt e.2))&&true))=true
  rw[xk0 h1,xk0 h2]
  rfl
theorem qS5:∀prs:List PrT,PyData.depthAll (dPr prs)<=1
 |[]=>by decide
 |e::prs=>by
  have:=qS5 prs
  show max (PyData.depth (.tuple [.str (txt e.1),.str (txt e.2)])) (PyData.depthAll (dPr prs))<=1
  have e1:PyData.depth (.tuple [.str (txt e.1),.str (txt e.2)])=1:=rfl
  rw[e1]
  lia
theorem qz1 {n:Nat}{t:Tr}{d g:Int}{x y:List Nat}:qB4 n t d g x y<->qB4 n t (-d) (-g) y x:=by
 have key:∀{d g:Int}{x y:List Nat},qB4 n t d g x y->qB4 n t (-d) (-g) y x:=λ{d g x y} h=>by
  obtain⟨r,c,r',c',a1,a2,a3,a4,b1,b2,b3,b4,b5⟩:=h
  exact⟨r',c',r,c,a3,a4,a1,a2,b2,b1,by lia,by lia,Xr b5⟩
 refine⟨key,λh=>?_⟩
 have:=key h
 rwa [Int.neg_neg,Int.neg_neg] at this
theorem qp8 {l:List PrT}(h:qw4 l):l.Nodup:=ZT.mpr (YY (λ{a b} z e=>by rw[e] at z;exact XW _ z) h)
theorem qS6:∀{ls:List Str},(∀x∈ls,∃a,x=txt a)->∃lds:List (List Nat),ls=lds.map txt
 |[],_=>⟨[],rfl⟩
 |x::ls,h=>by
  obtain⟨a,rfl⟩:=h x (by simp)
  obtain⟨lds,rfl⟩:=qS6 (ls:=ls) λy hy=>h y (by simp[hy])
  exact⟨a::lds,rfl⟩
section
variable {P:Program}{w:World}{K:PySem.W.Frag}{mg:Str->Option Value}{base:Heap}
abbrev nLaw:List Str:=["_law_script", "_law_k", "_law_pot_here", "_law_n", "_law_told_here", "_law_side", "_law_leaves", "_law_across", "_law_along"]
theorem scLaw:FnScope nLaw ["_law_script"] (qa3 lLaw):=qc6
def xh2 (K:PySem.W.Frag):Sp:=λvs H Q _=>∃(a:Addr) (ns:List Int),vs=[.ref a]/\SqL K H a (ns.map V.int)/\ns.length<=63/\∀H',Q (.bl true) H'
theorem xy1 {f fP fD fX fT fL fU fO fB:Addr}{fd fdP fdD fdX fdT fdL fdU fdO fdB:FuncData}(F:Fun K "law" "law" lLaw f fd) (B:Blt mg) (C:Blt2 mg) (kR:mg "sorted" = none)
  (hP:mg "_law_pot" = some (.ref fP)) (FP:Fun K "_law_pot" "_law_pot" lPot fP fdP) (bP:Binds K fdP ["_law_script", "_law_k"] [])
  (hD:mg "_law_digit" = some (.ref fD)) (FD:Fun K "_law_digit" "_law_digit" qu3 fD fdD) (bD:Binds K fdD ["_law_pot_here", "_law_many"] [])
  (hX:mg "_law_boxes" = some (.ref fX)) (FX:Fun K "_law_boxes" "_law_boxes" qG1 fX fdX) (bX:Binds K fdX ["_law_pot_here", "_law_n"] []) (GX:FnOk P w K mg base CX0 3 fX fdX ["_law_pot_here", "_law_n"] q96)
  (hT:mg "_law_shape" = some (.ref fT)) (FT:Fun K "_law_shape" "_law_shape" qP0 fT fdT) (bT:Binds K fdT ["_law_n", "_law_boxes_here"] []) (GT:FnOk P w K mg base CX0 15 fT fdT ["_law_n", "_law_boxes_here"] xx9)
  (hL:mg "_law_leaf" = some (.ref fL)) (FL:Fun K "_law_leaf" "_law_leaf" q34 fL fdL) (bL:Binds K fdL nLf3 []) (GL:FnOk P w K mg base CX0 1 fL fdL nLf3 spLf)
  (hU:mg "_law_touching" = some (.ref fU)) (FU:Fun K "_law_touching" "_law_touching" qP1 fU fdU) (bU:Binds K fdU nTo3 []) (GU:FnOk P w K mg base CX0 2 fU fdU nTo3 spTo)
  (hO:mg "_law_told" = some (.ref fO)) (FO:Fun K "_law_told" "_law_told" q35 fO fdO) (bO:Binds K fdO nTl3 []) (GO:FnOk P w K mg base CX0 18 fO fdO nTl3 spTl)
  (hB:mg "_law_back" = some (.ref fB)) (FB:Fun K "_law_back" "_law_back" qG2 fB fdB) (bB:Binds K fdB nBk []) (GB:FnOk P w K mg base CX0 1 fB fdB nBk xx1) :
  FnOk P w K mg base CX0 19 f fd ["_law_script"] (xh2 K):=by
 have GP:FnOk P w K mg base CX0 1 fP fdP ["_law_script", "_law_k"] (xw6 K):=xw7 FP B C
 have GD:FnOk P w K mg base CX0 1 fD fdD ["_law_pot_here", "_law_many"] qo5:=qr6 FD
 refine F.ok scLaw (λvs H Q E h=>?_) (λcdv A outer s H vs Q E hr h=>?_)
 ·obtain⟨a,ns,rfl,_⟩:=h
  rfl
 ·obtain⟨a,ns,rfl,hSq,j9,q⟩:=h
  have jL:Room 1 _:=hr.mono (by decide)
  have kC:Room 2 _:=hr.mono (by decide)
  have hr3:Room 3 _:=hr.mono (by decide)
  have hr15:Room 15 _:=hr.mono (by decide)
  refine seqE ⟨_,⟨qk6 YO rfl (qg6 (by rfl) B.range (qa0 (qa8 (qD3 rfl) (by rfl) B.max Va (qa0 qa4 (qa0 (qa8 (qs3 rfl) (by rfl) B.min Vi (qa0 (qa8 qc9 (by rfl) B.len YA (qa0 (pv 0) qa1)) (qa0 qa4 qa1))) qa1))) qa1)) (pgN 1 scLaw.nd)
    (StB.go (.cons ⟨psN 2 scLaw.nd (pcN GP jL hP FP.kp bP (qa0 (pv 0) (qa0 (pv 1) qa1)))⟩
    (.cons ⟨psN 3 scLaw.nd (pcN GD jL hD FD.kp bD (qa0 (pv 2) (qa0 qa4 qa1)))⟩
    (.cons ⟨psN 4 scLaw.nd (PEb.go ⟨pcN GT hr15 hT FT.kp bT (Ars2.go (.cons ⟨pv 3⟩ (.cons ⟨pcN GX hr3 hX FX.kp bX (qa0 (pv 2) (qa0 (pv 3) qa1))⟩ .nil rfl) rfl))⟩)⟩
    (.cons ⟨psN 5 scLaw.nd (qa5 qi3 qa4 (pv 3))⟩
    (.cons ⟨psN 6 scLaw.nd (PEb.go ⟨qa8 (qC7 rfl hr) (by rfl) kR XM (Ars2.go (.cons ⟨qc3 (qV3 rfl) (by rfl) B.set PyProof.Rows.boot_set (Ars2.go (.cons ⟨qe7 nLaw (qa3 lLaw) rfl rfl rfl scLaw.nd (qg6 (by rfl) B.range (qa0 (qa5 qf4 (pv 5) (pv 5)) qa1)) (λcl C fp s₀ H₀=>PEb.go ⟨pcN GL jL hL FL.kp bL (Ars2.go (.cons ⟨pv 5⟩ (.cons ⟨qa5 qg3 (pv 0) (pv 6)⟩ (.cons ⟨qa5 qm0 (pv 0) (pv 6)⟩ .nil rfl) rfl) rfl))⟩)⟩ .nil rfl))⟩ .nil rfl))⟩)⟩
    (.cons ⟨psN 7 scLaw.nd (pcN GU kC hU FU.kp bU (qa0 (pv 4) (qa0 qa4 (qa0 qa4 qa1))))⟩
    (.cons ⟨psN 8 scLaw.nd (pcN GU kC hU FU.kp bU (qa0 (pv 4) (qa0 qa4 (qa0 qa4 qa1))))⟩
    (.cons ⟨qd8 (PW.pt (qn6 (qb6 (qF0 hr) (PEb.go ⟨pcN GO hr hO FO.kp bO (qa0 (pv 4) (qa0 (pv 6) (qa0 qa4 qa1)))⟩) (pv 7) (qb5 _)) (qi1 (qb6 (qF0 hr) (PEb.go ⟨pcN GO hr hO FO.kp bO (qa0 (pv 4) (qa0 (pv 6) (qa0 qa4 qa1)))⟩) (PEb.go ⟨pcN GB jL hB FB.kp bB (qa0 (pv 7) qa1)⟩) (qb5 _))))) (qa6 (qa9 qp9)) qb3⟩
    (.one ⟨qd8 (PW.pt (qn6 (qb6 (qF0 hr) (PEb.go ⟨pcN GO hr hO FO.kp bO (qa0 (pv 4) (qa0 (pv 6) (qa0 qa4 qa1)))⟩) (pv 8) (qb5 _)) (qi1 (qb6 (qF0 hr) (PEb.go ⟨pcN GO hr hO FO.kp bO (qa0 (pv 4) (qa0 (pv 6) (qa0 qa4 qa1)))⟩) (PEb.go ⟨pcN GB jL hB FB.kp bB (qa0 (pv 8) qa1)⟩) (qb5 _))))) (qa6 (qa9 qp9)) qb3⟩))))))))))⟩,?_⟩
  refine qh7 ⟨_,⟨qa9 qp9⟩,?_⟩
  refine⟨_,rfl,a,_,rfl,.inl hSq,_,_,rfl,_,_,rfl,_,rfl,?_,?_,qD1 (λi σ H2=>(i:Int)<=5/\Same H H2/\∃v1 v2 v3 v4 v5 v6 v7 v8,σ=[some (.ref a),v1,v2,v3,v4,v5,v6,v7,v8]) ⟨by decide,Same.refl _,none,none,none,none,none,none,none,none,rfl⟩ ?_ ?_⟩
  ·split<;>(try split)<;>lia
  ·split<;>(try split)<;>lia
  ·rintro i σ H2 hi ⟨i1,s2,v1,v2,v3,v4,v5,v6,v7,v8,rfl⟩
   have hi':(i:Int)<5:=by
    revert hi
    split<;>(try split)<;>lia
   refine⟨_,rfl,_,rfl,a,_,ns,rfl,s2.seq hSq,j9,by lia,by lia,λH3 p s3 wD kS=>?_⟩
   refine⟨_,rfl,p,4,rfl,kS,by decide,by decide,λn H4 hn b4 vS=>?_⟩
   refine⟨_,rfl,_,rfl,_,rfl,p,n,rfl,vS,by lia,λH5 l boxes b5 hp5 hl hRb hBx=>?_⟩
   refine⟨l,n,boxes,rfl,hRb,hBx,by lia,λH6 t s6 sh6=>?_⟩
   have hfew:=qJ1 (by lia) hBx
   have eT:T (qp0 n boxes) (bTop n boxes)=bt n boxes 0 0:=b_T
   have k8:nlf (T (qp0 n boxes) (bTop n boxes))<=2000:=by rw[eT,qw9];lia
   generalize bTop n boxes=tp,qp0 n boxes=rows at sh6 eT k8
   have B6:But p H2 H6:=λb o e nb=>s6 _ _ (b5 _ _ (b4 _ _ (s3 _ _ e) nb) nb)
   have S6:Same H H6:=λb o e=>B6 _ _ (s2 _ _ e) (qa7 (s2 _ _ e) wD)
   have kD:=qv5 sh6.2.1
   have e1n:(1:Int)*2^((n:Nat):Int).toNat=((2^n:Nat):Int):=by rw[Uo,Zy];simp
   have vR:0<2^n:=Z7 (by decide)
   have hS8:2^n<=8:=YB (n:=2) (by decide) (show n<=3 by lia)
   refine⟨_,rfl,_,_,rfl,rfl,⟨by lia,by lia,by decide⟩,?_⟩
   refine qx2 (σ':=[some (.ref a),some (.int (0+(i:Int))),some (.ref p),some (.int (n:Nat)),some (.ref t),some (.int ((2^n:Nat):Int)),v6,v7,v8]) (Yd (λz:Int=>[some (V.ref a),some (V.int (0+(i:Int))),some (V.ref p),some (V.int (n:Nat)),some (V.ref t),some (V.int z),v6,v7,v8]) e1n) ?_
   obtain⟨S,wI⟩:∃S,S=2^n:=⟨_,rfl⟩
   rw[<- wI] at vR hS8 ⊢
   have hSS:S*S<=64:=VJ hS8 hS8
   have eN:(((S:Nat):Int)*((S:Nat):Int))=((S*S:Nat):Int):=by rw[X9]
   have eN2:(((S:Nat):Int)*((S:Nat):Int)).toNat=S*S:=by rw[eN,Zy]
   refine⟨_,rfl,_,rfl,_,_,rfl,rfl,.inl ⟨by lia,by lia⟩,_,rfl,by rw[eN];lia,by rw[eN];lia,λD hD=>qf8 hD (λj y _=>y=.str (txt (lfAd (T rows tp) n (j/S) (j%S)))) (xb7 (n:=(((S:Nat):Int)*((S:Nat):Int)).toNat)) (by rw[eN2];exact qu7 (by lia)) (λ_ _ _ _ _ _ h=>h) ?_ ?_⟩
   ·rintro j x H7 hj rfl s7 Q' q'
    have eD:((j:Nat):Int)/((S:Nat):Int)=((j/S:Nat):Int):=(Wy ..).symm
    have eM:((j:Nat):Int)%((S:Nat):Int)=((j%S:Nat):Int):=(Wz ..).symm
    exact⟨_,rfl,_,rfl,_,rfl,_,_,rfl,rfl,⟨by lia,by lia⟩,_,rfl,_,rfl,_,_,rfl,rfl,by lia,t,n,tp,j/S,j%S,rows,(by show[V.ref t,V.int ((j:Int)/(S:Int)),V.int ((j:Int)%(S:Int))]=_;rw[eD,eM]),qh8 sh6 s7,by lia,q' _ _ (Same.refl _) rfl⟩
   ·intro ys H7 s7 hD7 wA hyr
    rw[eN2] at wA
    have eys:ys=((List.range (S*S)).map λj=>txt (lfAd (T rows tp) n (j/S) (j%S))).map V.str:=by
     refine Xd λj=>?_
     rw[Zg,Zg]
     by_cases hj:j<S*S
     ·have hjy:j<ys.length:=by lia
      rw[Ze hjy,Xj hj,hyr j _ (Ze hjy)]
      rfl
     ·rw[Yk (by lia),Yk (by rw[Yx];lia)]
      rfl
    rw[eys] at hD7
    refine⟨D,_,rfl,hD7,by rw[Zf,Yx];exact Y4 (show S*S+1<=65 by lia) (by decide),λr hr0=>⟨r,_,rfl,qa2,λq5 us ls wC hus kE jI _=>?_⟩⟩
    obtain⟨lds,rfl⟩:=qS6 (ls:=ls) λx hx=>by
     obtain⟨j,_,rfl⟩:=ZH.mp ((jI x).mp hx)
     exact⟨_,rfl⟩
    have hus':us=vT lds:=by rw[hus];unfold vT;rw[YH];rfl
    have ndl:lds.Nodup:=by
     rw[ZT] at kE ⊢
     rw[XA] at kE
     exact YY (λ{u v} z e=>z (by rw[e])) kE
    have meml:∀x,x∈lds<->∃r c,r<S/\c<S/\lfAd (T rows tp) n r c=x:=λx=>by
     have h1:x∈lds<->txt x∈lds.map txt:=⟨λh=>ZH.mpr ⟨x,h,rfl⟩,λh=>by
      obtain⟨y,hy,e⟩:=ZH.mp h
      rw[<- qo4 e];exact hy⟩
     rw[h1,jI]
     constructor
     ·intro h
      obtain⟨j,hj,e⟩:=ZH.mp h
      have hj:=Yq.mp hj
      exact⟨j/S,j%S,Nat.div_lt_of_lt_mul hj,XC _ vR,qo4 e⟩
     ·rintro⟨r,c,a1,a2,rfl⟩
      have hj:r*S+c<S*S:=by
       have:(r+1)*S<=S*S:=YC _ a1
       rw[Xa] at this
       lia
      have ed:(r*S+c)/S=r:=by rw[Yl,Uk vR,Xn a2,Wu]
      have em:(r*S+c)%S=c:=by rw[Yl,Nat.mul_add_mod,YG a2]
      exact ZH.mpr ⟨r*S+c,Yq.mpr hj,by rw[ed,em]⟩
    have lenl:lds.length<=2000:=by
     have h1:∀(l m:List (List Nat)),l.Nodup->(∀k,k∈l->k∈m)->l.length<=m.length:=λl=>by
      induction l with
      |nil=>intro m _ _;exact Zo _
      |cons y l ih=>
       intro m nd sub
       obtain⟨n1,n2⟩:=Yg.mp nd
       have hy:=sub y (by simp)
       have:=ih (m.erase y) n2 λz hz=>(Vp (λe=>n1 (by rw[<- e];exact hz))).mpr (sub z (by simp[hz]))
       rw[WE hy] at this
       have:=WW hy
       rw[ZQ]
       lia
     have h2:=h1 lds ((lvT (T rows tp)).map (·.1)) ndl λx hx=>by
      obtain⟨r,c,a1,a2,rfl⟩:=(meml x).mp hx
      obtain⟨f,hf,_⟩:=qj6 kD (by rw[<- wI];exact a1) (by rw[<- wI];exact a2)
      exact ZH.mpr ⟨_,hf,rfl⟩
     rw[Zf,qw0] at h2
     lia
    have lfl:∀x∈lds,∃f,(x,f)∈lvT (T rows tp):=λx hx=>by
     obtain⟨r,c,a1,a2,rfl⟩:=(meml x).mp hx
     obtain⟨f,hf,_⟩:=qj6 kD (by rw[<- wI];exact a1) (by rw[<- wI];exact a2)
     exact⟨f,hf⟩
    have memT:∀sd,sd<4->∀e:PrT,(e.1∈lds/\e.2∈bsd n (T rows tp) e.1 sd)<->qB4 n (T rows tp) (dnw sd) (rgt sd) e.1 e.2:=λsd wL e=>by
     constructor
     ·rintro⟨h1,h2⟩
      obtain⟨f,hf⟩:=lfl _ h1
      exact ((qB5 kD hf wL).2 _).mp h2
     ·intro h
      have h1:e.1∈lds:=by
       obtain⟨r,c,_,_,a1,a2,_,_,b1,_⟩:=h
       exact (meml _).mpr ⟨r,c,by rw[wI];exact a1,by rw[wI];exact a2,b1⟩
      obtain⟨f,hf⟩:=lfl _ h1
      exact⟨h1,((qB5 kD hf wL).2 _).mpr h⟩
    have digs:∀{d g:Int}{e:PrT},qB4 n (T rows tp) d g e.1 e.2->(∀d∈e.1,d<4)/\∀d∈e.2,d<4:=λ{d g e} h=>by
     obtain⟨r,c,r',c',a1,a2,a3,a4,b1,b2,_⟩:=h
     obtain⟨f,hf,_⟩:=qj6 kD a1 a2
     obtain⟨f',hf',_⟩:=qj6 kD a3 a4
     rw[b1] at hf
     rw[b2] at hf'
     exact⟨(qy8 n _ _ kD hf).1,(qy8 n _ _ kD hf').1⟩
    have vF:∀L:List PrT,(PyData.list (dPr L)).depth<=60:=λL=>by
     have:=qS5 L
     show PyData.depthAll (dPr L)+1<=60
     lia
    refine⟨_,rfl,t,n,tp,0,1,rows,rfl,qh8 sh6 ((s7.trans (qb7 hr0)).trans (qb7 wC)),by lia,by decide,by decide,λHb la prsA sb hla vB haL hma=>?_⟩
    have sab:Same H6 Hb:=λb o e=>sb _ _ (qb7 wC _ _ (qb7 hr0 _ _ (s7 _ _ e)))
    have hqb:Hb q5=some (.lst (vT lds)):=by rw[<- hus'];exact sb _ _ qa2
    clear sb hD7
    have shb:=qh8 sh6 sab
    refine⟨_,rfl,t,n,tp,1,0,rows,rfl,shb,by lia,by decide,by decide,λHc lg prsG sc hlg hrg hgL vV=>?_⟩
    have shc:=qh8 shb sc
    have layA:PyData.canLayAll0 (dPr prsA)=true:=qJ4 _ λe he=>digs ((hma e).mp he)
    have layG:PyData.canLayAll0 (dPr prsG)=true:=qJ4 _ λe he=>digs ((vV e).mp he)
    have dat:∀{Hx:Hp}{l:Addr}{prs:List PrT},PrL Hx l prs->DataAt Hx (.ref l) (.list (dPr prs)):=λh=>by
     obtain⟨bs,h1,h2⟩:=h
     exact .lst h1 (qS4 h2)
    refine⟨_,rfl,_,rfl,t,q5,n,tp,1,lds,rows,rfl,shc,by lia,by decide,k8,sc _ _ hqb,ndl,lenl,lfl,λHd l1 p1 sd jV hr1' hm1=>?_⟩
    have e1:p1=prsA:=qj8 hr1' vB λe=>(hm1 e).trans ((memT 1 (by decide) e).trans (hma e).symm)
    subst e1
    have rfA:PyData.eqv (.list (dPr p1)) (.list (dPr p1))=true:=Wr _ layA
    refine⟨_,rfl,_,_,dat jV,dat (hla.same (sc.trans sd)),layA,layA,vF _,_,rfl,?_⟩
    rw[rfA]
    refine iteF ?_
    have shd:=qh8 shc sd
    have hqd:=sd _ _ (sc _ _ hqb)
    refine⟨_,rfl,_,rfl,t,q5,n,tp,3,lds,rows,rfl,shd,by lia,by decide,k8,hqd,ndl,lenl,lfl,λHe l3 p3 se hl3 hr3' hm3=>?_⟩
    refine⟨_,rfl,la,p1,rfl,hla.same ((sc.trans sd).trans se),qp8 vB,by lia,λHf lb pb sf jN hrb hmb=>?_⟩
    have e3:p3=pb:=qj8 hr3' hrb λe=>(hm3 e).trans ((memT 3 (by decide) e).trans ((qz1 (d:=0) (g:=-1)).trans ((hma (e.2,e.1)).symm.trans (hmb e).symm)))
    subst e3
    have layB:PyData.canLayAll0 (dPr p3)=true:=qJ4 _ λe he=>digs ((memT 3 (by decide) e).mp ((hm3 e).mp he))
    have rfB:PyData.eqv (.list (dPr p3)) (.list (dPr p3))=true:=Wr _ layB
    refine⟨_,_,dat (hl3.same sf),dat jN,layB,layB,vF _,_,rfl,?_⟩
    rw[rfB]
    refine iteF ?_
    have scf:Same Hc Hf:=(sd.trans se).trans sf
    have shf:=qh8 shc scf
    have hqf:=scf _ _ (sc _ _ hqb)
    refine⟨_,rfl,_,rfl,t,q5,n,tp,2,lds,rows,rfl,shf,by lia,by decide,k8,hqf,ndl,lenl,lfl,λHg l2 p2 sg jM hr2' hm2=>?_⟩
    have e2:p2=prsG:=qj8 hr2' hrg λe=>(hm2 e).trans ((memT 2 (by decide) e).trans (vV e).symm)
    subst e2
    have rfG:PyData.eqv (.list (dPr p2)) (.list (dPr p2))=true:=Wr _ layG
    refine⟨_,rfl,_,_,dat jM,dat (hlg.same (scf.trans sg)),layG,layG,vF _,_,rfl,?_⟩
    rw[rfG]
    refine iteF ?_
    refine⟨_,rfl,_,rfl,t,q5,n,tp,0,lds,rows,rfl,qh8 shf sg,by lia,by decide,k8,sg _ _ hqf,ndl,lenl,lfl,λHh l0 p0 sh hl0 hr0' hm0=>?_⟩
    refine⟨_,rfl,lg,p2,rfl,hlg.same ((scf.trans sg).trans sh),qp8 hrg,by lia,λHj lj pj sj hlj hrj hmj=>?_⟩
    have e0:p0=pj:=qj8 hr0' hrj λe=>(hm0 e).trans ((memT 0 (by decide) e).trans ((qz1 (d:=-1) (g:=0)).trans ((vV (e.2,e.1)).symm.trans (hmj e).symm)))
    subst e0
    have layC:PyData.canLayAll0 (dPr p0)=true:=qJ4 _ λe he=>digs ((memT 0 (by decide) e).mp ((hm0 e).mp he))
    have rfC:PyData.eqv (.list (dPr p0)) (.list (dPr p0))=true:=Wr _ layC
    refine⟨_,_,dat (hl0.same sj),dat hlj,layC,layC,vF _,_,rfl,?_⟩
    rw[rfC]
    refine iteF ?_
    have sfin:Same H Hj:=S6.trans (sab.trans (sc.trans (scf.trans (sg.trans (sh.trans sj)))))
    exact⟨by lia,sfin,_,_,_,_,_,_,_,_,rfl⟩
  ·rintro σ H2 ⟨_,s2,v1,v2,v3,v4,v5,v6,v7,v8,rfl⟩
   exact q H2
end
def qc7 (K:PySem.W.Frag) (x:Str) (st:Stmt):Prop:=∃(f:Addr) (fd:FuncData),PySem.W.nsIn K mainGlobals x=some (some (.ref f))/\Fun K x x st f fd
theorem d_mk {K:PySem.W.Frag}{x:Str}{st:Stmt}{f:Addr}{od an:Option Addr}{sl:Array (Option Value)}{oc kV dc pm cd ct:Value}(a:PySem.W.nsIn K mainGlobals x=some (some (.ref f)))
  (l:K.lookup f=some ⟨oc,od,.func (PySem.W.fnOf x x (qh0 st) (qg2 st) (qa3 st) .none kV dc pm an cd ct),sl⟩) (c:PySem.W.codeIn K cd x=true) (k:PySem.W.keepIn K (.ref f)=true):qc7 K x st:=⟨f,_,a,xh8 l c k⟩
def qb8 (K:PySem.W.Frag) (x:Str):Prop:=PySem.W.nsIn K mainGlobals x=some none
theorem us1 {α:Type}{P:List α->Prop}(h:∀a:α,P [a]):∀us:List α,us.length=1->P us
 |[a],_=>h a
theorem us2 {α:Type}{P:List α->Prop}(h:∀a b:α,P [a,b]):∀us:List α,us.length=2->P us
 |[a,b],_=>h a b
theorem us3 {α:Type}{P:List α->Prop}(h:∀a b c:α,P [a,b,c]):∀us:List α,us.length=3->P us
 |[a,b,c],_=>h a b c
theorem us4 {α:Type}{P:List α->Prop}(h:∀a b c d:α,P [a,b,c,d]):∀us:List α,us.length=4->P us
 |[a,b,c,d],_=>h a b c d
theorem us5 {α:Type}{P:List α->Prop}(h:∀a b c d e:α,P [a,b,c,d,e]):∀us:List α,us.length=5->P us
 |[a,b,c,d,e],_=>h a b c d e
theorem kt4 {K:PySem.W.Frag}{a:Addr}{od:Option Addr}{sl:Array (Option Value)}{n a0 a1 a2 a3:Nat}(l:K.lookup a=some ⟨.type "tuple",od,.seq #[.ref a0,.ref a1,.ref a2,.ref a3] n,sl⟩):KTup K a [.ref a0,.ref a1,.ref a2,.ref a3]:=
 ⟨_,_,_,l,rfl,rfl,(by show 4<=sizeLine;decide),.cons rfl (.cons rfl (.cons rfl (.cons rfl .nil)))⟩
theorem kt3 {K:PySem.W.Frag}{a:Addr}{od:Option Addr}{sl:Array (Option Value)}{t0 t1:Tok}{n a2:Nat}{x y:Int}(l:K.lookup a=some ⟨.type "tuple",od,.seq #[.int x t0,.int y t1,.ref a2] n,sl⟩):KTup K a [.int x,.int y,.ref a2]:=
 ⟨_,_,_,l,rfl,rfl,(by show 3<=sizeLine;decide),.cons ⟨_,rfl⟩ (.cons ⟨_,rfl⟩ (.cons rfl .nil))⟩
theorem kt2 {K:PySem.W.Frag}{a:Addr}{od:Option Addr}{sl:Array (Option Value)}{t0 t1:Tok}{n a0 a1:Nat}(l:K.lookup a=some ⟨.type "tuple",od,.seq #[.int (a0:Nat) t0,.int (a1:Nat) t1] n,sl⟩):KTup K a (vN [a0,a1]):=
 ⟨_,_,_,l,rfl,rfl,(by show 2<=sizeLine;decide),.cons ⟨_,rfl⟩ (.cons ⟨_,rfl⟩ .nil)⟩
theorem qS7 {p:Nat->Prop}(h0:p 0) (h1:p 1) (h2:p 2) (h3:p 3):∀s,s<4->p s
 |0,_=>h0
 |1,_=>h1
 |2,_=>h2
 |3,_=>h3
theorem xy2 {l:PySem.W.OpenLaw}{w:World}{K:PySem.W.Frag}{h:Heap}{mg:Str->Option Value}{fa fL S D0 D1 D2 D3 A0 A1 A2 A3:Addr}(X:K.In h) (G:h.Ns mainGlobals mg) (hfa:mg "law" = some (.ref fa)){odL anL:Option Addr}{slL:Array (Option Value)}{ocL kVL dcL pmL cdL ctL:Value}{t0 t1 t2:Tok}
  (aL:PySem.W.nsIn K mainGlobals "law" = some (some (.ref fL))) (lL:K.lookup fL=some ⟨ocL,odL,.func (PySem.W.fnOf "law" "law" (qh0 lLaw) (qg2 lLaw) (qa3 lLaw) .none kVL dcL pmL anL cdL ctL),slL⟩) (cL:PySem.W.codeIn K cdL "law" = true) (kL:PySem.W.keepIn K (.ref fL)=true)
  (g0:PySem.W.nsIn K mainGlobals "FIRST" = some (some (.int 2 t0))) (g1:PySem.W.nsIn K mainGlobals "GREATEST_SIZE" = some (some (.int 12 t1))) (g2:PySem.W.nsIn K mainGlobals "MOST_LEAVES" = some (some (.int 2000 t2)))
  (d0:qc7 K "is_whole" qt9) (d1:qc7 K "is_plain" qO3) (d2:qc7 K "depths_of" q30) (d3:qc7 K "end_rows" sEnd) (d4:qc7 K "places_as_ended" qz9) (d5:qc7 K "is_size" xb8) (d6:qc7 K "is_number" qu1) (d7:qc7 K "is_row" sRow) (d8:qc7 K "are_rows" q33) (d9:qc7 K "is_telling" qr0) (d10:qc7 K "is_shape" qF9) (d11:qc7 K "want_shape" qO7) (d12:qc7 K "is_address" q31) (d13:qc7 K "is_cell" xb9) (d14:qc7 K "want_address" qO4) (d15:qc7 K "side_of" q32) (d16:qc7 K "quarter_of" qO5) (d17:qc7 K "box_at" qO6) (d18:qc7 K "address_at" qu0) (d19:qc7 K "count_leaves" qu2) (d20:qc7 K "want_leaves" qO8) (d21:qc7 K "want_coarse" qA0) (d22:qc7 K "want_side" qA1) (d23:qc7 K "way_down" xc0) (d24:qc7 K "gather_along" qO9) (d25:qc7 K "leaves_beside" xc1) (d26:qc7 K "beside" qr1) (d27:qc7 K "_law_pot" lPot) (d28:qc7 K "_law_digit" qu3) (d29:qc7 K "_law_cells" qG0) (d30:qc7 K "_law_box" lBox) (d31:qc7 K "_law_boxes" qG1) (d32:qc7 K "_law_meets" qy3) (d33:qc7 K "_law_has" lHas) (d34:qc7 K "_law_number" qj3) (d35:qc7 K "_law_shape" qP0) (d36:qc7 K "_law_leaf" q34) (d37:qc7 K "_law_touching" qP1) (d38:qc7 K "_law_told" q35) (d39:qc7 K "_law_back" qG2)
  (z0:qb8 K "isinstance") (z1:qb8 K "int") (z2:qb8 K "bool") (z3:qb8 K "tuple") (z4:qb8 K "list") (z5:qb8 K "set") (z6:qb8 K "len") (z7:qb8 K "all") (z8:qb8 K "any") (z9:qb8 K "enumerate") (z10:qb8 K "range") (z11:qb8 K "max") (z12:qb8 K "min") (z13:qb8 K "abs") (z14:qb8 K "repr") (z15:qb8 K "str") (z16:qb8 K "sum") (z17:qb8 K "sorted")
  (sn:PySem.W.nsIn K mainGlobals "SIDES" = some (some (.ref S)))
  (sk:KTup K S [.ref D0,.ref D1,.ref D2,.ref D3])
  (dk0:KTup K D0 [.int (-1),.int (0),.ref A0])
  (dk1:KTup K D1 [.int (0),.int (1),.ref A1])
  (dk2:KTup K D2 [.int (1),.int (0),.ref A2])
  (dk3:KTup K D3 [.int (0),.int (-1),.ref A3])
  (ak0:KTup K A0 (vN [2,3]))
  (ak1:KTup K A1 (vN [0,2]))
  (ak2:KTup K A2 (vN [0,1]))
  (ak3:KTup K A3 (vN [1,3])) :
  ∃fd:FuncData,(∀(s:Shared) (v:Value),BindsTo s fd ⟨[v],[]⟩ [("_law_script",v)])/\∀base:Heap,K.In base->base.Ns mainGlobals mg->FnOk l.prog w K mg base CX0 19 fa fd ["_law_script"] (xh2 K):=by
 have e:=hfa.symm.trans (Zu X G aL)
 cases e
 have nn:∀{x:Str},qb8 K x->mg x=none:=λz=>PySem.W.mg_none_of X G z
 have B:Blt mg:=⟨nn z0,nn z1,nn z2,nn z3,nn z4,nn z5,nn z6,nn z7,nn z8,nn z9,nn z10,nn z11,nn z12⟩
 have C:Blt2 mg:=⟨nn z13,nn z14,nn z15⟩
 have T:Cst mg:=⟨⟨t0,Zu X G g0⟩,⟨t1,Zu X G g1⟩⟩
 have FL:=xh8 (st:=lLaw) lL cL kL
 obtain⟨f0,fd0,a0,F0⟩:=d0
 have h0:=Zu X G a0
 have b0:=F0.binds (ps:=["thing"]) λ_ _ _ _ _ _=>us1 λ_=>rfl
 obtain⟨f1,fd1,a1,F1⟩:=d1
 have h1:=Zu X G a1
 have b1:=F1.binds (ps:=["row"]) λ_ _ _ _ _ _=>us1 λ_=>rfl
 obtain⟨f2,fd2,a2,F2⟩:=d2
 have h2:=Zu X G a2
 have b2:=F2.binds (ps:=["rows"]) λ_ _ _ _ _ _=>us1 λ_=>rfl
 obtain⟨f3,fd3,a3,F3⟩:=d3
 have h3:=Zu X G a3
 have b3:=F3.binds (ps:=["rows", "number", "ended"]) λ_ _ _ _ _ _=>us3 λ_ _ _=>rfl
 obtain⟨f4,fd4,a4,F4⟩:=d4
 have h4:=Zu X G a4
 have b4:=F4.binds (ps:=["rows", "top"]) λ_ _ _ _ _ _=>us2 λ_ _=>rfl
 obtain⟨f5,fd5,a5,F5⟩:=d5
 have h5:=Zu X G a5
 have b5:=F5.binds (ps:=["thing"]) λ_ _ _ _ _ _=>us1 λ_=>rfl
 obtain⟨f6,fd6,a6,F6⟩:=d6
 have h6:=Zu X G a6
 have b6:=F6.binds (ps:=["thing", "many"]) λ_ _ _ _ _ _=>us2 λ_ _=>rfl
 obtain⟨f7,fd7,a7,F7⟩:=d7
 have h7:=Zu X G a7
 have b7:=F7.binds (ps:=["thing", "before"]) λ_ _ _ _ _ _=>us2 λ_ _=>rfl
 obtain⟨f8,fd8,a8,F8⟩:=d8
 have h8:=Zu X G a8
 have b8:=F8.binds (ps:=["thing"]) λ_ _ _ _ _ _=>us1 λ_=>rfl
 obtain⟨f9,fd9,a9,F9⟩:=d9
 have h9:=Zu X G a9
 have b9:=F9.binds (ps:=["thing"]) λ_ _ _ _ _ _=>us1 λ_=>rfl
 obtain⟨f10,fd10,a10,F10⟩:=d10
 have h10:=Zu X G a10
 have b10:=F10.binds (ps:=["thing"]) λ_ _ _ _ _ _=>us1 λ_=>rfl
 obtain⟨f11,fd11,a11,F11⟩:=d11
 have h11:=Zu X G a11
 have b11:=F11.binds (ps:=["shape"]) λ_ _ _ _ _ _=>us1 λ_=>rfl
 obtain⟨f12,fd12,a12,F12⟩:=d12
 have h12:=Zu X G a12
 have b12:=F12.binds (ps:=["n", "thing"]) λ_ _ _ _ _ _=>us2 λ_ _=>rfl
 obtain⟨f13,fd13,a13,F13⟩:=d13
 have h13:=Zu X G a13
 have b13:=F13.binds (ps:=["n", "row", "column"]) λ_ _ _ _ _ _=>us3 λ_ _ _=>rfl
 obtain⟨f14,fd14,a14,F14⟩:=d14
 have h14:=Zu X G a14
 have b14:=F14.binds (ps:=["n", "address"]) λ_ _ _ _ _ _=>us2 λ_ _=>rfl
 obtain⟨f15,fd15,a15,F15⟩:=d15
 have h15:=Zu X G a15
 have b15:=F15.binds (ps:=["n"]) λ_ _ _ _ _ _=>us1 λ_=>rfl
 obtain⟨f16,fd16,a16,F16⟩:=d16
 have h16:=Zu X G a16
 have b16:=F16.binds (ps:=["row", "column", "k"]) λ_ _ _ _ _ _=>us3 λ_ _ _=>rfl
 obtain⟨f17,fd17,a17,F17⟩:=d17
 have h17:=Zu X G a17
 have b17:=F17.binds (ps:=["n", "address"]) λ_ _ _ _ _ _=>us2 λ_ _=>rfl
 obtain⟨f18,fd18,a18,F18⟩:=d18
 have h18:=Zu X G a18
 have b18:=F18.binds (ps:=["n", "row", "column", "size"]) λ_ _ _ _ _ _=>us4 λ_ _ _ _=>rfl
 obtain⟨f19,fd19,a19,F19⟩:=d19
 have h19:=Zu X G a19
 have b19:=F19.binds (ps:=["top", "rows"]) λ_ _ _ _ _ _=>us2 λ_ _=>rfl
 obtain⟨f20,fd20,a20,F20⟩:=d20
 have h20:=Zu X G a20
 have b20:=F20.binds (ps:=["shape", "most"]) λ_ _ _ _ _ _=>us2 λ_ _=>rfl
 obtain⟨f21,fd21,a21,F21⟩:=d21
 have h21:=Zu X G a21
 have b21:=F21.binds (ps:=["shape"]) λ_ _ _ _ _ _=>us1 λ_=>rfl
 obtain⟨f22,fd22,a22,F22⟩:=d22
 have h22:=Zu X G a22
 have b22:=F22.binds (ps:=["side"]) λ_ _ _ _ _ _=>us1 λ_=>rfl
 obtain⟨f23,fd23,a23,F23⟩:=d23
 have h23:=Zu X G a23
 have b23:=F23.binds (ps:=["rows", "top", "address"]) λ_ _ _ _ _ _=>us3 λ_ _ _=>rfl
 obtain⟨f24,fd24,a24,F24⟩:=d24
 have h24:=Zu X G a24
 have b24:=F24.binds (ps:=["rows", "number", "address", "along", "addresses"]) λ_ _ _ _ _ _=>us5 λ_ _ _ _ _=>rfl
 obtain⟨f25,fd25,a25,F25⟩:=d25
 have h25:=Zu X G a25
 have b25:=F25.binds (ps:=["shape", "address", "side"]) λ_ _ _ _ _ _=>us3 λ_ _ _=>rfl
 obtain⟨f26,fd26,a26,F26⟩:=d26
 have h26:=Zu X G a26
 have b26:=F26.binds (ps:=["shape", "address", "side"]) λ_ _ _ _ _ _=>us3 λ_ _ _=>rfl
 obtain⟨f27,fd27,a27,F27⟩:=d27
 have h27:=Zu X G a27
 have b27:=F27.binds (ps:=["_law_script", "_law_k"]) λ_ _ _ _ _ _=>us2 λ_ _=>rfl
 obtain⟨f28,fd28,a28,F28⟩:=d28
 have h28:=Zu X G a28
 have b28:=F28.binds (ps:=["_law_pot_here", "_law_many"]) λ_ _ _ _ _ _=>us2 λ_ _=>rfl
 obtain⟨f29,fd29,a29,F29⟩:=d29
 have h29:=Zu X G a29
 have b29:=F29.binds (ps:=["_law_pot_here", "_law_n"]) λ_ _ _ _ _ _=>us2 λ_ _=>rfl
 obtain⟨f30,fd30,a30,F30⟩:=d30
 have h30:=Zu X G a30
 have b30:=F30.binds (ps:=["_law_pot_here", "_law_n", "_law_most"]) λ_ _ _ _ _ _=>us3 λ_ _ _=>rfl
 obtain⟨f31,fd31,a31,F31⟩:=d31
 have h31:=Zu X G a31
 have b31:=F31.binds (ps:=["_law_pot_here", "_law_n"]) λ_ _ _ _ _ _=>us2 λ_ _=>rfl
 obtain⟨f32,fd32,a32,F32⟩:=d32
 have h32:=Zu X G a32
 have b32:=F32.binds (ps:=["_law_box_here", "_law_row", "_law_column", "_law_side"]) λ_ _ _ _ _ _=>us4 λ_ _ _ _=>rfl
 obtain⟨f33,fd33,a33,F33⟩:=d33
 have h33:=Zu X G a33
 have b33:=F33.binds (ps:=["_law_box_here", "_law_row", "_law_column", "_law_side"]) λ_ _ _ _ _ _=>us4 λ_ _ _ _=>rfl
 obtain⟨f34,fd34,a34,F34⟩:=d34
 have h34:=Zu X G a34
 have b34:=F34.binds (ps:=["_law_rows", "_law_boxes_here", "_law_row", "_law_column", "_law_side"]) λ_ _ _ _ _ _=>us5 λ_ _ _ _ _=>rfl
 obtain⟨f35,fd35,a35,F35⟩:=d35
 have h35:=Zu X G a35
 have b35:=F35.binds (ps:=["_law_n", "_law_boxes_here"]) λ_ _ _ _ _ _=>us2 λ_ _=>rfl
 obtain⟨f36,fd36,a36,F36⟩:=d36
 have h36:=Zu X G a36
 have b36:=F36.binds (ps:=["_law_told_here", "_law_row", "_law_column"]) λ_ _ _ _ _ _=>us3 λ_ _ _=>rfl
 obtain⟨f37,fd37,a37,F37⟩:=d37
 have h37:=Zu X G a37
 have b37:=F37.binds (ps:=["_law_told_here", "_law_down", "_law_right"]) λ_ _ _ _ _ _=>us3 λ_ _ _=>rfl
 obtain⟨f38,fd38,a38,F38⟩:=d38
 have h38:=Zu X G a38
 have b38:=F38.binds (ps:=["_law_told_here", "_law_leaves", "_law_side"]) λ_ _ _ _ _ _=>us3 λ_ _ _=>rfl
 obtain⟨f39,fd39,a39,F39⟩:=d39
 have h39:=Zu X G a39
 have b39:=F39.binds (ps:=["_law_some"]) λ_ _ _ _ _ _=>us1 λ_=>rfl
 refine⟨PySem.W.fnOf "law" "law" (qh0 lLaw) (qg2 lLaw) (qa3 lLaw) .none kVL dcL pmL anL cdL ctL,λs v=>.of_eq rfl,λbase _ _=>?_⟩
 have gSize:FnOk l.prog w K mg base CX0 2 _ _ _ _:=xn1 F5 B T h0 F0 b0
 have gNum:FnOk l.prog w K mg base CX0 2 _ _ _ _:=q36 F6 B T h0 F0 b0
 have gPl:∀d,FnOk l.prog w K mg base CX0 (d+2) _ _ _ (qA3 d):=λd=>q41 F4 B T h3 F3 b3 d
 have gRow:FnOk l.prog w K mg base CX0 3 _ _ _ _:=xv5 F7 B h6 F6 b6 gNum
 have gRows:FnOk l.prog w K mg base CX0 4 _ _ _ _:=xn7 F8 B h7 F7 b7 gRow
 have gTell:FnOk l.prog w K mg base CX0 5 _ _ _ _:=qU5 F9 B h5 F5 b5 gSize h8 F8 b8 gRows h6 F6 b6 gNum h2 F2 b2
 have gShape:FnOk l.prog w K mg base CX0 15 _ _ _ _:=xc7 F10 B T h9 F9 b9 gTell h1 F1 b1 h4 F4 b4 gPl
 have gWant:FnOk l.prog w K mg base CX0 16 _ _ _ _:=xc8 F11 h10 F10 b10 gShape
 have hsm:mg "sum" = none:=nn z16
 have hmo:∃t,mg "MOST_LEAVES" = some (.int 2000 t):=⟨t2,Zu X G g2⟩
 have SS:Sides K mg S (λi=>[D0,D1,D2,D3].getD i 0) (λi=>[A0,A1,A2,A3].getD i 0):=⟨Zu X G sn,sk,qS7 dk0 dk1 dk2 dk3,qS7 ak0 ak1 ak2 ak3⟩
 have gAd:FnOk l.prog w K mg base CX0 2 _ _ _ _:=xo5 F12 B C.str
 have gWA:FnOk l.prog w K mg base CX0 3 _ _ _ _:=xe2 F14 h12 F12 b12 gAd
 have gCl:FnOk l.prog w K mg base CX0 2 _ _ _ _:=xo7 F13 B h0 F0 b0 h15 F15 b15
 have gBA:FnOk l.prog w K mg base CX0 2 _ _ _ _:=xe3 F17 B h15 F15 b15
 have gAA:FnOk l.prog w K mg base CX0 2 _ _ _ _:=q65 F18 B C.str h16 F16 b16
 have gWD:FnOk l.prog w K mg base CX0 1 _ _ _ _:=xB2 F23 B T B.enum
 have gAl:∀d,FnOk l.prog w K mg base CX0 (d+1) _ _ _ (spAl K d):=xB3 F24 T C.str h24 b24
 have gCo:FnOk l.prog w K mg base CX0 1 _ _ _ _:=xB4 F19 hsm
 have gWL:FnOk l.prog w K mg base CX0 2 _ _ _ _:=xB5 F20 h19 F19 b19 gCo
 have gCs:FnOk l.prog w K mg base CX0 3 _ _ _ _:=xB6 F21 hmo h20 F20 b20 gWL
 have gSd:FnOk l.prog w K mg base CX0 2 _ _ _ _:=xw2 F22 B SS h0 F0 b0
 have gLB:FnOk l.prog w K mg base CX0 14 _ _ _ _:=xB8 F25 B SS h17 F17 b17 gBA h13 F13 b13 gCl h23 F23 b23 gWD h18 F18 b18 gAA h24 F24 b24 gAl
 have gBs:FnOk l.prog w K mg base CX0 17 _ _ _ _:=xB9 F26 h11 F11 b11 gWant h14 F14 b14 gWA h22 F22 b22 gSd h21 F21 b21 gCs h25 F25 b25 gLB
 have gBx:FnOk l.prog w K mg base CX0 3 _ _ _ _:=xg9 F31 B h28 F28 b28 h29 F29 b29 h30 F30 b30
 have gBS:FnOk l.prog w K mg base CX0 15 _ _ _ _:=xy0 F35 B h34 F34 b34 h32 F32 b32 h33 F33 b33
 have kR:mg "sorted" = none:=nn z17
 have gLf:FnOk l.prog w K mg base CX0 1 _ _ _ _:=xC0 F36 B
 have gTo:FnOk l.prog w K mg base CX0 2 _ _ _ _:=xC3 F37 B kR h36 F36 b36 gLf
 have gTl:FnOk l.prog w K mg base CX0 18 _ _ _ _:=xC4 F38 kR h26 F26 b26 gBs
 have gBk:FnOk l.prog w K mg base CX0 1 _ _ _ _:=xx2 F39 kR
 exact xy1 FL B C kR h27 F27 b27 h28 F28 b28 h31 F31 b31 gBx h35 F35 b35 gBS h36 F36 b36 gLf h37 F37 b37 gTo h38 F38 b38 gTl h39 F39 b39 gBk
theorem walk {l:PySem.W.OpenLaw}{q:Program}{loose:List Str}{XP:(Str->Option Value)->Heap->Prop}{YP:World->Heap->Prop}{d:DefRec}{K:Params->PySem.W.Frag}(hn:l.most=some 63) (hdf:d.params.defaults=[])
  (hY:∀(w:World) (h:Heap),YP w h->(K w.params).In h)
  (F:∀(w:World) (mg:Str->Option Value) (fa:Addr) (h:Heap),(K w.params).In h->h.Ns mainGlobals mg->mg d.name=some (.ref fa) ->
   ∃fd:FuncData,(∀(s:Shared) (u:Value),BindsTo s fd ⟨[u],[]⟩ [("_law_script",u)])/\∀base:Heap,(K w.params).In base->base.Ns mainGlobals mg->FnOk l.prog w (K w.params) mg base CX0 19 fa fd ["_law_script"] (xh2 (K w.params))) :
  PySem.W.WalkO q loose XP YP l.row.toRowW d [] (λf vs=>PySem.call f vs):=
 L2.xl2 (n:=63) (k:=19) (x:= "_law_script") (CX:=λ_=>CX0) (sp:=λw=>xh2 (K w.params)) hn (by decide) hdf ⟨rfl,by decide,by decide,rfl⟩ hY F (λ_ _ a ns hl _ hS=>⟨a,ns,rfl,hS,hl,λ_=>rfl⟩) λ_ _ _ _ _ z=>z
end Pr
open PySem PySem.W PyProof.Rows
set_option maxRecDepth 100000 in
set_option maxHeartbeats 0 in
theorem PySem.Challenge.cw_quarterfold_k52_whole_beside_there_and_b_holds : PySem.Challenge.rw_quarterfold_k52_whole_beside_there_and_b.Holds := by
 w_on;o_law
 refine holds_open (q:=Hd.q0) (loose:=[]) (Xt:=Hd.X0) (XP:=XL Hd.q0 []) (YP:=Hook.says (kHook Hd.K0 Hd.as0 Hd.as_K)) (N:=Hd.N0) Hd.xy3
  (Hook.of (kHook Hd.K0 Hd.as0 Hd.as_K)) (Hook.keeps (kHook Hd.K0 Hd.as0 Hd.as_K)) (λs e=>xl_of s (Bool.and_eq_true_iff.mp e).1) XL.keeps
  (by rfl) (by rfl) (by rfl) (λs e=>recFacts_of (Bool.and_eq_true_iff.mp e).2)
  (by rfl) (by first|assumption|decide +kernel) (by decide +kernel) ⟨rfl,rfl,rfl,rfl,rfl,by decide +kernel⟩ ?hw ?hc
 case hw=>w_witness2
 k_fill
 refine Pr.walk (l:=PySem.Challenge.rw_quarterfold_k52_whole_beside_there_and_b) rfl rfl (λw h Y=>PySem.W.kIn_of Y) ?F
 case F=>
  intro w mg fa h KX G vV
  refine' Pr.xy2 KX G vV ?aL ?lL ?cL ?kL ?gc0 ?gc1 ?gc2 ?d0 ?d1 ?d2 ?d3 ?d4 ?d5 ?d6 ?d7 ?d8 ?d9 ?d10 ?d11 ?d12 ?d13 ?d14 ?d15 ?d16 ?d17 ?d18 ?d19 ?d20 ?d21 ?d22 ?d23 ?d24 ?d25 ?d26 ?d27 ?d28 ?d29 ?d30 ?d31 ?d32 ?d33 ?d34 ?d35 ?d36 ?d37 ?d38 ?d39 ?z0 ?z1 ?z2 ?z3 ?z4 ?z5 ?z6 ?z7 ?z8 ?z9 ?z10 ?z11 ?z12 ?z13 ?z14 ?z15 ?z16 ?z17 ?sn ?sk ?dk0 ?dk1 ?dk2 ?dk3 ?ak0 ?ak1 ?ak2 ?ak3
  (case aL=>k_is);(case lL=>k_is);(case cL=>k_is);(case kL=>k_is)
  (case gc0=>k_is)
  (case gc1=>k_is)
  (case gc2=>k_is)
  (case z0=>unfold Pr.qb8;k_is)
  (case z1=>unfold Pr.qb8;k_is)
  (case z2=>unfold Pr.qb8;k_is)
  (case z3=>unfold Pr.qb8;k_is)
  (case z4=>unfold Pr.qb8;k_is)
  (case z5=>unfold Pr.qb8;k_is)
  (case z6=>unfold Pr.qb8;k_is)
  (case z7=>unfold Pr.qb8;k_is)
  (case z8=>unfold Pr.qb8;k_is)
  (case z9=>unfold Pr.qb8;k_is)
  (case z10=>unfold Pr.qb8;k_is)
  (case z11=>unfold Pr.qb8;k_is)
  (case z12=>unfold Pr.qb8;k_is)
  (case z13=>unfold Pr.qb8;k_is)
  (case z14=>unfold Pr.qb8;k_is)
  (case z15=>unfold Pr.qb8;k_is)
  (case z16=>unfold Pr.qb8;k_is)
  (case z17=>unfold Pr.qb8;k_is)
  (case sn=>k_is)
  (case sk=>refine' Pr.kt4 ?qa;(case qa=>k_is))
  (case dk0=>refine' Pr.kt3 ?qa;(case qa=>k_is))
  (case dk1=>refine' Pr.kt3 ?qa;(case qa=>k_is))
  (case dk2=>refine' Pr.kt3 ?qa;(case qa=>k_is))
  (case dk3=>refine' Pr.kt3 ?qa;(case qa=>k_is))
  (case ak0=>refine' Pr.kt2 ?qa;(case qa=>k_is))
  (case ak1=>refine' Pr.kt2 ?qa;(case qa=>k_is))
  (case ak2=>refine' Pr.kt2 ?qa;(case qa=>k_is))
  (case ak3=>refine' Pr.kt2 ?qa;(case qa=>k_is))
  all_goals (refine' Pr.d_mk ?qa ?ql ?qc ?qk;(case qa=>k_is);(case ql=>k_is);(case qc=>k_is);(case qk=>k_is))
