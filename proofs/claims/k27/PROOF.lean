import PyProof.Rows.All
import Wide.All
import OpenK.AllK
import Wide.FinOn
import Lean
import PyProof.EqAt
import PyProof.EqKinds
import PyProof.TupleCall
import Open.Row
import PySem.SetOps
import PyProof.SetRoads
import PyProof.Rows.SetFrom
import PyProof.FactsAll.subtypes_4
import PyProof.WalksMore
import OpenK.KOwn
import PyProof.NeData
import PyProof.ReprRoads
import PyProof.WalksEnum
import PyProof.EnumMake
import PyProof.Rows.EnumRows
import KE.KTryMore
import KE.KIntText
import KE.KDictList
import PyProof.ConsumeS
import PyProof.ListRange
import PyProof.ListMulRoad
import PyProof.CompUse
import PyProof.CompFree
import PyProof.DictUpdate
import PyProof.Rows.TupDisplay
import PyProof.DictWalks
import PyProof.TupleOfGen
import KE.BitLaws
import PyProof.Draws
import PyProof.StrLawsChain
import KE.KxText
import PyProof.FString
import PyProof.ReprLen
import PyProof.StrLawsRepr
import PyProof.Rows.SortRunsK
import PyProof.Rows.SortShellK
import PyProof.Rows.SortKeyStr
import PyProof.Rows.SortWalk
import PyProof.Rows.StrInSeq
import PyProof.P3Eq
import PyProof.DictKinds
import PyProof.StrOps
import PyProof.TupleKey
import PySem.Challenge.RW_quarterfold_k27_leaves
set_option Elab.async false
set_option linter.all false
set_option maxRecDepth 100000
set_option maxHeartbeats 8000000
open PyProof.Rows renaming SortSt→au
open PySem renaming Value→aa,Shared→ae,Addr→af,Program→ag,wpAny→ah,model→ai,World→aj,FuncData→ak,Heap→ao,Around→aq,Str→ar,Expr→av,SetTable→aw,Obj→az,Scope→aA,Stmt→aB,Pos→aC
variable{P prog:ag}{w:aj}{A:aq}{E:aa->ae->Prop}{s:ae}{K:PySem.W.Frag}{mg:ar->Option aa}{base:ao}
def Za:=@PySem.wpAny_bind
def Zb:=@Nat.le_refl
def Zc:=@PySem.wpAny_pure
def Zd:=@PySem.Heap.get?_push_of_some
def Ze:=@List.getElem?_eq_getElem
def Zf:=@List.length_map
def Zg:=@List.getElem?_map
def Zh:=@decide_eq_true
def Zi:=@decide_eq_false
def Zj:=@PySem.Heap.lt_size
def Zk:=@List.mem_cons_of_mem
def Zl:=@if_neg
def Zm:=@PySem.Heap.get?_push_size
def Zn:=@List.length_append
def Zo:=@Option.map_eq_some_iff
def Zp:=@List.getElem?_append_left
def Zq:=@PyProof.Rows.wpS_bind
def Zr:=@if_pos
def Zs:=@Bool.false_eq_true
def Zt:=@Nat.zero_le
def Zu:=@List.mem_cons_self
def Zv:=@PySem.W.mg_of
def Zw:=@Nat.le_trans
def Zx:=@List.getElem?_append_right
def Zy:=@List.mem_of_getElem?
def Zz:=@List.length_cons
def ZA:=@PyProof.Rows.wpS_pure
def ZB:=@of_decide_eq_true
def ZC:=@Nat.ne_of_lt
def ZD:=@List.mem_cons
def ZE:=@Option.some.inj
def ZF:=@List.getD_eq_getElem?_getD
def ZG:=@List.map_cons
def ZH:=@Bool.false_ne_true
def ZI:=@PyProof.Rows.boot_isinstance
def ZJ:=@List.size_toArray
def ZK:=@Array.getElem?_eq_some_iff
def ZL:=@PySem.Heap.get?_update_other
def ZM:=@getElem?_pos
def ZN:=@Array.getElem?_eq_getElem
def ZO:=@Nat.lt_of_lt_of_le
def ZP:=@Array.length_toList
def ZQ:=@List.mem_iff_getElem
def ZR:=@PyProof.Rows.KeyOrd.kle_trans
def ZS:=@List.map_append
def ZT:=@List.filterMap_cons
def ZU:=@if_false
def ZV:=@List.cons_lt_cons_iff
def ZW:=@PySem.wpAny_newObj_type
def ZX:=@List.mem_append
def ZY:=@Int.toNat_natCast
def ZZ:=@PyProof.Rows.boot_tuple
def Z0:=@PyProof.Rows.KeyOrd.kle_of_klt
def Z1:=@List.mem_append_right
def Z2:=@Array.toList_append
def Z3:=@List.foldl_cons
def Z4:=@List.append_assoc
def Z5:=@Array.getElem?_toList
def Z6:=@PySem.wpAny_callSpecial?_slot
def Z7:=@PySem.F.plainAttrs_list
def Z8:=@List.all_eq_true
def Z9:=@PySem.wpAny_truthy_bool
def Yb:=@PySem.wpAny_field
def Yc:=@Nat.lt_succ_of_lt
def Ye:=@PySem.boot_len
def Yg:=@PySem.wpAny_holding
def Yh:=@PySem.mem_of_lookup
def Yi:=@List.mem_map
def Yj:=@PySem.wpAny_call_entry
def Yk:=@Nat.le_add_right
def Ym:=@decide_eq_decide
def Yn:=@Nat.lt_irrefl
def Yo:=@congrArg
def Yp:=@Nat.not_lt_zero
def Yq:=@Array.getElem?_setIfInBounds
def Yr:=@PySem.F.slot_list_append
def Ys:=@PySem.F.type_list_append
def Yt:=@Nat.le_of_lt
def Yu:=@Bool.eq_false_iff
def Yv:=@List.mem_range
def Yw:=@PySem.wpAny_mono
def Yx:=@of_decide_eq_false
def Yy:=@PySem.Obj.data_mapFields
def Yz:=@Array.size_map
def YA:=@PySem.W.kia_one
def YB:=@List.nodup_cons
def YC:=@Bool.and_eq_true
def YD:=@List.lookup_cons
def YE:=@Nat.lt_succ_self
def YF:=@PyProof.Rows.F.plain_set_update_loop
def YG:=@List.take_append_drop
def YH:=@PySem.Heap.get?_update_self
def YI:=@List.getElem?_eq_none
def YJ:=@Bool.not_true
def YK:=@List.append_nil
def YL:=@List.map_map
def YM:=@PySem.F.slot_dict_keyiterator_next
def YN:=@PyProof.Rows.KeyOrd.kle_refl
def YO:=@Nat.mul_le_mul_right
def YQ:=@List.pairwise_append
def YR:=@if_true
def YS:=@Nat.pow_succ
def YT:=@PySem.Heap.size_push
def YU:=@PySem.wpAny_setState_of
def YV:=@List.take_of_length_le
def YW:=@PySem.PassesOwn.never
def YX:=@List.cons.injEq
def YY:=@List.pairwise_iff_getElem
def YZ:=@Nat.le_of_ble_eq_true
def Y0:=@Nat.lt_of_le_of_lt
def Y1:=@List.filter_cons
def Y2:=@forall_congr'
def Y3:=@Nat.succ_mul
def Y4:=@PyProof.Rows.wpS_forRange
def Y5:=@List.mem_append_left
def Y6:=@PySem.wpAny_setField
def Y7:=@PySem.lookup_relabel_local
def Y8:=@PySem.wpAny_typeNameOfWhole_keyiter
def Y9:=@List.mem_filter
def Xa:=@Bool.eq_iff_iff
def Xb:=@PySem.codeAny_builtin
def Xc:=@PySem.Heap.SameBut.update
def Xd:=@Nat.mul_assoc
def Xe:=@PySem.F.slot_tuple_iterator_next
def Xf:=@PySem.wpAny_rule
def Xg:=@Array.getElem?_map
def Xh:=@List.pairwise_cons
def Xi:=@PySem.Obj.isFreed_of_fields
def Xj:=@PySem.wpAny_passesOwn
def Xk:=@List.range_succ
def Xl:=@PySem.wpAny_pyIter_list
def Xm:=@Nat.lt_trans
def Xn:=@List.take_succ_eq_append_getElem
def Xo:=@List.foldl_append
def Xp:=@PySem.Around.under_plainId
def Xq:=@Nat.pow_le_pow_right
def Xr:=@Nat.zero_add
def Xs:=@Array.toList_extract
def Xu:=@List.take_append_getElem
def Xv:=@PySem.wpAny_typeNameOf_keyiter
def Xw:=@List.sum_cons
def Xx:=@PyProof.Rows.wpS_modify
def Xy:=@PyProof.Rows.slot_tuple_getitem
def Xz:=@Ne.symm
def XA:=@List.length_pos_iff
def XB:=@List.map_congr_left
def XC:=@List.getElem_of_mem
def XD:=@List.reverse_append
def XE:=@List.length_take
def XF:=@List.getElem?_replicate
def XG:=@List.take_length
def XH:=@List.getElem_mem
def XI:=@List.any_eq_true
def XJ:=@List.length_eq_zero_iff
def XM:=@Nat.mul_add
def XN:=@PySem.wpAny_Call_Name_kw
def XO:=@Nat.mul_comm
def XQ:=@PySem.wpAny_setField_rec
def XS:=@Array.getElem?_eq_none
def XT:=@List.zip_cons_cons
def XU:=@List.find?_cons
def XV:=@List.length_nil
def XW:=@PySem.wpAny_ite_split
def XX:=@List.any_cons
def XY:=@PySem.wpAny_attempt
def XZ:=@List.length_replicate
def X6:=@PySem.F.slot_enumerate_next
def X7:=@PyProof.Rows.boot_all
def X8:=@PyProof.Rows.callWith_type1
def X9:=@Nat.le_of_lt_succ
def Wa:=@Bool.not_eq_true'
def Wb:=@List.ext_getElem?
def Wc:=@decide_eq_true_eq
def Wd:=@Array.toList_push
def We:=@PySem.sizeLine_eq
def Wf:=@Array.toList_setIfInBounds
def Wg:=@beq_iff_eq
def Wh:=@List.mem_of_mem_take
def Wi:=@Bool.and_eq_true_iff
def Wj:=@Array.perm_iff_toList_perm
def Wk:=@Array.toList_reverse
def Wl:=@List.lt_irrefl
def Wm:=@Nat.ne_of_gt
def Wn:=@PySem.wpAny_forIn_list
def Wo:=@PySem.wpAny_isInstance
def Wp:=@List.drop_eq_getElem_cons
def Wq:=@beq_eq_false_iff_ne
def Wr:=@List.getElem?_range
def Ws:=@PyProof.Rows.F.entry_set_update_loop
def Wt:=@PySem.Paired.length
def Wu:=@Option.isSome_iff_exists
def Wv:=@List.getElem?_take_of_lt
def Ww:=@Array.size_setIfInBounds
def Wx:=@PySem.AutoSeq1.wpAny_loadPart'
def Wy:=@PyProof.Rows.wpS_mono
def Wz:=@PyProof.Rows.KeyOrd.klt_of_klt_of_kle
def WA:=@PySem.wpAny_execs_nil
def WB:=@Nat.two_pow_pos
def WC:=@PySem.W.of_hideAll
def WD:=@PySem.wpAny_pyIter_tuple
def WE:=@List.mem_filterMap
def WF:=@PySem.tupleKind_room_in1
def WG:=@Int.emod_lt_of_pos
def WH:=@PySem.wpAny_tupleItemsOf
def WI:=@Nat.add_sub_cancel_left
def WJ:=@List.pairwise_singleton
def WK:=@List.getElem?_set_self
def WL:=@PySem.codeAny_mono
def WM:=@PySem.W.cellsFrom_some
def WN:=@Bool.not_false
def WO:=@PySem.Obj.cls_mapFields
def WP:=@List.length_range
def WQ:=@Nat.lt_trichotomy
def WR:=@PySem.wpAny_dictEntries
def WS:=@Int.zero_add
def WT:=@List.reverse_perm
def WU:=@PySem.Heap.get?_push_ne
def WV:=@PyProof.Rows.boot_int
def WW:=@PyProof.Rows.boot_max
def WX:=@PySem.wpAny_isOneOf_keyiter
def WY:=@PyProof.Rows.boot_min
def WZ:=@PyProof.Rows.boot_any
def W0:=@PyProof.Rows.boot_sum
def W1:=@List.getElem?_toArray
def W2:=@PyProof.Rows.KeyOrd.not_klt_of_kle
def W3:=@LawfulMonad.pure_bind
def W4:=@Nat.mod_lt
def W5:=@List.not_mem_nil
def W6:=@PySem.Heap.size_update
def W7:=@PyProof.Rows.wpS_get
def W8:=@List.getElem?_set_ne
def W9:=@PySem.codeAny_call_builtin
def Va:=@List.getLast?_eq_some_getLast
def Vb:=@List.of_mem_zip
def Vc:=@List.forIn_cons
def Vd:=@and_congr_right
def Ve:=@Int.natCast_add
def Vf:=@Int.natCast_mul
def Vg:=@PySem.W.hideAll_get
def Vh:=@Array.getElem?_push
def Vi:=@List.replicate_succ
def Vj:=@List.map_eq_nil_iff
def Vk:=@List.map_nil
def Vl:=@Nat.le_of_eq
def Vm:=@Nat.add_zero
def Vn:=@Nat.succ_pos
def Vo:=@Nat.sub_self
def Vp:=@List.all_map
def Vq:=@PySem.Calls.Constant_str
def Vr:=@List.nodup_nil
def Vs:=@Array.foldl_toList
def Vt:=@PySem.wpAny_seqItems
def Vu:=@List.map_inj_right
def Vv:=@PySem.wpAny_fieldsOf
def Vw:=@Nat.lt_of_mul_lt_mul_right
def Vx:=@List.getElem?_zip_eq_some
def Vy:=@List.getLast?_eq_getElem?
def Vz:=@List.any_eq_false
def VA:=@Option.isSome_map
def VB:=@Nat.add_mul
def VC:=@List.nodup_append
def VD:=@Nat.pow_pos
def VE:=@List.not_lt
def VF:=@Prod.mk.injEq
def VG:=@PySem.plainId_quiet
def VH:=@Nat.le_of_not_lt
def VI:=@beq_self_eq_true
def VJ:=@Int.natCast_ediv
def VL:=@Int.natCast_emod
def VM:=@PyProof.Rows.wpS_lift
def VN:=@List.map_snd_zip
def VO:=@PySem.wpAny_typeOf
def VP:=@PySem.call_meets
def VQ:=@bind_congr
def VR:=@Nat.lt_or_ge
def VS:=@Int.emod_nonneg
def VT:=@Nat.min_eq_left
def VU:=@Bool.or_eq_true
def VV:=@List.nil_prefix
def VW:=@Nat.pow_add
def VX:=@Nat.mul_le_mul
def VY:=@Bool.and_false
def VZ:=@List.drop_drop
def V0:=@and_true
theorem cF{α:Type}{l:List α}{i:Nat}{a:α}(h:l[i]?=some a):∃h:i<l.length,l[i]=a:=List.getElem?_eq_some_iff.mp h
namespace L2
open PySem
def qz(s:aB):Arguments:=match s with
 |.FunctionDef _ a _ _ _ _ _ _ _ _=>a
 |_=>{posonlyargs:=[],args:=[],vararg:=none,kwonlyargs:=[],kw_defaults:=[],kwarg:=none,defaults:=[]}
def m8(s:aB):List aB:=match s with
 |.FunctionDef _ _ b _ _ _ _ _ _ _=>b
 |_=>[]
def bF(s:aB):aA:=match s with
 |.FunctionDef _ _ _ _ _ _ a _ _ _=>a
 |_=>{kind:=.function,names:=[],isGenerator:=false,isCoroutine:=false}
end L2
namespace Pr
open PySem
def top(i:Nat):aB:=PySem.Challenge.pw_quarterfold_k27_leaves.main.body.getD i (.Pass ⟨0,0,0,0⟩)
end Pr
namespace Hd
open PySem PySem.W
abbrev pw:ag:=PySem.Challenge.pw_quarterfold_k27_leaves
abbrev ie:aa:=.str "law_quarterfold_k27_leaves" 435
abbrev mW:aa:=.str "quarterfold.tellings" 343
abbrev pM:aa:=.str "quarterfold.rows" 287
abbrev yT:aa:=.str "quarterfold.leaves" 388
def kh(P:Params)(x:ar):Int:=PySem.PyData.keyHash P x
def oF(n:ar)(st:aB)(m:aa)(c:Nat):az:=⟨.type "function",none,.func (fnOf n n (L2.qz st) (L2.m8 st) (L2.bF st) .none .none .none m none (.ref c) .none),#[]⟩
def oT(n q:ar)(st:aB):az:=⟨.none,none,.func {fnOf n q (L2.qz st) (L2.m8 st) (L2.bF st) .none .none .none .none none .none .none with globals:=0},#[]⟩
def oC(n q:ar)(c h g l a i f:Nat)(y z:aa)(d k b:Nat):az:=⟨.type "code",none,.fields #[.str n c,.str q h,.str "/claim/cut.py" g,.int l 0,.int a 0,.int 0 0,.int 0 0,.int 3 0,.ref i,.bool true,.int 181 0,.ref f,.none,y,z,.ref d,.int k 0,.int l 0,.str "/claim/cut.py" b],#[]⟩
abbrev aV:PySem.Obj:=⟨.type "tuple",none,(.seq #[] 0),#[]⟩
abbrev c7:PySem.Obj:=⟨.none,none,(.fields #[]),#[]⟩
abbrev cq(a:Array PySem.Value):PySem.Obj:=⟨.type "tuple",none,(.seq a 0),#[]⟩
abbrev aP(P:Params)(x:ar)(n:Tok)(v:aa):DictEntry:=⟨kh P x,.str x n,v⟩
def K0(P:Params):Frag:=
(nat_lit 2,⟨.none,none,(.dict #[] 0),#[]⟩)::
 (nat_lit 3,⟨.type "dict",none,(.dict #[aP P "__name__" 165 (.str "law_quarterfold_k27_leaves" 435),aP P "__doc__" 166 .none,aP P "__package__" 167 .none,aP P "__loader__" 168 (.builtin "__main__.__loader__#opaque"),aP P "__spec__" 169 .none,aP P "__annotations__" 170 (.ref 6),aP P "__builtins__" 171 (.ref 4),aP P "__file__" 173 (.str "/claim/cut.py" 172),aP P "__cached__" 174 .none,aP P "FloorError" 206 (.ref 24),aP P "NoFloor" 222 (.ref 37),aP P "NoAddress" 238 (.ref 49),aP P "NoCell" 254 (.ref 61),aP P "NoShape" 270 (.ref 73),aP P "TooMany" 286 (.ref 85),aP P "FULL" 290 (.int 1 289),aP P "FIRST" 292 (.int 2 291),aP P "is_whole" 299 (.ref 94),aP P "is_plain" 306 (.ref 101),aP P "depths_of" 312 (.ref 106),aP P "end_rows" 322 (.ref 113),aP P "places_as_ended" 331 (.ref 120),aP P "GREATEST_SIZE" 335 (.int 12 334),aP P "is_size" 342 (.ref 127),aP P "is_number" 352 (.ref 134),aP P "is_row" 358 (.ref 139),aP P "are_rows" 364 (.ref 144),aP P "is_telling" 374 (.ref 151),aP P "is_shape" 380 (.ref 156),aP P "want_shape" 387 (.ref 163),aP P "MOST_LEAVES" 391 (.int 2000 390),aP P "count_leaves" 397 (.ref 168),aP P "gather_leaves" 409 (.ref 175),aP P "want_leaves" 417 (.ref 182),aP P "want_coarse" 424 (.ref 189),aP P "leaves_of" 434 (.ref 196),aP P "_law_pot" 445 (.ref 203),aP P "_law_digit" 454 (.ref 210),aP P "_law_cells" 460 (.ref 215),aP P "_law_box" 475 (.ref 222),aP P "_law_boxes" 481 (.ref 227),aP P "_law_meets" 491 (.ref 234),aP P "_law_has" 501 (.ref 241),aP P "_law_number" 507 (.ref 246),aP P "_law_shape" 517 (.ref 253),aP P "_law_many" 523 (.ref 258),aP P "_law_leaves" 529 (.ref 263),aP P "_law_merged" 545 (.ref 270),aP P "_law_drawn" 551 (.ref 275),aP P "_law_word" 559 (.ref 282),aP P "_law_told" 568 (.ref 289),aP P "_law_right" 579 (.ref 296),aP P "_law_bounds_right" 585 (.ref 301),aP P "_law_odd_shape" 593 (.ref 308),aP P "law" 603 (.ref 315)] 55),#[]⟩)::
 (nat_lit 15,(cq #[.type "ValueError"]))::
 (nat_lit 22,aV)::
 (nat_lit 23,⟨.type "dict",none,(.dict #[aP P "__module__" 196 (.str "quarterfold.errors" 187),aP P "__firstlineno__" 200 (.int 2 199),aP P "__static_attributes__" 201 (.ref 22),aP P "__weakref__" 203 (.ref 25),aP P "__doc__" 204 .none] 3),#[]⟩)::
 (nat_lit 24,⟨.type "type",none,(.cls ⟨"FloorError",[.type "ValueError"],[.ref 24,.type "ValueError",.type "Exception",.type "BaseException",.type "object"],23,"FloorError",true,[],[.ref 37,.ref 49,.ref 61,.ref 73,.ref 85],false,none,false⟩),#[some (.ref 15),none,some (.str "FloorError" 189),some (.str "FloorError" 197),some (.builtin "ValueError.__new__"),some (.bool true)]⟩)::
 (nat_lit 25,⟨.type "getset_descriptor",none,(.fields #[.str "__weakref__" 202,.ref 24,.builtin "ExceptionGroup.__weakref__",.none]),#[]⟩)::
 (nat_lit 28,(cq #[.ref 24]))::
 (nat_lit 35,aV)::
 (nat_lit 36,⟨.type "dict",none,(.dict #[aP P "__module__" 214 (.str "quarterfold.errors" 187),aP P "__firstlineno__" 218 (.int 4 217),aP P "__static_attributes__" 219 (.ref 35),aP P "__doc__" 220 .none] 2),#[]⟩)::
 (nat_lit 37,⟨.type "type",none,(.cls ⟨"NoFloor",[.ref 24],[.ref 37,.ref 24,.type "ValueError",.type "Exception",.type "BaseException",.type "object"],36,"NoFloor",true,[],[],false,none,false⟩),#[some (.ref 28),none,some (.str "NoFloor" 207),some (.str "NoFloor" 215),some (.builtin "ValueError.__new__"),some (.bool true)]⟩)::
 (nat_lit 40,(cq #[.ref 24]))::
 (nat_lit 47,aV)::
 (nat_lit 48,⟨.type "dict",none,(.dict #[aP P "__module__" 230 (.str "quarterfold.errors" 187),aP P "__firstlineno__" 234 (.int 6 233),aP P "__static_attributes__" 235 (.ref 47),aP P "__doc__" 236 .none] 2),#[]⟩)::
 (nat_lit 49,⟨.type "type",none,(.cls ⟨"NoAddress",[.ref 24],[.ref 49,.ref 24,.type "ValueError",.type "Exception",.type "BaseException",.type "object"],48,"NoAddress",true,[],[],false,none,false⟩),#[some (.ref 40),none,some (.str "NoAddress" 223),some (.str "NoAddress" 231),some (.builtin "ValueError.__new__"),some (.bool true)]⟩)::
 (nat_lit 52,(cq #[.ref 24]))::
 (nat_lit 59,aV)::
 (nat_lit 60,⟨.type "dict",none,(.dict #[aP P "__module__" 246 (.str "quarterfold.errors" 187),aP P "__firstlineno__" 250 (.int 8 249),aP P "__static_attributes__" 251 (.ref 59),aP P "__doc__" 252 .none] 2),#[]⟩)::
 (nat_lit 61,⟨.type "type",none,(.cls ⟨"NoCell",[.ref 24],[.ref 61,.ref 24,.type "ValueError",.type "Exception",.type "BaseException",.type "object"],60,"NoCell",true,[],[],false,none,false⟩),#[some (.ref 52),none,some (.str "NoCell" 239),some (.str "NoCell" 247),some (.builtin "ValueError.__new__"),some (.bool true)]⟩)::
 (nat_lit 64,(cq #[.ref 24]))::
 (nat_lit 71,aV)::
 (nat_lit 72,⟨.type "dict",none,(.dict #[aP P "__module__" 262 (.str "quarterfold.errors" 187),aP P "__firstlineno__" 266 (.int 10 265),aP P "__static_attributes__" 267 (.ref 71),aP P "__doc__" 268 .none] 2),#[]⟩)::
 (nat_lit 73,⟨.type "type",none,(.cls ⟨"NoShape",[.ref 24],[.ref 73,.ref 24,.type "ValueError",.type "Exception",.type "BaseException",.type "object"],72,"NoShape",true,[],[],false,none,false⟩),#[some (.ref 64),none,some (.str "NoShape" 255),some (.str "NoShape" 263),some (.builtin "ValueError.__new__"),some (.bool true)]⟩)::
 (nat_lit 76,(cq #[.ref 24]))::
 (nat_lit 83,aV)::
 (nat_lit 84,⟨.type "dict",none,(.dict #[aP P "__module__" 278 (.str "quarterfold.errors" 187),aP P "__firstlineno__" 282 (.int 12 281),aP P "__static_attributes__" 283 (.ref 83),aP P "__doc__" 284 .none] 2),#[]⟩)::
 (nat_lit 85,⟨.type "type",none,(.cls ⟨"TooMany",[.ref 24],[.ref 85,.ref 24,.type "ValueError",.type "Exception",.type "BaseException",.type "object"],84,"TooMany",true,[],[],false,none,false⟩),#[some (.ref 76),none,some (.str "TooMany" 271),some (.str "TooMany" 279),some (.builtin "ValueError.__new__"),some (.bool true)]⟩)::
 (nat_lit 88,aV)::
 (nat_lit 90,(cq #[.str "thing" 296]))::
 (nat_lit 91,aV)::
 (nat_lit 93,oC "is_whole" "is_whole" 293 294 295 17 1 88 89 (.ref 90) (.ref 91) 92 297 298)::
 (nat_lit 94,oF "is_whole" (Pr.top 10) pM 93)::
 (nat_lit 95,aV)::
 (nat_lit 97,(cq #[.str "row" 303]))::
 (nat_lit 98,aV)::
 (nat_lit 100,oC "is_plain" "is_plain" 300 301 302 19 1 95 96 (.ref 97) (.ref 98) 99 304 305)::
 (nat_lit 101,oF "is_plain" (Pr.top 11) pM 100)::
 (nat_lit 102,aV)::
 (nat_lit 105,oC "depths_of" "depths_of" 307 308 309 21 1 102 103 .none .none 104 310 311)::
 (nat_lit 106,oF "depths_of" (Pr.top 12) pM 105)::
 (nat_lit 107,aV)::
 (nat_lit 109,(cq #[.str "rows" 316,.str "number" 317,.str "ended" 318,.str "quarter" 319]))::
 (nat_lit 110,aV)::
 (nat_lit 112,oC "end_rows" "end_rows" 313 314 315 26 3 107 108 (.ref 109) (.ref 110) 111 320 321)::
 (nat_lit 113,oF "end_rows" (Pr.top 13) pM 112)::
 (nat_lit 114,aV)::
 (nat_lit 116,(cq #[.str "rows" 326,.str "top" 327,.str "ended" 328]))::
 (nat_lit 117,aV)::
 (nat_lit 119,oC "places_as_ended" "places_as_ended" 323 324 325 32 2 114 115 (.ref 116) (.ref 117) 118 329 330)::
 (nat_lit 120,oF "places_as_ended" (Pr.top 14) pM 119)::
 (nat_lit 121,aV)::
 (nat_lit 123,(cq #[.str "thing" 339]))::
 (nat_lit 124,aV)::
 (nat_lit 126,oC "is_size" "is_size" 336 337 338 38 1 121 122 (.ref 123) (.ref 124) 125 340 341)::
 (nat_lit 127,oF "is_size" (Pr.top 17) (.str "quarterfold.floors" 332) 126)::
 (nat_lit 128,aV)::
 (nat_lit 130,(cq #[.str "thing" 348,.str "many" 349]))::
 (nat_lit 131,aV)::
 (nat_lit 133,oC "is_number" "is_number" 345 346 347 41 2 128 129 (.ref 130) (.ref 131) 132 350 351)::
 (nat_lit 134,oF "is_number" (Pr.top 19) mW 133)::
 (nat_lit 135,aV)::
 (nat_lit 138,oC "is_row" "is_row" 353 354 355 43 2 135 136 .none .none 137 356 357)::
 (nat_lit 139,oF "is_row" (Pr.top 20) mW 138)::
 (nat_lit 140,aV)::
 (nat_lit 143,oC "are_rows" "are_rows" 359 360 361 47 1 140 141 .none .none 142 362 363)::
 (nat_lit 144,oF "are_rows" (Pr.top 21) mW 143)::
 (nat_lit 145,aV)::
 (nat_lit 147,(cq #[.str "thing" 368,.str "n" 369,.str "top" 370,.str "rows" 371]))::
 (nat_lit 148,aV)::
 (nat_lit 150,oC "is_telling" "is_telling" 365 366 367 49 1 145 146 (.ref 147) (.ref 148) 149 372 373)::
 (nat_lit 151,oF "is_telling" (Pr.top 22) mW 150)::
 (nat_lit 152,aV)::
 (nat_lit 155,oC "is_shape" "is_shape" 375 376 377 56 1 152 153 .none .none 154 378 379)::
 (nat_lit 156,oF "is_shape" (Pr.top 23) mW 155)::
 (nat_lit 157,aV)::
 (nat_lit 159,(cq #[.str "shape" 384]))::
 (nat_lit 160,aV)::
 (nat_lit 162,oC "want_shape" "want_shape" 381 382 383 63 1 157 158 (.ref 159) (.ref 160) 161 385 386)::
 (nat_lit 163,oF "want_shape" (Pr.top 24) mW 162)::
 (nat_lit 164,aV)::
 (nat_lit 167,oC "count_leaves" "count_leaves" 392 393 394 68 2 164 165 .none .none 166 395 396)::
 (nat_lit 168,oF "count_leaves" (Pr.top 27) yT 167)::
 (nat_lit 169,aV)::
 (nat_lit 171,(cq #[.str "rows" 401,.str "number" 402,.str "address" 403,.str "leaves" 404,.str "at" 405,.str "quarter" 406]))::
 (nat_lit 172,aV)::
 (nat_lit 174,oC "gather_leaves" "gather_leaves" 398 399 400 73 4 169 170 (.ref 171) (.ref 172) 173 407 408)::
 (nat_lit 175,oF "gather_leaves" (Pr.top 28) yT 174)::
 (nat_lit 176,aV)::
 (nat_lit 178,(cq #[.str "shape" 413,.str "most" 414]))::
 (nat_lit 179,aV)::
 (nat_lit 181,oC "want_leaves" "want_leaves" 410 411 412 79 2 176 177 (.ref 178) (.ref 179) 180 415 416)::
 (nat_lit 182,oF "want_leaves" (Pr.top 29) yT 181)::
 (nat_lit 183,aV)::
 (nat_lit 185,(cq #[.str "shape" 421]))::
 (nat_lit 186,aV)::
 (nat_lit 188,oC "want_coarse" "want_coarse" 418 419 420 82 1 183 184 (.ref 185) (.ref 186) 187 422 423)::
 (nat_lit 189,oF "want_coarse" (Pr.top 30) yT 188)::
 (nat_lit 190,aV)::
 (nat_lit 192,(cq #[.str "shape" 428,.str "top" 429,.str "rows" 430,.str "leaves" 431]))::
 (nat_lit 193,aV)::
 (nat_lit 195,oC "leaves_of" "leaves_of" 425 426 427 84 1 190 191 (.ref 192) (.ref 193) 194 432 433)::
 (nat_lit 196,oF "leaves_of" (Pr.top 31) yT 195)::
 (nat_lit 197,aV)::
 (nat_lit 199,(cq #[.str "_law_script" 440,.str "_law_k" 441,.str "_law_cell" 442]))::
 (nat_lit 200,aV)::
 (nat_lit 202,oC "_law_pot" "_law_pot" 437 438 439 92 2 197 198 (.ref 199) (.ref 200) 201 443 444)::
 (nat_lit 203,oF "_law_pot" (Pr.top 33) ie 202)::
 (nat_lit 204,aV)::
 (nat_lit 206,(cq #[.str "_law_pot_here" 449,.str "_law_many_here" 450,.str "_law_digit_here" 451]))::
 (nat_lit 207,aV)::
 (nat_lit 209,oC "_law_digit" "_law_digit" 446 447 448 97 2 204 205 (.ref 206) (.ref 207) 208 452 453)::
 (nat_lit 210,oF "_law_digit" (Pr.top 34) ie 209)::
 (nat_lit 211,aV)::
 (nat_lit 214,oC "_law_cells" "_law_cells" 455 456 457 104 2 211 212 .none .none 213 458 459)::
 (nat_lit 215,oF "_law_cells" (Pr.top 35) ie 214)::
 (nat_lit 216,aV)::
 (nat_lit 218,(cq #[.str "_law_pot_here" 464,.str "_law_n" 465,.str "_law_most" 466,.str "_law_side" 467,.str "_law_size" 468,.str "_law_row" 469,.str "_law_column" 470,.str "_law_high" 471,.str "_law_wide" 472]))::
 (nat_lit 219,aV)::
 (nat_lit 221,oC "_law_box" "_law_box" 461 462 463 107 3 216 217 (.ref 218) (.ref 219) 220 473 474)::
 (nat_lit 222,oF "_law_box" (Pr.top 36) ie 221)::
 (nat_lit 223,aV)::
 (nat_lit 226,oC "_law_boxes" "_law_boxes" 476 477 478 119 2 223 224 .none .none 225 479 480)::
 (nat_lit 227,oF "_law_boxes" (Pr.top 37) ie 226)::
 (nat_lit 228,aV)::
 (nat_lit 230,(cq #[.str "_law_box_here" 485,.str "_law_row" 486,.str "_law_column" 487,.str "_law_side" 488]))::
 (nat_lit 231,aV)::
 (nat_lit 233,oC "_law_meets" "_law_meets" 482 483 484 123 4 228 229 (.ref 230) (.ref 231) 232 489 490)::
 (nat_lit 234,oF "_law_meets" (Pr.top 38) ie 233)::
 (nat_lit 235,aV)::
 (nat_lit 237,(cq #[.str "_law_box_here" 495,.str "_law_row" 496,.str "_law_column" 497,.str "_law_side" 498]))::
 (nat_lit 238,aV)::
 (nat_lit 240,oC "_law_has" "_law_has" 492 493 494 127 4 235 236 (.ref 237) (.ref 238) 239 499 500)::
 (nat_lit 241,oF "_law_has" (Pr.top 39) ie 240)::
 (nat_lit 242,aV)::
 (nat_lit 245,oC "_law_number" "_law_number" 502 503 504 131 5 242 243 .none .none 244 505 506)::
 (nat_lit 246,oF "_law_number" (Pr.top 40) ie 245)::
 (nat_lit 247,aV)::
 (nat_lit 249,(cq #[.str "_law_n" 511,.str "_law_boxes_here" 512,.str "_law_rows" 513,.str "_law_top" 514]))::
 (nat_lit 250,aV)::
 (nat_lit 252,oC "_law_shape" "_law_shape" 508 509 510 142 2 247 248 (.ref 249) (.ref 250) 251 515 516)::
 (nat_lit 253,oF "_law_shape" (Pr.top 41) ie 252)::
 (nat_lit 254,aV)::
 (nat_lit 257,oC "_law_many" "_law_many" 518 519 520 146 1 254 255 .none .none 256 521 522)::
 (nat_lit 258,oF "_law_many" (Pr.top 42) ie 257)::
 (nat_lit 259,aV)::
 (nat_lit 262,oC "_law_leaves" "_law_leaves" 524 525 526 151 5 259 260 .none .none 261 527 528)::
 (nat_lit 263,oF "_law_leaves" (Pr.top 43) ie 262)::
 (nat_lit 264,aV)::
 (nat_lit 266,(cq #[.str "_law_leaves_here" 533,.str "_law_shape_here" 534,.str "_law_found" 535,.str "_law_n" 536,.str "_law_top" 537,.str "_law_rows" 538,.str "_law_address" 539,.str "_law_told_here" 540,.str "_law_number_here" 541,.str "_law_depth" 542]))::
 (nat_lit 267,aV)::
 (nat_lit 269,oC "_law_merged" "_law_merged" 530 531 532 160 2 264 265 (.ref 266) (.ref 267) 268 543 544)::
 (nat_lit 270,oF "_law_merged" (Pr.top 44) ie 269)::
 (nat_lit 271,aV)::
 (nat_lit 274,oC "_law_drawn" "_law_drawn" 546 547 548 172 2 271 272 .none .none 273 549 550)::
 (nat_lit 275,oF "_law_drawn" (Pr.top 45) ie 274)::
 (nat_lit 276,aV)::
 (nat_lit 278,(cq #[.str "_law_e" 555,.str "_law_some" 556]))::
 (nat_lit 279,aV)::
 (nat_lit 281,oC "_law_word" "_law_word" 552 553 554 177 1 276 277 (.ref 278) (.ref 279) 280 557 558)::
 (nat_lit 282,oF "_law_word" (Pr.top 46) ie 281)::
 (nat_lit 283,aV)::
 (nat_lit 285,(cq #[.str "_law_shape_here" 563,.str "_law_told_here" 564,.str "_law_e" 565]))::
 (nat_lit 286,aV)::
 (nat_lit 288,oC "_law_told" "_law_told" 560 561 562 182 1 283 284 (.ref 285) (.ref 286) 287 566 567)::
 (nat_lit 289,oF "_law_told" (Pr.top 47) ie 288)::
 (nat_lit 290,aV)::
 (nat_lit 292,(cq #[.str "_law_n" 572,.str "_law_boxes_here" 573,.str "_law_shape_here" 574,.str "_law_due" 575,.str "_law_told_here" 576]))::
 (nat_lit 293,aV)::
 (nat_lit 295,oC "_law_right" "_law_right" 569 570 571 189 2 290 291 (.ref 292) (.ref 293) 294 577 578)::
 (nat_lit 296,oF "_law_right" (Pr.top 48) ie 295)::
 (nat_lit 297,aV)::
 (nat_lit 300,oC "_law_bounds_right" "_law_bounds_right" 580 581 582 199 0 297 298 .none .none 299 583 584)::
 (nat_lit 301,oF "_law_bounds_right" (Pr.top 49) ie 300)::
 (nat_lit 302,aV)::
 (nat_lit 304,(cq #[.str "_law_pot_here" 589,.str "_law_some" 590]))::
 (nat_lit 305,aV)::
 (nat_lit 307,oC "_law_odd_shape" "_law_odd_shape" 586 587 588 206 1 302 303 (.ref 304) (.ref 305) 306 591 592)::
 (nat_lit 308,oF "_law_odd_shape" (Pr.top 50) ie 307)::
 (nat_lit 309,aV)::
 (nat_lit 311,(cq #[.str "_law_script" 597,.str "_law_k" 598,.str "_law_pot_here" 599,.str "_law_n" 600]))::
 (nat_lit 312,aV)::
 (nat_lit 314,oC "law" "law" 594 595 596 211 1 309 310 (.ref 311) (.ref 312) 313 601 602)::
 (nat_lit 315,oF "law" (Pr.top 51) ie 314)::[]
def tN:List af:=[2,3,15,22,23,24,25,28,35,36,37,40,47,48,49,52,59,60,61,64,71,72,73,76,83,84,85,88,90,91,93,94,95,97,98,100,101,102,105,106,107,109,110,112,113,114,116,117,119,120,121,123,124,126,127,128,130,131,133,134,135,138,139,140,143,144,145,147,148,150,151,152,155,156,157,159,160,162,163,164,167,168,169,171,172,174,175,176,178,179,181,182,183,185,186,188,189,190,192,193,195,196,197,199,200,202,203,204,206,207,209,210,211,214,215,216,218,219,221,222,223,226,227,228,230,231,233,234,235,237,238,240,241,242,245,246,247,249,250,252,253,254,257,258,259,262,263,264,266,267,269,270,271,274,275,276,278,279,281,282,283,285,286,288,289,290,292,293,295,296,297,300,301,302,304,305,307,308,309,311,312,314,315]
def Be:List Nat:=[1,2,3,4,5,6,8,9,10,11,12,13,14,16,17,19,20,21,22,23,24,26,27,28,29,30,31,33,34,35,36,37,38,39,40,41,42,43,44,45,46,47,48,49,50,51]
def N0:Nat:=4942
noncomputable def bx(P:Params)(a t l:Nat)(x:ar):List az:=[(cq #[.ref 24]),
⟨.type "builtin_function_or_method",none,(.fields #[.builtin "type.__prepare__",.type "type"]),#[]⟩,
⟨.type "dict",none,(.dict #[⟨kh P "__module__",.str "__module__" (t+7),.str "quarterfold.errors" 187⟩,⟨kh P "__qualname__",.str "__qualname__" (t+9),.str x (t+8)⟩,⟨kh P "__firstlineno__",.str "__firstlineno__" (t+11),.int l (t+10)⟩,⟨kh P "__static_attributes__",.str "__static_attributes__" (t+12),.ref (a+7)⟩] 4),#[]⟩,
aV,
c7,
⟨.type "code",none,(.fields #[.str x (t+2),.str x (t+3),.str "/claim/cut.py" (t+4),.int l 0,.int 0 0,.int 0 0,.int 0 0,.int 0 0,.ref (a+3),.bool false,.int 181 0,.ref (a+4),.none,.none,.none,.none,.int (t+5) 0,.int l 0,.str "/claim/cut.py" (t+6)]),#[]⟩,
⟨.type "frame",none,.plain,#[some (.ref (a+5)),some (.ref 3),some (.ref (a+2)),none,some (.str "quarterfold.errors" 187),none,some (.ref 0)]⟩,
aV,
⟨.type "dict",none,(.dict #[⟨kh P "__module__",.str "__module__" (t+7),.str "quarterfold.errors" 187⟩,⟨kh P "__firstlineno__",.str "__firstlineno__" (t+11),.int l (t+10)⟩,⟨kh P "__static_attributes__",.str "__static_attributes__" (t+12),.ref (a+7)⟩,⟨kh P "__doc__",.str "__doc__" (t+13),.none⟩] 2),#[]⟩,
⟨.type "type",none,(.cls ⟨x,[.ref 24],[.ref (a+9),.ref 24,.type "ValueError",.type "Exception",.type "BaseException",.type "object"],(a+8),x,true,[],[],false,none,false⟩),#[some (.ref a),none,some (.str x t),some (.str x (t+8)),some (.builtin "ValueError.__new__"),some (.bool true)]⟩,
⟨.type "super",none,(.fields #[.ref (a+9),.ref (a+9),.ref (a+9)]),#[]⟩,
⟨.type "builtin_function_or_method",none,(.fields #[.builtin "object.__init_subclass__",.ref (a+9)]),#[]⟩]
noncomputable def ob(P:Params):List az:=[boot_o_0 P,boot_o_1 P,boot_o_2 P,⟨.type "dict",none,(.dict #[aP P "__name__" 165 (.str "quarterfold.leaves" 388),aP P "__doc__" 166 .none,aP P "__package__" 167 .none,aP P "__loader__" 168 (.builtin "__main__.__loader__#opaque"),aP P "__spec__" 169 .none,aP P "__annotations__" 170 (.ref 6),aP P "__builtins__" 171 (.ref 4),aP P "__file__" 173 (.str "/claim/cut.py" 172),aP P "__cached__" 174 .none,aP P "FloorError" 206 (.ref 24),aP P "NoFloor" 222 (.ref 37),aP P "NoAddress" 238 (.ref 49),aP P "NoCell" 254 (.ref 61),aP P "NoShape" 270 (.ref 73),aP P "TooMany" 286 (.ref 85),aP P "FULL" 290 (.int 1 289),aP P "FIRST" 292 (.int 2 291),aP P "is_whole" 299 (.ref 94),aP P "is_plain" 306 (.ref 101),aP P "depths_of" 312 (.ref 106),aP P "end_rows" 322 (.ref 113),aP P "places_as_ended" 331 (.ref 120),aP P "GREATEST_SIZE" 335 (.int 12 334),aP P "is_size" 342 (.ref 127),aP P "is_number" 352 (.ref 134),aP P "is_row" 358 (.ref 139),aP P "are_rows" 364 (.ref 144),aP P "is_telling" 374 (.ref 151),aP P "is_shape" 380 (.ref 156),aP P "want_shape" 387 (.ref 163),aP P "MOST_LEAVES" 391 (.int 2000 390)] 31),#[]⟩,boot_o_4 P,boot_o_5 P,boot_o_6 P,boot_o_7 P,boot_o_8 P,boot_o_9 P,boot_o_10 P,aV,⟨.none,none,(.fields #[.int 2 0,.int 0 0,.ref 20,.int 4 0,.int 0 0,.ref 33,.int 6 0,.int 0 0,.ref 45,.int 8 0,.int 0 0,.ref 57,.int 10 0,.int 0 0,.ref 69,.int 12 0,.int 0 0,.ref 81,.int 17 0,.int 0 0,.ref 93,.int 19 0,.int 0 0,.ref 100,.int 21 0,.int 0 0,.ref 105,.int 26 0,.int 0 0,.ref 112,.int 32 0,.int 0 0,.ref 119,.int 38 0,.int 0 0,.ref 126,.int 41 0,.int 0 0,.ref 133,.int 43 0,.int 0 0,.ref 138,.int 47 0,.int 0 0,.ref 143,.int 49 0,.int 0 0,.ref 150,.int 56 0,.int 0 0,.ref 155,.int 63 0,.int 0 0,.ref 162]),#[]⟩,⟨.type "code",none,(.fields #[.str "<module>" 182,.str "<module>" 183,.str "/claim/cut.py" 184,.int 1 0,.int 0 0,.int 0 0,.int 0 0,.int 0 0,.ref 11,.bool false,.int 181 0,.ref 12,.none,.none,.none,.none,.int 185 0,.int 1 0,.str "/claim/cut.py" 186]),#[]⟩,⟨.type "frame",none,.plain,#[some (.ref 13),some (.ref 3),some (.ref 3),none,some (.str "__main__" 164),none,some (.ref 0)]⟩,(cq #[.type "ValueError"]),⟨.type "builtin_function_or_method",none,(.fields #[.builtin "type.__prepare__",.type "type"]),#[]⟩,⟨.type "dict",none,(.dict #[aP P "__module__" 196 (.str "quarterfold.errors" 187),aP P "__qualname__" 198 (.str "FloorError" 197),aP P "__firstlineno__" 200 (.int 2 199),aP P "__static_attributes__" 201 (.ref 22)] 4),#[]⟩,aV,c7,⟨.type "code",none,(.fields #[.str "FloorError" 191,.str "FloorError" 192,.str "/claim/cut.py" 193,.int 2 0,.int 0 0,.int 0 0,.int 0 0,.int 0 0,.ref 18,.bool false,.int 181 0,.ref 19,.none,.none,.none,.none,.int 194 0,.int 2 0,.str "/claim/cut.py" 195]),#[]⟩,⟨.type "frame",none,.plain,#[some (.ref 20),some (.ref 3),some (.ref 17),none,some (.str "quarterfold.errors" 187),none,some (.ref 0)]⟩,aV,⟨.type "dict",none,(.dict #[aP P "__module__" 196 (.str "quarterfold.errors" 187),aP P "__firstlineno__" 200 (.int 2 199),aP P "__static_attributes__" 201 (.ref 22),aP P "__weakref__" 203 (.ref 25),aP P "__doc__" 204 .none] 3),#[]⟩,⟨.type "type",none,(.cls ⟨"FloorError",[.type "ValueError"],[.ref 24,.type "ValueError",.type "Exception",.type "BaseException",.type "object"],23,"FloorError",true,[],[.ref 37,.ref 49,.ref 61,.ref 73,.ref 85],false,none,false⟩),#[some (.ref 15),none,some (.str "FloorError" 189),some (.str "FloorError" 197),some (.builtin "ValueError.__new__"),some (.bool true)]⟩,⟨.type "getset_descriptor",none,(.fields #[.str "__weakref__" 202,.ref 24,.builtin "ExceptionGroup.__weakref__",.none]),#[]⟩,⟨.type "super",none,(.fields #[.ref 24,.ref 24,.ref 24]),#[]⟩,⟨.type "builtin_function_or_method",none,(.fields #[.builtin "object.__init_subclass__",.ref 24]),#[]⟩]++(bx P 28 207 4 "NoFloor"++(bx P 40 223 6 "NoAddress"++(bx P 52 239 8 "NoCell"++(bx P 64 255 10 "NoShape"++(bx P 76 271 12 "TooMany"++([aV,c7,(cq #[.str "thing" 296]),aV,oT "is_whole" "is_whole" (Pr.top 10),oC "is_whole" "is_whole" 293 294 295 17 1 88 89 (.ref 90) (.ref 91) 92 297 298,oF "is_whole" (Pr.top 10) pM 93,aV,c7,(cq #[.str "row" 303]),aV,oT "is_plain" "is_plain" (Pr.top 11),oC "is_plain" "is_plain" 300 301 302 19 1 95 96 (.ref 97) (.ref 98) 99 304 305,oF "is_plain" (Pr.top 11) pM 100,aV,c7,oT "depths_of" "depths_of" (Pr.top 12),oC "depths_of" "depths_of" 307 308 309 21 1 102 103 .none .none 104 310 311,oF "depths_of" (Pr.top 12) pM 105,aV,c7,(cq #[.str "rows" 316,.str "number" 317,.str "ended" 318,.str "quarter" 319]),aV,oT "end_rows" "end_rows" (Pr.top 13),oC "end_rows" "end_rows" 313 314 315 26 3 107 108 (.ref 109) (.ref 110) 111 320 321,oF "end_rows" (Pr.top 13) pM 112,aV,c7,(cq #[.str "rows" 326,.str "top" 327,.str "ended" 328]),aV,oT "places_as_ended" "places_as_ended" (Pr.top 14),oC "places_as_ended" "places_as_ended" 323 324 325 32 2 114 115 (.ref 116) (.ref 117) 118 329 330,oF "places_as_ended" (Pr.top 14) pM 119,aV,c7,(cq #[.str "thing" 339]),aV,oT "is_size" "is_size" (Pr.top 17),oC "is_size" "is_size" 336 337 338 38 1 121 122 (.ref 123) (.ref 124) 125 340 341,oF "is_size" (Pr.top 17) (.str "quarterfold.floors" 332) 126,aV,c7,(cq #[.str "thing" 348,.str "many" 349]),aV,oT "is_number" "is_number" (Pr.top 19),oC "is_number" "is_number" 345 346 347 41 2 128 129 (.ref 130) (.ref 131) 132 350 351,oF "is_number" (Pr.top 19) mW 133,aV,c7,oT "is_row" "is_row" (Pr.top 20),oC "is_row" "is_row" 353 354 355 43 2 135 136 .none .none 137 356 357,oF "is_row" (Pr.top 20) mW 138,aV,c7,oT "are_rows" "are_rows" (Pr.top 21),oC "are_rows" "are_rows" 359 360 361 47 1 140 141 .none .none 142 362 363,oF "are_rows" (Pr.top 21) mW 143,aV,c7,(cq #[.str "thing" 368,.str "n" 369,.str "top" 370,.str "rows" 371]),aV,oT "is_telling" "is_telling" (Pr.top 22),oC "is_telling" "is_telling" 365 366 367 49 1 145 146 (.ref 147) (.ref 148) 149 372 373,oF "is_telling" (Pr.top 22) mW 150,aV,c7,oT "is_shape" "is_shape" (Pr.top 23),oC "is_shape" "is_shape" 375 376 377 56 1 152 153 .none .none 154 378 379,oF "is_shape" (Pr.top 23) mW 155,aV,c7,(cq #[.str "shape" 384]),aV,oT "want_shape" "want_shape" (Pr.top 24),oC "want_shape" "want_shape" 381 382 383 63 1 157 158 (.ref 159) (.ref 160) 161 385 386,oF "want_shape" (Pr.top 24) mW 162]))))))
noncomputable def hA(P:Params):ao:=⟨⟨((((ob P).take 15).set 3 (boot_o_3 P)).set 12 (c7))⟩,(boot_heap P).life⟩
noncomputable def h1(P:Params):ao:=⟨⟨((((ob P).take 88).set 3 (⟨.type "dict",none,(.dict #[aP P "__name__" 165 (.str "quarterfold.rows" 287),aP P "__doc__" 166 .none,aP P "__package__" 167 .none,aP P "__loader__" 168 (.builtin "__main__.__loader__#opaque"),aP P "__spec__" 169 .none,aP P "__annotations__" 170 (.ref 6),aP P "__builtins__" 171 (.ref 4),aP P "__file__" 173 (.str "/claim/cut.py" 172),aP P "__cached__" 174 .none,aP P "FloorError" 206 (.ref 24),aP P "NoFloor" 222 (.ref 37),aP P "NoAddress" 238 (.ref 49),aP P "NoCell" 254 (.ref 61),aP P "NoShape" 270 (.ref 73),aP P "TooMany" 286 (.ref 85),aP P "FULL" 290 (.int 1 289)] 16),#[]⟩)).set 12 (⟨.none,none,(.fields #[.int 2 0,.int 0 0,.ref 20,.int 4 0,.int 0 0,.ref 33,.int 6 0,.int 0 0,.ref 45,.int 8 0,.int 0 0,.ref 57,.int 10 0,.int 0 0,.ref 69,.int 12 0,.int 0 0,.ref 81]),#[]⟩))⟩,(boot_heap P).life⟩
noncomputable def h2(P:Params):ao:=⟨⟨(ob P)⟩,(boot_heap P).life⟩
noncomputable def bd:List aB:=behindTheImports pw
noncomputable def ev:Env:={scope:=pw.main.scope,locals:=mainNs,globals:=mainNs,cells:=[],code:=.ref 13,frame:=some 14}
noncomputable def cE:Code:=.body bd ev
noncomputable abbrev sh (h:Params->ao) (k:Nat) (w:aj) (a:OsState):ae:=⟨h w.params,Array.mk [],boot_drawn,k,a⟩
noncomputable abbrev fr:List Frame:=[topFrame ⟨0,0,0,0⟩]
theorem Ih(w:aj)(a:OsState):topGo treeTable pw w 11 (some (.ref 6)) 12 (sh boot_heap boot_toks w a) (topStub pw)=some (sh hA 187 w a,⟨denote treeTable cE,cE,⟨0,0,0,0⟩,fr⟩):=by kernel_rfl
theorem KU(w:aj)(a:OsState):segRun treeTable pw w 11 (some (.ref 6)) 1 1 (sh hA 187 w a) (blockOf bd ev cE ⟨0,0,0,0⟩ fr)=some (.next,sh hA 187 w a,cE,⟨0,0,0,0⟩):=by kernel_rfl
theorem N4{tb:String->Option Builtin}{p:ag}{w:aj}{d:Nat}{a:Option aa}{env:Env}{q:aC}{n N j:Nat}{s s' r:ae}{l:List aB}{c:Code}{b f:aC}(h:segRun tb p w d a 1 n s (piecesOf (l.take j) env c b [topFrame q])=some (.next,s',c,f))
  (k:topRun tb p w d a N s' (restOf (l.drop j) env c f [topFrame q])=some r):topRun tb p w d a (n+N) s (restOf l env c b [topFrame q])=some r:=by
 have:=piece_app (l:=l.take j) (rest:=l.drop j) h k
 rwa [YG]at this
theorem xd1{p q:ag}{loose:List ar}{Xt:ae->Bool}{α:Type}{n:ae->α}{v:aj->α}{N:Nat}{x:Bool}{aJ:Params->ao}{c:Array GenState}{l:Drawn}{g f M u:Nat}{b:Option aa}{Z:aj->OsState->ae}{T:Thread}
  (A:∀w:aj,(fencedOpening treeTable p w N).map (λs=>(s.heap,s.gens,s.drawn,s.toks))=some (aJ w.params,c,l,g))
  (size:∀w:aj,((aJ w.params).isNs mainGlobals&&c.size==0,(aJ w.params).objs.size,(aJ w.params).nsMap mainGlobals "__annotations__")=(true,f,b))
  (i:∀(w:aj)(a:OsState)(r:ae),topRun treeTable p w f b u (Z w a) T=some r->topRun treeTable p w f b M ⟨aJ w.params,c,l,g,a⟩ (topStub p)=some r) (le:Nat.ble M N=true)
  (fin:∀(w:aj)(a:OsState),(topRun treeTable p w f b u (Z w a) T).map (λs=>(staticsOk (importedModules p.main.body) (aJ w.params) s.heap&&namesBound p s.heap&&gensDone s&&laidKept (aJ w.params) s.heap,openSeen q loose (importedModules p.main.body) Xt x s,n s))=some (true,openGood q loose,v w)):LeftO p q loose Xt n v N x:=λw=>by
 obtain⟨⟨h,j,d,k,a⟩,e,H⟩:=Zo.mp (A w);obtain⟨rfl,rfl,rfl,rfl⟩:h=aJ w.params/\j=c/\d=l/\k=g:=by simpa using H
 obtain⟨F,B,y⟩:_/\_/\_:=by simpa only[VF]using size w
 obtain⟨r,G,C⟩:=Zo.mp (fin w a);obtain⟨D,E,I⟩:_/\_/\_:=by simpa only[VF]using C
 have m:=topRun_mono (N-M) _ _ _ _ (i w a r G);rw[show M+(N-M)=N by have:=YZ le;lia]at m;have t:topFrom treeTable p w N ⟨aJ w.params,j,d,k,a⟩=some r:=by
  unfold topFrom;dsimp only;rw[F,B,y,m];show(match staticsOk (importedModules p.main.body) (aJ w.params) r.heap&&namesBound p r.heap&&gensDone r&&laidKept (aJ w.params) r.heap with|true=>_|false=>_)=_;rw[D]
 unfold openEnds;rw[e];show(topFrom treeTable p w N ⟨aJ w.params,j,d,k,a⟩).map _=_;rw[t];show some (_,_)=some (_,_);rw[E,I]
theorem Gh(w:aj)(a:OsState):segRun treeTable pw w 11 (some (.ref 6)) 1 1328 (sh hA 187 w a) (piecesOf (bd.take 9) ev cE ⟨0,0,0,0⟩ fr)=some (.next,sh h1 291 w a,cE,⟨15,0,15,4⟩):=by kernel_rfl
theorem Gg(w:aj)(a:OsState):segRun treeTable pw w 11 (some (.ref 6)) 1 449 (sh h1 291 w a) (piecesOf ((bd.drop 9).take 18) ev cE ⟨15,0,15,4⟩ fr)=some (.next,sh h2 392 w a,cE,⟨67,0,67,11⟩):=by kernel_rfl
theorem Gk(w:aj)(a:OsState)(r:ae)(h:topRun treeTable pw w 11 (some (.ref 6)) 792 (sh h2 392 w a) (restOf ((bd.drop 9).drop 18) ev cE ⟨67,0,67,11⟩ fr)=some r):topRun treeTable pw w 11 (some (.ref 6)) (12+(1+(1328+(449+792)))) (sh boot_heap boot_toks w a) (topStub pw)=some r:=go_top (Ih w a) (piece_block (KU w a) (N4 (Gh w a) (N4 (Gg w a) h)))
theorem Ip:opening pw=plainProg pw.main.scope.names:=by kernel_rfl
theorem Kv(s:ae):fenceModules? pw s=some s:=by kernel_rfl
def q0:ag:={pw with main:={pw.main with body:=Be.map Pr.top}}
theorem ll:∀P,tN=(K0 P).map (·.1):=λ_=>by kernel_rfl
abbrev X0:ae->Bool:=λs=>xlAt q0 [] s&&recOk (RowW.records (OpenRow.toRowW (OpenLaw.row PySem.Challenge.rw_quarterfold_k27_leaves))) s
set_option maxHeartbeats 0 in
theorem Ku(w:aj)(os:OsState):(topRun treeTable pw w 11 (some (.ref 6)) 792 (sh h2 392 w os) (restOf ((bd.drop 9).drop 18) ev cE ⟨67,0,67,11⟩ fr)).map (λs=>(staticsOk (importedModules pw.main.body) (boot_heap w.params) s.heap&&namesBound pw s.heap&&gensDone s&&laidKept (boot_heap w.params) s.heap,openSeen q0 [] (importedModules pw.main.body) X0 true s,Hook.obs (kHook Hd.K0 Hd.tN Hd.ll) s))=some (true,openGood q0 [],Hook.val (kHook Hd.K0 Hd.tN Hd.ll) w):=by kernel_rfl
theorem xL8:LeftO pw q0 [] X0 (Hook.obs (kHook Hd.K0 Hd.tN Hd.ll)) (Hook.val (kHook Hd.K0 Hd.tN Hd.ll)) N0:=xd1 (boot_open Ip rfl Kv) (λw=>by kernel_rfl) Gk (by rfl) Ku
end Hd
namespace L2
theorem AI{α:Type}{l:List α}(h:l.length=1):∃a,l=[a]:=List.length_eq_one_iff.mp h
theorem Io{α:Type}{l:List α}(h:l.length=2):∃a b,l=[a,b]:=by
 obtain⟨a,m,rfl⟩:=List.exists_cons_of_length_eq_add_one h;obtain⟨b,rfl⟩:=AI (Nat.succ.inj h);exact⟨a,b,rfl⟩
end L2
theorem xJ{n:Nat}(h:n<=1250):n<16777216:=Y0 h (by decide)
section
variable{a b c d e f g h i j k l m n o p:Nat}{z y x w v u t s r:Int}
theorem ng(H:a<b)(J:b<c):a<c:=by lia
theorem yf:0<=((a:Nat):Int):=by lia
theorem dU(H:a<b)(J:b<=c):(b-1)<c:=by lia
theorem u9(H:a<b):(b-1)<b:=by lia
theorem iO:a<=(a+b):=by lia
theorem iw(H:¬(a<b)):b<=a:=by lia
theorem m_(H:a<b)(J:b=c):a<c:=by lia
theorem oz(H:a=b)(J:a<=c):b<=c:=by lia
theorem tj(H:a<=b):a<=(b+c):=by lia
theorem mI(H:a<b):a<(b+c):=by lia
theorem gQ(H:(a+b)<=c):a<=c:=by lia
theorem dJ(H:(a+b)<c):a<c:=by lia
theorem dE(H:a<b)(J:(c+b)<=d):(c+a)<d:=by lia
theorem rf(H:a<=b)(J:¬(a=b)):a<b:=by lia
theorem eS(H:a<=b):¬(b<a):=by lia
theorem vb(H:a=b):a<=b:=by lia
theorem oM(H:a<=b)(J:¬(a<b)):a=b:=by lia
theorem va(H:a=b)(J:(c+d)<(b+d)):c<a:=by lia
theorem oK(H:a<=b)(J:b<=c):a<=c:=by lia
theorem q_(H:a<=b)(J:¬(a=b)):(a+1)<=b:=by lia
theorem gk(H:a<=b)(J:(c<d)/\(d<=a)):(d-1)<b:=by lia
theorem kz(H:a<b):(a+1)<=b:=by lia
theorem ky(H:a<b):a<=(b-1):=by lia
theorem q9(H:a<b):(b-(a+1))<(b-a):=by lia
theorem u_(H:a<=b)(J:¬(a=b)):(b-(a+1))<(b-a):=by lia
theorem Ba(H:a<b)(J:b<=c):a<c:=by lia
theorem oJ(H:(a+b)<(c+b)):a<c:=by lia
theorem ix(H:a<=b):(c+a)<=(c+b):=by lia
theorem A_(H:¬(a<b)):((a-b)+b)=a:=by lia
theorem qZ(H:a<=4096):a<1000000:=by lia
theorem qY(H:a<b):(c+a)<(c+b):=by lia
theorem A9(H:z<y):y≠z:=by lia
theorem A8(H:z<y):z<=y:=by lia
theorem u7:((a+b)-a)=b:=by lia
theorem u6(H:a<b):(a+c)<(b+c):=by lia
theorem mH:((a+b)+c)=(a+(c+b)):=by lia
theorem oI(H:¬(z<=y)):y<z:=by lia
theorem qX:¬(((a:Nat):Int)<0):=by lia
theorem qW(H:a<b)(J:c<(a+d)):c<(b+d):=by lia
theorem u5(H:a<(b+c))(J:¬(a<c)):(a-c)<b:=by lia
theorem qV:0<=a:=by lia
theorem A7(H:a<b):a<=b:=by lia
theorem qU(H:¬(a=0)):0<a:=by lia
theorem A6(H:a<=1150):a<=1250:=by lia
theorem qT(H:a<=b):(a-c)<=b:=by lia
theorem oH(H:a<b):((b-1)+1)=b:=by lia
theorem u4(H:a<=b):b=(a+(b-a)):=by lia
theorem A5(H:a=b)(J:¬(c<b)):a<=c:=by lia
theorem oG(H:a<(b+1))(J:¬(a=b)):a<b:=by lia
theorem uZ(H:a<b)(J:(c+b)<=d):c<d:=by lia
theorem oE(H:a<=b)(J:(c+b)<=d):(c+a)<=d:=by lia
theorem oD(H:a<(b+(c+1)))(J:¬(a=(b+c))):a<(b+c):=by lia
theorem oB(H:a<(b+2))(J:c=b)(K:(((a:Nat):Int)-2)=((d:Nat):Int)):d<c:=by lia
theorem qS:(0:Nat)<1:=by lia
theorem uY:a<=a:=by lia
theorem uX:a<=(b+a):=by lia
theorem qR(H:a<b):0<b:=by lia
theorem uW(H:a<=b):a<(b+1):=by lia
theorem qQ(H:a<(b+1)):a<=b:=by lia
theorem qP:(a+b)<=(a+(c+b)):=by lia
theorem qO(H:a<=b):(a+(b-a))=b:=by lia
theorem A4(H:a=b)(J:b<=c):a<=c:=by lia
theorem A3(H:a<=b):(a+c)<=(b+c):=by lia
theorem A2(H:¬(a<b)):a=((a-b)+b):=by lia
theorem A0(H:a<b)(J:c<=(a+1)):c<=b:=by lia
theorem AZ(H:a<(b+1))(J:¬(a<b)):a=b:=by lia
theorem AY(H:a<b)(J:c<=a)(K:d<=c):d<b:=by lia
theorem LL(H:a<=(b+1))(J:¬(a=(b+1))):a<=b:=by lia
theorem CP(H:a<b)(J:¬((a+1)=b)):(a+1)<b:=by lia
theorem Fl(H:a<=b)(J:(c+b)<d):(c+a)<d:=by lia
theorem LK(H:0<=z):(((Int.toNat z):Nat):Int)=z:=by lia
theorem CO(H:a<(b+1))(J:b<=12):((a:Nat):Int)<=1000000:=by lia
theorem CN(H:a<b)(J:c<((d+b)+e))(K:f=((b-a)+e)):(c-(d+a))<f:=by lia
theorem LJ(H:a<=0):a=0:=by lia
theorem LI:((a+b)-b)=a:=by lia
theorem Fj:(0+a)<=(b+a):=by lia
theorem Fi:(a-b)<=(c+a):=by lia
theorem LH(H:a<b):(min a b)=a:=by lia
theorem Fh(H:a<b)(J:b<=c):a<=c:=by lia
theorem LG:(a+(b+c))=((a+c)+b):=by lia
theorem LF(H:((a+b)+c)<d):a<d:=by lia
theorem LD(H:a=b)(J:¬(c<a)):b<=c:=by lia
theorem LC(H:(a+(b+c))<=d):((a+c)+b)<=d:=by lia
theorem LB(H:(a+(b+c))<d):((a+c)+b)<d:=by lia
theorem Fg(H:a<(min b (c-d))):(d+a)<c:=by lia
theorem Ff(H:a<b)(J:(c+b)<=d):(c-e)<d:=by lia
theorem LA:((((a*2):Nat):Int)/2)=((a:Nat):Int):=by lia
theorem Fe(H:a=b)(J:c<=a)(K:¬(c=b)):c<=(b-1):=by lia
theorem Fd(H:a=(b+c))(J:d<=c)(K:a<=(e+b)):d<=e:=by lia
theorem Lz(H:((a+(3*(b+c)))+d)<e):(((a+c)+(3*b))+d)<e:=by lia
theorem Ly:(a-b)<=a:=by lia
theorem Lx:a<((2*a)+1):=by lia
theorem Lw:¬((a-a)>b):=by lia
theorem Lv(H:a<b):¬(a>=b):=by lia
theorem Lu(H:¬(a>b)):a<=b:=by lia
theorem Ls(H:a<b):(0+a)<b:=by lia
theorem Lr:(min 9 a)<1000000:=by lia
theorem Lq(H:¬(a>=(b+1))):a<=b:=by lia
theorem Lp(H:¬((a-b)=0)):b<a:=by lia
theorem Lo(H:a=b)(J:b≠0):0<a:=by lia
theorem Ln(H:(min a b)=a):a<=b:=by lia
theorem Ll(H:a<2):((a:Nat):Int)<2:=by lia
theorem NJ(H:a<=b):c<=((c+b)-a):=by lia
theorem NI(H:a<b):(c+a)<=(c+b):=by lia
theorem NH(H:a<(b-c)):(c+a)<b:=by lia
theorem NG(H:(a<b)/\(b<=c)):a<b:=by lia
theorem NF(H:1<a):((a-1)-1)<(a-1):=by lia
theorem ND(H:a=b)(J:¬(b=0)):0<a:=by lia
theorem NC:((a+b)-(a+c))=(b-c):=by lia
theorem NB(H:a<b):((b:Nat):Int)≠0:=by lia
theorem NA(H:a<b):0<(min 9 (b-a)):=by lia
theorem Nz(H:a<=b)(J:¬(a<c)):c<=b:=by lia
theorem Ny(H:¬(a<(b+c))):c<=(a-b):=by lia
theorem Nx(H:a<(min b c)):(1+a)<=b:=by lia
theorem Nw(H:a<b):(a+c)<((2*b)+c):=by lia
theorem Nv(H:a<b):((c+b)-1)<(c+b):=by lia
theorem Nu(H:a<=b)(J:1<a):((a-1)-1)<b:=by lia
theorem Nt(H:(a+b)<=100000):a<=1191000:=by lia
theorem Nr(H:(a+1)<b):(a+((b-1)-a))<b:=by lia
theorem Nq(H:a=b)(J:b<=c):(a+(c-a))=c:=by lia
theorem Np(H:a<(b+c))(J:b<=a):(a-b)<c:=by lia
theorem Nn(H:a<=(b-c))(J:1<=a):(c+a)<=b:=by lia
theorem Nm(H:(a+1)<=b):((c+b)-1)<(c+b):=by lia
theorem Nl(H:¬(a<=b)):a=((b+1)+(a-(b+1))):=by lia
theorem Nk(H:a<b)(J:(b-(0+1))<=a):a=(b-1):=by lia
theorem Nj(H:a>b)(J:a<=(c-d)):(d+a)<=c:=by lia
theorem Ni(H:a<=b)(J:(c<d)/\(d<=a)):d<=b:=by lia
theorem Nh(H:a<(b+c))(J:c<=d):a<(b+d):=by lia
theorem Ng(H:a<b)(J:c<(d+b)):(c-d)<b:=by lia
theorem Nf(H:a<(min (b-c) d)):(c+a)<b:=by lia
theorem Nd(H:a<b)(J:c<=b)(K:d<=c):(d-1)<b:=by lia
theorem Nc(H:a<(min b (c-d))):(d+(1+a))<=c:=by lia
theorem Nb(H:a<=b)(J:c<=(a-1))(K:1<a):(c-1)<b:=by lia
theorem Na(H:a<=b)(J:(c+(b+d))<e):(c+a)<e:=by lia
theorem M_(H:a<b)(J:z=((b:Nat):Int)):0<z:=by lia
theorem M9(H:a<b)(J:c=d)(K:(e+b)<=d):(e+a)<c:=by lia
theorem M8(H:a<b)(J:c=d)(K:(e+b)<=d):(e+a)<=c:=by lia
theorem M7(H:a=b)(J:c<=d)(K:(e+d)<=b):(e+c)<=a:=by lia
theorem M6(H:a<=60)(J:(b+64)<c):(b+(min a d))<c:=by lia
theorem M5(H:a<(b+1)):0<=(((b:Nat):Int)-((a:Nat):Int)):=by lia
theorem M4(H:a<b)(J:c=d)(K:(e+b)<=d):((e+a)-f)<c:=by lia
theorem M3(H:a<=12):(((a:Nat):Int)-((b:Nat):Int))<=1000000:=by lia
theorem M1(H:((a+(16*(b+1)))+c)<d):(((a+3)+(16*b))+c)<d:=by lia
theorem M0(H:z<0):(max 0 (min (z+y) y))=(((Int.toNat (z+y)):Nat):Int):=by lia
theorem MZ(H:a<b)(J:c=((b-a)+d))(K:d<=e)(L:((f+b)+e)<=g):((f+a)+c)<=g:=by lia
theorem MY:(max 0 (min z ((a:Nat):Int)))=(((min (Int.toNat z) a):Nat):Int):=by lia
end
theorem Fc{p A B:Prop}[Decidable p](h:p)(a:A):if decide p=true then A else B:=by rw[Zr (Zh h)];exact a
theorem xL9{p A B:Prop}[Decidable p](h:¬p)(b:B):if decide p=true then A else B:=by rw[Zl (λz=>h (ZB z))];exact b
namespace L2
open PySem PySem.Spec PyProof.Rows
abbrev Key:=Sum Int ar
def uN:Key->aa->Bool
 |.inl k,v=>Value.isInt k v
 |.inr x,v=>Value.isStrOf x v
def II(w:aj):Key->Int
 |.inl k=>hashInt k
 |.inr x=>hashStr w x
theorem pT:∀{k:Key}{v:aa},uN k v=true->(∃i t,k=Sum.inl i/\v=Value.int i t)\/(∃x t,k=Sum.inr x/\v=Value.str x t)
 |.inl i,v,h=>by
  obtain⟨t,e⟩:=Value.isInt_shape (k:=i) (v:=v) h;exact .inl ⟨i,t,rfl,e⟩
 |.inr x,v,h=>by
  obtain⟨t,e⟩:=Value.isStrOf_shape (x:=x) (v:=v) h;exact .inr ⟨x,t,rfl,e⟩
theorem qZ0(i:Int)(t:Tok):uN (.inl i) (.int i t)=true:=by simp[uN,Value.isInt]
theorem qZ1(x:ar)(t:Tok):uN (.inr x) (.str x t)=true:=by simp[uN,Value.isStrOf]
theorem xE4(a b:Int):decide ((Sum.inl a:Key)=Sum.inl b)=(a==b):=by
 by_cases e:a=b
 ·subst e;simp
 ·have h:¬(Sum.inl a:Key)=Sum.inl b:=λq=>e (Sum.inl.inj q);rw[Zi h];exact(Wq.mpr e).symm
theorem xE5(a b:ar):decide ((Sum.inr a:Key)=Sum.inr b)=decide (a=b):=by
 by_cases e:a=b
 ·subst e;simp
 ·have h:¬(Sum.inr a:Key)=Sum.inr b:=λq=>e (Sum.inr.inj q);rw[Zi h,Zi e]
theorem xE6(a:Int)(b:ar):decide ((Sum.inl a:Key)=Sum.inr b)=false:=Zi (λq=>nomatch q)
theorem xE7(a:ar)(b:Int):decide ((Sum.inr a:Key)=Sum.inl b)=false:=Zi (λq=>nomatch q)
def iZ(prog:ag)(w:aj):PySem.KeyKind prog w Key where
 is:=uN
 hash:=II w
 inj:=λv a b f hb=>by
  rcases pT f with⟨i,t,rfl,rfl⟩|⟨x,t,rfl,rfl⟩
  ·rcases pT hb with⟨j,u,rfl,e⟩|⟨y,u,rfl,e⟩
   ·injection e with e1 _;rw[e1]
   ·exact nomatch e
  ·rcases pT hb with⟨j,u,rfl,e⟩|⟨y,u,rfl,e⟩
   ·exact nomatch e
   ·injection e with e1 _;rw[e1]
 byValue:=λk v h=>by
  rcases pT h with⟨i,t,rfl,rfl⟩|⟨x,t,rfl,rfl⟩<;>rfl
 pyHash:=λc h=>by
  rcases pT c with⟨i,t,rfl,rfl⟩|⟨x,t,rfl,rfl⟩
  ·exact wpAny_pyHash_int h
  ·exact wpAny_pyHash_str h
 eqBool:=λd c h=>by
  rcases pT d with⟨i,t,rfl,rfl⟩|⟨x,t,rfl,rfl⟩
  ·rcases pT c with⟨j,u,rfl,rfl⟩|⟨y,u,rfl,rfl⟩
   ·rw[xE4]at h;exact wpAny_eqBool_int h
   ·rw[xE6]at h;exact SeqAt.EqAt.int_str i t y u _ _ _ _ h
  ·rcases pT c with⟨j,u,rfl,rfl⟩|⟨y,u,rfl,rfl⟩
   ·rw[xE7]at h;exact SeqAt.EqAt.str_int x t j u _ _ _ _ h
   ·rw[xE5]at h;exact wpAny_eqBool_str h
 «strs»:=λk x t v h=>by
  rcases pT h with⟨i,u,rfl,e⟩|⟨y,u,rfl,e⟩
  ·exact nomatch e
  ·injection e with e1 _
   subst e1;cases v<;>rfl
theorem qN1(prog:ag)(w:aj)(i:Int)(t:Tok):(iZ prog w).is (.inl i) (.int i t)=true:=qZ0 i t
theorem qN2(prog:ag)(w:aj)(x:ar)(t:Tok):(iZ prog w).is (.inr x) (.str x t)=true:=qZ1 x t
inductive V where
 |cb|bl (b:Bool)|int (i:Int)|str (x:ar)|pG (b:Array UInt8)|yG (b:UInt64)|ref (a:af)|ty (n:String)
 deriving DecidableEq
def RelV:V->aa->Prop
 |.cb,u=>u=Value.none
 |.bl b,u=>u=Value.bool b
 |.int i,u=>∃t,u=Value.int i t
 |.str x,u=>∃t,u=Value.str x t
 |.pG b,u=>∃t,u=Value.bytes b t
 |.yG b,u=>∃t,u=Value.float b t
 |.ref a,u=>u=Value.ref a
 |.ty n,u=>u=Value.type n
abbrev Vals:List V->List aa->Prop:=Paired RelV
theorem Vals.length{xs:List V}{us:List aa}(r:Vals xs us):xs.length=us.length:=Wt r
theorem Vals.get:∀{a:List V}{b:List aa}{i:Nat}{x:V},Vals a b->a[i]?=some x->∃u,b[i]?=some u/\RelV x u
 |_,_,_,_,.nil,e=>by simp at e
 |_,_,0,_,.cons r _,e=>by simp at e;subst e;exact⟨_,rfl,r⟩
 |_,_,i+1,x,.cons _ t,e=>by
  obtain⟨u,h1,h2⟩:=Vals.get (i:=i) (x:=x) t (by simpa using e);exact⟨u,by simpa using h1,h2⟩
theorem Vals.set{x:V}{u:aa}(r:RelV x u):∀{a:List V}{b:List aa}(i:Nat),Vals a b->Vals (a.set i x) (b.set i u)
 |_,_,_,.nil=>.nil
 |_,_,0,.cons _ t=>.cons r t
 |_,_,i+1,.cons q t=>.cons q (Vals.set r i t)
theorem Vals.append:∀{d c:List V}{a b:List aa},Vals d a->Vals c b->Vals (d++c) (a++b)
 |_,_,_,_,.nil,s=>s
 |_,_,_,_,.cons r t,s=>.cons r (Vals.append t s)
theorem Vals.take:∀{a:List V}{b:List aa}(n:Nat),Vals a b->Vals (a.take n) (b.take n)
 |_,_,0,_=>.nil
 |_,_,_+1,.nil=>.nil
 |_,_,n+1,.cons r t=>.cons r (Vals.take n t)
theorem Vals.drop:∀{a:List V}{b:List aa}(n:Nat),Vals a b->Vals (a.drop n) (b.drop n)
 |_,_,0,r=>r
 |_,_,_+1,.nil=>.nil
 |_,_,n+1,.cons _ t=>Vals.drop n t
def gA:Option V->Option aa->Prop
 |some v,some u=>RelV v u
 |none,none=>True
 |_,_=>False
def KV{κ:Type}:List (κ×V)->List (κ×aa)->Prop:=Paired λ(p:κ×V) (q:κ×aa)=>p.1=q.1/\RelV p.2 q.2
def kV:Key->V
 |.inl i=>.int i
 |.inr x=>.str x
inductive HO where
 |lst (xs:List V)
 |tup (xs:List V)
 |dK (kvs:List (Key×V))|dT (kvs:List (List Key×V))
 |set (S:Int->Bool) (n:Nat)
 |ins (C dx:af) (fs:List (ar×V))
 |own (x:af)
 |xd (fs:List (ar×V))
 |met (f x:af)
 |sf (lo hi:Int)
 |lj (o:az) (u:HO)
 |rX (ps:Array aa)
 |ext (φ:ao->Prop)
abbrev Hp:=af->Option HO
def upd(H:Hp)(a:af)(o:HO):Hp:=λb=>if b=a then some o else H b
theorem bg{H:Hp}{a:af}{o:HO}:upd H a o a=some o:=by unfold upd;rw[Zr rfl]
theorem cK{H:Hp}{a b:af}{o:HO}(h:b≠a):upd H a o b=H b:=by unfold upd;rw[Zl h]
theorem xM0{H:Hp}{a b:af}{o u:HO}(h:H a=some o)(h':H b=some u)(d:o≠u):a≠b:=by
 intro e;subst e;rw[h]at h';exact d (ZE h')
theorem dv{H:Hp}{a b:af}{o:HO}(h:H a=some o)(h':H b=none):a≠b:=by
 intro e;subst e;rw[h]at h';cases h'
def cO(h:ao)(a:af)(items:Array aa):Prop:=∃o,h.get? a=some o/\o.cls=.type "tuple" /\ ∃n:{n:Nat // o.dict=none},o.data=.seq items n.1
theorem cO.is{h:ao}{a:af}{items:Array aa}(x:cO h a items):IsTup h a items:=let ⟨o,h1,h2,n,h3⟩:=x;⟨o,h1,h2,n.1,h3⟩
theorem cO.new(h:ao)(items:Array aa):cO (h.push {cls:=.type "tuple",data:=.seq items}) h.objs.size items:=⟨_,Zm _ rfl,rfl,⟨_,rfl⟩,rfl⟩
instance{h:ao}{a:af}{items:Array aa}:Coe (cO h a items) (IsTup h a items):=⟨cO.is⟩
instance{h:ao}{a:af}{items:Array aa}:Coe (cO h a items) (h.IsTuple a items):=⟨cO.is⟩
section
variable(P:ag)(w:aj)
def bc(H:Hp)(h:ao)(a:af):HO->Prop
 |.lst c=>c.length<=sizeLine/\∃(g:List aa)(n:Nat),Vals c g/\h.get? a=some {cls:=.type "list",data:=.seq g.toArray n}
 |.tup c=>c.length<=sizeLine/\∃g:List aa,Vals c g/\cO h a g.toArray
 |.dK b=>b.length<=sizeLine/\(a==sysModules)=false/\∃k,KV b k/\h.DictOf (iZ P w) a k
 |.dT b=>b.length<=sizeLine/\(a==sysModules)=false/\∃c:List (List Key×af×aa),
   Paired (λ(p:List Key×V) (q:List Key×af×aa)=>p.1=q.1/\H q.2.1=some (.tup (p.1.map kV))/\RelV p.2 q.2.2) b c /\
   ∃o l y,h.get? a=some o/\o.ExactDict/\o.data=.dict l y/\l.toList=c.map (entryOfKey (tupleKind (iZ P w)))/\(c.map (·.1)).Nodup
 |.set S n=>h.SetOf (intKind P w) a S n
 |.ins C i fs=>H i=some (.own a)/\fs.length<=1000/\i≠a/\h.get? a=some (PySem.W.instObj C i) /\
   ∃d,h.Ns1 i d/\(∀f,gA (fs.lookup f) (d f))/\PySem.Within d (fs.map (·.1))
 |.own _=>∃o,h.get? a=some o
 |.xd fs=>∃d,h.Ns1 a d/\∀f,gA (fs.lookup f) (d f)
 |.sf s m=>∃t u v,h.get? a=some {cls:=.type "range",data:=.fields #[.int s t,.int m u,.int 1 v]}
 |.lj o u=>h.get? a=some o/\bc H h a u
 |.rX r=>h.get? a=some {cls:=.none,data:=.fields r}
 |.met f x=>h.get? a=some (PySem.W.methodObj (.ref f) (.ref x))
 |.ext j=>j h/\(∃o,h.get? a=some o)/\∀h1 h2:ao,j h1->(∀o,h1.get? a=some o->h2.get? a=some o)->j h2
def dj(H:Hp)(h:ao):Prop:=∀a o,H a=some o->bc P w H h a o
end
section
variable{H H':Hp}{h h':ao}{a:af}{o:HO}
theorem bc.lt(x:bc P w H h a o):a<h.objs.size:=by
 cases o with
 |lst c=>obtain⟨_,_,_,_,e⟩:=x;exact Zj e
 |tup c=>obtain⟨_,_,_,p⟩:=x;exact(cO.is p).lt
 |dK b=>obtain⟨_,_,_,_,o,_,_,e,_⟩:=x;exact Zj e
 |dT b=>obtain⟨_,_,_,_,o,_,_,e,_⟩:=x;exact Zj e
 |set S n=>obtain⟨o,_,_,_,e,_⟩:=x;exact Zj e
 |ins C i fs=>obtain⟨_,_,_,e,_⟩:=x;exact Zj e
 |own y=>obtain⟨_,e⟩:=x;exact Zj e
 |xd fs=>obtain⟨_,⟨_,_,_,e,_⟩,_⟩:=x;exact Zj e
 |sf g k=>obtain⟨_,_,_,e⟩:=x;exact Zj e
 |lj ob u=>obtain⟨e,_⟩:=x;exact Zj e
 |rX j=>exact Zj (show h.get? a=some _ from x)
 |met f y=>exact Zj (show h.get? a=some _ from x)
 |ext d=>obtain⟨_,⟨_,e⟩,_⟩:=x;exact Zj e
theorem Paired.uU{α d:Type}{F G:α->d->Prop}:∀{g:List α}{c:List d},Paired F g c->(∀a b,F a b->G a b)->Paired G g c
 |_,_,.nil,_=>.nil
 |_,_,.cons r t,f=>.cons (f _ _ r) (Paired.uU t f)
theorem bc.dS(x:bc P w H h a o)(k:∀b u,(b=a\/H b=some (.own a))->h.get? b=some u->h'.get? b=some u)
  (F:∀b,H b=some (.own a)->H' b=some (.own a)) (J:∀b j,H b=some (.tup j)->H' b=some (.tup j)):bc P w H' h' a o:=by
 induction o with
 |lst j=>obtain⟨z,l,n,r,e⟩:=x;exact⟨z,l,n,r,k _ _ (.inl rfl) e⟩
 |tup j=>obtain⟨z,l,r,ob,e,c⟩:=x;exact⟨z,l,r,ob,k _ _ (.inl rfl) e,c⟩
 |dK s=>obtain⟨z,y,K,r,ob,i,g,e,c⟩:=x;exact⟨z,y,K,r,ob,i,g,k _ _ (.inl rfl) e,c⟩
 |dT s=>
  obtain⟨z,y,j,r,ob,i,g,e,c⟩:=x;exact⟨z,y,j,Paired.uU r λp q z=>⟨z.1,J _ _ z.2.1,z.2.2⟩,ob,i,g,k _ _ (.inl rfl) e,c⟩
 |set S n=>obtain⟨ob,i,g,t,e,c⟩:=x;exact⟨ob,i,g,t,k _ _ (.inl rfl) e,c⟩
 |ins C N fs=>
  obtain⟨d,z,G,e,m,⟨A,i,g,I,c⟩,r⟩:=x;exact⟨F _ d,z,G,k _ _ (.inl rfl) e,m,⟨A,i,g,k _ _ (.inr d) I,c⟩,r⟩
 |own y=>obtain⟨ob,e⟩:=x;exact⟨ob,k _ _ (.inl rfl) e⟩
 |xd fs=>obtain⟨m,⟨A,i,g,e,c⟩,r⟩:=x;exact⟨m,⟨A,i,g,k _ _ (.inl rfl) e,c⟩,r⟩
 |sf O M=>obtain⟨t,u,v,e⟩:=x;exact⟨t,u,v,k _ _ (.inl rfl) e⟩
 |lj ob u E=>obtain⟨e,q⟩:=x;exact⟨k _ _ (.inl rfl) e,E q⟩
 |rX B=>
  have e:h.get? a=some {cls:=.none,data:=.fields B}:=x;show h'.get? a=some {cls:=.none,data:=.fields B};exact k a _ (.inl rfl) e
 |met f y=>
  have e:h.get? a=some (PySem.W.methodObj (.ref f) (.ref y)):=x;show h'.get? a=some (PySem.W.methodObj (.ref f) (.ref y));exact k a _ (.inl rfl) e
 |ext L=>obtain⟨p,⟨o,e⟩,D⟩:=x;exact⟨D _ _ p λo q=>k _ _ (.inl rfl) q,⟨o,k _ _ (.inl rfl) e⟩,D⟩
theorem dj.lt(x:dj P w H h)(e:H a=some o):a<h.objs.size:=(x a o e).lt
theorem dj.fresh(x:dj P w H h)(e:h.objs.size<=a):H a=none:=by
 cases q:H a with
 |none=>rfl
 |some u=>exact absurd (ZO (x.lt q) e) (Yn _)
theorem dj.kept(x:dj P w H h)(k:∀b u,h.get? b=some u->h'.get? b=some u):dj P w H h':=λa o e=>
 (x a o e).dS (λb u _ q=>k b u q) (λ_ q=>q) λ_ _ q=>q
theorem dj.laid(x:dj P w H h)(k:∀b u,h.get? b=some u->h'.get? b=some u)(f:h.objs.size<=a)(new:bc P w (upd H a o) h' a o):dj P w (upd H a o) h':=λb u e=>by
 have d:=x.fresh f;by_cases hb:b=a
 ·subst hb;rw[bg]at e;cases e;exact new
 ·rw[cK hb]at e;exact(x b u e).dS (λc v _ q=>k c v q) (λc q=>by rw[cK (dv q d)];exact q) λc g q=>by rw[cK (dv q d)];exact q
end
def Rd(H:Hp)(a:af)(u:HO):Prop:=H a=some u\/∃o,H a=some (.lj o u)
theorem Rd.ok{P:ag}{w:aj}{H:Hp}{h:ao}{a:af}{u:HO}(r:Rd H a u)(x:dj P w H h):bc P w H h a u:=by
 rcases r with r|⟨o,r⟩
 ·exact x a u r
 ·obtain⟨_,q⟩:=x a _ r;exact q
def Cu:Option HO->Prop
 |some (.lst _)=>True
 |some (.dK _)=>True
 |some (.dT _)=>True
 |some (.set _ _)=>True
 |some (.ins _ _ _)=>True
 |some (.ext _)=>True
 |_=>False
section
variable{H:Hp}{h h':ao}{x e:af}{o':HO}
theorem dj.write(ok:dj P w H h)(f:Cu (H x))(l:e=x\/H e=some (.own x))(k:∀b u,b≠e->h.get? b=some u->h'.get? b=some u)(m:∃u,h'.get? e=some u)
  (new:bc P w (upd H x o') h' x o'):dj P w (upd H x o') h':=λb u q=>by
 have i:∀c y,H c=some (.own y)->c≠x:=λc y r z=>by subst z;rw[r]at f;exact f
 have p:∀c g,H c=some (.tup g)->c≠x:=λc g r z=>by subst z;rw[r]at f;exact f
 by_cases hb:b=x
 ·subst hb;rw[bg]at q;cases q;exact new
 ·rw[cK hb]at q;by_cases a:b=e
  ·have j:H b=some (.own x):=by
    rcases l with z|z
    ·exact absurd (a.trans z) hb
    ·rw[a];exact z
   rw[q]at j;cases j;obtain⟨v,n⟩:=m;exact⟨v,by rw[a];exact n⟩
  ·refine(ok b u q).dS (λc v d r=>k c v ?_ r) (λc r=>by rw[cK (i c b r)];exact r) λc g r=>by rw[cK (p c g r)];exact r
   rcases d with rfl|d
   ·exact a
   ·rintro rfl;rcases l with z|z
    ·exact i c b d z
    ·rw[d]at z;cases z;exact hb rfl
end
structure Un(fs ex:List af)(H H':Hp)(h h':ao):Prop where
 keep:∀b o,h.get? b=some o->H b=none->b∉fs->b∉ex->h'.get? b=some o
 slot:∀b o,h.get? b=some o->H b=none->b∈fs->b∉ex->∃sl,h'.get? b=some {o with slots:=sl}
 free:∀b o,h.get? b=some o->H b=none->b∉ex->H' b=none
 there:∀b o,h.get? b=some o->b∉ex->∃o',h'.get? b=some o'
 cR:∀b xs,H b=some (.tup xs)->H' b=some (.tup xs)
 dX:∀b o u,H b=some (.lj o u)->H' b=some (.lj o u)
 eu:∀b ps,H b=some (.rX ps)->∃more,H' b=some (.rX (ps++more))
section
variable{fs fs' ex ex':List af}{H H1 H2:Hp}{h h1 h2 h':ao}{a x e:af}{o:HO}
theorem Un.any(u:Un fs ex H H1 h h1){b:af}{ob:az}(q:h.get? b=some ob)(n:H b=none)(c:b∉ex):∃d,h1.get? b=some {ob with slots:=d}:=by
 by_cases hb:b∈fs
 ·exact u.slot b ob q n hb c
 ·exact⟨ob.slots,u.keep b ob q n hb c⟩
theorem Un.kept(k:∀b u,h.get? b=some u->h'.get? b=some u):Un fs ex H H h h':=
 ⟨λb ob q _ _ _=>k b ob q,λb ob q _ _ _=>⟨ob.slots,k b ob q⟩,λ_ _ _ n _=>n,λb ob q _=>⟨ob,k b ob q⟩,λ_ _ q=>q,λ_ _ _ q=>q,λ_ c q=>⟨#[],by rw[q];simp⟩⟩
theorem Un.refl:Un fs ex H H h h:=Un.kept λ_ _ q=>q
theorem Un.laid(k:∀b u,h.get? b=some u->h'.get? b=some u)(d:h.objs.size<=a)(c:H a=none):Un fs ex H (upd H a o) h h' where
 keep:=λb u q _ _ _=>k b u q
 slot:=λb u q _ _ _=>⟨u.slots,k b u q⟩
 free:=λb u q n _=>by rw[cK (ZC (ZO (Zj q) d))];exact n
 there:=λb u q _=>⟨u,k b u q⟩
 cR:=λb f q=>by rw[cK (dv q c)];exact q
 dX:=λb u f q=>by rw[cK (dv q c)];exact q
 eu:=λb g q=>⟨#[],by rw[cK (dv q c),q];simp⟩
theorem Un.write(c:Cu (H x))(l:e=x\/H e=some (.own x))(k:∀b u,b≠e->h.get? b=some u->h'.get? b=some u)(i:∃u,h'.get? e=some u):Un fs ex H (upd H x o) h h':=by
 have g:∀b,H b=none->b≠x:=λb n z=>by subst z;rw[n]at c;exact c
 have hb:∀b,H b=none->b≠e:=λb n z=>by
  subst z;rcases l with r|r
  ·exact g b n r
  ·rw[n]at r;cases r
 have d:∀b u,H b=some u->¬Cu (some u)->b≠x:=λb u q j z=>by subst z;rw[q]at c;exact j c
 refine⟨λb u q n _ _=>k b u (hb b n) q,λb u q n _ _=>⟨u.slots,k b u (hb b n) q⟩,λb u q n _=>by rw[cK (g b n)];exact n,λb u q _=>?_,
  λb m q=>by rw[cK (d b _ q λz=>z)];exact q,λb u m q=>by rw[cK (d b _ q λz=>z)];exact q,λb p q=>⟨#[],by rw[cK (d b _ q λz=>z),q];simp⟩⟩
 by_cases f:b=e
 ·subst f;exact i
 ·exact⟨u,k b u f q⟩
end
def CS(h:ao)(H:Hp):List af:=(List.range h.objs.size).filter λa=>(H a).isSome
def iz(h:ao)(H:Hp):ao:=PySem.W.hideAll h (CS h H)
theorem qZ2(h:ao)(H:Hp):(iz h H).objs.size=h.objs.size:=PySem.W.hideAll_size _ _
theorem xd5{h:ao}{H:Hp}{b:af}{o:az}(e:h.get? b=some o)(n:H b=none):(iz h H).get? b=some o:=
 Vg _ e λa=>by
  have q:(H b).isSome=true:=(Y9.mp a).2;rw[n]at q;simp at q
theorem Us{h:ao}{H:Hp}{b:af}{o:az}(e:(iz h H).get? b=some o):h.get? b=some o/\H b=none:=by
 have a:h.get? b=some o:=WC (CS h H) e;refine⟨a,?_⟩;cases q:H b with
 |none=>rfl
 |some x=>
  have c:b∈CS h H:=Y9.mpr ⟨Yv.mpr (Zj a),by simp[q]⟩;have z:(iz h H).get? b=none:=PySem.W.hideAll_none (CS h H) c;rw[z]at e;cases e
structure Mod(K:PySem.W.Frag)(mg:ar->Option aa)(base:ao):Prop where
 oP:K.In base
 glob:base.Ns mainGlobals mg
 blt:∃mb,base.Ns builtinsNs mb/\∀x:ar,x ≠ "__name__"->mb x=bootBuiltins x
 nolimit:base.NoLimit
structure Cx where
 prog:ag
 w:aj
 K:PySem.W.Frag
 mg:ar->Option aa
 base:ao
 A:aq
 N:List ar
 aH:ae
 aJ:Hp
 env:Env
 outer:List Env
 stack:List Env
 ex:List af
 fn:ar->Bool
 calm:Bool
 pn:List (af×az)
 xe:aa->ae->Prop
def c6(l:List Env):List af:=l.filterMap (·.frame)
abbrev Cx.fs(X:Cx):List af:=c6 X.outer
def tO(a:aA)(x:ar):Prop:=a.names.lookup x=some .local\/a.names.lookup x=some .cell\/a.names.lookup x=some .free
def Loc(a:aA)(x:ar):Prop:=a.names.lookup x=some .local\/a.names.lookup x=some .cell
def Look(env:Env)(h:ao)(m:ar->Option aa)(x:ar)(u:aa):Prop:=
 (env.kindOf x=some .local/\m x=some u)\/((env.kindOf x=some .cell\/env.kindOf x=some .free)/\∃c,env.cells.lookup x=some c/\h.IsCell c (some u))
structure Cx.Ok(X:Cx):Prop where
 mod:Mod X.K X.mg X.base
 kind:X.env.scope.kind=.function
 glob:X.env.globals=mainGlobals
 blt:X.env.builtins=builtinsNs
 above:X.aH.heap.objs.size<=X.env.locals
 inj:∀x y c,X.env.cells.lookup x=some c->X.env.cells.lookup y=some c->x=y
 has:∀x,(X.env.kindOf x=some .cell\/X.env.kindOf x=some .free)->∃c,X.env.cells.lookup x=some c
 rM:∀x c,X.fn x=true->X.env.cells.lookup x=some c->X.aH.heap.objs.size<=c
 hd:X.calm=true->X.A.handled=none
 frames:X.A.frames=some X.stack
 p7:X.stack=X.outer\/(X.stack=X.env::X.outer/\X.env.frame=some X.env.locals)
 yH:∀b∈X.ex,b≠X.env.locals/\∀x c,X.env.cells.lookup x=some c->c≠b
 bs:∀b o,X.base.get? b=some o->X.aH.heap.get? b=some o/\X.aJ b=none
 mR:X.base.objs.size<=X.aH.heap.objs.size
 iu:∀b o,X.base.get? b=some o->b∉X.ex
 je:∀b∈X.ex,b∉X.fs
 di:X.aH.heap.FunFrames X.base X.outer
 pz:∀b∈X.fs,X.aJ b=none
structure Inv(X:Cx)(j8:List (af×az))(σ:List (Option V))(H:Hp)(s:ae):Prop where
 ok:X.Ok
 os:s.os=X.aH.os
 bare:AllBare s.gens
 base:Un X.fs X.ex X.aJ H X.aH.heap s.heap
 loc:∃m,s.heap.Ns X.env.locals m/\∀(i:Nat)(x:ar)(v:V),X.N[i]?=some x->σ[i]?=some (some v)->tO X.env.scope x->∃u,RelV v u/\Look X.env s.heap m x u
 cell:∀x c,X.env.cells.lookup x=some c->∃v,s.heap.IsCell c v
 free:H X.env.locals=none
 cJ:∀x c,X.env.cells.lookup x=some c->H c=none
 pin:∀p∈X.pn++j8,s.heap.get? p.1=some p.2/\H p.1=none/\p.1≠X.env.locals/\p.1∉X.fs/\∀v,p.2.data≠.cell v
 aQ:dj X.prog X.w H s.heap
 len:σ.length=X.N.length
section
variable{X:Cx}{j8:List (af×az)}{σ:List (Option V)}{H H':Hp}{s:ae}{h':ao}
theorem Cx.Ok.Iw(ok:X.Ok){b:af}{o:az}(e:X.base.get? b=some o):b∉X.fs:=λhb=>by
 have:=(ok.di.mem hb).1;rw[e]at this;cases this
theorem Inv.bs(I:Inv X j8 σ H s):∀b o,X.base.get? b=some o->s.heap.get? b=some o/\H b=none:=λb o e=>
 ⟨I.base.keep b o (I.ok.bs b o e).1 (I.ok.bs b o e).2 (I.ok.Iw e) (I.ok.iu b o e),I.base.free b o (I.ok.bs b o e).1 (I.ok.bs b o e).2 (I.ok.iu b o e)⟩
theorem Inv.bk(I:Inv X j8 σ H s):∀b o,X.base.get? b=some o->s.heap.get? b=some o:=λb o e=>(I.bs b o e).1
theorem Inv.mod(I:Inv X j8 σ H s):Mod X.K X.mg X.base:=I.ok.mod
theorem Inv.gn(I:Inv X j8 σ H s):X.K.In s.heap:=I.ok.mod.oP.keeps I.bk
theorem Inv.fr(I:Inv X j8 σ H s):∃m,Fr X.base X.env.locals s.heap m:=
 let ⟨m,hn,_⟩:=I.loc
 ⟨m,hn,I.bk,Zw I.ok.mR I.ok.above⟩
theorem Inv.lt(I:Inv X j8 σ H s):X.env.locals<s.heap.objs.size:=let ⟨_,hn,_⟩:=I.loc;hn.lt
theorem Inv.sz(I:Inv X j8 σ H s):X.aH.heap.objs.size<=s.heap.objs.size:=Zw I.ok.above (Yt I.lt)
theorem Inv.Iu(I:Inv X j8 σ H s){a:af}(h:s.heap.objs.size<=a):a∉X.fs:=λhb=>by
 obtain⟨_,o,b,_⟩:=I.ok.di.mem hb;exact absurd (ZO (Zj b) (Zw I.sz h)) (Yn _)
theorem Inv.rK(I:Inv X j8 σ H s):∀x c,X.env.cells.lookup x=some c->c≠X.env.locals:=λx c e z=>by
 obtain⟨v,o,a,b⟩:=I.cell x c e;obtain⟨m,⟨i,h,g,f,d,_⟩,_⟩:=I.loc;rw[z,f]at a;cases a;rw[d]at b;cases b
theorem Inv.di(I:Inv X j8 σ H s):s.heap.FunFrames X.base X.outer:=by
 have all:∀(l:List Env),(∀b∈c6 l,b∈X.fs)->X.aH.heap.FunFrames X.base l->s.heap.FunFrames X.base l:=by
  intro l
  induction l with
  |nil=>intro _ _;trivial
  |cons h r j=>
   intro d n;obtain⟨k,⟨L,o,a,i,f,g⟩,m⟩:=n;have c:L∈X.fs:=d L (by unfold c6;rw[ZT,a];exact Zu);obtain⟨p,e⟩:=I.base.slot L o f (I.ok.pz L c) c λz=>I.ok.je L z c;exact⟨k,⟨L,_,a,i,e,g⟩,j (λb hb=>d b (by unfold c6;rw[ZT,a];exact Zk _ hb)) m⟩
 exact all X.outer (λ_ hb=>hb) I.ok.di
theorem Inv.stack(I:Inv X j8 σ H s):s.heap.FunFrames X.base X.stack:=by
 rcases I.ok.p7 with e|⟨e,b⟩
 ·rw[e];exact I.di
 ·rw[e];obtain⟨m,a,_⟩:=I.loc;refine .cons (by rw[I.ok.kind];decide) b a ?_ I.di;exact Heap.get?_none_of_le (Zw I.ok.mR I.ok.above)
theorem Inv.dQ(I:Inv X j8 σ H s):∀b∈c6 X.stack,b∈X.env.locals::X.fs:=λb hb=>by
 rcases I.ok.p7 with e|⟨e,a⟩
 ·rw[e]at hb;exact Zk _ hb
 ·rw[e]at hb;unfold c6 at hb;rw[ZT,a]at hb;exact hb
theorem Inv.ij(I:Inv X j8 σ H s):∀b∈c6 X.stack,H b=none:=λb hb=>by
 rcases ZD.mp (I.dQ b hb)with e|hb
 ·rw[e];exact I.free
 ·obtain⟨_,o,a,_⟩:=I.ok.di.mem hb;exact I.base.free b o a (I.ok.pz b hb) λz=>I.ok.je b z hb
theorem Inv.step{g':Array GenState}{t':Nat}{d':Drawn}{ch:List af}(I:Inv X j8 σ H s)
  (A:∀b∈ch,(b∈X.ex\/X.aH.heap.objs.size<=b)/\b≠X.env.locals/\(∀x c,X.env.cells.lookup x=some c->c≠b)/\∀p∈X.pn++j8,p.1≠b)
  (keep:∀b o,b≠X.env.locals->b∉X.fs->b∉ch->s.heap.get? b=some o->H b=none->h'.get? b=some o)
  (slot:∀b o,b≠X.env.locals->b∈X.fs->b∉ch->s.heap.get? b=some o->H b=none->∃E,h'.get? b=some {o with slots:=E}) (free:∀b o,b∉ch->s.heap.get? b=some o->H b=none->H' b=none)
  (there:∀b o,b∉ch->s.heap.get? b=some o->∃y,h'.get? b=some y)
  (cR:∀b h,H b=some (.tup h)->H' b=some (.tup h)) (dX:∀b o u,H b=some (.lj o u)->H' b=some (.lj o u)) (eu:∀b B,H b=some (.rX B)->∃more,H' b=some (.rX (B++more)))
  (N:∀m,s.heap.Ns X.env.locals m->h'.Ns X.env.locals m) (O:dj X.prog X.w H' h') (P:AllBare g'):
  Inv X j8 σ H' {s with heap:=h',gens:=g',drawn:=d',toks:=t'}:=by
 have L:∀b o,X.aH.heap.get? b=some o->b≠X.env.locals:=λb o e=>ZC (ZO (Zj e) I.ok.above);have C:∀b o,X.aH.heap.get? b=some o->b∉X.ex->b∉ch:=λb o e a hb=>by
  rcases(A b hb).1 with z|z
  ·exact a z
  ·exact absurd (ZO (Zj e) z) (Yn _)
 have f:∀x c,X.env.cells.lookup x=some c->∀v,s.heap.IsCell c v->h'.IsCell c v:=λx c e v ⟨o,j,D⟩=>by
  have t:c∉ch:=λz=>(A c z).2.2.1 x c e rfl;by_cases J:c∈X.fs
  ·obtain⟨E,q⟩:=slot c o (I.rK x c e) J t j (I.cJ x c e);exact⟨_,q,D⟩
  ·exact⟨o,keep c o (I.rK x c e) J t j (I.cJ x c e),D⟩
 refine⟨I.ok,I.os,P,⟨λb o e n hb a=>?_,λb o e n hb a=>?_,λb o e n a=>?_,λb o e a=>?_,λb h e=>cR b h (I.base.cR b h e),λb o h e=>dX b o h (I.base.dX b o h e),λb B e=>?_⟩,?_,λx c e=>?_,?_,λx c e=>?_,λp F=>?_,O,I.len⟩
 ·exact keep b o (L b o e) hb (C b o e a) (I.base.keep b o e n hb a) (I.base.free b o e n a)
 ·obtain⟨E,g⟩:=I.base.slot b o e n hb a;obtain⟨U,w⟩:=slot b _ (L b o e) hb (C b o e a) g (I.base.free b o e n a);exact⟨U,w⟩
 ·obtain⟨y,g⟩:=I.base.there b o e a;exact free b y (C b o e a) g (I.base.free b o e n a)
 ·obtain⟨y,g⟩:=I.base.there b o e a;exact there b y (C b o e a) g
 ·obtain⟨S,g⟩:=I.base.eu b B e;obtain⟨Q,w⟩:=eu b _ g;exact⟨S++Q,by rw[w,Array.append_assoc]⟩
 ·obtain⟨m,M,R⟩:=I.loc;refine⟨m,N m M,λi x v g w T=>?_⟩;obtain⟨u,r,l⟩:=R i x v g w T;refine⟨u,r,?_⟩;rcases l with l|⟨k,c,e,z⟩
  ·exact .inl l
  ·exact .inr ⟨k,c,e,f x c e _ z⟩
 ·obtain⟨v,z⟩:=I.cell x c e;exact⟨v,f x c e v z⟩
 ·obtain⟨m,⟨o,_,_,j,_⟩,_⟩:=I.loc;exact free _ o (λz=>(A _ z).2.1 rfl) j I.free
 ·obtain⟨v,o,j,D⟩:=I.cell x c e;exact free c o (λz=>(A c z).2.2.1 x c e rfl) j (I.cJ x c e)
 ·obtain⟨e,n,G,K,d⟩:=I.pin p F;have t:p.1∉ch:=λz=>(A p.1 z).2.2.2 p F rfl;exact⟨keep p.1 p.2 G K t e n,free p.1 p.2 t e n,G,K,d⟩
theorem Inv.un{t':Nat}(I:Inv X j8 σ H s)(u:Un X.fs [] H H' s.heap h')(f:dj X.prog X.w H' h'):Inv X j8 σ H' {s with heap:=h',toks:=t'}:=by
 obtain⟨m,⟨o,q,p,c,r⟩,_⟩:=id I.loc;obtain⟨l,j⟩:=u.any c I.free (by simp);exact I.step (g':=s.gens) (d':=s.drawn) (ch:=[]) (λ_ z=>nomatch z) (λb o _ hb _ e n=>u.keep b o e n hb (by simp)) (λb o _ hb _ e n=>u.slot b o e n hb (by simp)) (λb o _ e n=>u.free b o e n (by simp)) (λb o _ e=>u.there b o e (by simp)) u.cR u.dX u.eu (λk g=>by
  obtain⟨t,a,h,d,i⟩:=g;rw[c]at d;cases d;exact⟨_,a,h,j,i⟩) f I.bare
theorem Inv.call{g':Array GenState}{t':Nat}{d':Drawn}{ch:List af}(I:Inv X j8 σ H s)(u:Un (c6 X.stack) ch H H' s.heap h')(k:dj X.prog X.w H' h')(q:AllBare g')
  (i:∀b∈ch,(b∈X.ex\/X.aH.heap.objs.size<=b)/\b≠X.env.locals/\(∀x c,X.env.cells.lookup x=some c->c≠b)/\∀p∈X.pn++j8,p.1≠b):
  Inv X j8 σ H' {s with heap:=h',gens:=g',drawn:=d',toks:=t'}:=by
 obtain⟨m,⟨o,B,A,h,r⟩,_⟩:=id I.loc;obtain⟨v,d⟩:=u.any h I.free λz=>(i _ z).2.1 rfl;exact I.step (ch:=ch) i (λb o d hb a e n=>u.keep b o e n (λz=>(ZD.mp (I.dQ b z)).elim d hb) a) (λb o _ _ a e n=>u.any e n a) (λb o a e n=>u.free b o e n a) (λb o a e=>u.there b o e a) u.cR u.dX u.eu (λy t=>by
  obtain⟨w,f,j,g,l⟩:=t;rw[h]at g;cases g;exact⟨_,f,j,d,l⟩) k q
theorem Inv.turned{t':Nat}{it:af}(I:Inv X j8 σ H s)(k:∀b o,b≠it->s.heap.get? b=some o->h'.get? b=some o)(g:H it=none)(f:it≠X.env.locals)
  (h1:it∈X.ex\/X.aH.heap.objs.size<=it) (h2:∀x c,X.env.cells.lookup x=some c->c≠it) (i:∀p∈X.pn++j8,p.1≠it):Inv X j8 σ H {s with heap:=h',toks:=t'}:=by
 have d:∀b u,H b=some u->b≠it:=λb u e z=>by rw[z,g]at e;cases e
 refine I.step (g':=s.gens) (d':=s.drawn) (ch:=[it]) (λb hb=>?_) (λb o _ _ a e _=>k b o (λz=>a (by simp[z])) e) (λb o _ _ a e _=>⟨o.slots,k b o (λz=>a (by simp[z])) e⟩) (λ_ _ _ _ n=>n)
  (λb o a e=>⟨o,k b o (λz=>a (by simp[z])) e⟩) (λ_ _ e=>e) (λ_ _ _ e=>e) (λb w e=>⟨#[],by rw[e];simp⟩) (λm j=>?_) (λb u e=>?_) I.bare
 ·have e:b=it:=by simpa using hb
  subst e;exact⟨h1,f,h2,i⟩
 ·obtain⟨o,t,l,h,r⟩:=j;exact⟨o,t,l,k _ o (Xz f) h,r⟩
 ·refine(I.aQ b u e).dS (λc v a q=>k c v ?_ q) (λ_ q=>q) λ_ _ q=>q;rcases a with z|z
  ·rw[z];exact d b u e
  ·exact d c _ z
theorem Inv.tok(I:Inv X j8 σ H s)(t:Nat):Inv X j8 σ H {s with toks:=t}:=I.un (h':=s.heap) (t':=t) Un.refl I.aQ
theorem Inv.kept{t':Nat}(I:Inv X j8 σ H s)(k:∀b u,s.heap.get? b=some u->h'.get? b=some u):Inv X j8 σ H {s with heap:=h',toks:=t'}:=I.un (Un.kept k) (I.aQ.kept k)
theorem Inv.laid{a:af}{o:HO}{t':Nat}(I:Inv X j8 σ H s)(k:∀b u,s.heap.get? b=some u->h'.get? b=some u)(c:s.heap.objs.size<=a)(new:bc X.prog X.w (upd H a o) h' a o):
  Inv X j8 σ (upd H a o) {s with heap:=h',toks:=t'}:=I.un (Un.laid k c (I.aQ.fresh c)) (I.aQ.laid k c new)
theorem Inv.write{x e:af}{o:HO}{t':Nat}(I:Inv X j8 σ H s)(d:Cu (H x))(c:e=x\/H e=some (.own x))(k:∀b u,b≠e->s.heap.get? b=some u->h'.get? b=some u)(a:∃u,h'.get? e=some u)
  (new:bc X.prog X.w (upd H x o) h' x o):Inv X j8 σ (upd H x o) {s with heap:=h',toks:=t'}:=I.un (Un.write d c k a) (I.aQ.write d c k a new)
theorem Inv.weak{σ':List (Option V)}(I:Inv X j8 σ H s)(b:σ'.length=σ.length)(w:∀(i:Nat) v,σ'[i]?=some (some v)->σ[i]?=some (some v)):Inv X j8 σ' H s:=
 ⟨I.ok,I.os,I.bare,I.base,let ⟨m,hn,mO⟩:=I.loc;⟨m,hn,λi x v a c d=>mO i x v a (w i v c) d⟩,I.cell,I.free,I.cJ,I.pin,I.aQ,b.trans I.len⟩
theorem Inv.lW{a:List (af×az)}(I:Inv X j8 σ H s)(h:∀p∈a,s.heap.get? p.1=some p.2/\H p.1=none/\p.1≠X.env.locals/\p.1∉X.fs/\∀v,p.2.data≠.cell v):Inv X a σ H s:=
 ⟨I.ok,I.os,I.bare,I.base,I.loc,I.cell,I.free,I.cJ,λp b=>(ZX.mp b).elim (λz=>I.pin p (Y5 _ z)) (h p),I.aQ,I.len⟩
theorem HU{N:List ar}(c:N.Nodup){i j:Nat}{x:ar}(a:N[i]?=some x)(b:N[j]?=some x):i=j:=by
 obtain⟨h1,f⟩:=cF a;obtain⟨h2,d⟩:=cF b;exact(List.getElem_inj c).mp (f.trans d.symm)
theorem qZ3{M:Model}{A:aq}{E:aa->ae->Prop}{i:Nat}{x:ar}{v:V}{u:aa}{Q:Unit->ae->Prop}(I:Inv X j8 σ H s)(hN:X.N.Nodup)(F:X.N[i]?=some x)(w:Loc X.env.scope x)(r:RelV v u)
  (h:∀Y,Inv X j8 (σ.set i (some v)) H Y->(∃a,Heap.SameBut a s.heap Y.heap/\(a=X.env.locals\/X.env.cells.lookup x=some a))->Q () Y) (hf:X.fn x=true\/X.env.scope.names.lookup x=some .local:=by first|exact .inl rfl|exact .inr rfl|assumption):ah M A (storeName X.env x u) Q E s:=by
 obtain⟨m,L,hl⟩:=id I.loc;have pj:(X.env.scope.kind==.class||(X.env.scope.kind==.module&&X.env.locals != X.env.globals))=false:=by rw[I.ok.kind];rfl
 have BK:i<σ.length:=by rw[I.len];exact(cF F).1
 have rK:=I.rK;have g:∀{a:af}{h':ao},(∃o,s.heap.get? a=some o/\H a=none)->Heap.SameBut a s.heap h'->dj X.prog X.w H h':=λ{a h'} ha f b ob e=>by
  obtain⟨_,_,tF⟩:=ha;refine(I.aQ b ob e).dS (λc J t q=>(f.2 c ?_).trans q) (λ_ q=>q) λ_ _ q=>q;rintro rfl;rcases t with rfl|t
  ·rw[tF]at e;cases e
  ·rw[tF]at t;cases t
 rcases w with C|C
 ·refine wpAny_storeName_local C L (λh' BD f=>?_) pj;obtain⟨oL,_,_,hoL,_⟩:=id L;refine h _ ⟨I.ok,I.os,I.bare,⟨λb o e n hb w=>?_,λb o e n hb w=>?_,I.base.free,λb o e w=>?_,I.base.cR,I.base.dX,I.base.eu⟩,⟨_,BD,λj y U l B Z=>?_⟩,λy c e=>?_,I.free,I.cJ,λp N=>?_,g ⟨oL,hoL,I.free⟩ f,by simpa using I.len⟩ ⟨_,f,.inl rfl⟩
  ·exact(f.2 b (ZC (ZO (Zj e) I.ok.above))).trans (I.base.keep b o e n hb w)
  ·obtain⟨O,l⟩:=I.base.slot b o e n hb w;exact⟨O,(f.2 b (ZC (ZO (Zj e) I.ok.above))).trans l⟩
  ·obtain⟨W,l⟩:=I.base.there b o e w;exact⟨W,(f.2 b (ZC (ZO (Zj e) I.ok.above))).trans l⟩
  ·by_cases D:j=i
   ·subst D;rw[F]at l;cases l;rw[WK BK]at B;cases B;exact⟨u,r,.inl ⟨C,by simp⟩⟩
   ·rw[W8 (Xz D)]at B;obtain⟨S,R,q⟩:=hl j y U l B Z;refine⟨S,R,?_⟩;rcases q with⟨k,e⟩|⟨k,c,e,z⟩
    ·refine .inl ⟨k,?_⟩;have:y≠x:=λe=>D (HU hN l (e▸F));simp[this,e]
    ·exact .inr ⟨k,c,e,z.sameBut f (rK y c e)⟩
  ·obtain⟨J,z⟩:=I.cell y c e;exact⟨J,z.sameBut f (rK y c e)⟩
  ·obtain⟨e,n,G,T,d⟩:=I.pin p N;exact⟨(f.2 p.1 G).trans e,n,G,T,d⟩
 ·have P:X.fn x=true:=by
   rcases hf with z|z
   ·exact z
   ·rw[z]at C;cases C
  obtain⟨c,t⟩:=I.ok.has x (.inl C);obtain⟨J,z⟩:=I.cell x c t;refine wpAny_storeName_cell I.ok.kind C t z (λh' Rv f=>?_);obtain⟨oc,DY,Jw⟩:=id z;refine h {s with heap:=h'} ⟨I.ok,I.os,I.bare,⟨λb o e n hb w=>?_,λb o e n hb w=>?_,I.base.free,λb o e w=>?_,I.base.cR,I.base.dX,I.base.eu⟩,⟨m,L.sameBut f (Xz (rK x c t)),λj y U l B Z=>?_⟩,λy K e=>?_,I.free,I.cJ,λp N=>?_,g ⟨oc,DY,I.cJ x c t⟩ f,by simpa using I.len⟩ ⟨c,f,.inr t⟩
  ·exact(f.2 b (ZC (ZO (Zj e) (I.ok.rM x c P t)))).trans (I.base.keep b o e n hb w)
  ·obtain⟨O,l⟩:=I.base.slot b o e n hb w;exact⟨O,(f.2 b (ZC (ZO (Zj e) (I.ok.rM x c P t)))).trans l⟩
  ·obtain⟨W,l⟩:=I.base.there b o e w;exact⟨W,(f.2 b (ZC (ZO (Zj e) (I.ok.rM x c P t)))).trans l⟩
  ·by_cases D:j=i
   ·subst D;rw[F]at l;cases l;rw[WK BK]at B;cases B;exact⟨u,r,.inr ⟨.inl C,c,t,Rv⟩⟩
   ·rw[W8 (Xz D)]at B;obtain⟨S,R,q⟩:=hl j y U l B Z;refine⟨S,R,?_⟩;rcases q with q|⟨k,K,e,z'⟩
    ·exact .inl q
    ·refine .inr ⟨k,K,e,z'.sameBut f ?_⟩;rintro rfl;exact D (HU hN l (I.ok.inj _ _ _ e t▸F))
  ·by_cases Rt:K=c
   ·subst Rt;exact⟨_,Rv⟩
   ·obtain⟨w2,z2⟩:=I.cell y K e;exact⟨w2,z2.sameBut f Rt⟩
  ·obtain⟨e,n,G,T,d⟩:=I.pin p N;refine⟨(f.2 p.1 ?_).trans e,n,G,T,d⟩;intro q;rw[q,DY]at e;have q':oc=p.2:=ZE e;exact d J (by rw[<- q'];exact Jw)
theorem De{M:Model}{A:aq}{E:aa->ae->Prop}{i:Nat}{x:ar}{v:V}{u:aa}{Q:Unit->ae->Prop}(I:Inv X j8 σ H s)(b:X.N.Nodup)(f:X.N[i]?=some x)(g:Loc X.env.scope x)(r:RelV v u)
  (h:∀a,Inv X j8 (σ.set i (some v)) H a->Q () a) (c:X.fn x=true\/X.env.scope.names.lookup x=some .local:=by first|exact .inl rfl|exact .inr rfl|assumption):ah M A (storeName X.env x u) Q E s:=
 qZ3 I b f g r (λa d _=>h a d) c
theorem Inv.tL{s':ae}{ch:List af}(I:Inv X j8 σ H s)(d:s'.os=s.os)(u:Un (c6 X.stack) ch H H' s.heap s'.heap)(f:dj X.prog X.w H' s'.heap)(g:AllBare s'.gens)
  (a:∀b∈ch,(b∈X.ex\/X.aH.heap.objs.size<=b)/\b≠X.env.locals/\(∀x c,X.env.cells.lookup x=some c->c≠b)/\∀p∈X.pn++j8,p.1≠b):Inv X j8 σ H' s':=by
 obtain⟨h',g',d',t',h⟩:=s';have e:h=s.os:=d;subst e;exact I.call (g':=g') (t':=t') (d':=d') u f g a
end
abbrev XK:=aa->Option af->Hp->Prop
abbrev St:=List (Option V)
abbrev VK:=V->Hp->Prop
abbrev TE:=St->Hp->VK->Prop
abbrev TT:=St->Hp->(Bool->Hp->Prop)->Prop
abbrev TA:=St->Hp->(List V->Hp->Prop)->Prop
structure Ends where
 nx:St->Hp->Prop
 rt:VK
 bk:St->Hp->Prop:=λ_ _=>False
 ct:St->Hp->Prop:=λ_ _=>False
abbrev TS:=Ends->St->Hp->Prop
def EP(X:Cx)(b:List (af×az))(σ:St)(Q:VK)(u:aa)(s':ae):Prop:=∃v a,Inv X b σ a s'/\RelV v u/\Q v a
def TP(X:Cx)(c:List (af×az))(σ:St)(Q:Bool->Hp->Prop)(b:Bool)(s':ae):Prop:=∃a,Inv X c σ a s'/\Q b a
def AP(X:Cx)(c:List (af×az))(σ:St)(Q:List V->Hp->Prop)(us:List aa)(s':ae):Prop:=∃b a,Inv X c σ a s'/\Vals b us/\Q b a
def SP(X:Cx)(c:List (af×az))(D:Ends)(f:Flow)(s':ae):Prop:=
 match f with
 |.next=>∃a b,Inv X c a b s'/\D.nx a b
 |.brk=>∃a b,Inv X c a b s'/\D.bk a b
 |.cont=>∃a b,Inv X c a b s'/\D.ct a b
 |.ret u=>∃v a b,Inv X c a b s'/\RelV v u/\D.rt v b
def PE(X:Cx)(e:av)(t:TE):Prop:=
 ∀(b:List (af×az))(s:ae)(a:St)(H:Hp)(Q:VK),Inv X b a H s->t a H Q->ah (ai X.prog X.w) X.A (eval e X.env) (EP X b a Q) X.xe s
def PT(X:Cx)(e:av)(t:TT):Prop:=
 ∀(b:List (af×az))(s:ae)(a:St)(H:Hp)(Q:Bool->Hp->Prop),Inv X b a H s->t a H Q->ah (ai X.prog X.w) X.A (isTrue e X.env (eval e X.env)) (TP X b a Q) X.xe s
def PW(X:Cx)(e:av)(t:TT):Prop:=
 ∀(whole:Sem aa)(b:List (af×az))(s:ae)(a:St)(H:Hp)(Q:Bool->Hp->Prop),Inv X b a H s->t a H Q->ah (ai X.prog X.w) X.A (isTrue e X.env whole) (TP X b a Q) X.xe s
theorem PW.pt{X:Cx}{e:av}{t:TT}(h:PW X e t):PT X e t:=h _
def PA(X:Cx)(es:List av)(t:TA):Prop:=
 ∀(pos:aC)(b:List (af×az))(s:ae)(a:St)(H:Hp)(Q:List V->Hp->Prop),Inv X b a H s->t a H Q->ah (ai X.prog X.w) X.A (spliced (backTo pos (starEach es X.env))) (AP X b a Q) X.xe s
def PS(X:Cx)(st:aB)(t:TS):Prop:=
 ∀(a:List (af×az))(s:ae)(b:St)(H:Hp)(D:Ends),Inv X a b H s->t D b H->ah (ai X.prog X.w) X.A (exec st X.env) (SP X a D) X.xe s
def gI(X:Cx)(st:List aB)(t:TS):Prop:=
 ∀(a:List (af×az))(s:ae)(b:St)(H:Hp)(D:Ends),Inv X a b H s->t D b H->ah (ai X.prog X.w) X.A (execs st X.env) (SP X a D) X.xe s
theorem bz{α:Type}{t:Sem α}{Q b:α->ae->Prop}{M:Model}{A:aq}{E:aa->ae->Prop}{s:ae}(h:ah M A t Q E s)(c:∀a s,Q a s->b a s):ah M A t b E s:=Yw h c λ_ _ x=>x
section
variable{X:Cx}
inductive yW(i:Nat)(σ:St)(H:Hp)(Q:VK):Prop
 |mk(v:_)(e0:σ[i]?=some (some v))(e1:Q v H)
def km(i:Nat):TE:=λa H Q=>yW i a H Q
def tC(v:V):TE:=λ_ H Q=>Q v H
theorem xE8{i:Nat}{x:ar}{d:aC}(A:X.N[i]?=some x)(p:tO X.env.scope x)(f:(x==("__debug__":ar))=false:=by decide)(q:(x==("__classdict__":ar))=false:=by decide):PE X (.Name x d) (km i):=by
 intro k s t H Q I h;obtain⟨v,e,h⟩:=h;obtain⟨m,n,y⟩:=I.loc;obtain⟨u,r,l⟩:=y i x v A e p;have a:EP X k t Q u s:=⟨v,H,I,r,h⟩;rcases l with⟨b,w⟩|⟨b,c,g,j⟩
 ·exact wpAny_Name (wpAny_loadName_local I.ok.kind b n w a) f
 ·rcases b with b|b
  ·exact wpAny_Name (wpAny_loadName_cell I.ok.kind b g j a) f
  ·exact wpAny_Name (wpAny_loadName_free I.ok.kind b g j a q) f
theorem aS {i j pos}:PE X (.Constant (.int i) j pos) (tC (.int i)):=λ_ _ _ H _ I h=>wpAny_Constant_int ⟨.int i,H,I.tok _,⟨_,rfl⟩,h⟩
theorem iK {b j pos}:PE X (.Constant (.bool b) j pos) (tC (.bl b)):=λ_ _ _ H _ I h=>Constant_bool ⟨.bl b,H,I,rfl,h⟩
theorem xE9 {j pos}:PE X (.Constant .none j pos) (tC .cb):=λ_ _ _ H _ I h=>Constant_none ⟨.cb,H,I,rfl,h⟩
theorem mC {x j pos}:PE X (.Constant (.str x) j pos) (tC (.str x)):=λ_ _ _ H _ I h=>Vq ⟨.str x,H,I.tok _,⟨_,rfl⟩,h⟩
def Gl(X:Cx)(x:ar):Prop:=X.env.kindOf x=some .globalImplicit
theorem xw{E:aa->ae->Prop}{b:List (af×az)}{s:ae}{σ:St}{H:Hp}{x:ar}{u:aa}{a:aC}{Q:aa->ae->Prop}(I:Inv X b σ H s)(f:Gl X x)(d:X.mg x=some u)(h:Q u s)
  (c:(x==("__debug__":ar))=false:=by decide):ah (ai X.prog X.w) X.A (eval (.Name x a) X.env) Q E s:=
 Calls.Name_function_global I.ok.kind f (Calls.loadGlobal_global (by rw[I.ok.glob];exact I.mod.glob.keeps I.bk) d h) c
theorem Aw{E:aa->ae->Prop}{b:List (af×az)}{s:ae}{σ:St}{H:Hp}{x:ar}{u:aa}{a:aC}{Q:aa->ae->Prop}(I:Inv X b σ H s)(g:Gl X x)(f:X.mg x=none)(i:bootBuiltins x=some u)(h:Q u s)
  (d:x ≠ "__name__":=by decide) (c:(x==("__debug__":ar))=false:=by decide):ah (ai X.prog X.w) X.A (eval (.Name x a) X.env) Q E s:=by
 obtain⟨j,h1,h2⟩:=I.mod.blt;exact Calls.Name_function_global I.ok.kind g (Calls.loadGlobal_builtin (by rw[I.ok.glob];exact I.mod.glob.keeps I.bk) f (by rw[I.ok.blt];exact h1.keeps I.bk) ((h2 x d).trans i) h) c
theorem gf{x:ar}{v:V}{u:aa}{a:aC}(d:Gl X x)(c:X.mg x=some u)(r:RelV v u)(b:(x==("__debug__":ar))=false:=by decide):PE X (.Name x a) (tC v):=
 λ_ _ _ H _ I h=>xw I d c ⟨v,H,I,r,h⟩ b
theorem n_{x:ar}{v:V}{u:aa}{a:aC}(f:Gl X x)(d:X.mg x=none)(g:bootBuiltins x=some u)(r:RelV v u)(c:x ≠ "__name__":=by decide)(b:(x==("__debug__":ar))=false:=by decide):PE X (.Name x a) (tC v):=
 λ_ _ _ H _ I h=>Aw I f d g ⟨v,H,I,r,h⟩ c b
variable{a b:av}{ta tb:TE}{pos:aC}
def PC(X:Cx)(op:CmpOp)(a b:av)(t:TE):Prop:=
 ∀(d:List (af×az))(s:ae)(c:St)(H:Hp)(Q:VK),Inv X d c H s->t c H Q ->
  ah (ai X.prog X.w) X.A (eval a X.env) (λv g=>ah (ai X.prog X.w) X.A (eval b X.env) (λu f=>ah (ai X.prog X.w) X.A (compareOp op v u) (EP X d c Q) X.xe f) X.xe g) X.xe s
inductive tB_(Q:Bool->Hp->Prop)(x:V)(H1:Hp):Prop
 |mk(c:_)(e0:x=.bl c)(e1:Q c H1)
def tB(t:TE):TT:=λd H Q=>t d H λx c=>tB_ Q x c
theorem Hc{op:CmpOp}{t:TE}(h:PC X op a b t)(h1:behindInMarks op b=false:=by first|exact AQ _ (by decide) (by decide)|rfl):PT X (.Compare a [op] [b] pos) (tB t):=by
 intro f s j H Q I k;refine wpAny_isTrue_Compare1 (bz (h f s j H _ I k) λv r h1=>bz h1 λu p h2=>bz h2 λc n ⟨x,m,i,g,l⟩=>?_) h1;obtain⟨d,rfl,q⟩:=l;cases g;exact Z9 ⟨m,i,q⟩
theorem gP{e:av}{t:TE}(h:PE X e t)(l:∀c,isTrue e X.env c=(do let v <- c;standAt e.pos;holding [v] (truthy v)):=by intro _;rfl):PT X e (tB t):=by
 intro f s m H Q I g;refine isTrue_plain (bz (h f s m H _ I g) λv p ⟨x,k,i,n,j⟩=>?_) (l _);obtain⟨d,rfl,q⟩:=j;cases n;exact Z9 ⟨k,i,q⟩
variable{tA CU:TT}{rest:List av}
def Gd(t u:TT):TT:=λf H Q=>t f H λc d=>if c=true then u f d Q else Q false d
def tOr(t u:TT):TT:=λf H Q=>t f H λc d=>if c=true then Q true d else u f d Q
def FV(t:TT):TT:=λf H Q=>t f H λc d=>Q (!c) d
theorem Of(f:PT X a tA):PW X (.BoolOp .And [a] pos) tA:=by
 intro i d s g H Q I h;refine isTrue_and (bz (f d s g H Q I h) λc j e=>?_);cases c with
 |true=>exact isTrue_and_nil e
 |false=>exact e
theorem iX(f:PT X a tA):PW X (.BoolOp .Or [a] pos) tA:=by
 intro i d s g H Q I h;refine isTrue_or (bz (f d s g H Q I h) λc j e=>?_);cases c with
 |false=>exact isTrue_or_nil e
 |true=>exact e
theorem Ms(m:PT X a tA)(hb:PW X (.BoolOp .And (b::rest) pos) CU):PW X (.BoolOp .And (a::b::rest) pos) (Gd tA CU):=by
 intro k d s j H Q I h;refine isTrue_and (bz (m d s j H _ I h) λc l ⟨i,f,g⟩=>?_);cases c with
 |true=>exact hb k d l j i Q f g
 |false=>exact⟨i,f,g⟩
theorem iq(m:PT X a tA)(hb:PW X (.BoolOp .Or (b::rest) pos) CU):PW X (.BoolOp .Or (a::b::rest) pos) (tOr tA CU):=by
 intro k d s j H Q I h;refine isTrue_or (bz (m d s j H _ I h) λc l ⟨i,f,g⟩=>?_);cases c with
 |true=>exact⟨i,f,g⟩
 |false=>exact hb k d l j i Q f g
theorem kq(f:PT X a tA):PT X (.UnaryOp .Not a pos) (FV tA):=by
 intro d s i H Q I h;exact isTrue_not (f d s i H (λc g=>Q (!c) g) I h)
inductive t4(tb:TE)(σ:St)(Q:VK)(x:V)(H1:Hp):Prop
 |mk(c:_)(e0:x=.bl c)(e1:if c=true then tb σ H1 Q else Q (.bl false) H1)
def xM1(ta tb:TE):TE:=λc H Q=>ta c H λx d=>t4 tb c Q x d
inductive tY(Q:VK)(x:V)(H1:Hp):Prop
 |mk(c:_)(e0:x=.bl c)(e1:Q (.bl (!c)) H1)
def xM2(ta:TE):TE:=λd H Q=>ta d H λx c=>tY Q x c
theorem mZ {op}{t:TE}(h:PE X a t):PE X (.BoolOp op [a] pos) t:=λc s f H Q I d=>BoolOp_one (h c s f H Q I d)
theorem mB(l:PE X a ta)(hb:PE X (.BoolOp .And (b::rest) pos) tb):PE X (.BoolOp .And (a::b::rest) pos) (xM1 ta tb):=by
 intro f s j H Q I h;refine BoolOp_and (bz (l f s j H _ I h) λv k ⟨x,i,g,m,d⟩=>?_);obtain⟨c,rfl,d⟩:=d;cases m;refine Z9 ?_;cases c with
 |true=>exact hb f k j i Q g d
 |false=>exact⟨.bl false,i,g,rfl,d⟩
theorem Mr(i:PE X a ta):PE X (.UnaryOp .Not a pos) (xM2 ta):=by
 intro f s k H Q I h;refine UnaryOp_ (bz (i f s k H _ I h) λv m ⟨x,j,g,l,d⟩=>?_);obtain⟨c,rfl,d⟩:=d;cases l;exact not_of (Z9 ⟨.bl (!c),j,g,rfl,d⟩)
end
def cu(K:PySem.W.Frag)(H:Hp)(a:af)(xs:List V):Prop:=
 Rd H a (.lst xs) \/
  ∃(o:az)(b:Array aa)(n:Nat),K.lookup a=some o/\o.cls=.type "list" /\ o.dict=none/\o.data=.seq b n/\b.size<=sizeLine/\Vals xs b.toList
def bh(K:PySem.W.Frag)(H:Hp)(a:af)(xs:List V):Prop:=
 Rd H a (.tup xs) \/
  ∃(o:az)(b:Array aa)(n:Nat),K.lookup a=some o/\o.cls=.type "tuple" /\ o.data=.seq b n/\b.size<=sizeLine/\Vals xs b.toList
def K1:aa->Option V
 |.none=>some .cb
 |.bool b=>some (.bl b)
 |.int i _=>some (.int i)
 |.str x _=>some (.str x)
 |.bytes b _=>some (.pG b)
 |.float b _=>some (.yG b)
 |.ref a=>some (.ref a)
 |.type n=>some (.ty n)
 |_=>none
theorem RelV.abs{x:V}{u:aa}(r:RelV x u):K1 u=some x:=by
 cases x with
 |cb=>cases r;rfl
 |bl _=>cases r;rfl
 |int _=>obtain⟨t,rfl⟩:=r;rfl
 |str _=>obtain⟨t,rfl⟩:=r;rfl
 |pG _=>obtain⟨t,rfl⟩:=r;rfl
 |yG _=>obtain⟨t,rfl⟩:=r;rfl
 |ref _=>cases r;rfl
 |ty _=>cases r;rfl
theorem RelV.inj{x y:V}{u:aa}(r:RelV x u)(q:RelV y u):x=y:=ZE (r.abs.symm.trans q.abs)
theorem Vals.inj:∀{c b:List V}{a:List aa},Vals c a->Vals b a->c=b
 |_,_,_,.nil,.nil=>rfl
 |_,_,_,.cons r t,.cons f d=>by rw[r.inj f,Vals.inj t d]
section
variable{X:Cx}{j8:List (af×az)}{σ:St}{H:Hp}{s:ae}{a:af}{xs ys:List V}
theorem cu.of{K:PySem.W.Frag}(h:H a=some (.lst xs)):cu K H a xs:=.inl (.inl h)
theorem bh.of{K:PySem.W.Frag}(h:H a=some (.tup xs)):bh K H a xs:=.inl (.inl h)
theorem Inv.list(I:Inv X j8 σ H s)(h:cu X.K H a xs):∃b:List aa,Vals xs b/\PlainL s.heap a b.toArray/\xs.length<=sizeLine:=by
 rcases h with h|⟨o,b,n,f,i,d,g,c,r⟩
 ·obtain⟨z,b,n,r,e⟩:=h.ok I.aQ;exact⟨b,r,⟨_,n,e,rfl,rfl,rfl⟩,z⟩
 ·refine⟨b.toList,r,⟨o,n,I.gn a o f,i,d,by simpa using g⟩,?_⟩;have e:=r.length;simp only[ZP]at e;exact A4 e c
theorem Inv.tuple(I:Inv X j8 σ H s)(h:bh X.K H a xs):∃b:List aa,Vals xs b/\IsTup s.heap a b.toArray/\xs.length<=sizeLine:=by
 rcases h with h|⟨o,b,n,d,g,f,c,r⟩
 ·obtain⟨z,b,r,p⟩:=h.ok I.aQ;exact⟨b,r,p,z⟩
 ·refine⟨b.toList,r,⟨o,I.gn a o d,g,n,by simpa using f⟩,?_⟩;have e:=r.length;simp only[ZP]at e;exact A4 e c
theorem Inv.oN(I:Inv X j8 σ H s)(h:cu X.K H a xs)(h':cu X.K H a ys):xs=ys:=by
 obtain⟨g,r,⟨o,n,e,_,_,d⟩,_⟩:=I.list h;obtain⟨b,i,⟨k,j,c,_,_,f⟩,_⟩:=I.list h';rw[e]at c;cases c;rw[d]at f;injection f with d1 _
 have:g=b:=by simpa using Yo Array.toList d1
 subst this;exact r.inj i
theorem Inv.gY(I:Inv X j8 σ H s)(h:bh X.K H a xs)(h':bh X.K H a ys):xs=ys:=by
 obtain⟨g,r,⟨o,e,_,n,d⟩,_⟩:=I.tuple h;obtain⟨b,i,⟨k,c,_,j,f⟩,_⟩:=I.tuple h';rw[e]at c;cases c;rw[d]at f;injection f with d1 _
 have:g=b:=by simpa using Yo Array.toList d1
 subst this;exact r.inj i
end
abbrev Cx.gK(X:Cx)(E:aa->ae->Prop):Cx:={X with xe:=E}
abbrev Cx.i6(X:Cx):Cx:=X.gK λ_ _=>False
theorem Cx.Ok.gK{X:Cx}(ok:X.Ok)(E:aa->ae->Prop):(X.gK E).Ok:=
 ⟨ok.mod,ok.kind,ok.glob,ok.blt,ok.above,ok.inj,ok.has,ok.rM,ok.hd,ok.frames,ok.p7,ok.yH,ok.bs,ok.mR,ok.iu,ok.je,ok.di,ok.pz⟩
theorem Cx.Ok.dB{X:Cx}{E:aa->ae->Prop}(ok:(X.gK E).Ok):X.Ok:=
 ⟨ok.mod,ok.kind,ok.glob,ok.blt,ok.above,ok.inj,ok.has,ok.rM,ok.hd,ok.frames,ok.p7,ok.yH,ok.bs,ok.mR,ok.iu,ok.je,ok.di,ok.pz⟩
section
variable{X:Cx}{j8:List (af×az)}{σ:St}{H:Hp}{s:ae}{E:aa->ae->Prop}
theorem Inv.gK(I:Inv X j8 σ H s)(E:aa->ae->Prop):Inv (X.gK E) j8 σ H s:=⟨I.ok.gK E,I.os,I.bare,I.base,I.loc,I.cell,I.free,I.cJ,I.pin,I.aQ,I.len⟩
theorem Inv.dB(I:Inv (X.gK E) j8 σ H s):Inv X j8 σ H s:=⟨I.ok.dB,I.os,I.bare,I.base,I.loc,I.cell,I.free,I.cJ,I.pin,I.aQ,I.len⟩
theorem SP.dB{D:Ends}{f:Flow}{s':ae}(h:SP (X.gK E) j8 D f s'):SP X j8 D f s':=by
 cases f with
 |next=>obtain⟨a,b,I,q⟩:=h;exact⟨a,b,I.dB,q⟩
 |brk=>obtain⟨a,b,I,q⟩:=h;exact⟨a,b,I.dB,q⟩
 |cont=>obtain⟨a,b,I,q⟩:=h;exact⟨a,b,I.dB,q⟩
 |ret u=>obtain⟨v,a,b,I,r,q⟩:=h;exact⟨v,a,b,I.dB,r,q⟩
theorem gI.i6{st:List aB}{t:TS}(h:gI X.i6 st t):gI X st t:=λj8 s σ H D I a=>
 Yw (h j8 s σ H D (I.gK _) a) (λ_ _ q=>q.dB) λ_ _ z=>False.elim z
end
section
variable{X:Cx}{st:aB}{rest:List aB}{t u:TS}{e:av}{te:TE}{pos:aC}
def xM3:TS:=λD a H=>D.nx a H
def nz(t u:TS):TS:=λD a H=>t {D with nx:=u D} a H
theorem dI:gI X [] xM3:=λ_ _ a H _ I h=>WA ⟨a,H,I,h⟩
theorem fv(h1:PS X st t)(h2:gI X rest u):gI X (st::rest) (nz t u):=by
 intro b s i H D I h;refine wpAny_execs_cons (bz (h1 b s i H {D with nx:=u D} I h) λf d q=>?_);cases f with
 |next=>
  obtain⟨a,c,g,q⟩:=q;exact h2 b d a c D g q
 |ret v=>exact q
 |brk=>exact q
 |cont=>exact q
theorem cD(h1:PS X st t):gI X [st] t:=by
 intro a s b H D I h;refine wpAny_execs_cons (bz (h1 a s b H D I h) λf c q=>?_);cases f with
 |next=>exact WA q
 |ret v=>exact q
 |brk=>exact q
 |cont=>exact q
theorem Inv.quiet{a:List (af×az)}{σ:St}{H:Hp}{s:ae}(I:Inv X a σ H s):interactive X.env=false:=by simp[interactive,I.ok.kind]
def MX(te:TE):TS:=λD a H=>te a H λ_ b=>D.nx a b
theorem iY(g:PE X e te)(hs:swapsWith e none pos.line X.env=pure false:=by rfl):PS X (.Expr e pos) (MX te):=by
 intro b s a H D I h;exact wpAny_Expr_any (bz (g b s a H _ I h) λv i ⟨x,f,c,j,d⟩=>⟨a,f,c,d⟩) I.quiet hs
def tX(te:TE):TS:=λD a H=>te a H D.rt
theorem cA(g:PE X e te):PS X (.Return (some e) pos) (tX te):=by
 intro b s a H D I h;exact wpAny_Return_some (bz (g b s a H _ I h) λv j ⟨x,f,c,i,d⟩=>⟨x,a,f,c,i,d⟩)
def xM4:TS:=λD _ H=>D.rt .cb H
theorem DN:PS X (.Return none pos) xM4:=λ_ _ a H _ I h=>wpAny_Return_none ⟨.cb,a,H,I,rfl,h⟩
def FX(c:TT)(t u:TS):TS:=λD a H=>c a H λb d=>if b=true then t D a d else u D a d
theorem dH{c:av}{a b:List aB}{l:TT}(hc:PT X c l)(n:gI X a t)(hb:gI X b u):PS X (.If c a b pos) (FX l t u):=by
 intro f s g H D I h;refine wpAny_If (bz (hc f s g H _ I h) λd i ⟨m,j,k⟩=>?_);cases d with
 |true=>exact n f i g m D j k
 |false=>exact hb f i g m D j k
def xF1:TS:=λ_ _ _=>False
theorem xI{a:List aB}:gI X a xF1:=λ_ _ _ _ _ _ h=>h.elim
end
abbrev TG:=V->St->Hp->(St->Hp->Prop)->Prop
abbrev rR:=List V->St->Hp->(St->Hp->Prop)->Prop
def PG(X:Cx)(a:av)(t:TG):Prop:=
 ∀(d:List (af×az))(s:ae)(f:St)(H:Hp)(v:V)(u:aa)(Q:St->Hp->Prop),Inv X d f H s->RelV v u->t v f H Q ->
  ah (ai X.prog X.w) X.A (assign a X.env u) (λ_ g=>∃b c,Inv X d b c g/\Q b c) X.xe s
def Ez(X:Cx)(i:List av)(t:rR):Prop:=
 ∀(c:List (af×az))(s:ae)(g:St)(H:Hp)(d:List V)(f:List aa)(Q:St->Hp->Prop),Inv X c g H s->Vals d f->t d g H Q ->
  ah (ai X.prog X.w) X.A (assignInOrder ((assignEach i X.env).map (·.2)) f) (λ_ h=>∃a b,Inv X c a b h/\Q a b) X.xe s
abbrev wX:=V->V->V->Hp->(Hp->Prop)->Prop
def Cs(X:Cx)(t:wX):Prop:=
 ∀(b:List (af×az))(s:ae)(d:St)(H:Hp)(o i v:V)(c f u:aa)(Q:Hp->Prop),Inv X b d H s->RelV o c->RelV i f->RelV v u->t o i v H Q ->
  ah (ai X.prog X.w) X.A (setItem c f u) (λ_ g=>∃a,Inv X b d a g/\Q a) X.xe s
section
variable{X:Cx}{pos:aC}
def fu(i:Nat):TG:=λv a H Q=>Q (a.set i (some v)) H
theorem uJ{i:Nat}{x:ar}(a:X.N.Nodup)(d:X.N[i]?=some x)(f:Loc X.env.scope x)(b:X.fn x=true\/X.env.scope.names.lookup x=some .local:=by first|exact .inl rfl|exact .inr rfl|assumption):PG X (.Name x pos) (fu i):=by
 intro g s k H v u Q I r h;exact wpAny_assign_Name (De I a d f r (λj c=>⟨_,H,c,h⟩) b)
def pq:rR:=λa b H Q=>a=[]/\Q b H
inductive wg(t:TG)(u:rR)(vs:List V)(σ:St)(H:Hp)(Q:St->Hp->Prop):Prop
 |mk(v:_)(r:_)(e0:vs=v::r)(e1:t v σ H λσ' H'=>u r σ' H' Q)
def qH(t:TG)(u:rR):rR:=λa b H Q=>wg t u a b H Q
theorem sN:Ez X [] pq:=by
 intro b s a H c d Q I r h;obtain⟨e,h⟩:=h;subst e;cases r;exact assignInOrder_nil ⟨a,H,I,h⟩
theorem ir{e:av}{es:List av}{t:TG}{u:rR}(h1:PG X e t)(h2:Ez X es u)
  (hs:(assignEach (e::es) X.env).map (·.2)=assign e X.env::(assignEach es X.env).map (·.2):=by rfl):Ez X (e::es) (qH t u):=by
 intro a s f H m n Q I r h;obtain⟨v,l,g,h⟩:=h;subst g;cases r with
 |cons r c=>
  rw[hs];refine assignInOrder_cons (bz (h1 a s f H _ _ _ I r h) λ_ j ⟨b,k,d,i⟩=>?_);exact h2 a j b k _ _ Q d c i
inductive B_(K:PySem.W.Frag)(n:Nat)(t:rR)(v:V)(σ:St)(H:Hp)(Q:St->Hp->Prop):Prop
 |mk(a:_)(xs:_)(e0:v=.ref a)(e1:bh K H a xs)(e2:xs.length=n)(e3:t xs σ H Q)
def pk(K:PySem.W.Frag)(n:Nat)(t:rR):TG:=λv a H Q=>B_ K n t v a H Q
theorem sE{es:List av}{k:Nat}{t:rR}{n:Nat}(hc:X.calm=true)(h:Ez X es t)
  (i:(assignEach es X.env).length=n:=by rfl) (p:(assignEach es X.env).findIdx? (·.1)=none:=by rfl):PG X (.Tuple es k pos) (pk X.K n t):=by
 intro d s g H v u Q I r c;obtain⟨a,y,m,w,q,c⟩:=c;subst m;cases r;obtain⟨B,f,l,C⟩:=I.tuple w;refine assign_Tuple_tuple (I.ok.hd hc) l (by simp[i,<- q,f.length]) p λx A=>?_;have j:Inv X d g H {s with heap:=x}:=I.kept (t':=s.toks) λb o e=>A b o (ZC (Zj e)) e;exact h d _ g H y _ Q j (by simpa using f) c
def Km(d f:TE)(t:wX):TG:=λv a H Q=>d a H λo c=>f a c λi g=>t o i v g λb=>Q a b
theorem Mq{o i:av}{g f:TE}{t:wX}(n:PE X o g)(j:PE X i f)(hs:Cs X t)
  (q:∀v,assign (.Subscript o i pos) X.env v=(do
   let a <- holding [v] (eval o X.env)
   let b <- holding [v,a] (eval i X.env)
   standAt pos
   holding [v,a,b] (setItem a b v)
   release [v,a,b] []):=by intro _;rfl):PG X (.Subscript o i pos) (Km g f t):=by
 intro d s c H v u Q I r h;rw[q];refine Za (Yg (bz (n d s c H _ I h) λa E ⟨x,J,p,k,A⟩=>?_));refine Za (Yg (bz (j d E c J _ p A) λb C ⟨y,l,w,B,m⟩=>?_));refine Za (wpAny_standAt (Za (Yg (bz (hs d C c l x y v a b u _ w k B r m) λ_ K ⟨G,D,F⟩=>?_))));exact wpAny_release ⟨c,G,D,F⟩
def iS(te:TE)(g:TG):TS:=λD a H=>te a H λx b=>g x a b D.nx
theorem uE{a e:av}{te:TE}{g:TG}(j:PE X e te)(i:PG X a g)(hs:swapsWithSole [a] e pos.line X.env=pure false:=by rfl)(hw:swappedStores [a] e X.env=pure none:=by rfl)
  (h1:(assignEach [a] X.env).map (·.2)=[assign a X.env]:=by rfl):PS X (.Assign [a] e pos) (iS te g):=by
 intro b s c H D I h;refine wpAny_Assign_stores (bz (j b s c H _ I h) λv l ⟨x,m,f,d,k⟩=>?_) hs hw;rw[h1];exact bz (i b l c m x v _ f d k) λ_ n q=>q
theorem Mo{i:Nat}{x:ar}{e:av}{te:TE}{a:aC}(n:X.N.Nodup)(c:X.N[i]?=some x)(q:Loc X.env.scope x)(k:PE X e te)(hs:swapsWith e (some (.Name x a)) pos.line X.env=pure false:=by rfl)(f:X.fn x=true\/X.env.scope.names.lookup x=some .local:=by first|exact .inl rfl|exact .inr rfl|assumption):
  PS X (.Assign [.Name x a] e pos) (iS te (fu i)):=by
 intro b s l H D I h;refine wpAny_Assign_Name (bz (k b s l H _ I h) λv t ⟨y,p,g,d,m⟩=>?_) hs;exact De g n c q d (λr j=>⟨_,p,j,m⟩) f
def Mn(c:TT)(tb:TS):TS:=λD a H=>∃W:Nat->St->Hp->Prop,(∃m,W m a H)/\∀m a H,W m a H ->
 c a H λb h=>if b=true then ∃N:St->Hp->Prop,(∀d f,N d f->∃g,g<m/\W g d f)/\tb {D with nx:=N,ct:=N,bk:=D.nx} a h else D.nx a h
theorem xd6{c:av}{a:List aB}{C:TT}{tb:TS}(y:PassesOwn (ai X.prog X.w) X.A X.env X.xe)(hc:PT X c C)(hb:gI X a tb):PS X (.While c a [] pos) (Mn C tb):=by
 intro p s L H D I h;obtain⟨W,⟨G,J⟩,g⟩:=h;refine wpAny_While (codeAny_whileLoop (λn M=>∃d x,Inv X p d x M/\W n d x) ?_ G ⟨L,H,I,J⟩);rintro n Q ⟨k,F,K,O⟩;refine Xj y (bz (hc p Q k F _ K (g n k F O)) λb P ⟨A,B,l⟩=>?_);cases b with
 |true=>
  obtain⟨N,E,l⟩:=l;rw[Zr rfl];refine Xj y (bz (hb p P k A _ B l) λf R m=>?_);cases f with
  |next=>
   obtain⟨i,j,t,w⟩:=m;obtain⟨u,q,r⟩:=E i j w;exact⟨u,q,i,j,t,r⟩
  |cont=>
   obtain⟨i,j,t,w⟩:=m;obtain⟨u,q,r⟩:=E i j w;exact⟨u,q,i,j,t,r⟩
  |brk=>exact m
  |ret v=>exact m
 |false=>
  rw[Zl ZH];exact WA ⟨k,A,B,l⟩
end
structure It where
 go:Nat->Hp->Prop
 lF:Nat->Hp->V->Hp->Prop
 stop:Nat->Hp->Prop
def gF(X:Cx)(a:List (af×az))(H:Hp)(b:af):Prop:=
 H b=none/\b≠X.env.locals/\b∉X.fs/\(b∈X.ex\/X.aH.heap.objs.size<=b)/\(∀x c,X.env.cells.lookup x=some c->c≠b)/\∀p∈X.pn++a,p.1≠b
theorem Inv.mQ{X:Cx}{d:List (af×az)}{σ:St}{H a:Hp}{s:ae}{b:af}(I:Inv X d σ H s)(hb:s.heap.objs.size<=b)(f:a b=none):gF X d a b:=by
 refine⟨f,Wm (ZO I.lt hb),I.Iu hb,.inr (Zw I.sz hb),λx c e z=>?_,λp g z=>?_⟩
 ·obtain⟨v,q⟩:=I.cell x c e;exact absurd (ZO q.lt (by rw[z];exact hb)) (Yn _)
 ·exact absurd (ZO (Zj (I.pin p g).1) (by rw[z];exact hb)) (Yn _)
structure Turn(P:ag)(w:aj)(K:PySem.W.Frag)(tg:av)(J:It)(fp:List af)(it:af)(tn:Nat->ao->Prop):Prop where
 mem:it∈fp
 obj:∀i h,tn i h->∀b∈fp,∃o,h.get? b=some o/\∀v,o.data≠.cell v
 keep:∀i h h',tn i h->(∀b∈fp,∀o,h.get? b=some o->h'.get? b=some o)->tn i h'
 item:∀(X:Cx),X.prog=P->X.w=w->X.K=K->X.calm=true->∀(i:Nat)(j8:List (af×az))(s:ae)(σ:St)(H:Hp)(E:aa->ae->Prop),Inv X j8 σ H s->(∀b∈fp,gF X j8 H b)->tn i s.heap->J.go i H ->
  ah (ai P w) X.A (pyNext (.ref it)) (λr s1=>∃u,r=some u /\
   ah (ai P w) X.A (letOwnedTupleGo tg (.ref it) u) (λ_ s2=>∃x H',Inv X j8 σ H' s2/\RelV x u/\J.lF i H x H'/\tn (i+1) s2.heap/\∀b∈fp,H' b=none) E s1) E s
 done:∀(X:Cx),X.prog=P->X.w=w->X.K=K->X.calm=true->∀(i:Nat)(j8:List (af×az))(s:ae)(σ:St)(H:Hp)(E:aa->ae->Prop),Inv X j8 σ H s->(∀b∈fp,gF X j8 H b)->tn i s.heap->J.stop i H ->
  ah (ai P w) X.A (pyNext (.ref it)) (λr s1=>r=none/\Inv X j8 σ H s1) E s
 self:∀(A:aq)(i:Nat)(s:ae)(Q:aa->ae->Prop)(E:aa->ae->Prop),tn i s.heap->Q (.ref it) s->ah (ai P w) A (pyIter (.ref it)) Q E s
abbrev TI:=St->Hp->(It->Hp->Prop)->Prop
def SU(X:Cx)(c:List (af×az))(σ:St)(j:av)(R:It->Hp->Prop)(i:aa)(f:ae):Prop:=
 ∃(g:af)(d:List af)(h:Nat->ao->Prop)(J:It)(a:Hp),i=.ref g/\Inv X c σ a f/\Turn X.prog X.w X.K j J d g h/\h 0 f.heap/\(∀b∈d,gF X c a b)/\R J a
def PI(X:Cx)(d iter:av)(f:TI):Prop:=
 ∀(b:List (af×az))(s:ae)(a:St)(H:Hp)(R:It->Hp->Prop),Inv X b a H s->f a H R ->
  ah (ai X.prog X.w) X.A (eval iter X.env) (λv c=>ah (ai X.prog X.w) X.A (pyIter v) (SU X b a d R) X.xe c) X.xe s
theorem Fb{M:Model}{A:aq}{E:aa->ae->Prop}{s:ae}{c:av}{it:af}{u:aa}{o:az}{n:String}{b:Array aa}{Q:Unit->ae->Prop}(d:s.heap.get? it=some o)(hc:o.cls=.type n)(f:o.data=.fields b)
  (g:["enumerate","zip","dict_itemiterator","dict_reverseitemiterator","odict_iterator","itertools.zip_longest","itertools.pairwise"].contains n=false) (a:Q () s):ah M A (letOwnedTupleGo c (.ref it) u) Q E s:=by
 unfold letOwnedTupleGo;cases c<;>first
  |exact Zc a
  |(cases u<;>first
    |exact Zc a
    |(refine Za (wpAny_load d ?_)
      rw[hc,f];show ah M A (if(["enumerate","zip","dict_itemiterator","dict_reverseitemiterator","odict_iterator","itertools.zip_longest","itertools.pairwise"].contains n&&b[0]?==some (rawInt _))=true then _ else _) Q E s;rw[Zl (by intro h;rw[g,Bool.false_and]at h;cases h)];exact Zc a))
def yO(K:PySem.W.Frag)(a:af):It:=
 ⟨λi H=>∃b x,cu K H a b/\b[i]?=some x,λi H x c=>c=H/\∀b,cu K H a b->b[i]?=some x,λi H=>∃b,cu K H a b/\b.length<=i⟩
def yN(K:PySem.W.Frag)(a:af):It:=
 ⟨λi H=>∃b x,bh K H a b/\b[i]?=some x,λi H x c=>c=H/\∀b,bh K H a b->b[i]?=some x,λi H=>∃b,bh K H a b/\b.length<=i⟩
def lA(b:Int)(n:Nat):It:=⟨λi _=>i<n,λi H x a=>a=H/\x=.int (b+i),λi _=>n<=i⟩
theorem qZ6{P:ag}{w:aj}{K:PySem.W.Frag}{T:av}(a it:af):Turn P w K T (yO K a) [it] it (λi h=>h.IsListIter it a i) where
 mem:=by simp
 obj:=λi h f b hb=>by
  have e:b=it:=by simpa using hb
  subst e;obtain⟨o,e,c,d⟩:=f;exact⟨o,e,λv z=>by rw[d]at z;cases z⟩
 keep:=λi h l f k=>f.at λo e=>k it (by simp) o e
 item:=by
  intro X n C q J i G s M H E I g f B;subst n C q;obtain⟨xs,x,j,m⟩:=B;obtain⟨N,A,p,S⟩:=I.list j;obtain⟨u,O,Z⟩:=A.get m;obtain⟨y,t,U,r,F,D⟩:=g it (by simp);refine wpAny_pyNext_list_item f p.isList (x:=u) (by simpa using O) λl L Q=>?_;have R:Inv X G M H {s with heap:=l}:=I.turned (t':=s.toks) (λb o hb e=>(Q.2 b hb).trans e) y t r F D;obtain⟨o,e,c,d⟩:=id L;exact⟨u,rfl,Fb (s:={s with heap:=l}) e c d (by decide) ⟨x,H,R,Z,⟨rfl,λys V=>by rw[I.oN V j];exact m⟩,L,λb hb=>(g b hb).1⟩⟩
 done:=by
  intro X n C q J i G s M H E I g f B;subst n C q;obtain⟨xs,j,m⟩:=B;obtain⟨N,A,p,S⟩:=I.list j;obtain⟨y,t,U,r,F,D⟩:=g it (by simp);have Y:=A.length;exact wpAny_pyNext_list_end (I.ok.hd J) f p.isList (by simp;exact oz Y m) λl W=>⟨rfl,I.turned (t':=s.toks) (λb o hb e=>W b o hb e) y t r F D⟩
 self:=λ_ _ _ _ _ f h=>wpAny_pyIter_listiter f h
theorem qV1{P:ag}{w:aj}{K:PySem.W.Frag}{T:av}(a it:af):Turn P w K T (yN K a) [it] it (λi h=>h.IsTupleIter it a i) where
 mem:=by simp
 obj:=λi h f b hb=>by
  have e:b=it:=by simpa using hb
  subst e;obtain⟨o,e,c,d⟩:=f;exact⟨o,e,λv z=>by rw[d]at z;cases z⟩
 keep:=λi h l f k=>f.at λo e=>k it (by simp) o e
 item:=by
  intro X n D q L i J s N H E I g f C;subst n D q;obtain⟨xs,x,j,m⟩:=C;obtain⟨r,B,p,S⟩:=I.tuple j;obtain⟨u,O,Z⟩:=B.get m;obtain⟨A,y,U,t,G,F⟩:=g it (by simp);refine wpAny_pyNext_tuple_item f (show s.heap.IsTuple a r.toArray from p) (x:=u) (by simpa using O) λl M Q=>?_;have R:Inv X J N H {s with heap:=l}:=I.turned (t':=s.toks) (λb o hb e=>(Q.2 b hb).trans e) A y t G F;obtain⟨o,e,c,d⟩:=id M;exact⟨u,rfl,Fb (s:={s with heap:=l}) e c d (by decide) ⟨x,H,R,Z,⟨rfl,λys V=>by rw[I.gY V j];exact m⟩,M,λb hb=>(g b hb).1⟩⟩
 done:=by
  intro X n D q L i J s N H E I g f C;subst n D q;obtain⟨xs,j,m⟩:=C;obtain⟨r,B,p,S⟩:=I.tuple j;obtain⟨A,y,U,t,G,F⟩:=g it (by simp);have Y:=B.length;exact wpAny_pyNext_tuple_end (I.ok.hd L) f (show s.heap.IsTuple a r.toArray from p) (by simp;exact oz Y m) λl W=>⟨rfl,I.turned (t':=s.toks) (λb o hb e=>W b o hb e) A y t G F⟩
 self:=λ_ _ _ _ _ f h=>wpAny_pyIter_tupleiter f h
theorem qV2{P:ag}{w:aj}{K:PySem.W.Frag}{M:av}(it:af)(d:Int)(n:Nat):Turn P w K M (lA d n) [it] it (λi h=>IsRangeIter h it (d+(i:Nat)*1) ((n:Int)-(i:Nat)) 1) where
 mem:=by simp
 obj:=λi h a b hb=>by
  have e:b=it:=by simpa using hb
  subst e;exact⟨_,a,λv z=>by
   have L:Data.fields _=Data.cell v:=z;cases L⟩
 keep:=λi h f a k=>k it (by simp) _ a
 item:=by
  intro X g u j r i A s D H E I c a q;subst g u j;obtain⟨p,m,N,l,y,x⟩:=c it (by simp);have W:=Walks.range (prog:=X.prog) (w:=X.w) (I.ok.hd r) it d 1 n;refine W.item i s _ _ q a λv f B F C G=>?_;obtain⟨t,rfl⟩:=F;have J:Inv X A D H {s with heap:=f,toks:=B}:=I.turned (λb o hb e=>G b o (by simpa using hb) e) p m l y x;refine⟨_,rfl,Fb (s:={s with heap:=f,toks:=B}) (n:= "range_iterator") C rfl rfl (by decide) ⟨.int (d+i),H,J,⟨t,?_⟩,⟨rfl,rfl⟩,C,λb hb=>(c b hb).1⟩⟩;rw[Int.mul_one]
 done:=by
  intro X g u j r i A s D H E I c a q;subst g u j;obtain⟨p,m,N,l,y,x⟩:=c it (by simp);exact wpAny_pyNext_range_end (I.ok.hd r) a (by have:n<=i:=q;lia) λf O=>⟨rfl,I.turned (t':=s.toks) (λb o hb e=>O b o hb e) p m l y x⟩
 self:=λ_ _ _ _ _ a h=>wpAny_pyIter_rangeiter a h
section
variable{X:Cx}{tg:av}
inductive vh(K:PySem.W.Frag)(R:It->Hp->Prop)(x:V)(H1:Hp):Prop
 |mk(a:_)(e0:x=.ref a)(e1:(∃xs,cu K H1 a xs))(e2:R (yO K a) H1)
def xM5(K:PySem.W.Frag)(a:TE):TI:=λc H R=>a c H λx b=>vh K R x b
inductive Bj(K:PySem.W.Frag)(R:It->Hp->Prop)(x:V)(H1:Hp):Prop
 |mk(a:_)(e0:x=.ref a)(e1:(∃xs,bh K H1 a xs))(e2:R (yN K a) H1)
def Bk(K:PySem.W.Frag)(a:TE):TI:=λc H R=>a c H λx b=>Bj K R x b
theorem zR{l:av}{f:TE}(m:PE X l f):PI X tg l (xM5 X.K f):=by
 intro g s j H R I h;refine bz (m g s j H _ I h) λv d ⟨x,r,c,i,k⟩=>?_;obtain⟨a,e,⟨y,n⟩,q⟩:=k;subst e;cases i;obtain⟨t,u,p,w⟩:=c.list n;refine Xl p.isList ?_;refine⟨d.heap.objs.size,[d.heap.objs.size],_,_,r,rfl,c.kept (t':=d.toks) λb o e=>Zd _ e,qZ6 a _,⟨_,Zm _ rfl,rfl,rfl⟩,λb hb=>?_,q⟩;have e:b=d.heap.objs.size:=by simpa using hb
 subst e;exact c.mQ (Zb _) (c.aQ.fresh (Zb _))
theorem sD{l:av}{f:TE}(n:PE X l f):PI X tg l (Bk X.K f):=by
 intro g s k H R I h;refine bz (n g s k H _ I h) λv c ⟨x,t,d,j,m⟩=>?_;obtain⟨a,e,⟨y,r⟩,q⟩:=m;subst e;cases j;obtain⟨i,u,p,w⟩:=d.tuple r;refine WD (show c.heap.IsTuple a i.toArray from p) ?_;refine⟨c.heap.objs.size,[c.heap.objs.size],_,_,t,rfl,d.kept (t':=c.toks) λb o e=>Zd _ e,qV1 a _,⟨_,Zm _ rfl,rfl,rfl⟩,λb hb=>?_,q⟩;have e:b=c.heap.objs.size:=by simpa using hb
 subst e;exact d.mQ (Zb _) (d.aQ.fresh (Zb _))
theorem nX{d:List (af×az)}{σ:St}{H:Hp}{s:ae}{R:It->Hp->Prop}{E:aa->ae->Prop}{a c:Int}{t u v:Tok}{tk:Nat}(I:Inv X d σ H s)(h1:-(2^62)<=a)(h2:a<2^62)(h:-(2^62)<=c)(j:c<2^62)
  (q:R (lA a (c-a).toNat) H):ah (ai X.prog X.w) X.A (pyIter (.ref s.heap.objs.size)) (SU X d σ tg R) E {s with heap:=s.heap.push {cls:=.type "range",data:=.fields #[.int a t,.int c u,.int 1 v]},toks:=tk}:=by
 refine wpAny_pyIter_range (IsRange.new ..) (small_one h1 h2 h j) ?_;have f:Inv X d σ H {s with heap:=s.heap.push {cls:=.type "range",data:=.fields #[.int a t,.int c u,.int 1 v]},toks:=tk}:=I.kept λb o e=>Zd _ e;refine⟨(s.heap.push {cls:=.type "range",data:=.fields #[.int a t,.int c u,.int 1 v]}).objs.size,[(s.heap.push {cls:=.type "range",data:=.fields #[.int a t,.int c u,.int 1 v]}).objs.size],_,_,H,rfl,
  f.kept (t':=tk) λb o e=>Zd _ e,qV2 _ a (c-a).toNat,?_,λb hb=>?_,q⟩
 ·have g:a+((0:Nat):Int)*1=a:=by simp
  have i:(((c-a).toNat:Nat):Int)-((0:Nat):Int)=Builtin.Range.rangeSize a c 1:=by rw[rangeSize_one];split<;>lia
  show IsRangeIter _ _ (a+((0:Nat):Int)*1) ((((c-a).toNat:Nat):Int)-((0:Nat):Int)) 1;rw[g,i];exact Zm _ rfl
 ·have e:b=(s.heap.push {cls:=.type "range",data:=.fields #[.int a t,.int c u,.int 1 v]}).objs.size:=by simpa using hb
  subst e;exact f.mQ (Zb _) (f.aQ.fresh (Zb _))
inductive vg(R:It->Hp->Prop)(vs:List V)(H1:Hp):Prop
 |mk(j:Int)(e0:vs=[.int j])(e1:-(2^62)<=j)(e2:j<2^62)(e3:R (lA 0 j.toNat) H1)
def MW(ta:TA):TI:=λc H R=>ta c H λa b=>vg R a b
theorem sT{a:av}{ta:TA}{p b:aC}(m:Gl X "range")(u:X.mg "range"=none)(l:PA X [a] ta)(hs:starEach [a] X.env=[(false,eval a X.env)]:=by rfl):PI X tg (.Call (.Name "range" p) [a] [] b) (MW ta):=by
 intro d s n H R I h;refine Call_ (Aw I m u boot_range (X8 (bz (l b d s n H _ I h) λw x ⟨v,y,k,g,c⟩=>?_) hs rfl));obtain⟨j,e,c,i,q⟩:=c;subst e;cases g with
 |cons r f=>
  cases f;obtain⟨t,rfl⟩:=r;exact call_range_1 (nX k (by lia) (by lia) c i (by simpa using q))
def FY(j:TI)(g:TG)(tb:TS):TS:=λD a H=>j a H λJ h=>∃W:Nat->Nat->St->Hp->Prop,(∃m,W 0 m a h)/\∀i m a H,W i m a H ->
 (J.stop i H/\D.nx a H)\/(J.go i H/\∃N:St->Hp->Prop,(∀c b,N c b->∃d,d<m/\W (i+1) d c b)/\∀x b,J.lF i H x b->g x a b λf k=>tb {D with nx:=N,ct:=N,bk:=D.nx} f k)
def Av(fp:List af)(h:ao):List (af×az):=fp.filterMap λb=>(h.get? b).map λo=>(b,o)
theorem Dr{fp:List af}{h:ao}{b:af}{o:az}(hb:b∈fp)(e:h.get? b=some o):(b,o)∈Av fp h:=WE.mpr ⟨b,hb,by rw[e];rfl⟩
theorem qZ7{fp:List af}{h:ao}{p:af×az}(c:p∈Av fp h):p.1∈fp/\h.get? p.1=some p.2:=by
 obtain⟨b,hb,e⟩:=WE.mp c;cases q:h.get? b with
 |none=>rw[q]at e;cases e
 |some o=>
  rw[q]at e;have a:(b,o)=p:=ZE e;subst a;exact⟨hb,q⟩
theorem Inv.pinned{a:List (af×az)}{σ:St}{H:Hp}{s:ae}{fp:List af}(I:Inv X a σ H s)(f:∀b∈fp,gF X a H b)(g:∀b∈fp,∃o,s.heap.get? b=some o/\∀v,o.data≠.cell v):Inv X (a++Av fp s.heap) σ H s:=
 I.lW λp j=>(ZX.mp j).elim (λz=>I.pin p (Z1 _ z)) λz=>by
  obtain⟨hb,e⟩:=qZ7 z;obtain⟨k,i,h,_⟩:=f p.1 hb;obtain⟨o,c,d⟩:=g p.1 hb;rw[e]at c;cases c;exact⟨e,k,i,h,d⟩
theorem Inv.dC{a b:List (af×az)}{σ:St}{H:Hp}{s:ae}(I:Inv X (a++b) σ H s):Inv X a σ H s:=I.lW λp c=>I.pin p (Z1 _ (Y5 _ c))
theorem sC{iter:av}{t:List aB}{wi:TI}{g:TG}{tb:TS}{O:aC}(A:PassesOwn (ai X.prog X.w) X.A X.env X.xe)(hc:X.calm=true)(hi:PI X tg iter wi)(hg:PG X tg g)(hb:gI X t tb)
  (hs:∀x,foldedSetIterable iter X.env x=pure x:=by intro _;rfl):PS X (.For tg iter t [] O) (FY wi g tb):=by
 intro w s σ H D I h;refine wpAny_For (bz (hi w s σ H _ I h) λv s1 h1=>bz h1 λIJ s2 h2=>?_) hs;obtain⟨it,B,tn,J,H2,e,I2,T,bZ,R,W,⟨m0,w0⟩,C⟩:=h2;subst e;have M:∀{p:Hp},(∀b∈B,p b=none)->∀b∈B,gF X w p b:=λhn b hb=>⟨hn b hb,(R b hb).2⟩;refine codeAny_forLoop_any (λn Y=>∃i c p,Inv X w c p Y/\tn i Y.heap/\(∀b∈B,p b=none)/\W i n c p) ?_ m0 ⟨0,σ,H2,I2,bZ,λb hb=>(R b hb).1,w0⟩;rintro n Q ⟨i,F,G,I3,V,U,w3⟩;rcases C i n F G w3 with⟨E,qn⟩|⟨go,N,hN,step⟩
 ·refine Xj A (bz (T.done X rfl rfl rfl hc i w Q F G X.xe I3 (M U) V E) λr s4 ⟨L,I4⟩=>?_);subst L;exact WA ⟨F,G,I4,qn⟩
 ·refine Xj A (bz (T.item X rfl rfl rfl hc i w Q F G X.xe I3 (M U) V go) λr s4 ⟨u,L,h4⟩=>?_);subst L;refine Xj A (bz h4 λ_ Z ⟨x,S,I5,r5,y5,K,Kp⟩=>?_);have K4:=I5.pinned (M Kp) (T.obj _ _ K);refine Xj A (bz (hg _ Z F S x u _ K4 r5 (step x S y5)) λ_ s6 ⟨Lk,H6,I6,q6⟩=>?_);refine Xj A (bz (hb _ s6 Lk H6 _ I6 q6) λf P q=>?_);have l:∀{j:St}{a:Hp},Inv X (w++Av B Z.heap) j a P->N j a->∃m,m<n/\∃i c p,Inv X w c p P/\tn i P.heap/\(∀b∈B,p b=none)/\W i m c p:=λ{j a} k y=>by
   obtain⟨m',hm,w7⟩:=hN j a y;refine⟨m',hm,i+1,j,a,k.dC,T.keep _ _ _ K λb hb o e=>(k.pin (b,o) (Z1 _ (Z1 _ (Dr hb e)))).1,λb hb=>?_,w7⟩;obtain⟨o,e,d⟩:=T.obj _ _ K b hb;exact(k.pin (b,o) (Z1 _ (Z1 _ (Dr hb e)))).2.1
  cases f with
  |next=>obtain⟨j,a,k,y⟩:=q;exact l k y
  |cont=>obtain⟨j,a,k,y⟩:=q;exact l k y
  |brk=>obtain⟨j,a,k,q⟩:=q;exact⟨j,a,k.dC,q⟩
  |ret v=>obtain⟨x7,j,a,k,r7,q⟩:=q;exact⟨x7,j,a,k.dC,r7,q⟩
end
theorem xd7{K:PySem.W.Frag}{a:af}{xs:List V}{g:TG}{tb:TS}{D:Ends}{σ:St}{H:Hp}(Pv:Nat->St->Hp->Prop)(h0:Pv 0 σ H)(n:∀i σ H,i<=xs.length->Pv i σ H->cu K H a xs)
  (hs:∀i x σ H,xs[i]?=some x->Pv i σ H->g x σ H λf h=>tb {D with nx:=Pv (i+1),ct:=Pv (i+1),bk:=D.nx} f h) (l:∀σ H,Pv xs.length σ H->D.nx σ H):
  ∃W:Nat->Nat->St->Hp->Prop,(∃m,W 0 m σ H)/\∀i m σ H,W i m σ H ->
   ((yO K a).stop i H/\D.nx σ H)\/((yO K a).go i H/\∃N:St->Hp->Prop,(∀c b,N c b->∃k,k<m/\W (i+1) k c b)/\∀x b,(yO K a).lF i H x b->g x σ b λf h=>tb {D with nx:=N,ct:=N,bk:=D.nx} f h):=by
 refine⟨λi m σ H=>m=xs.length-i/\i<=xs.length/\Pv i σ H,⟨xs.length,by simp,Zt _,h0⟩,?_⟩;rintro i m σ H ⟨rfl,j,p⟩;have q:=n i σ H j p;by_cases d:i<xs.length
 ·refine .inr ⟨⟨xs,xs[i],q,by simp[d]⟩,Pv (i+1),λc b r=>⟨xs.length-(i+1),q9 d,rfl,d,r⟩,λx b y=>?_⟩;obtain⟨e,y⟩:=y;subst e;exact hs i x σ _ (y xs q) p
 ·have e:i=xs.length:=by exact oM j d
  subst e;exact .inl ⟨⟨xs,q,Zb _⟩,l σ H p⟩
theorem DM{K:PySem.W.Frag}{a:af}{xs:List V}{g:TG}{tb:TS}{D:Ends}{σ:St}{H:Hp}(Pv:Nat->St->Hp->Prop)(h0:Pv 0 σ H)(n:∀i σ H,i<=xs.length->Pv i σ H->bh K H a xs)
  (hs:∀i x σ H,xs[i]?=some x->Pv i σ H->g x σ H λf h=>tb {D with nx:=Pv (i+1),ct:=Pv (i+1),bk:=D.nx} f h) (l:∀σ H,Pv xs.length σ H->D.nx σ H):
  ∃W:Nat->Nat->St->Hp->Prop,(∃m,W 0 m σ H)/\∀i m σ H,W i m σ H ->
   ((yN K a).stop i H/\D.nx σ H)\/((yN K a).go i H/\∃N:St->Hp->Prop,(∀c b,N c b->∃k,k<m/\W (i+1) k c b)/\∀x b,(yN K a).lF i H x b->g x σ b λf h=>tb {D with nx:=N,ct:=N,bk:=D.nx} f h):=by
 refine⟨λi m σ H=>m=xs.length-i/\i<=xs.length/\Pv i σ H,⟨xs.length,by simp,Zt _,h0⟩,?_⟩;rintro i m σ H ⟨rfl,j,p⟩;have q:=n i σ H j p;by_cases d:i<xs.length
 ·refine .inr ⟨⟨xs,xs[i],q,by simp[d]⟩,Pv (i+1),λc b r=>⟨xs.length-(i+1),q9 d,rfl,d,r⟩,λx b y=>?_⟩;obtain⟨e,y⟩:=y;subst e;exact hs i x σ _ (y xs q) p
 ·have e:i=xs.length:=by exact oM j d
  subst e;exact .inl ⟨⟨xs,q,Zb _⟩,l σ H p⟩
theorem PX{d:Int}{n:Nat}{g:TG}{tb:TS}{D:Ends}{σ:St}{H:Hp}(Pv:Nat->St->Hp->Prop)(h0:Pv 0 σ H)
  (hs:∀i σ H,i<n->Pv i σ H->g (.int (d+i)) σ H λf h=>tb {D with nx:=Pv (i+1),ct:=Pv (i+1),bk:=D.nx} f h) (l:∀σ H,Pv n σ H->D.nx σ H):
  ∃W:Nat->Nat->St->Hp->Prop,(∃m,W 0 m σ H)/\∀i m σ H,W i m σ H ->
   ((lA d n).stop i H/\D.nx σ H)\/((lA d n).go i H/\∃N:St->Hp->Prop,(∀b a,N b a->∃j,j<m/\W (i+1) j b a)/\∀x a,(lA d n).lF i H x a->g x σ a λf h=>tb {D with nx:=N,ct:=N,bk:=D.nx} f h):=by
 refine⟨λi m σ H=>m=n-i/\i<=n/\Pv i σ H,⟨n,by simp,Zt _,h0⟩,?_⟩;rintro i m σ H ⟨rfl,k,p⟩;by_cases c:i<n
 ·refine .inr ⟨c,Pv (i+1),λb a q=>⟨n-(i+1),q9 c,rfl,c,q⟩,λx a y=>?_⟩;obtain⟨e,y⟩:=y;subst e y;exact hs i σ _ c p
 ·have e:i=n:=by exact oM k c
  subst e;exact .inl ⟨Zb _,l σ H p⟩
theorem xd8{c:TT}{tb:TS}{D:Ends}{σ:St}{H:Hp}(Pv:St->Hp->Prop)(g:St->Hp->Nat)(h0:Pv σ H)
  (hs:∀σ H,Pv σ H->c σ H λb f=>if b=true then tb {D with nx:=λa d=>Pv a d/\g a d<g σ H,ct:=λa d=>Pv a d/\g a d<g σ H,bk:=D.nx} σ f else D.nx σ f)
  (mono:∀σ H Q h,(∀b f,Q b f->h b f)->c σ H Q->c σ H h):Mn c tb D σ H:=by
 refine⟨λm σ H=>m=g σ H/\Pv σ H,⟨_,rfl,h0⟩,?_⟩;rintro m σ H ⟨rfl,p⟩;refine mono σ H _ _ (λb f q=>?_) (hs σ H p);cases b with
 |true=>exact⟨_,λa d ⟨i,l⟩=>⟨_,l,rfl,i⟩,q⟩
 |false=>exact q
abbrev R2:=V->V->Hp->VK->Prop
def fi(X:Cx)(f:aa->aa->Sem aa)(r:R2):Prop:=
 ∀(a:List (af×az))(s:ae)(b:St)(H:Hp)(x y:V)(v u:aa)(Q:VK),Inv X a b H s->RelV x v->RelV y u->r x y H Q ->
  ah (ai X.prog X.w) X.A (f v u) (EP X a b Q) X.xe s
def ft(X:Cx)(f:aa)(r:List V->Hp->VK->Prop):Prop:=
 ∀(a:List (af×az))(s:ae)(c:St)(H:Hp)(d:List V)(b:List aa)(Q:VK),Inv X a c H s->Vals d b->r d H Q ->
  ah (ai X.prog X.w) X.A (call f b) (EP X a c Q) X.xe s
def rZ(r:R2)(ta tb:TE):TE:=λa H Q=>ta a H λx b=>tb a b λy c=>r x y c Q
inductive rI_(C:Int->Int->Prop)(g:Int->Int->V)(x y:V)(H:Hp)(Q:VK):Prop
 |mk(i:_)(j:_)(e0:x=.int i)(e1:y=.int j)(e2:C i j)(e3:Q (g i j) H)
def rI(C:Int->Int->Prop)(g:Int->Int->V):R2:=λx y H Q=>rI_ C g x y H Q
inductive Gq(g:Int->Int->V)(x y:V)(H:Hp)(Q:VK):Prop
 |mk(i:_)(j:_)(e0:x=.int i)(e1:y=.int j)(e2:Q (g i j) H)
def uy(g:Int->Int->V):R2:=λx y H Q=>Gq g x y H Q
section
variable{X:Cx}{a b c:av}{ta tb tc:TE}{pos:aC}
theorem wU(q:PE X a ta)(hb:PE X b tb){g:List (af×az)}{s:ae}{σ:St}{H:Hp}{R:V->V->Hp->Prop}(I:Inv X g σ H s)
  (h:ta σ H λx j=>tb σ j λy d=>R x y d){Q:aa->ae->Prop}{f:aa->aa->Sem aa}
  (n:∀v u i x y d,Inv X g σ d i->RelV x v->RelV y u->R x y d->ah (ai X.prog X.w) X.A (f v u) Q X.xe i):
  ah (ai X.prog X.w) X.A (eval a X.env) (λv A=>ah (ai X.prog X.w) X.A (eval b X.env) (λu k=>ah (ai X.prog X.w) X.A (f v u) Q X.xe k) X.xe A) X.xe s:=by
 refine bz (q g s σ H _ I h) λv B ⟨x,j,p,l,t⟩=>?_;refine bz (hb g B σ j _ p t) λu i ⟨y,d,r,w,m⟩=>?_;exact n v u i x y d r l w m
theorem br{op:Operator}{r:R2}(g:fi X (binaryOp op) r)(i:PE X a ta)(hb:PE X b tb):PE X (.BinOp a op b pos) (rZ r ta tb):=by
 intro d s k H Q I h;exact wpAny_BinOp (wU i hb I h λv u m x y f j l n q=>g d m k f x y v u Q j l n q)
theorem AL{f:aa->aa->Sem aa}{C:Int->Int->Prop}{g:Int->Int->Int}
  (d:∀(i j:Int)(t u:Tok)(s:ae)(Q:aa->ae->Prop)(E:aa->ae->Prop),C i j->Q (.int (g i j) s.toks) {s with toks:=s.toks+1}->ah (ai X.prog X.w) X.A (f (.int i t) (.int j u)) Q E s):
  fi X f (rI C λi j=>.int (g i j)):=by
 intro p s r H x y v u Q I m n h;obtain⟨i,j,rfl,rfl,l,q⟩:=h;obtain⟨t,rfl⟩:=m;obtain⟨k,rfl⟩:=n;exact d i j t k s _ _ l ⟨.int (g i j),H,I.tok _,⟨_,rfl⟩,q⟩
theorem AK{f:aa->aa->Sem aa}{g:Int->Int->Int}
  (d:∀(i j:Int)(t u:Tok)(s:ae)(Q:aa->ae->Prop)(E:aa->ae->Prop),Q (.int (g i j) s.toks) {s with toks:=s.toks+1}->ah (ai X.prog X.w) X.A (f (.int i t) (.int j u)) Q E s):
  fi X f (uy λi j=>.int (g i j)):=by
 intro n s p H x y v u Q I l m h;obtain⟨i,j,rfl,rfl,q⟩:=h;obtain⟨t,rfl⟩:=l;obtain⟨k,rfl⟩:=m;exact d i j t k s _ _ ⟨.int (g i j),H,I.tok _,⟨_,rfl⟩,q⟩
theorem uP{f:aa->aa->Sem aa}{g:Int->Int->Bool}
  (d:∀(i j:Int)(t u:Tok)(s:ae)(Q:aa->ae->Prop)(E:aa->ae->Prop),Q (.bool (g i j)) s->ah (ai X.prog X.w) X.A (f (.int i t) (.int j u)) Q E s):
  fi X f (uy λi j=>.bl (g i j)):=by
 intro n s p H x y v u Q I l m h;obtain⟨i,j,rfl,rfl,q⟩:=h;obtain⟨t,rfl⟩:=l;obtain⟨k,rfl⟩:=m;exact d i j t k s _ _ ⟨.bl (g i j),H,I,rfl,q⟩
def Lj(i j:Int):Prop:=0<j/\j<1073741824
def CC(i j:Int):Prop:=0<=j/\j<=1000000/\i.natAbs<2^64
def xb(i j:Int):Prop:=(-(2^64)<i/\i<2^64)\/(-(2^64)<j/\j<2^64)
theorem xb.ok{i j:Int}(h:xb i j):IntMulOk i j:=by
 rcases h with⟨h1,h2⟩|⟨h1,h2⟩
 ·exact .of_left (intBits_le_64 h1 h2)
 ·exact .of_right (intBits_le_64 h1 h2)
theorem fZ:fi X (binaryOp .Add) (uy λi j=>.int (i+j)):=AK λ_ _ _ _ _ _ _ q=>add_int q
theorem mY:fi X (binaryOp .Sub) (uy λi j=>.int (i-j)):=AK λ_ _ _ _ _ _ _ q=>sub_int q
theorem pR:fi X (binaryOp .Mult) (rI xb λi j=>.int (i*j)):=AL λ_ _ _ _ _ _ _ d q=>mul_int q d.ok
theorem sM:fi X (binaryOp .FloorDiv) (rI Lj λi j=>.int (i/j)):=AL λi j _ _ _ _ _ d q=>by
 have h1:(0:Int)<j:=d.1;have h2:j<1073741824:=d.2;exact floordiv_int (A9 h1) (by rw[Int.fdiv_eq_ediv_of_nonneg i (A8 h1)];exact q) (.inl (PyProof.noPylong_small (by lia)))
theorem sv:fi X (binaryOp .Mod) (rI (λ_ j=>0<j) λi j=>.int (i%j)):=AL λi j _ _ _ _ _ d q=>by
 have h1:(0:Int)<j:=d;exact mod_int' (A9 d) (by rw[Int.fmod_eq_emod_of_nonneg i (A8 d)];exact q)
theorem xF3:fi X (binaryOp .Pow) (rI CC λi j=>.int (i^j.toNat)):=AL λ_ _ _ _ _ _ _ d q=>pow_int_small d.1 d.2.1 d.2.2 q
theorem n8:fi X (binaryOp .LShift) (rI CC λi j=>.int (i*2^j.toNat)):=AL λ_ _ _ _ _ _ _ d q=>lshift_int_small d.1 d.2.1 d.2.2 q
end
def zt:V->V->Bool
 |.cb,.cb=>true|.cb,.int _=>true|.int _,.cb=>true|.cb,.bl _=>true|.bl _,.cb=>true|.cb,.str _=>true|.str _,.cb=>true
 |.int _,.int _=>true|.bl _,.bl _=>true|.str _,.str _=>true|.pG _,.pG _=>true
 |.int _,.str _=>true|.str _,.int _=>true|.bl _,.str _=>true|.str _,.bl _=>true
 |_,_=>false
def rEq:R2:=λx y H Q=>zt x y=true/\Q (.bl (decide (x=y))) H
def rNe:R2:=λx y H Q=>zt x y=true/\Q (.bl (!decide (x=y))) H
theorem Oe{i j:Int}:decide (V.int i=V.int j)=(i==j):=by
 rw[Xa];simp
theorem Mm{i j:Bool}:decide (V.bl i=V.bl j)=(i==j):=by
 rw[Xa];simp
theorem Od{i j:ar}:decide (V.str i=V.str j)=(i==j):=by
 rw[Xa];simp
theorem Qy{i j:Array UInt8}:decide (V.pG i=V.pG j)=(i.toList==j.toList):=by
 rw[Xa];cases i;cases j;simp
section
variable{X:Cx}{a b c:av}{ta tb tc:TE}{pos:aC}
theorem ef{d:List (af×az)}{σ:St}{H:Hp}{s:ae}{Q:VK}{k f:Bool}(I:Inv X d σ H s)(q:Q (.bl k) H)(e:k=f):EP X d σ Q (.bool f) s:=by
 subst e;exact⟨.bl k,H,I,rfl,q⟩
theorem sZ:fi X (compareOp .Eq) rEq:=by
 intro l s m H x y v u Q I k d h;obtain⟨g,q⟩:=h;cases x with
 |cb=>
  cases k;cases y with
  |cb=>cases d;exact PySem.EqNone.eq_none_none (ef I q (by simp))
  |bl j=>cases d;exact PySem.EqNone.eq_none_bool (ef I q (by simp))
  |int j=>obtain⟨f,rfl⟩:=d;exact PySem.EqNone.eq_none_int (ef I q (by simp))
  |str j=>obtain⟨f,rfl⟩:=d;exact PySem.EqNone.eq_none_str (ef I q (by simp))
  |_=>exact absurd (show false=true from g) ZH
 |bl i=>
  cases k;cases y with
  |cb=>cases d;exact PySem.EqNone.eq_bool_none (ef I q (by simp))
  |bl j=>cases d;exact eq_bool (ef I q Mm)
  |str j=>obtain⟨f,rfl⟩:=d;exact PySem.EqMixed.eq_bool_str (ef I q (by simp))
  |_=>exact absurd (show false=true from g) ZH
 |int i=>
  obtain⟨t,rfl⟩:=k;cases y with
  |cb=>cases d;exact PySem.EqNone.eq_int_none (ef I q (by simp))
  |int j=>obtain⟨f,rfl⟩:=d;exact eq_int (ef I q Oe)
  |str j=>obtain⟨f,rfl⟩:=d;exact PySem.EqMixed.eq_int_str (ef I q (by simp))
  |_=>exact absurd (show false=true from g) ZH
 |str i=>
  obtain⟨t,rfl⟩:=k;cases y with
  |cb=>cases d;exact PySem.EqNone.eq_str_none (ef I q (by simp))
  |bl j=>cases d;exact PySem.EqMixed.eq_str_bool (ef I q (by simp))
  |int j=>obtain⟨f,rfl⟩:=d;exact PySem.EqMixed.eq_str_int (ef I q (by simp))
  |str j=>obtain⟨f,rfl⟩:=d;exact eq_str (ef I q Od)
  |_=>exact absurd (show false=true from g) ZH
 |pG i=>
  obtain⟨t,rfl⟩:=k;cases y with
  |pG j=>obtain⟨f,rfl⟩:=d;exact PySem.W.eq_bytes (ef I q Qy)
  |_=>exact absurd (show false=true from g) ZH
 |_=>cases y<;>exact absurd (show false=true from g) ZH
theorem sY:fi X (compareOp .NotEq) rNe:=by
 intro l s m H x y v u Q I k d h;obtain⟨g,q⟩:=h;cases x with
 |cb=>
  cases k;cases y with
  |cb=>cases d;exact PySem.EqNone.ne_none_none (ef I q (by simp))
  |bl j=>cases d;exact PySem.EqNone.ne_none_bool (ef I q (by simp))
  |int j=>obtain⟨f,rfl⟩:=d;exact PySem.EqNone.ne_none_int (ef I q (by simp))
  |str j=>obtain⟨f,rfl⟩:=d;exact PySem.EqNone.ne_none_str (ef I q (by simp))
  |_=>exact absurd (show false=true from g) ZH
 |bl i=>
  cases k;cases y with
  |cb=>cases d;exact PySem.EqNone.ne_bool_none (ef I q (by simp))
  |bl j=>cases d;exact ne_bool (ef I q (Yo not Mm))
  |str j=>obtain⟨f,rfl⟩:=d;exact PySem.EqMixed.ne_bool_str (ef I q (by simp))
  |_=>exact absurd (show false=true from g) ZH
 |int i=>
  obtain⟨t,rfl⟩:=k;cases y with
  |cb=>cases d;exact PySem.EqNone.ne_int_none (ef I q (by simp))
  |int j=>obtain⟨f,rfl⟩:=d;exact ne_int (ef I q (Yo not Oe))
  |str j=>obtain⟨f,rfl⟩:=d;exact PySem.EqMixed.ne_int_str (ef I q (by simp))
  |_=>exact absurd (show false=true from g) ZH
 |str i=>
  obtain⟨t,rfl⟩:=k;cases y with
  |cb=>cases d;exact PySem.EqNone.ne_str_none (ef I q (by simp))
  |bl j=>cases d;exact PySem.EqMixed.ne_str_bool (ef I q (by simp))
  |int j=>obtain⟨f,rfl⟩:=d;exact PySem.EqMixed.ne_str_int (ef I q (by simp))
  |str j=>obtain⟨f,rfl⟩:=d;exact ne_str (ef I q (Yo not Od))
  |_=>exact absurd (show false=true from g) ZH
 |pG i=>
  obtain⟨t,rfl⟩:=k;cases y with
  |pG j=>obtain⟨f,rfl⟩:=d;exact PySem.W.ne_bytes (ef I q (Yo not Qy))
  |_=>exact absurd (show false=true from g) ZH
 |_=>cases y<;>exact absurd (show false=true from g) ZH
theorem lU:fi X (compareOp .Lt) (uy λi j=>.bl (decide (i<j))):=uP λ_ _ _ _ _ _ _ q=>lt_int q
theorem mX:fi X (compareOp .LtE) (uy λi j=>.bl (decide (i<=j))):=uP λ_ _ _ _ _ _ _ q=>le_int q
theorem xX:fi X (compareOp .Gt) (uy λi j=>.bl (decide (j<i))):=uP λ_ _ _ _ _ _ _ q=>gt_int q
theorem cU(b:av){op:CmpOp}(h:op≠.In:=by decide)(h2:op≠.NotIn:=by decide):behindInMarks op b=false:=by
 have f:(op==CmpOp.In)=false:=by cases op<;>first|rfl|exact absurd rfl h
 have d:(op==CmpOp.NotIn)=false:=by cases op<;>first|rfl|exact absurd rfl h2
 cases b<;>simp[behindInMarks,f,d]
theorem j_{op:CmpOp}{r:R2}(g:fi X (compareOp op) r)(i:PE X a ta)(hb:PE X b tb)(m:behindInMarks op b=false):PE X (.Compare a [op] [b] pos) (rZ r ta tb):=by
 intro d s k H Q I h;exact wpAny_Compare1 (wU i hb I h λv u n x y f j l p q=>g d n k f x y v u Q j l p q) m
inductive tW(Q:Bool->Hp->Prop)(x:V)(H':Hp):Prop
 |mk(k:_)(e0:x=.bl k)(e1:Q k H')
def xM6(t:TE):TT:=λf H Q=>t f H λx d=>tW Q x d
theorem dG{op:CmpOp}{r:R2}(l:fi X (compareOp op) r)(n:PE X a ta)(hb:PE X b tb)(q:behindInMarks op b=false):PT X (.Compare a [op] [b] pos) (xM6 (rZ r ta tb)):=by
 intro d s f H Q I h;refine wpAny_isTrue_Compare1 (bz (n d s f H _ I h) λv C ⟨x,G,m,g,t⟩=>bz (hb d C f G _ m t) λu A ⟨y,i,p,w,j⟩=>
  bz (l d A f i x y v u _ p g w j) λc J ⟨z,E,B,F,k,e,D⟩=>?_) q
 subst e;cases F;exact Z9 ⟨E,B,D⟩
inductive p5(r':R2)(tc:TE)(σ:St)(Q:VK)(y z:V)(H3:Hp):Prop
 |mk(k:_)(e0:z=.bl k)(e1:(if k=true then tc σ H3 λw' H4=>r' y w' H4 Q else Q (.bl false) H3))
def xF4(r f:R2)(ta tb tc:TE):TE:=λd H Q=>ta d H λx h=>tb d h λy i=>r x y i λz g=>p5 f tc d Q y z g
theorem Dd{op i:CmpOp}{r j:R2}(B:fi X (compareOp op) r)(t:fi X (compareOp i) j)(E:PE X a ta)(hb:PE X b tb)(hc:PE X c tc)
  (K:lastMarks [op,i] [b,c]=false:=by with_unfolding_all rfl):PE X (.Compare a [op,i] [b,c] pos) (xF4 r j ta tb tc):=by
 intro f s g H Q I h;refine Compare_chain (bz (E f s g H _ I h) λv R ⟨x,U,C,q,L⟩=>chain_link (bz (hb f R g U _ C L) λu O ⟨y,w,D,l,A⟩=>
  bz (B f O g w x y v u _ D q l A) λd G ⟨z,p,m,T,k,e,n⟩=>?_)) K
 subst e;cases T;refine Z9 ?_;cases k with
 |false=>exact ite_ff ⟨.bl false,p,m,rfl,n⟩
 |true=>exact ite_tt (chain_last (bz (hc f G g p _ m n) λJ M ⟨F,V,N,P,S⟩=>t f M g V y F u J Q N l P S))
theorem Au:(sizeLine:Nat)<2^63:=by rw[We];decide
inductive iE(x:V)(y:V)(H:Hp)(Q:VK):Prop
 |mk(i:_)(j:_)(aV:x=.str i)(c7:y=.str j)(cq:i.length+j.length<=sizeLine)(aP:Q (.str (i++j)) H)
theorem G5:fi X (binaryOp .Add) iE:=by
 intro l s n H x y v u Q I g k h;obtain⟨i,j,rfl,rfl,f,q⟩:=h;obtain⟨t,rfl⟩:=g;obtain⟨d,rfl⟩:=k;exact add_str (λd m=>⟨.str (i++j),H,I.tok _,⟨_,rfl⟩,q⟩) f
theorem gO{x:V}{us:List aa}(r:Vals [x] us):∃u,us=[u]/\RelV x u:=by
 cases r with
 |cons f d=>cases d;exact⟨_,rfl,f⟩
theorem CL{x y:V}{us:List aa}(r:Vals [x,y] us):∃u d,us=[u,d]/\RelV x u/\RelV y d:=by
 cases r with
 |cons i g=>
  cases g with
  |cons h f=>cases f;exact⟨_,_,rfl,i,h⟩
inductive lz(xs:List V)(H:Hp)(Q:VK):Prop
 |mk(i:_)(aV:xs=[.int i])(c7:Q (.int (if i<0 then -i else i)) H)
theorem O7:ft X (.builtin "abs") lz:=by
 intro d s j H k f Q I r h;obtain⟨i,rfl,q⟩:=h;obtain⟨u,rfl,t,rfl⟩:=gO r;exact call_abs_int λu g=>⟨.int (if i<0 then -i else i),H,I.tok _,⟨_,rfl⟩,q⟩
inductive jo(xs:List V)(H:Hp)(Q:VK):Prop
 |mk(i:_)(j:_)(aV:xs=[.int i,.int j])(c7:Q (.int (if j>i then j else i)) H)
theorem PV(hc:X.calm=true):ft X (.builtin "max") jo:=by
 intro f s m H w p Q I r h;obtain⟨i,j,rfl,q⟩:=h;obtain⟨u,n,rfl,⟨t,rfl⟩,⟨g,rfl⟩⟩:=CL r;refine max_two_ints (I.ok.hd hc) λv l k=>⟨_,H,I.kept k,?_,q⟩;by_cases d:j>i
 ·rw[Zr d,Zr d];exact⟨_,rfl⟩
 ·rw[Zl d,Zl d];exact⟨_,rfl⟩
inductive jm(xs:List V)(H:Hp)(Q:VK):Prop
 |mk(i:_)(j:_)(aV:xs=[.int i,.int j])(c7:Q (.int (if j<i then j else i)) H)
theorem GV(hc:X.calm=true):ft X (.builtin "min") jm:=by
 intro f s m H w p Q I r h;obtain⟨i,j,rfl,q⟩:=h;obtain⟨u,n,rfl,⟨t,rfl⟩,⟨g,rfl⟩⟩:=CL r;refine min_two_ints (I.ok.hd hc) λv l k=>⟨_,H,I.kept k,?_,q⟩;by_cases d:j<i
 ·rw[Zr d,Zr d];exact⟨_,rfl⟩
 ·rw[Zl d,Zl d];exact⟨_,rfl⟩
theorem q01:ft X (.type "int") (λd H Q=>(∃i,d=[.int i]/\Q (.int i) H)\/∃k,d=[.bl k]/\Q (.int (if k then 1 else 0)) H):=by
 intro g s l H d j Q I r h;rcases h with⟨i,rfl,q⟩|⟨k,rfl,q⟩
 ·obtain⟨u,rfl,t,rfl⟩:=gO r;exact call_int_int ⟨.int i,H,I,⟨_,rfl⟩,q⟩
 ·obtain⟨u,rfl,f⟩:=gO r;cases f;exact call_int_bool ⟨.int (if k then 1 else 0),H,I.tok _,⟨_,rfl⟩,q⟩
inductive gB(xs:List V)(H:Hp)(Q:VK):Prop
 |mk(i:_)(aV:xs=[.int i])(c7:i.natAbs.log2<1920)(cq:Q (.str (toString i)) H)
theorem N8:ft X (.type "str") gB:=by
 intro f s j H k g Q I r h;obtain⟨i,rfl,d,q⟩:=h;obtain⟨u,rfl,t,rfl⟩:=gO r;exact PySem.P.str_of_int d ⟨.str _,H,I.tok _,⟨_,rfl⟩,q⟩
end
structure wZ(h:ao)(x dx C:af)(mA:ar->Option aa):Prop where
 obj:h.get? x=some (PySem.W.instObj C dx)
 ns:h.Ns1 dx mA
 ne:dx≠x
theorem q02{h:ao}{b:af}{f:ar->Option aa}(n:h.Ns1 b f):∃c,h.get? b=some c/\∀name,PySem.W.lookIn name c=some (f name):=by
 obtain⟨o,d,r,g,i,k,_,l⟩:=n;refine⟨o,g,λname=>?_⟩;have e:=l name;unfold nsFind findBy at e;rw[<- Array.find?_toList]at e;unfold PySem.W.lookIn;rw[i];dsimp only;split
 ·rename_i y q;rw[q]at e;exact Yo some e
 ·rename_i q;rw[q]at e;have a:d.toList.any (·.refKey)=false:=by
   rw[Vz];intro y m;obtain⟨z,t,p⟩:=k y (Array.mem_toList_iff.mp m);simp[DictEntry.refKey,p]
  have j:¬d.toList.any (·.refKey)=true:=by rw[a];exact ZH
  rw[Zl j];exact Yo some e
theorem wZ.look{h:ao}{x b C:af}{c:ar->Option aa}(I:wZ h x b C c):∃a,PySem.W.InstAt h x (PySem.W.instObj C b) C (some a)/\∀name,PySem.W.lookIn name a=some (c name):=
 let ⟨a,ho,hl⟩:=q02 I.ns
 ⟨a,⟨I.obj,rfl,rfl,ho⟩,hl⟩
theorem gA.some_of{v:V}{o:Option aa}(r:gA (some v) o):∃u,o=some u/\RelV v u:=by
 cases o with
 |none=>exact(show False from r).elim
 |some u=>exact⟨u,rfl,r⟩
section
variable{H H':Hp}{h h':ao}{a C dx:af}{fs fs':List (ar×V)}
theorem Ur(c:dj P w H h)(e:H a=some (.ins C dx fs)):∃b,wZ h a dx C b/\(∀f,gA (fs.lookup f) (b f))/\PySem.Within b (fs.map (·.1))/\fs.length<=1000/\H dx=some (.own a):=by
 obtain⟨d,z,g,ob,b,n,r,q⟩:=(show bc P w H h a (.ins C dx fs)from c a _ e);exact⟨b,⟨ob,n,g⟩,r,q,z,d⟩
end
structure Li(K:PySem.W.Frag)(C:af):Prop where
 pg:PySem.W.plainGet K C Str.empty=true
 hd:PySem.W.hasDictIn K C=true
 po:PySem.W.plainOver K C=true
 sa:PySem.W.findIn K (.ref C) "__setattr__"=some (some (.builtin "object.__setattr__"))
theorem Li.get{K:PySem.W.Frag}{C:af}(c:Li K C)(f:ar):PySem.W.plainGet K C f=true:=c.pg
section
variable{X:Cx}{j8:List (af×az)}{σ:St}{H:Hp}{s:ae}{A:aq}{E:aa->ae->Prop}{Q:aa->ae->Prop}{c:aa}{b:Bool}
inductive eZ(K:PySem.W.Frag)(H:Hp):V->aa->Prop where
 |cb:eZ K H .cb (.type "NoneType")
 |bl (x:Bool):eZ K H (.bl x) (.type "bool")
 |int (i:Int):eZ K H (.int i) (.type "int")
 |str (x:ar):eZ K H (.str x) (.type "str")
 |yG (x:UInt64):eZ K H (.yG x) (.type "float")
 |lst {a:af}{xs:List V}(e:H a=some (.lst xs)):eZ K H (.ref a) (.type "list")
 |lj {a:af}{o:az}{xs:List V}(e:H a=some (.lj o (.lst xs))):eZ K H (.ref a) (.type "list")
 |tup {a:af}{xs:List V}(e:H a=some (.tup xs)):eZ K H (.ref a) (.type "tuple")
 |dK {a:af}{kvs:List (Key×V)}(e:H a=some (.dK kvs)):eZ K H (.ref a) (.type "dict")
 |dT {a:af}{kvs:List (List Key×V)}(e:H a=some (.dT kvs)):eZ K H (.ref a) (.type "dict")
 |ins {a C dx:af}{fs:List (ar×V)}(e:H a=some (.ins C dx fs)) (cl:Li K C) (ha:PySem.W.findIn K (.ref C) "__class__"=some (some (.builtin "object.__class__")))
   (hn:PySem.W.specialIn K (.builtin "object.__class__") "__get__"=some (some (.builtin "getset_descriptor.__get__"))) (ni:PySem.W.takesIn K (.builtin "object.__class__")=some true)
   (hm:PySem.W.mroIn K C (.type "object")=some true):eZ K H (.ref a) (.ref C)
theorem q03{x:V}{u t:aa}(I:Inv X j8 σ H s)(d:RelV x u)(ty:eZ X.K H x t)(e:PySem.W.kitOne X.K t c=some b)(h:∀m,Q (.bool b) {s with toks:=m}):
  ah (ai X.prog X.w) A (call (.builtin "isinstance") [u,c]) Q E s:=by
 cases ty with
 |cb=>cases(show u=Value.none from d);exact YA PySem.W.kitx_none I.gn True.intro e (λz=>nomatch z) h
 |bl y=>cases(show u=Value.bool y from d);exact YA PySem.W.kitx_bool I.gn True.intro e (λz=>nomatch z) h
 |int i=>obtain⟨t,q⟩:=(show ∃t,u=Value.int i t from d);cases q;exact YA PySem.W.kitx_int I.gn True.intro e (λz=>nomatch z) h
 |str y=>obtain⟨t,q⟩:=(show ∃t,u=Value.str y t from d);cases q;exact YA PySem.W.kitx_str I.gn True.intro e (λz=>nomatch z) h
 |yG y=>obtain⟨t,q⟩:=(show ∃t,u=Value.float y t from d);cases q;exact YA PySem.W.kitx_float I.gn True.intro e (λz=>nomatch z) h
 |@lst a j f=>
  cases(show u=Value.ref a from d);obtain⟨_,_,n,_,h1⟩:=(show bc X.prog X.w H s.heap a (.lst j)from I.aQ a _ f);exact YA PySem.W.kitx_list I.gn ⟨_,h1,rfl⟩ e (λz=>nomatch z) h
 |@lj a ob j f=>
  cases(show u=Value.ref a from d);obtain⟨_,_,_,n,_,h1⟩:=(show bc X.prog X.w H s.heap a (.lj ob (.lst j))from I.aQ a _ f);exact YA PySem.W.kitx_list I.gn ⟨_,h1,rfl⟩ e (λz=>nomatch z) h
 |@tup a j f=>
  cases(show u=Value.ref a from d);obtain⟨_,_,_,p⟩:=(show bc X.prog X.w H s.heap a (.tup j)from I.aQ a _ f);obtain⟨o,h1,h2,_⟩:=p;exact YA PySem.W.kitx_tuple I.gn ⟨o,h1,h2⟩ e (λz=>nomatch z) h
 |@dK a g f=>
  cases(show u=Value.ref a from d);obtain⟨_,_,K,_,p⟩:=(show bc X.prog X.w H s.heap a (.dK g)from I.aQ a _ f);obtain⟨o,D,B,h1,h2,_⟩:=p;exact YA PySem.W.kitx_dict I.gn ⟨o,h1,h2.1⟩ e (λz=>nomatch z) h
 |@dT a g f=>
  cases(show u=Value.ref a from d);obtain⟨_,_,j,_,o,D,B,h1,h2,_⟩:=(show bc X.prog X.w H s.heap a (.dT g)from I.aQ a _ f);exact YA PySem.W.kitx_dict I.gn ⟨o,h1,h2.1⟩ e (λz=>nomatch z) h
 |@ins a C G fs f k v l r w=>
  cases(show u=Value.ref a from d);obtain⟨F,O,_⟩:=Ur I.aQ f;obtain⟨L,J,_⟩:=O.look;exact YA (PySem.W.kitx_own (k.get _) k.hd v l r w) I.gn J e (λz=>nomatch z) h
end
structure aZ(k:Nat)(A:aq):Prop where
 hd:A.handled=none
 dp:A.depth+3*k+5<recursionLimit
 un:A.units+16*k+200<cLine
 gd:A.guards=some []
theorem aZ.mono{j k:Nat}{A:aq}(r:aZ k A)(h:j<=k):aZ j A:=⟨r.hd,by have:=r.dp;lia,by have:=r.un;lia,r.gd⟩
theorem aZ.deeper{k:Nat}{A:aq}(r:aZ (k+1) A)(env:Env):aZ k (A.deeper env):=
 ⟨r.hd,by have:=r.dp;show A.depth+1+3*k+5<_;exact Lz this,by have:=r.un;show A.units+3+16*k+200<_;exact M1 this,r.gd⟩
theorem aZ.depth{k:Nat}{A:aq}(r:aZ k A):A.depth<recursionLimit:=by have:=r.dp;exact LF this
theorem aZ.units{k:Nat}{A:aq}(r:aZ k A):A.units+64<cLine:=by have:=r.un;lia
def iR:TA:=λ_ H Q=>Q [] H
def n5(ta:TE)(tr:TA):TA:=λa H Q=>ta a H λx b=>tr a b λc d=>Q (x::c) d
section
variable{X:Cx}{e:av}{es:List av}{te:TE}{t:TA}{pos:aC}
theorem aN:PA X [] iR:=λ_ _ _ _ H Q I h=>Calls.spliced_nil ⟨[],H,I,.nil,h⟩
theorem aG(i:PE X e te)(k:PA X es t)(hs:starEach (e::es) X.env=(false,eval e X.env)::starEach es X.env:=by rfl):PA X (e::es) (n5 te t):=by
 intro pos a s b H Q I h;rw[hs];show ah _ _ (spliced ((false,eval e X.env)::backTo pos (starEach es X.env))) _ _ s;refine Calls.spliced_cons (bz (i a s b H _ I h) λu n ⟨x,p,g,c,l⟩=>?_);exact bz (k pos a n b p _ g l) λv r ⟨q,d,j,m,f⟩=>⟨x::q,d,j,.cons c m,f⟩
def kn(t:TA):TE:=λc H Q=>t c H λb a=>b.length<=sizeLine/\∀p,a p=none->Q (.ref p) (upd a p (.tup b))
def nA(t:TA):TE:=λc H Q=>t c H λb a=>b.length<=sizeLine/\∀p,a p=none->Q (.ref p) (upd a p (.lst b))
theorem iM {x1} (h:PA X es t):PE X (.Tuple es x1 pos) (kn t):=by
 intro f s k H Q I j;refine wpAny_Tuple_spliced (bz (h pos f s k H _ I j) λi a ⟨l,d,c,r,z,q⟩=>⟨by rw[<- r.length];exact z,?_⟩);have g:d a.heap.objs.size=none:=c.aQ.fresh (Zb _);refine⟨.ref a.heap.objs.size,upd d a.heap.objs.size (.tup l),c.laid (t':=a.toks) (λb u e=>Zd _ e) (Zb _) ?_,rfl,q _ g⟩;exact⟨z,i,r,⟨_,Zm _ rfl,rfl,⟨_,rfl⟩,rfl⟩⟩
theorem g_(h:PA X es t):PE X (.List es pos) (nA t):=by
 intro f s k H Q I j;refine wpAny_List_spliced (bz (h pos f s k H _ I j) λi a ⟨l,d,c,r,z,q⟩=>⟨by rw[<- r.length];exact z,?_⟩);have g:d a.heap.objs.size=none:=c.aQ.fresh (Zb _);refine⟨.ref a.heap.objs.size,upd d a.heap.objs.size (.lst l),c.laid (t':=a.toks) (λb u e=>Zd _ e) (Zb _) ?_,rfl,q _ g⟩;exact⟨z,i,0,r,Zm _ rfl⟩
end
abbrev Sp:=List V->Hp->VK->XK->Prop
abbrev kl:=List Env->Hp->ae->XK->aa->ae->Prop
structure mV(P:ag)(w:aj)(K:PySem.W.Frag)(mg:ar->Option aa)(base:ao)(A:aq)(outer:List Env)(s:ae)(H:Hp):Prop where
 frames:A.frames=some outer
 mod:Mod K mg base
 bs:∀b o,base.get? b=some o->s.heap.get? b=some o/\H b=none
 mR:base.objs.size<=s.heap.objs.size
 di:s.heap.FunFrames base outer
 pz:∀b∈c6 outer,H b=none
 aQ:dj P w H s.heap
 bare:AllBare s.gens
def CE(outer:List Env)(P:ag)(w:aj)(H:Hp)(s:ae)(Q:VK)(u:aa)(s':ae):Prop:=
 ∃v a,s'.os=s.os/\AllBare s'.gens/\Un (c6 outer) [] H a s.heap s'.heap/\dj P w a s'.heap/\RelV v u/\Q v a
def CR(CX:kl)(outer:List Env)(P:ag)(w:aj)(H:Hp)(s:ae)(Q:VK)(E:XK)(r:Result)(s':ae):Prop:=
 match r with
 |.ok (.ret u)=>CE outer P w H s Q u s'
 |.ok _=>False
 |.error e=>CX outer H s E e s'
structure aE(P:ag)(w:aj)(K:PySem.W.Frag)(mg:ar->Option aa)(base:ao)(CX:kl)(k:Nat)(f:af)(fd:ak)(ps:List ar)(sp:Sp):Prop where
 len:∀vs H Q E,sp vs H Q E->vs.length=ps.length
 run:∀(A:aq)(outer:List Env)(s:ae)(H:Hp)(args:Args)(us:List aa)(vs:List V)(Q:VK)(E:XK),aZ k A->mV P w K mg base A outer s H->BindsTo s fd args (ps.zip us)->Vals vs us->sp vs H Q E ->
  codeAny (ai P w) A (.call (.ref f) args) (CR CX outer P w H s Q E) s
theorem aE.imp{P:ag}{w:aj}{K:PySem.W.Frag}{mg:ar->Option aa}{base:ao}{CX:kl}{k:Nat}{f:af}{d:ak}{ps:List ar}{sp sp':Sp}(F:aE P w K mg base CX k f d ps sp)
  (h:∀b H Q E,sp' b H Q E->sp b H Q E):aE P w K mg base CX k f d ps sp':=
 ⟨λb H Q E q=>F.len b H Q E (h _ _ _ _ q),λA a s H c g b Q E i m hb j l=>F.run A a s H c g b Q E i m hb j (h _ _ _ _ l)⟩
section
variable{X:Cx}{j8:List (af×az)}{σ:St}{H:Hp}{s s':ae}
theorem Inv.Ci(I:Inv X j8 σ H s):mV X.prog X.w X.K X.mg X.base X.A X.stack s H:=
 ⟨I.ok.frames,I.ok.mod,I.bs,Zw I.ok.mR I.sz,I.stack,I.ij,I.aQ,I.bare⟩
theorem Inv.after{Q:VK}{u:aa}(I:Inv X j8 σ H s)(h:CE X.stack X.prog X.w H s Q u s'):EP X j8 σ Q u s':=by
 obtain⟨v,c,j,a,un,i,r,q⟩:=h;obtain⟨f,g,d,t,k⟩:=s';obtain rfl:k=s.os:=j;exact⟨v,c,I.call (h':=f) (g':=g) (d':=d) (t':=t) (ch:=[]) un i a (λb z=>absurd z (by simp)),r,q⟩
end
def AG(sp:Sp)(b:List V)(E:XK)(t:TA):TE:=λd H Q=>t d H λa c=>sp (a++b) c Q E
def Binds(K:PySem.W.Frag)(c:ak)(ps:List ar)(b:List aa):Prop:=
 ∀(s:ae)(a:List aa),K.In s.heap->(a++b).length=ps.length->BindsTo s c ⟨a,[]⟩ (ps.zip (a++b))
theorem Binds.all{K:PySem.W.Frag}{b:ak}{ps:List ar}(h:∀a:List aa,a.length=ps.length->bindArgs b ⟨a,[]⟩=pure (ps.zip a)):Binds K b ps []:=λs a _ c=>by
 rw[YK]at c ⊢;exact .of_eq (h a c)
def xj(CX:kl)(X:Cx)(E:XK):Prop:=∀(b:List (af×az))(c:St)(H:Hp)(s:ae)(e:aa)(a:ae),Inv X b c H s->CX X.stack H s E e a->X.xe e a
section
variable{X:Cx}{CX:kl}{k:Nat}{f C:af}{fd:ak}{ps:List ar}{sp:Sp}{pW:List V}{ds:List aa}{E:XK}{x m:ar}{p pos apos:aC}{e o:av}{es:List av}{ta:TE}{t:TA}
theorem Ml{c:List (af×az)}{σ:St}{H:Hp}{s:ae}{Q:VK}{us:List aa}{b:List V}(F:aE X.prog X.w X.K X.mg X.base CX k f fd ps sp)(j:aZ k X.A)(hb:Binds X.K fd ps ds)(i:Vals pW ds)(q:xj CX X E)
  (I:Inv X c σ H s) (r:Vals b us) (h:sp (b++pW) H Q E):ah (ai X.prog X.w) X.A (call (.ref f) us) (EP X c σ Q) X.xe s:=by
 have d:Vals (b++pW) (us++ds):=r.append i;have n:(us++ds).length=ps.length:=by rw[<- d.length];exact F.len _ _ _ _ h
 refine wpAny_call (WL (F.run X.A X.stack s H ⟨us,[]⟩ (us++ds) (b++pW) Q E j I.Ci (hb s us I.gn n) d h) λr g a=>?_);cases r with
 |error e=>exact q c σ H s e g I a
 |ok l=>
  cases l with
  |ret u=>exact I.after a
  |next=>exact False.elim a
  |brk=>exact False.elim a
  |cont=>exact False.elim a
theorem uI(F:aE X.prog X.w X.K X.mg X.base CX k f fd ps sp)(w:aZ k X.A)(i:Gl X x)(v:X.mg x=some (.ref f))(n:PySem.W.keepIn X.K (.ref f)=true)(hb:Binds X.K fd ps ds)(c:Vals pW ds)(y:xj CX X E)
  (g:PA X (e::es) t) (d:(x==("__debug__":ar))=false:=by decide) (j:starEach (e::es) X.env=(false,eval e X.env)::starEach es X.env:=by rfl) (u:(backTo pos (starEach es X.env)).any (·.1)=false:=by rfl):
  PE X (.Call (.Name x p) (e::es) [] pos) (AG sp pW E t):=by
 intro b s l H Q I h;refine XN (xw I i v ?_ d);refine PySem.W.callWith_K (h₀:=X.base) I.ok.mod.oP n (bz (g pos b s l H _ I h) λB D ⟨A,G,a,r,q⟩=>⟨a.gn,?_⟩) j u;exact Ml F w hb c y a r q
theorem xe0(F:aE X.prog X.w X.K X.mg X.base CX k f fd ps sp)(g:aZ k X.A)(i:Gl X x)(c:X.mg x=some (.ref f))(b:PySem.W.keepIn X.K (.ref f)=true)(hb:Binds X.K fd ps ds)(a:Vals pW ds)(j:xj CX X E)
  (d:(x==("__debug__":ar))=false:=by decide):PE X (.Call (.Name x p) [] [] pos) (AG sp pW E iR):=by
 intro l s n H Q I h;refine XN (xw I i c ?_ d);exact PySem.W.callWith_K0 I.gn b (Ml (us:=[]) F g hb a j I .nil h)
end
structure aI(N P:List ar)(sc:aA):Prop where
 kind:sc.kind=.function
 co:sc.isCoroutine=false
 gen:sc.isGenerator=false
 nd:N.Nodup
 pre:N.take P.length=P
 par:∀x∈P,sc.names.lookup x=some .local\/sc.names.lookup x=some .cell
 ow:∀y∈sc.names,y.2≠.free
theorem PU{a:ar->Option NameKind}{x:ar}:∀{binds:List (ar×aa)}{m:ar->Option aa},(∀v,(x,v)∉binds)->bindL a binds m x=m x
 |[],_,_=>rfl
 |(n,v)::r,m,h=>by
  unfold bindL;rw[PU λw b=>h w (Zk _ b)];split
  ·have:x≠n:=by rintro rfl;exact h v Zu
   simp[this]
  ·rfl
theorem PR{a:ar->Option NameKind}{x:ar}:∀{binds:List (ar×aa)}{m:ar->Option aa},(∀v,(x,v)∉binds)->bindC a binds m x=m x
 |[],_,_=>rfl
 |(n,v)::r,m,h=>by
  unfold bindC;rw[PR λw b=>h w (Zk _ b)];split
  ·rfl
  ·have:x≠n:=by rintro rfl;exact h v Zu
   simp[this]
theorem GU{a:ar->Option NameKind}{x:ar}{v:aa}:∀{P:List ar}{b:List aa}{i:Nat}{m:ar->Option aa},P.Nodup->P[i]?=some x->b[i]?=some v->a x=some .local ->
  bindL a (P.zip b) m x=some v
 |[],_,_,_,_,h,_,_=>by simp at h
 |_::_,[],_,_,_,_,h,_=>by simp at h
 |p::P,w::b,0,m,nd,h1,h2,c=>by
  simp at h1 h2;subst h1;subst h2;show bindL a ((p,w)::P.zip b) m p=_;unfold bindL;rw[PU λv d=>(YB.mp nd).1 (Vb d).1,Zr c];simp
 |p::P,w::b,i+1,m,nd,h1,h2,c=>by
  show bindL a ((p,w)::P.zip b) m x=_;unfold bindL;exact GU (i:=i) (YB.mp nd).2 (by simpa using h1) (by simpa using h2) c
theorem GQ{a:ar->Option NameKind}{x:ar}{v:aa}:∀{P:List ar}{b:List aa}{i:Nat}{m:ar->Option aa},P.Nodup->P[i]?=some x->b[i]?=some v->a x≠some .local ->
  bindC a (P.zip b) m x=some v
 |[],_,_,_,_,h,_,_=>by simp at h
 |_::_,[],_,_,_,_,h,_=>by simp at h
 |p::P,w::b,0,m,nd,h1,h2,c=>by
  simp at h1 h2;subst h1;subst h2;show bindC a ((p,w)::P.zip b) m p=_;unfold bindC;rw[PR λv d=>(YB.mp nd).1 (Vb d).1,Zl c];simp
 |p::P,w::b,i+1,m,nd,h1,h2,c=>by
  show bindC a ((p,w)::P.zip b) m x=_;unfold bindC;exact GQ (i:=i) (YB.mp nd).2 (by simpa using h1) (by simpa using h2) c
def start(N:List ar)(a:List V):St:=a.map some++List.replicate (N.length-a.length) none
def gU(CX:kl)(P:ag)(w:aj)(K:PySem.W.Frag)(mg:ar->Option aa)(base:ao)(N:List ar)(a:ar)(scope:aA)(f:af)(b:aa)(A:aq)(outer:List Env)(s:ae)(H:Hp)(E:XK):Cx where
 prog:=P
 w:=w
 K:=K
 mg:=mg
 base:=base
 A:=A.deeper (envOfC a scope s.heap.objs.size f b)
 N:=N
 aH:=s
 aJ:=H
 env:=envOfC a scope s.heap.objs.size f b
 outer:=outer
 stack:=envOfC a scope s.heap.objs.size f b::outer
 ex:=[]
 calm:=true
 fn:=λ_=>true
 pn:=[]
 xe:=λe d=>ah (ai P w) (A.deeper (envOfC a scope s.heap.objs.size f b)) (leaving (envOfC a scope s.heap.objs.size f b) e) (λ_ c=>CX outer H s E e c) (λg c=>CX outer H s E g c) d
theorem Dc{a:aA}{n:Nat}{x:ar}(h:a.names.lookup x=some .cell):∃c,(cellsFrom n a.names []).lookup x=some c:=by
 have q:=WM a.names n [] (.inl h);exact Wu.mp q
theorem q05{CX:kl}{P:ag}{w:aj}{K:PySem.W.Frag}{mg:ar->Option aa}{base:ao}{N ps:List ar}{d:ar}{scope:aA}{f:af}{B:aa}{A:aq}{outer:List Env}{s I:ae}{H:Hp}{E:XK}{us:List aa}{j:List V}
  (S:aI N ps scope) (L:A.handled=none) (g:mV P w K mg base A outer s H) (G:j.length=ps.length) (r:Vals j us)
  (x:InCallC s s.heap.objs.size (bindL (envOfC d scope s.heap.objs.size f B).kindOf (ps.zip us) λ_=>none) (cellsFrom (s.heap.objs.size+1) scope.names []) (bindC (envOfC d scope s.heap.objs.size f B).kindOf (ps.zip us) λ_=>none) I):
  Inv (gU CX P w K mg base N d scope f B A outer s H E) [] (start N j) H I:=by
 have Q:ps.length<=N.length:=by have:=Yo List.length S.pre;rw[XE]at this;exact Ln this
 obtain⟨h1,R,rfl,F⟩:=x.done;have C:∀b:af,b∉(gU CX P w K mg base N d scope f B A outer s H E).ex:=λb z=>absurd (show b∈([]:List af)from z) (by simp);refine⟨⟨g.mod,S.kind,rfl,rfl,Zb _,λy z c h1 h2=>?_,λy l=>?_,λy c _ h=>?_,λ_=>L,Around.frames_deeper g.frames,.inr ⟨rfl,rfl⟩,λb z=>absurd z (C b),g.bs,g.mR,λb _ _=>C b,λb z=>absurd z (C b),g.di,g.pz⟩,
  rfl,g.bare,Un.kept F,⟨_,x.toInCall.ns,λi y v h1 h2 T=>?_⟩,λy c h=>⟨_,x.cell y c h⟩,g.aQ.fresh (Zb _),λy c h=>?_,λp m=>absurd (show p∈([]:List (af×az))from m) (by simp),g.aQ.kept F,?_⟩
 ·exact name_of_addr x.apart (Yh h1) (Yh h2)
 ·have l:scope.names.lookup y=some .cell\/scope.names.lookup y=some .free:=l;rcases l with l|l
  ·exact Dc l
  ·exact absurd rfl (S.ow _ (Yh l))
 ·exact Yt (x.above y c (Yh h))
 ·have t:i<j.length:=by
   unfold start at h2;by_cases t:i<j.length
   ·exact t
   ·rw[Zx (by simpa using t)]at h2;rw[XF]at h2;split at h2<;>cases h2
  have O:j[i]?=some v:=by
   unfold start at h2;rw[Zp (by simpa using t),Zg]at h2;cases e:j[i]? with
   |none=>rw[e]at h2;cases h2
   |some a=>rw[e]at h2;cases h2;rfl
  obtain⟨u,D,M⟩:=r.get O;have m:ps[i]?=some y:=by
   rw[<- S.pre,Wv (m_ t G)];exact h1
  have J:ps.Nodup:=by rw[<- S.pre];exact S.nd.sublist (List.take_sublist _ _)
  refine⟨u,M,?_⟩;rcases S.par y (Zy m)with k|k
  ·exact .inl ⟨k,GU J m D k⟩
  ·obtain⟨c,e⟩:=Dc (n:=s.heap.objs.size+1) k;refine .inr ⟨.inl k,c,e,?_⟩;have q:=x.cell y c e;rw[GQ J m D (by show scope.names.lookup y≠_;rw[k];decide)]at q;exact q
 ·exact g.aQ.fresh (Yt (x.above y c (Yh h)))
 ·unfold start;show _=N.length;rw[Zn,Zf,XZ];exact Nq G Q
theorem MV{CX:kl}{P:ag}{w:aj}{K:PySem.W.Frag}{mg:ar->Option aa}{base:ao}{k:Nat}{f:af}{name c:ar}{d:Arguments}{g:List aB}{scope:aA}{T kV p R l ct oc:aa}{M od:Option af}
  {Z:Array (Option aa)}{N ps:List ar}{sp:Sp}(lk:K.lookup f=some ⟨oc,od,.func (PySem.W.fnOf name c d g scope T kV p R M l ct),Z⟩) (kC:PySem.W.codeIn K l c=true) (S:aI N ps scope)
  (len:∀i H Q E,sp i H Q E->i.length=ps.length)
  (jX:∀(A:aq)(a:List Env)(s:ae)(H:Hp)(i:List V)(Q:VK)(E:XK),aZ k (A.deeper (envOfC c scope s.heap.objs.size f l))->sp i H Q E ->
   ∃t,gI (gU CX P w K mg base N c scope f l A a s H E) g t/\t {nx:=λ_ j=>Q .cb j,rt:=Q} (start N i) H):
  aE P w K mg base CX (k+1) f (PySem.W.fnOf name c d g scope T kV p R M l ct) ps sp:=by
 refine⟨len,λA a s H O us i Q E G C hb r L=>?_⟩;have hl:=len _ _ _ _ L;have U:K.In s.heap:=C.mod.oP.keeps λb o e=>(C.bs b o e).1;have lim:s.heap.NoLimit:=C.mod.nolimit.keeps λb o e=>(C.bs b o e).1;have X:∀y∈ps.zip us,scope.names.lookup y.1=some .local\/(scope.names.lookup y.1=some .cell/\((cellsFrom (s.heap.objs.size+1) scope.names []).lookup y.1).isSome=true):=λ⟨n,v⟩ hy=>by
  rcases S.par n (Vb hy).1 with q|q
  ·exact .inl q
  ·exact .inr ⟨q,WM _ _ _ (.inl q)⟩
 refine codeAny_call_function G.depth (U _ _ lk) rfl S.co S.gen rfl (PySem.W.codeRec_of U kC) (hb _ _ _ _ ?_);refine wpAny_newFunctionEnv_cells S.kind X λY he W x=>?_;subst he;refine⟨lim.keeps x.toInCall.keep,codeAny_func ?_⟩;obtain⟨t,ht,hq⟩:=jX A a s H i Q E (G.deeper _) L;have I:Inv (gU CX P w K mg base N c scope f l A a s H E) [] (start N i) H W:=q05 S G.hd C hl r x;refine Yw (ht [] W (start N i) H _ I hq) (λfl F m=>?_) λe F m=>m;have B:∀{h:St}{j:Hp}{v:V}{u:aa},Inv (gU CX P w K mg base N c scope f l A a s H E) [] h j F->RelV v u->Q v j->CE a P w H s Q u F:=
  λ{h j v u} J D q=>⟨v,j,J.os,J.bare,J.base,J.aQ,D,q⟩
 cases fl with
 |ret u=>
  obtain⟨v,h,j,J,D,q⟩:=m;exact B J D q
 |next=>
  obtain⟨h,j,J,q⟩:=m;exact B (v:=V.cb) (u:=Value.none) J rfl q
 |brk=>
  obtain⟨_,_,_,q⟩:=m;exact False.elim q
 |cont=>
  obtain⟨_,_,_,q⟩:=m;exact False.elim q
section
variable{X:Cx}{x:ar}{p pos:aC}{e:av}{es:List av}{t:TA}{id T:String}{r:List V->Hp->VK->Prop}
def NO(r:List V->Hp->VK->Prop)(t:TA):TE:=λc H Q=>t c H λa b=>r a b Q
theorem cQ(hc:ft X (.builtin id) r)(k:Gl X x)(q:X.mg x=none)(d:bootBuiltins x=some (.builtin id))(j:PA X (e::es) t)(c:x ≠ "__name__":=by decide)(g:(x==("__debug__":ar))=false:=by decide)
  (l:starEach (e::es) X.env=(false,eval e X.env)::starEach es X.env:=by rfl) (n:(backTo pos (starEach es X.env)).any (·.1)=false:=by rfl):PE X (.Call (.Name x p) (e::es) [] pos) (NO r t):=by
 intro a s b H Q I h;refine XN (Aw I k q d ?_ c g);exact PyProof.Rows.callWith_builtin1 (bz (j pos a s b H _ I h) λv w ⟨m,y,i,f,u⟩=>hc a w b y m v Q i f u) l n
theorem oh(hc:ft X (.type T) r)(k:Gl X x)(q:X.mg x=none)(d:bootBuiltins x=some (.type T))(j:PA X (e::es) t)(c:x ≠ "__name__":=by decide)(g:(x==("__debug__":ar))=false:=by decide)
  (l:starEach (e::es) X.env=(false,eval e X.env)::starEach es X.env:=by rfl) (n:(backTo pos (starEach es X.env)).any (·.1)=false:=by rfl):PE X (.Call (.Name x p) (e::es) [] pos) (NO r t):=by
 intro a s b H Q I h;refine XN (Aw I k q d ?_ c g);exact X8 (bz (j pos a s b H _ I h) λv w ⟨m,y,i,f,u⟩=>hc a w b y m v Q i f u) l n
end
end L2
namespace HT
open PySem PyProof.Rows
def cI(n d:Nat):Option Int->Nat
 |none=>d
 |some v=>if v<0 then(v+(n:Int)).toNat else min v.toNat n
theorem nU(n d:Nat):cI n d none=d:=rfl
theorem qo(n d k:Nat):cI n d (some (k:Int))=min k n:=by
 show(if(k:Int)<0 then((k:Int)+(n:Int)).toNat else min (k:Int).toNat n)=min k n;rw[Zl qX,ZY]
theorem xF6(n d:Nat)(b:d<=n)(o:Option Int):cI n d o<=n:=by
 cases o with
 |none=>exact b
 |some v=>
  show(if v<0 then(v+(n:Int)).toNat else min v.toNat n)<=n;by_cases a:v<0
  ·rw[Zr a];lia
  ·rw[Zl a];exact Nat.min_le_right _ _
theorem Qx(v:Int)(n d:Nat):(if v<0 then max (v+(n:Int)) 0 else min v (n:Int))=((cI n d (some v):Nat):Int):=by
 show(if v<0 then max (v+(n:Int)) 0 else min v (n:Int))=(((if v<0 then(v+(n:Int)).toNat else min v.toNat n):Nat):Int);by_cases a:v<0
 ·simp only[Zr a];lia
 ·simp only[Zl a];lia
theorem qV4(b a:Option Int)(n:Nat):Builtin.Slice.sliceAdjust b a 1 (n:Int)=(((cI n 0 b:Nat):Int),((cI n n a:Nat):Int)):=by
 have h1:¬((1:Int)<0):=by lia
 unfold Builtin.Slice.sliceAdjust;simp only[h1,ZU];refine Prod.ext ?_ ?_
 ·cases b with
  |none=>rfl
  |some v=>exact Qx v n 0
 ·cases a with
  |none=>rfl
  |some v=>exact Qx v n n
theorem qV5(i j:Nat):Builtin.Slice.slicePlaces (i:Int) (j:Int) 1=j-i:=by
 unfold Builtin.Slice.slicePlaces;have h1:(1:Int)>0:=by lia
 simp only[h1,YR,Int.ediv_one];split<;>lia
theorem NW{v:aa}{o:Option Int}{Q:Option Int->ae->Prop}(p:IsPart v o)(h:Q o s):ah (ai prog w) A (Builtin.Slice.slicePartIndex v) Q E s:=by
 cases p with
 |none=>exact slicePart_none h
 |int i t=>exact slicePart_int h
theorem qt0{i:af}{g c:aa}{a b:Option Int}{n:Nat}{Q:Int×Int×Nat->ae->Prop}(hs:s.heap.IsSliceOf i g c .none)(j:IsPart g a)(k:IsPart c b)
  (h:Q (((cI n 0 a:Nat):Int),1,cI n n b-cI n 0 a) s):ah (ai prog w) A (Builtin.Slice.sliceApplied (.ref i) (pure (n:Int))) Q E s:=by
 obtain⟨m,f,l,d⟩:=id hs;unfold Builtin.Slice.sliceApplied Builtin.Slice.sliceFields;refine Za (Za (Yb f d (x:=g) rfl (Za (Yb f d (x:=c) rfl (Za (Yb f d (x:=.none) rfl (Zc ?_)))))));refine Za (slicePart_none ?_);show ah _ _ (if((1:Int)==0)=true then _ else _) _ _ s;rw[Zl (by decide)];refine Za (NW j (Za (NW k (Za (Zc ?_)))));show ah _ _ (match Builtin.Slice.sliceAdjust a b 1 (n:Int)with|(a,b)=>pure (a,(1:Int),Builtin.Slice.slicePlaces a b 1)) _ _ s;rw[qV4 a b n];show ah _ _ (pure (((cI n 0 a:Nat):Int),(1:Int),Builtin.Slice.slicePlaces ((cI n 0 a:Nat):Int) ((cI n n b:Nat):Int) 1)) _ _ s;rw[qV5];exact Zc h
theorem xe1(xs:Array aa)(i k:Nat):((List.range k).filterMap λ(m:Nat)=>xs[((i:Int)+(m:Int)*1).toNat]?).toArray=((xs.toList.drop i).take k).toArray:=by
 have e:(λ(m:Nat)=>xs[((i:Int)+(m:Int)*1).toNat]?)=λm=>xs[i+m]?:=by
  funext m;have:((i:Int)+(m:Int)*1).toNat=i+m:=by lia
  rw[this]
 rw[e];have:=pick_run xs i k;rw[List.filterMap_map]at this;have a:((λx=>xs[x]?)∘λx=>i+x)=λm=>xs[i+m]?:=rfl;rw[a]at this;rw[this]
theorem eV{t f:af}{items:Array aa}{i j:aa}{a b:Option Int}{Q:aa->ae->Prop}(c:IsTup s.heap t items)(hs:s.heap.IsSliceOf f i j .none)(u:IsPart i a)(p:IsPart j b)
  (hw:¬(cI items.size 0 a=0/\cI items.size items.size b=items.size))
  (h:Q (.ref s.heap.objs.size) {s with heap:=s.heap.push {cls:=.type "tuple",data:=.seq ((items.toList.drop (cI items.size 0 a)).take (cI items.size items.size b-cI items.size 0 a)).toArray}})
  (hsz:items.size<=sizeLine):ah (ai prog w) A (getItem (.ref t) (.ref f)) Q E s:=by
 have d:sizeOk (.seq ((items.toList.drop (cI items.size 0 a)).take (cI items.size items.size b-cI items.size 0 a)).toArray):=by
  show((items.toList.drop (cI items.size 0 a)).take (cI items.size items.size b-cI items.size 0 a)).toArray.size<=sizeLine;rw[ZJ,XE,List.length_drop,ZP];lia
 have v:cI items.size items.size b<=items.size:=xF6 _ _ (Zb _) b;obtain⟨n,l,r,B⟩:=id hs;have g:s.TypeIs (.ref f) "slice":=⟨n,l,r⟩;unfold getItem
 try with_reducible refine Yg ?_
 first|refine Za (Zc ?_)|skip
 refine Za (wpAny_sequenceKey c.typeIs (by decide) ?_);refine Za (Z6 (name:=Str.ofString "__getitem__") c.typeIs Xy
  (Yj Xy c.typeIs entry_tuple_getitem ?_ (args_tuple_getitem _ _)))
 show ah _ _ (Builtin.Tuple.tupleItemsOf (.ref t) >>= _) _ _ s;refine Za (tupleItemsOf_ c ?_);refine Za (VO g ?_);rw[Zr (by decide)];refine Za (qt0 hs u p ?_);have k:¬((((cI items.size 0 a:Nat):Int)==0&&(1:Int)==1&&(cI items.size items.size b-cI items.size 0 a)==items.size)=true):=by
  intro q;rw[YC,YC]at q;have y:((cI items.size 0 a:Nat):Int)=0:=eq_of_beq q.1.1;have x:cI items.size items.size b-cI items.size 0 a=items.size:=eq_of_beq q.2;exact hw ⟨by lia,by lia⟩
 show ah _ _ (if(((cI items.size 0 a:Nat):Int)==0&&(1:Int)==1&&(cI items.size items.size b-cI items.size 0 a)==items.size)=true then _ else _) _ _ s;rw[Zl k,xe1]
 first
  |exact Za (m:=Builtin.Tuple.tupleExact _) (ZW (Zc ⟨_,rfl,Zc h⟩) d)
  |exact Za (m:=Builtin.Tuple.tupleExact _) (ZW (Za (Zc (Zc ⟨_,rfl,Zc h⟩))) d)
  |exact Za (Za (m:=Builtin.Tuple.tupleExact _) (ZW (Zc (Zc ⟨_,rfl,Zc h⟩)) d))
  |exact Za (Za (m:=Builtin.Tuple.tupleExact _) (ZW (Zc ⟨_,rfl,Zc h⟩) d))
end HT
namespace L2
open PySem PySem.Spec PyProof.Rows
abbrev TO:=St->Hp->(Option Int->Hp->Prop)->Prop
def PO(X:Cx)(e:Option av)(t:TO):Prop:=
 ∀(c:List (af×az))(s:ae)(a:St)(H:Hp)(Q:Option Int->Hp->Prop),Inv X c a H s->t a H Q ->
  ah (ai X.prog X.w) X.A (evalPart e X.env) (λu d=>∃o b,Inv X c a b d/\IsPart u o/\Q o b) X.xe s
def Uq:TO:=λ_ H Q=>Q none H
def xM7(t:TE):TO:=λb H Q=>t b H λx a=>∃i,x=.int i/\Q (some i) a
section
variable{X:Cx}{e:av}{te:TE}{lo hi:Option av}{tl th:TO}{pos p2:aC}
theorem zQ:PO X none Uq:=by
 intro a s b H Q I h;rw[evalPart_none];exact Zc ⟨none,H,I,.none,h⟩
theorem zP(h:PE X e te):PO X (some e) (xM7 te):=by
 intro a s g H Q I b;rw[evalPart_some];refine bz (h a s g H _ I b) λu k ⟨x,f,c,j,d⟩=>?_;obtain⟨i,rfl,q⟩:=d;obtain⟨t,rfl⟩:=j;exact⟨some i,f,c,.int i t,q⟩
def Ex(X:Cx)(r:V->Option Int->Option Int->Hp->VK->Prop):Prop:=
 ∀(a:List (af×az))(s:ae)(f:St)(H:Hp)(x:V)(v d b:aa)(lo hi:Option Int)(c:af)(Q:VK),Inv X a f H s->RelV x v->s.heap.IsSliceOf c d b .none->IsPart d lo->IsPart b hi->r x lo hi H Q ->
  ∃T id,typeLookup (.type T) "__getitem__"=pure (some (.builtin id))/\s.TypeIs v T/\ah (ai X.prog X.w) X.A (getItem v (.ref c)) (EP X a f Q) X.xe s
def tSl(r:V->Option Int->Option Int->Hp->VK->Prop)(te:TE)(tl th:TO):TE:=λa H Q=>te a H λx c=>tl a c λl d=>th a d λu b=>r x l u b Q
theorem zY{r:V->Option Int->Option Int->Hp->VK->Prop}(D:Ex X r)(y:PE X e te)(F:PO X lo tl)(m:PO X hi th):PE X (.Subscript e (.Slice lo hi none p2) pos) (tSl r te tl th):=by
 intro c s d H Q I h;refine Subscript_ (bz (y c s d H _ I h) λv L ⟨x,O,p,j,E⟩=>?_);refine wpAny_Slice (bz (F c L d O _ p E) λf J ⟨l,k,t,N,n⟩=>bz (m c J d k _ t n) λg a ⟨u,i,K,C,M⟩=>?_);rw[evalPart_none];refine Zc ?_;have G:Inv X c d i {a with heap:=a.heap.push {cls:=.type "slice",data:=.fields #[f,g,.none]}}:=K.kept (t':=a.toks) λb ob q=>Zd _ q;obtain⟨T,id,B,A,w⟩:=D c {a with heap:=a.heap.push {cls:=.type "slice",data:=.fields #[f,g,.none]}} d i x v f g l u a.heap.objs.size Q G j (Heap.IsSliceOf.new ..) N C M;show ah (ai X.prog X.w) X.A (subscriptTail e (.Slice lo hi none p2) v (.ref a.heap.objs.size)) (EP X c d Q) X.xe {a with heap:=a.heap.push {cls:=.type "slice",data:=.fields #[f,g,.none]}};exact tail_any (ops:=[.ref a.heap.objs.size,v]) A B w (by with_unfolding_all rfl)
def jf(xs:List V)(lo hi:Option Int):List V:=(xs.drop (HT.cI xs.length 0 lo)).take (HT.cI xs.length xs.length hi-HT.cI xs.length 0 lo)
theorem N3(xs:List V)(lo hi:Option Int):(jf xs lo hi).length<=xs.length:=by
 unfold jf;rw[XE,List.length_drop];lia
inductive zw(K:PySem.W.Frag)(x:V)(lo hi:Option Int)(H:Hp)(Q:VK):Prop
 |mk(a:_)(xs:_)(e0:x=.ref a)(e1:bh K H a xs)(e2:¬(HT.cI xs.length 0 lo=0/\HT.cI xs.length xs.length hi=xs.length))(e3:∀p,H p=none->Q (.ref p) (upd H p (.tup (jf xs lo hi))))
def Gn(K:PySem.W.Frag):V->Option Int->Option Int->Hp->VK->Prop:=λx lo hi H Q=>zw K x lo hi H Q
theorem Mk:Ex X (Gn X.K):=by
 intro t s y H x v u A lo hi w Q I l j n k h;obtain⟨a,c,rfl,p,m,q⟩:=h;cases l;obtain⟨i,r,f,g⟩:=I.tuple p;have d:i.toArray.size=c.length:=by rw[ZJ];exact r.length.symm
 refine⟨"tuple",_,Xy.lookup,f.typeIs,?_⟩;refine HT.eV f j n k (by rw[d];exact m) ?_ (by rw[d];exact g);rw[d];refine⟨.ref s.heap.objs.size,_,I.laid (t':=s.toks) (o:=.tup (jf c lo hi)) (λb ob q=>Zd _ q) (Zb _) ?_,rfl,q _ (I.aQ.fresh (Zb _))⟩;exact⟨Zw (N3 c lo hi) g,_,(r.drop (HT.cI c.length 0 lo)).take (HT.cI c.length c.length hi-HT.cI c.length 0 lo),cO.new _ _⟩
end
def ve(n:Nat)(i:Int):Option Nat:=if 0<=i then(if i<n then some i.toNat else none)else if -(n:Int)<=i then some (i+n).toNat else none
def rO{α:Type}(xs:List α)(i:Int):Option α:=(ve xs.length i).bind λj=>xs[j]?
theorem Qw{n:Nat}{i:Int}{j:Nat}(h:ve n i=some j):seqIndex? i n=some j/\j<n/\-(n:Int)<=i/\i<n:=by
 unfold ve at h;by_cases a:0<=i
 ·rw[Zr a]at h;by_cases h1:i<n
  ·rw[Zr h1]at h;have e:i.toNat=j:=ZE h;exact⟨by rw[seqIndex_of a h1,e],by lia,by lia,h1⟩
  ·rw[Zl h1]at h;cases h
 ·rw[Zl a]at h;by_cases h1:-(n:Int)<=i
  ·rw[Zr h1]at h;have e:(i+n).toNat=j:=ZE h;exact⟨by rw[seqIndex_neg (oI a) h1,e],by lia,h1,by lia⟩
  ·rw[Zl h1]at h;cases h
theorem Ht{α:Type}{xs:List α}{i:Int}{v:α}(h:rO xs i=some v):∃j,seqIndex? i xs.length=some j/\xs[j]?=some v/\j<xs.length/\-(xs.length:Int)<=i/\i<xs.length:=by
 unfold rO at h;cases e:ve xs.length i with
 |none=>rw[e]at h;cases h
 |some j=>
  rw[e]at h;obtain⟨h1,h2,b,a⟩:=Qw e;exact⟨j,h1,h,h2,b,a⟩
theorem n9{α:Type}{xs:List α}{j:Nat}{v:α}(h:xs[j]?=some v):rO xs (j:Int)=some v:=by
 have a:j<xs.length:=(cF h).1;have e:ve xs.length (j:Int)=some j:=by
  unfold ve;rw[Zr yf,Zr (by lia)];simp
 unfold rO;rw[e];exact h
def Hr(b:av):Prop:=∀o i,subscripted b false o i=operate [o,i] (getItem o i)
def mT(X:Cx)(r:R2):Prop:=
 ∀(value slice:av)(a:List (af×az))(s:ae)(b:St)(H:Hp)(x y:V)(v u:aa)(Q:VK),Inv X a b H s->RelV x v->RelV y u->r x y H Q ->
  subscripted slice false v u=operate [v,u] (getItem v u)->ah (ai X.prog X.w) X.A (subscriptTail value slice v u) (EP X a b Q) X.xe s
def Cv(X:Cx)(id:String)(r:V->List V->Hp->VK->Prop):Prop:=
 ∀(a:List (af×az))(s:ae)(c:St)(H:Hp)(x:V)(d:List V)(v:aa)(b:List aa)(Q:VK),Inv X a c H s->RelV x v->Vals d b->r x d H Q ->
  ah (ai X.prog X.w) X.A (call (.builtin id) (v::b)) (EP X a c Q) X.xe s
section
variable{X:Cx}{a b:av}{ta tb:TE}{pos:aC}
theorem mT.or{r i:R2}(h:mT X r)(h':mT X i):mT X (λx y H Q=>r x y H Q\/i x y H Q):=by
 intro d c f s l H x y v u Q I g k q j;rcases q with q|q
 ·exact h d c f s l H x y v u Q I g k q j
 ·exact h' d c f s l H x y v u Q I g k q j
theorem E_{r:R2}(k:mT X r)(f:PE X a ta)(hb:PE X b tb)(hs:Hr b):PE X (.Subscript a b pos) (rZ r ta tb):=by
 intro c s i H Q I h;exact Subscript_ (wU f hb I h λv u l x y d g j m q=>k a b c l i d x y v u Q g j m q (hs _ _))
inductive zB(K:PySem.W.Frag)(x y:V)(H:Hp)(Q:VK):Prop
 |mk(p:_)(xs:_)(i:_)(v:_)(e0:x=.ref p)(e1:y=.int i)(e2:cu K H p xs)(e3:rO xs i=some v)(e4:Q v H)
def ux(K:PySem.W.Frag):R2:=λx y H Q=>zB K x y H Q
inductive zy(K:PySem.W.Frag)(x y:V)(H:Hp)(Q:VK):Prop
 |mk(p:_)(xs:_)(i:_)(v:_)(e0:x=.ref p)(e1:y=.int i)(e2:bh K H p xs)(e3:rO xs i=some v)(e4:Q v H)
def uw(K:PySem.W.Frag):R2:=λx y H Q=>zy K x y H Q
inductive zA(x y:V)(H:Hp)(Q:VK):Prop
 |mk(z:_)(i:_)(c:_)(e0:x=.str z)(e1:y=.int i)(e2:z.length<=sizeLine)(e3:rO z.cps.toList i=some c)(e4:Q (.str ⟨#[c]⟩) H)
def qu:R2:=λx y H Q=>zA x y H Q
theorem m7:mT X (ux X.K):=by
 intro k g m s A H x y v u Q I J M h n;obtain⟨p,S,i,z,rfl,rfl,L,F,q⟩:=h;cases J;obtain⟨t,rfl⟩:=M;obtain⟨D,r,l,R⟩:=I.list L;obtain⟨j,h1,h2,P,N,E⟩:=Ht F;obtain⟨w,B,C⟩:=r.get h2;have K:=r.length;have O:=Au;have c:EP X m A Q w s:=⟨z,H,I,C,q⟩;by_cases d:0<=i
 ·have f:i.toNat=j:=by
   rw[seqIndex_of d E]at h1;exact ZE h1
  exact item_listR l.isList d (by lia) (by rw[f];simpa using B) c n
 ·have f:(i+(D.toArray.size:Int)).toNat=j:=by
   rw[seqIndex_neg (oI d) N]at h1;rw[ZJ,<- K];exact ZE h1
  exact subscriptTail_builtinR (x:=w) l.isList.typeIs slot_list_getitem.lookup
   (wpAny_getItem_list_neg (Q:=λr G=>r=w/\EP X m A Q r G) l.isList (oI d) (by rw[ZJ]<;>lia) (by lia) (by rw[f];simpa using B) ⟨rfl,c⟩) n
theorem fY:mT X (uw X.K):=by
 intro f c g s k H x y v u Q I C G h n;obtain⟨p,O,i,z,rfl,rfl,E,A,q⟩:=h;cases C;obtain⟨t,rfl⟩:=G;obtain⟨J,r,l,N⟩:=I.tuple E;obtain⟨j,h1,h2,M,P,L⟩:=Ht A;obtain⟨w,F,m⟩:=r.get h2;have D:=r.length;have K:=Au;have d:EP X g k Q w s:=⟨z,H,I,m,q⟩;exact subscriptTail_builtinR (x:=w) l.typeIs slot_tuple_getitem.lookup
  (getItem_tuple (j:=j) (Q:=λr B=>r=w/\EP X g k Q r B) l (by lia) (by lia) (by rw[ZJ,<- D];exact h1) (by simpa using F) ⟨rfl,d⟩) n
theorem Mj:mT X qu:=by
 intro f d B s F H x y v u Q I p w h g;obtain⟨z,i,c,rfl,rfl,G,l,q⟩:=h;obtain⟨t,rfl⟩:=p;obtain⟨C,rfl⟩:=w;obtain⟨j,h1,h2,E,A,k⟩:=Ht l;have r:z.cps.toList.length=z.length:=by simp[Str.length]
 rw[r]at h1 A k;have D:=Au;exact tail_any (typeIs_str s z t) slot_str_getitem.lookup (getItem_str (c:=c) (by
  have n:decide (i < -(2^63:Int))=false:=Zi (by lia);have m:decide (i>=2^63)=false:=Zi (by lia);rw[n,m,Bool.or_false]) (by rw[h1];simpa using h2) ⟨.str ⟨#[c]⟩,H,I.tok _,⟨_,rfl⟩,q⟩) g
theorem qV6(c:List aa)(n j:Nat)(u:aa):Obj.mapSeq (·.setIfInBounds j u) {cls:=.type "list",data:=.seq c.toArray n}={cls:=.type "list",data:=.seq (c.set j u).toArray n}:=by
 simp[Obj.mapSeq]
theorem Inv.lst{d:List (af×az)}{σ:St}{H:Hp}{s:ae}{p:af}{xs:List V}(I:Inv X d σ H s)(h:H p=some (.lst xs)):
  ∃(c:List aa)(n:Nat),Vals xs c/\s.heap.get? p=some {cls:=.type "list",data:=.seq c.toArray n}/\xs.length<=sizeLine:=by
 obtain⟨z,c,n,r,e⟩:=I.aQ p _ h;exact⟨c,n,r,e,z⟩
theorem Inv.uV{d:List (af×az)}{σ:St}{H:Hp}{s:ae}{p:af}{xs ys:List V}{i its':List aa}{n c:Nat}{f:az->az}(I:Inv X d σ H s)(h:H p=some (.lst xs))
  (k:s.heap.get? p=some {cls:=.type "list",data:=.seq i.toArray n}) (g:f {cls:=.type "list",data:=.seq i.toArray n}={cls:=.type "list",data:=.seq its'.toArray c}) (r:Vals ys its') (j:ys.length<=sizeLine) (t:Nat):
  Inv X d σ (upd H p (.lst ys)) {s with heap:=s.heap.update p f,toks:=t}:=by
 have e:(s.heap.update p f).get? p=some {cls:=.type "list",data:=.seq its'.toArray c}:=by
  rw[YH f k (by rw[g]<;>rfl),g]
 refine I.write (x:=p) (e:=p) (by rw[h];trivial) (.inl rfl) (λb u hb q=>(ZL _ _ (Xz hb)).trans q) ⟨_,e⟩ ?_;exact⟨j,its',c,r,e⟩
inductive uv(o i v:V)(H:Hp)(Q:Hp->Prop):Prop
 |mk(p:_)(xs:_)(k:_)(j:_)(e0:o=.ref p)(e1:i=.int k)(e2:H p=some (.lst xs))(e3:ve xs.length k=some j)(e4:Q (upd H p (.lst (xs.set j v))))
def xM8:V->V->V->Hp->(Hp->Prop)->Prop:=λo i v H Q=>uv o i v H Q
theorem O6:Cs X xM8:=by
 intro A s D H o i v M L u Q I F J C h;obtain⟨p,G,k,j,rfl,rfl,m,B,q⟩:=h;cases F;obtain⟨t,rfl⟩:=J;obtain⟨l,n,r,d,E⟩:=I.lst m;obtain⟨h1,h2,x,y⟩:=Qw B;have g:=r.length;have K:=Au;have w:Inv X A D (upd H p (.lst (G.set j v))) {s with heap:=s.heap.update p (Obj.mapSeq (·.setIfInBounds j u))}:=
  I.uV m d (qV6 l n j u) (r.set C j) (by rw[List.length_set];exact E) s.toks
 by_cases c:0<=k
 ·have f:k.toNat=j:=by
   rw[seqIndex_of c y]at h1;exact ZE h1
  exact PySem.W.ki_setAt d c (by lia) (by rw[ZJ,<- g];exact y) (by rw[f];exact⟨_,w,q⟩)
 ·have f:(k+(l.toArray.size:Int)).toNat=j:=by
   rw[seqIndex_neg (oI c) x]at h1;rw[ZJ,<- g];exact ZE h1
  exact PySem.W.ki_setBack d (oI c) (by rw[ZJ,<- g];exact x) (by lia) (by rw[f];exact⟨_,w,q⟩)
theorem qG8(d c:Option Int)(n:Nat):(sliceBounds d c none n).1=((HT.cI n 0 d:Nat):Int)/\(sliceBounds d c none n).2.1=((HT.cI n n c:Nat):Int)/\(sliceBounds d c none n).2.2=1:=by
 refine⟨?_,?_,rfl⟩
 ·cases d with
  |none=>simp[sliceBounds,HT.cI]
  |some i=>
   simp only[sliceBounds,HT.cI,Option.getD_none,show(1:Int)>0 by decide,YR];by_cases h:i<0
   ·simp only[h,YR]<;>exact M0 h
   ·simp only[h,ZU]<;>exact MY
 ·cases c with
  |none=>simp[sliceBounds,HT.cI]
  |some i=>
   simp only[sliceBounds,HT.cI,Option.getD_none,show(1:Int)>0 by decide,YR];by_cases h:i<0
   ·simp only[h,YR]<;>exact M0 h
   ·simp only[h,ZU]<;>exact MY
theorem qB4(c:List aa)(d f:Option Int):slicePick c.toArray d f none=((c.drop (HT.cI c.length 0 d)).take (HT.cI c.length c.length f-HT.cI c.length 0 d)).toArray:=by
 obtain⟨h1,h2,g⟩:=qG8 d f c.toArray.size;unfold slicePick;rw[h1,h2,g];simp only[sliceRange_one,pick_run,ZJ]<;>rfl
inductive zx(K:PySem.W.Frag)(x:V)(lo hi:Option Int)(H:Hp)(Q:VK):Prop
 |mk(a:_)(xs:_)(e0:x=.ref a)(e1:cu K H a xs)(e2:∀p,H p=none->Q (.ref p) (upd H p (.lst (jf xs lo hi))))
def Gp(K:PySem.W.Frag):V->Option Int->Option Int->Hp->VK->Prop:=λx c d H Q=>zx K x c d H Q
theorem Up:Ex X (Gp X.K):=by
 intro t s A H x v w B d f y Q I m k n l h;obtain⟨a,c,rfl,p,q⟩:=h;cases m;obtain⟨u,r,g,i⟩:=I.list p;have j:=r.length;refine⟨"list",_,slot_list_getitem.lookup,g.isList.typeIs,?_⟩;refine wpAny_getItem_list_slice g.isList k n l .none (by simp) ?_ (by rw[ZJ]<;>exact oz j i);rw[qB4,<- j];refine⟨.ref s.heap.objs.size,_,I.laid (t':=s.toks) (o:=.lst (jf c d f)) (λb ob q=>Zd _ q) (Zb _) ?_,rfl,q _ (I.aQ.fresh (Zb _))⟩;exact⟨Zw (N3 c d f) i,_,0,(r.drop (HT.cI c.length 0 d)).take (HT.cI c.length c.length f-HT.cI c.length 0 d),Zm _ rfl⟩
inductive gD(K_:PySem.W.Frag)(xs:List V)(H:Hp)(Q:VK):Prop
 |mk(p:_)(ys:_)(aV:xs=[.ref p])(c7:(cu K_ H p ys\/bh K_ H p ys))(cq:Q (.int ys.length) H)
theorem mE:ft X (.builtin "len") (gD X.K):=by
 intro m s t H w v Q I r h;obtain⟨p,i,rfl,c,q⟩:=h;obtain⟨u,rfl,l⟩:=gO r;cases l;have n:=Au;rcases c with c|c
 ·obtain⟨j,d,g,k⟩:=I.list c;have f:=d.length;exact Calls.call_len_list g.isList (by simp only[ZJ]<;>lia) ⟨.int i.length,H,I.tok _,⟨s.toks+1,by rw[ZJ,f]⟩,q⟩
 ·obtain⟨j,d,g,k⟩:=I.tuple c;have f:=d.length;exact len_tuple g (by simp only[ZJ]<;>lia) ⟨.int i.length,H,I.tok _,⟨s.toks+1,by rw[ZJ,f]⟩,q⟩
inductive dn(K_:PySem.W.Frag)(xs:List V)(H:Hp)(Q:VK):Prop
 |mk(p:_)(ys:_)(aV:xs=[.ref p])(c7:((cu K_ H p ys/\∀l,H l=none->Q (.ref l) (upd H l (.tup ys)))\/(bh K_ H p ys/\Q (.ref p) H)))
theorem qB5:ft X (.type "tuple") (dn X.K):=by
 intro k s m H A y Q I r h;obtain⟨p,n,rfl,h⟩:=h;obtain⟨u,rfl,w⟩:=gO r;cases w;rcases h with⟨j,q⟩|⟨j,q⟩
 ·obtain⟨d,f,i,g⟩:=I.list j;have x:=f.length;refine call_tuple_list i.isList (λc t=>?_) (by simp only[ZJ]<;>exact oz x g);have l:Inv X k m H {s with heap:=c}:=I.kept (t':=s.toks) t;have v:Inv X k m (upd H c.objs.size (.tup n)) {s with heap:=c.push {cls:=.type "tuple",data:=.seq d.toArray}}:=
   l.laid (t':=s.toks) (λb o e=>Zd _ e) (Zb _) (show bc X.prog X.w _ _ _ (.tup n)from⟨g,d,f,cO.new _ _⟩)
  exact⟨.ref c.objs.size,_,v,rfl,q _ (l.aQ.fresh (Zb _))⟩
 ·obtain⟨d,f,i,g⟩:=I.tuple j;exact call_tuple_same i ⟨.ref p,H,I,rfl,q⟩
def FF(K:PySem.W.Frag)(T:String)(x:V)(H:Hp):Prop:=match x with
 |.str _=>T="str"
 |.int _=>T="int"
 |.ref p=>(T="list" /\ ∃d,cu K H p d)\/(T="tuple" /\ ∃o,K.lookup p=some o/\o.cls=.type "tuple" /\ o.dict=none) \/
   (T="dict" /\ ((∃c,H p=some (.dK c))\/∃c,H p=some (.dT c)))\/(T="set" /\ ∃S n,H p=some (.set S n))
 |_=>False
theorem Mi{l:List (af×az)}{σ:St}{H:Hp}{s:ae}{T:String}{x:V}{v:aa}(I:Inv X l σ H s)(r:RelV x v)(ty:FF X.K T x H):
  s.TypeIs v T/\∀a,v=.ref a->∃ob,s.heap.get? a=some ob/\ob.dict=none:=by
 cases x with
 |str z=>
  obtain⟨t,rfl⟩:=r;cases(show T="str"from ty);exact⟨typeIs_str s z t,λ_ e=>nomatch e⟩
 |int i=>
  obtain⟨t,rfl⟩:=r;cases(show T="int"from ty);exact⟨typeIs_int s i t,λ_ e=>nomatch e⟩
 |ref p=>
  cases r;rcases ty with⟨rfl,w,m⟩|⟨rfl,o,d,q,g⟩|⟨rfl,d⟩|⟨rfl,S,n,d⟩
  ·obtain⟨u,_,k,_⟩:=I.list m;refine⟨k.isList.typeIs,λa e=>?_⟩;cases e;obtain⟨o,n,e,c,g,_⟩:=k;exact⟨o,e,g⟩
  ·refine⟨⟨o,I.gn p o d,q⟩,λa e=>?_⟩;cases e;exact⟨o,I.gn _ o d,g⟩
  ·have z:∃o,s.heap.get? p=some o/\o.ExactDict:=by
    rcases d with⟨h,d⟩|⟨h,d⟩
    ·obtain⟨_,_,_,_,o,_,_,e,f,_⟩:=I.aQ p _ d;exact⟨o,e,f⟩
    ·obtain⟨_,_,_,_,o,_,_,e,f,_⟩:=I.aQ p _ d;exact⟨o,e,f⟩
   obtain⟨o,e,f⟩:=z;refine⟨⟨o,e,f.1⟩,λa j=>?_⟩;cases j;exact⟨o,e,f.2.1⟩
  ·obtain⟨o,_,_,_,e,f,_⟩:=I.aQ p _ d;refine⟨⟨o,e,f.1⟩,λa j=>?_⟩;cases j;exact⟨o,e,f.2.1⟩
 |_=>exact False.elim ty
def Ga(K:PySem.W.Frag)(T:String)(r:V->List V->Hp->VK->Prop)(d:TE):TE:=λf H Q=>d f H λx c=>FF K T x c/\r x [] c Q
def Gb(K:PySem.W.Frag)(T:String)(r:V->List V->Hp->VK->Prop)(f:TE)(t:TA):TE:=λd H Q=>f d H λx c=>FF K T x c/\t d c λg h=>r x g h Q
variable{o e:av}{es:List av}{to:TE}{t:TA}{name:ar}{apos cZ:aC}{T id:String}{r:V->List V->Hp->VK->Prop}
theorem xF7(pa:PlainAttrs T)(slot:Slot T name id)(l:typeOf (.builtin id)=pure (.type "method_descriptor"))(m:Cv X id r)(j:PE X o to)
  (i:attributeBase o name X.env (eval o X.env)=eval o X.env:=by rfl) (k:(apos.endLine==cZ.line)=true:=by rfl):PE X (.Call (.Attribute o name apos) [] [] cZ) (Ga X.K T r to):=by
 intro c s g H Q I h;refine wpAny_Call_method0_late i k (bz (j c s g H _ I h) λv p ⟨x,q,f,d,ty,n⟩=>?_);obtain⟨h1,h2⟩:=Mi f d ty;exact⟨T,id,pa,slot,l,h1,h2,Calls.callWith_builtin rfl (PySem.evalArgs_none (m c p g q x [] v [] Q f d .nil n))⟩
theorem qG(pa:PlainAttrs T)(slot:Slot T name id)(w:typeOf (.builtin id)=pure (.type "method_descriptor"))(y:Cv X id r)(m:PE X o to)(n:PA X (e::es) t)
  (k:attributeBase o name X.env (eval o X.env)=eval o X.env:=by rfl)
  (A:((backTo cZ (starEach (e::es) X.env)).all (λx=>!x.1)&&(backToKw cZ (keywordEach [] X.env)).all (λx=>x.1.isSome)
   && decide ((e::es).length+([]:List Keyword).length+(if([]:List Keyword).isEmpty then 0 else 1)<30))=true:=by rfl)
  (q:(apos.endLine==cZ.line)=true:=by rfl) (hs:starEach (e::es) X.env=(false,eval e X.env)::starEach es X.env:=by rfl) (i:(backTo cZ (starEach es X.env)).any (·.1)=false:=by rfl):
  PE X (.Call (.Attribute o name apos) (e::es) [] cZ) (Gb X.K T r to t):=by
 intro c s d H Q I h;refine wpAny_Call_method_late k A q rfl (bz (m c s d H _ I h) λv F ⟨x,G,g,f,ty,B⟩=>?_);obtain⟨h1,h2⟩:=Mi g f ty;refine⟨T,id,pa,slot,w,h1,h2,?_⟩;have hA:=n cZ c F d G _ g B;rw[hs]at hA ⊢;refine Calls.callWith_builtin (by show(false||(backTo cZ (starEach es X.env)).any (·.1))=false;rw[i]<;>rfl) (Calls.evalArgs_plain ?_);exact bz hA λE D ⟨u,j,p,C,l⟩=>y c D d j x u v E Q p f C l
end
def SV(X:Cx)(id:String)(r:V->List V->Hp->VK->Prop):Prop:=
 ∀(a:List (af×az))(s:ae)(c:St)(H:Hp)(x:V)(d:List V)(v:aa)(b:List aa)(Q:VK),Inv X a c H s->RelV x v->Vals d b->r x d H Q ->
  ah (ai X.prog X.w) X.A (call (.builtin id) (v::b)) (EP X a c Q) X.xe s
theorem Vals.one{x:V}{us:List aa}(h:Vals [x] us):∃u,us=[u]/\RelV x u:=by
 cases h with
 |cons r t=>cases t;exact⟨_,rfl,r⟩
theorem Vals.zero:∀{a:List aa},Vals [] a->a=[]
 |_,.nil=>rfl
section
variable{X:Cx}{j8:List (af×az)}{σ:St}{H:Hp}{s:ae}{l b:af}{xs ys zs:List V}
theorem Inv.AX{a its':List aa}{n:Nat}{f:Array aa->Array aa}{t':Nat}(I:Inv X j8 σ H s)(g:H l=some (.lst xs))
  (e:s.heap.get? l=some {cls:=.type "list",data:=.seq a.toArray n}) (h:f a.toArray=its'.toArray) (i:Vals ys its') (c:ys.length<=sizeLine):
  Inv X j8 σ (upd H l (.lst ys)) {s with heap:=s.heap.update l (Obj.mapSeq f),toks:=t'}:=by
 have q:=PySem.IsL.update e f;rw[h]at q;refine I.write (x:=l) (e:=l) (by rw[g];exact trivial) (.inl rfl) (λj u hb d=>(ZL s.heap (Obj.mapSeq f) (Xz hb)).trans d) ⟨_,q⟩ ?_;exact⟨c,its',_,i,q⟩
theorem Inv.IF{a:List aa}{t':Nat}(I:Inv X j8 σ H s)(d:Vals ys a)(c:ys.length<=sizeLine):
  Inv X j8 σ (upd H s.heap.objs.size (.lst ys)) {s with heap:=s.heap.push {cls:=.type "list",data:=.seq a.toArray},toks:=t'}:=
 I.laid (λ_ _ q=>Zd _ q) (Zb _) ⟨c,a,0,d,Zm _ rfl⟩
theorem Inv.fresh(I:Inv X j8 σ H s):H s.heap.objs.size=none:=I.aQ.fresh (Zb _)
theorem Inv.qN(I:Inv X j8 σ H s)(c:H l=some (.lst xs)):xs.length<=sizeLine/\∃(a:List aa)(n:Nat),Vals xs a/\xs.length=a.length/\s.heap.get? l=some {cls:=.type "list",data:=.seq a.toArray n}:=by
 obtain⟨z,a,n,r,e⟩:=I.aQ l _ c;exact⟨z,a,n,r,r.length,e⟩
end
section
variable{X:Cx}
inductive nY(x:V)(vs:List V)(H:Hp)(Q:VK):Prop
 |mk(l:_)(xs:_)(y:_)(e0:x=.ref l)(e1:vs=[y])(e2:H l=some (.lst xs))(e3:xs.length<sizeLine)(e4:Q .cb (upd H l (.lst (xs++[y]))))
def Hq:V->List V->Hp->VK->Prop:=λx a H Q=>nY x a H Q
theorem sS:SV X "list.append" Hq:=by
 intro i s j H x k v p Q I f c h;obtain⟨l,t,y,rfl,rfl,b,d,q⟩:=h;cases f;obtain⟨u,rfl,g⟩:=c.one;obtain⟨z,a,n,r,m,e⟩:=I.qN b;refine VP F.slot_list_append ⟨_,e,rfl⟩ F.entry_list_append (F.args_list_append_2 _ _) (PySem.list_append l a.toArray n u (by rw[ZJ];lia)) ⟨e,?_⟩;refine⟨.cb,_,I.AX (its':=a++[u]) b e (by simp) (r.append (.cons g .nil)) ?_,rfl,q⟩;rw[Zn,List.length_singleton];exact kz d
def xF8:V->List V->Hp->VK->Prop:=λx a H Q=>∃l b,x=.ref l/\a=[]/\H l=some (.lst b)/\Q .cb (upd H l (.lst []))
theorem xe2:SV X "list.clear" xF8:=by
 intro i s j H x k v m Q I f d h;obtain⟨l,p,rfl,rfl,b,q⟩:=h;cases f;have a:=d.zero;subst a;obtain⟨z,c,n,r,g,e⟩:=I.qN b;refine VP F.slot_list_clear ⟨_,e,rfl⟩ F.entry_list_clear (F.args_list_clear_1 _) (AutoSeq1.list_clear_list_0 l c.toArray n (by rw[ZJ];exact oz g z)) ⟨e,?_⟩;exact⟨.cb,_,I.AX (its':=[]) (ys:=[]) b e rfl .nil (Zt _),rfl,q⟩
inductive zC(x y:V)(H:Hp)(Q:VK):Prop
 |mk(l:_)(b:_)(xs:_)(zs:_)(e0:x=.ref l)(e1:y=.ref b)(e2:H l=some (.lst xs))(e3:H b=some (.lst zs))(e4:xs.length+zs.length<=sizeLine)(e5:∀p,H p=none->Q (.ref p) (upd H p (.lst (xs++zs))))
def zD:R2:=λx y H Q=>zC x y H Q
theorem xi:fi X (binaryOp .Add) zD:=by
 intro t s C H x y v u Q I j p h;obtain⟨l,b,A,zs,rfl,rfl,d,g,i,q⟩:=h;cases j;cases p;obtain⟨z,a,n,r,E,e⟩:=I.qN d;obtain⟨B,c,D,k,w,f⟩:=I.qN g;refine PySem.P.add_list e f ?_ (by rw[ZJ,ZJ];lia);have m:a.toArray++c.toArray=(a++c).toArray:=by simp
 rw[m];exact⟨.ref _,_,I.IF (t':=s.toks) (r.append k) (by rw[Zn];exact i),rfl,q _ I.fresh⟩
end
end L2
namespace S_
open PySem PySem.W PySem.Calls PyProof.Rows
theorem qv4{P:Params}{h:ao}:∀(c:List Int)(d:List aa),WellAll P h d (c.map WData.int)->IntsAre d c:=by
 intro c
 induction c with
 |nil=>
  intro d w;rw[Vk]at w;cases w;exact .nil
 |cons n c f=>
  intro d w;rw[ZG]at w;cases w with
  |cons a b=>
   cases a;exact .cons _ _ (f _ b)
theorem q08{l:OpenLaw}{n:Nat}(s:l.most=some n){P:Params}{h:ao}{args:List WData}{c:List aa}
  (m:l.row.toRowW.claim.pre args=true) (p:WellAll P h c args):
  ∃a k b,c=[Value.ref a]/\args=[WData.list (b.map WData.int)]/\h.get? a=some {cls:=.type "list",data:=.seq k.toArray}/\IntsAre k b/\b.length<=n:=by
 have i:WShape.hasAll [] args [.list .int]=true:=(pre_splitW m).1;have j:l.pre.holds [] {args:=args}=true:=(pre_splitW m).2;obtain⟨d,r,rfl,h1,h2⟩:=hasAllW_cons i;obtain rfl:=hasAllW_nil h2;obtain⟨B,rfl,v⟩:=hasW_list h1;obtain⟨b,rfl⟩:=items_int v;have y:b.length<=n:=by
  unfold OpenLaw.pre at j;have g:(WTm.not (.lt (.lit (.int (n:Int))) (.len (.arg 0)))).holds [] {args:=[.list (b.map .int)]}=true:=by
   have g:=(holds_andW j).1;rw[s]at g;exact g
  have f:=condW_of g (w_not (w_lt w_lit (w_len_list (w_arg rfl))));rw[Zf]at f;refine VH λq=>?_;have A:(n:Int)<((b.length:Nat):Int):=by lia
  first
   |(rw[Zh A]at f;exact absurd f (by decide))
   |(simp at f;lia)
 cases p with
 |cons x t=>
  cases t;cases x with
  |list u w=>exact⟨_,_,b,rfl,rfl,u,qv4 b _ w,y⟩
theorem q09(l:OpenLaw)(args:List WData):l.row.toRowW.claim.post args (.bool true) args=true:=
 postW_of (r:=l.row.toRowW) (X:=(true==true))
  (show WShape.has [] (.bool true) .bool=true by first|rfl|decide|simp[WShape.has,WShape.arms,WShape.armsAll])
  (show(WTm.eq .res (.lit (.bool true))).value [] {args:=args,res:=some (.bool true),after:=args}=some (.bool (true==true))from w_eq_bool (w_res rfl) w_lit) rfl
theorem ji{l:OpenLaw}{n:Nat}{q:ag}{loose:List ar}{XP:(ar->Option aa)->ao->Prop}{YP:aj->ao->Prop}{d:DefRec}
  (C:l.most=some n) (L:d.params.defaults=[])
  (call:∀(w:aj)(u b:ae)(j t:ar->Option aa)(i:af)(o:az)(s m g:aa)(a:af)(h:List aa)(k:List Int),
   Ground q loose [] XP w u j t b.heap->YP w b.heap ->
   b.heap.get? i=some o->o.data=.func (docDef d.name d.params d.body d.scope s m g)->b.heap.CodeRec m d.name->j d.name=some (.ref i) ->
   b.heap.get? a=some {cls:=.type "list",data:=.seq h.toArray}->IntsAre h k->k.length<=n->b.gens=#[] ->
   codeAny (ai l.prog w) callerA (.call (.ref i) ⟨[.ref a],[]⟩) (λr p=>r=.ok (.ret (.bool true))/\OldK b.heap p.heap/\p.os=b.os/\AllBare p.gens) b):
  WalkO q loose XP YP l.row.toRowW d [] (λf h=>PySem.call f h):=by
 intro w u b j t G Y i o s m g R kV F H I x E K y A as O v M B D;obtain rfl:R=.none:=Dflts.none x L;obtain rfl:kV=.none:=Dflts.noKw x;obtain⟨a,h,k,rfl,rfl,P,c,Q⟩:=q08 C O B;refine enter_call (WL (call w u b j t i o s m g a h k G Y F (fd_plain H) I E P c Q K) λr p S=>?_);obtain⟨rfl,h2,J,T⟩:=S;exact⟨.inl ⟨.bool true,.bool true,[],rfl,λ_=>rfl,.bool true,q09 l _,λ_=>⟨List.Pairwise.nil,λ_ N=>(nomatch N)⟩⟩,h2,J,T⟩
end S_
namespace L2
open PySem PySem.Spec PyProof.Rows
theorem PQ:∀{a:List aa}{b:List Int},IntsAre a b->Vals (b.map V.int) a
 |_,_,.nil=>.nil
 |_,_,.cons n t h=>.cons ⟨t,rfl⟩ (PQ h)
def wY(H:Hp):Prop:=∀b,H b=none\/∃o a,H b=some (.lj o (.lst a))
theorem xe3{P:ag}{w:aj}{K:PySem.W.Frag}{mg I:ar->Option aa}{CX:kl}{k:Nat}{G a:af}{T:ak}{x:ar}{sp:Sp}{c:ae}{j:List aa}{l:List Int}
  (R:K.In c.heap) (W:c.heap.Ns mainGlobals mg) (hb:c.heap.Ns builtinsNs I) (D:∀x:ar,x ≠ "__name__"->I x=bootBuiltins x) (JB:c.heap.NoLimit) (hg:c.gens=#[])
  (B:c.heap.get? a=some {cls:=.type "list",data:=.seq j.toArray}) (J:IntsAre j l) (Q:l.length<=sizeLine) (hr:aZ k callerA)
  (F:∀g:ao,K.In g->g.Ns mainGlobals mg->aE P w K mg g CX k G T [x] sp) (BU:∀(s:ae)(u:aa),BindsTo s T ⟨[u],[]⟩ [(x,u)])
  (Z:∀H:Hp,wY H->cu K H a (l.map V.int)->sp [.ref a] H (λv _=>v=.bl true) λ_ _ _=>False)
  (Y:∀H e f,CX [] H c (λ_ _ _=>False) e f->False):
  codeAny (ai P w) callerA (.call (.ref G) ⟨[.ref a],[]⟩) (λr f=>r=.ok (.ret (.bool true))/\OldK c.heap f.heap/\f.os=c.os/\AllBare f.gens) c:=by
 have L:=PQ J;have IH:=J.length;have i:∀H:Hp,wY H->cu K H a (l.map V.int)->dj P w H c.heap->(∀b,H b≠none->b=a)->(H a≠none->K.lookup a=none) ->
   codeAny (ai P w) callerA (.call (.ref G) ⟨[.ref a],[]⟩) (λr f=>r=.ok (.ret (.bool true))/\OldK c.heap f.heap/\f.os=c.os/\AllBare f.gens) c:=by
  intro H S hS M hA X;have N:∀{b:af}{o:az},c.heap.get? b=some o->H b=none->(iz c.heap H).get? b=some o:=λe n=>xd5 e n;have qJ:∀{b:af}{o:az}{A:Array DictEntry}{y:Nat},c.heap.get? b=some o->o.data=.dict A y->H b=none:=λ{b o A y} e d=>by
   cases q:H b with
   |none=>rfl
   |some u=>
    have E:b=a:=hA b (by rw[q];simp);subst E;rw[B]at e;cases e;have d':Data.seq j.toArray _=Data.dict A y:=d;cases d'
  have C:∀{b:af}{m:ar->Option aa},c.heap.Ns b m->(iz c.heap H).Ns b m:=λ{b m} ⟨o,A,y,e,d,r⟩=>⟨o,A,y,N e (qJ e d),d,r⟩;have U:K.In (iz c.heap H):=λb o e=>N (R b o e) (by
   cases q:H b with
   |none=>rfl
   |some u=>
    have E:b=a:=hA b (by rw[q];simp);subst E;rw[X (by rw[q];simp)]at e;cases e)
  have hM:Mod K mg (iz c.heap H):=⟨U,C W,⟨I,C hb,D⟩,let ⟨mc,h1,h2⟩:=JB;⟨mc,C h1,h2⟩⟩;have e0:mV P w K mg (iz c.heap H) callerA [] c H:=⟨rfl,hM,λb o e=>Us e,Vl (qZ2 _ _),trivial,λb hb=>absurd (show b∈([]:List af)from hb) (by simp),M,.of_eq hg⟩;refine WL ((F _ U (C W)).run callerA [] c H ⟨[.ref a],[]⟩ [.ref a] [.ref a] _ _ hr e0 (BU c (.ref a)) (.cons rfl .nil) (Z H S hS)) λr f h=>?_;cases r with
  |error e=>exact(Y H e f h).elim
  |ok fl=>
   cases fl with
   |next=>exact False.elim h
   |brk=>exact False.elim h
   |cont=>exact False.elim h
   |ret u=>
    obtain⟨v,H',os,t,un,Jv,r',q⟩:=h;have q':v=.bl true:=q;subst q';obtain rfl:u=Value.bool true:=r';refine⟨rfl,OldK.of_keep λb o e=>?_,os,t⟩;cases q:H b with
    |none=>exact un.keep b o e q (by intro z;exact absurd (show b∈([]:List af)from z) (by simp)) (by simp)
    |some u=>
     rcases S b with z|⟨ob,xs,z⟩
     ·rw[q]at z;cases z
     ·have z2:=un.dX b ob _ z;obtain⟨O,_⟩:=M b _ z;obtain⟨e2,_⟩:=Jv b _ z2;rw[e]at O;cases O;exact e2
 cases hk:K.lookup a with
 |some o=>
  have e:=R a o hk;rw[B]at e;cases e;refine i (λ_=>none) (λ_=>.inl rfl) (.inr ⟨_,j.toArray,_,hk,rfl,rfl,rfl,by rw[ZJ,IH];exact Q,by simpa using L⟩) (λb u z=>by have p:(none:Option HO)=some u:=z;cases p) (λb z=>absurd rfl z) λz=>absurd rfl z
 |none=>
  refine i (λb=>if b=a then some (.lj {cls:=.type "list",data:=.seq j.toArray} (.lst (l.map V.int)))else none) (λb=>?_) (.inl (.inr ⟨{cls:=.type "list",data:=.seq j.toArray},Zr rfl⟩)) (λb u z=>?_) (λb z=>?_) λ_=>hk
  ·by_cases hb:b=a
   ·exact .inr ⟨_,_,Zr hb⟩
   ·exact .inl (Zl hb)
  ·by_cases hb:b=a
   ·have p:=(Zr hb).symm.trans z;cases p;subst hb;exact⟨B,by rw[Zf];exact Q,j,_,L,B⟩
   ·have p:=(Zl hb).symm.trans z;cases p
  ·by_cases hb:b=a
   ·exact hb
   ·exact absurd (Zl hb) z
theorem Uo{l:PySem.W.OpenLaw}{n k:Nat}{q:ag}{loose:List ar}{XP:(ar->Option aa)->ao->Prop}{YP:aj->ao->Prop}{d:DefRec}{K:Params->PySem.W.Frag}{CX:aj->kl}{sp:aj->Sp}{x:ar}
  (A:l.most=some n) (M:n<=sizeLine) (N:d.params.defaults=[]) (O:aZ k callerA)
  (E:∀(w:aj)(h:ao),YP w h->(K w.params).In h)
  (F:∀(w:aj)(g:ar->Option aa)(j:af)(h:ao),(K w.params).In h->h.Ns mainGlobals g->g d.name=some (.ref j) ->
   ∃p:ak,(∀(s:ae)(u:aa),BindsTo s p ⟨[u],[]⟩ [(x,u)]) /\
    ∀b:ao,(K w.params).In b->b.Ns mainGlobals g->aE l.prog w (K w.params) g b (CX w) k j p [x] (sp w))
  (C:∀(w:aj)(H:Hp)(a:af)(i:List Int),i.length<=n->wY H->cu (K w.params) H a (i.map V.int)->sp w [.ref a] H (λv _=>v=.bl true) λ_ _ _=>False)
  (B:∀(w:aj)(H:Hp)(s:ae)(e:aa)(m:ae),CX w [] H s (λ_ _ _=>False) e m->False):
  PySem.W.WalkO q loose XP YP l.row.toRowW d [] (λf r=>PySem.call f r):=by
 refine S_.ji A N λw aH Q g mb j o Z X I a r i G Y T U W D P c t L=>?_;have y:=E w _ Y;obtain⟨p,hb,J⟩:=F w g j _ y G.T.g D;exact xe3 y G.T.g G.T.b G.T.builtins G.T.nolimit L P c (Zw t M) O J hb (λH R S=>C w H a i t R S) λH e m=>B w H Q e m
abbrev aR:kl:=λ_ _ _ _ _ _=>False
abbrev E0:XK:=λ_ _ _=>False
theorem CK{X:Cx}:xj aR X E0:=λ_ _ _ _ _ _ _ h=>h.elim
structure aT(K:PySem.W.Frag)(x qual:ar)(st:aB)(f:af)(fd:ak):Prop where
 ex:∃(oc:aa)(od:Option af)(kV doc pm:aa)(an:Option af)(bw ct:aa)(mF:Array (Option aa)),
  fd=PySem.W.fnOf x qual (qz st) (m8 st) (bF st) .none kV doc pm an bw ct/\K.lookup f=some ⟨oc,od,.func fd,mF⟩/\PySem.W.codeIn K bw qual=true
 kp:PySem.W.keepIn K (.ref f)=true
theorem aT.ok{x b:ar}{st:aB}{f:af}{g:ak}{N ps:List ar}{k:Nat}{sp:Sp}(F:aT K x b st f g)(S:aI N ps (bF st))(len:∀c H Q E,sp c H Q E->c.length=ps.length)
  (p:∀(d:aa)(A:aq)(a:List Env)(s:ae)(H:Hp)(c:List V)(Q:VK)(E:XK),aZ k (A.deeper (envOfC b (bF st) s.heap.objs.size f d))->sp c H Q E ->
   ∃t,gI (gU aR P w K mg base N b (bF st) f d A a s H E).i6 (m8 st) t/\t {nx:=λ_ i=>Q .cb i,rt:=Q} (start N c) H):aE P w K mg base aR (k+1) f g ps sp:=by
 obtain⟨C,D,kV,l,B,v,d,y,u,rfl,r,m⟩:=F.ex;refine MV r m S len λA a s H c Q E n j=>?_;obtain⟨t,h,q⟩:=p d A a s H c Q E n j;exact⟨t,h.i6,q⟩
theorem aT.binds{x a:ar}{st:aB}{f:af}{k:ak}{ps:List ar}(F:aT K x a st f k)
  (h:∀(kV b c:aa)(i:Option af)(g j:aa)(d:List aa),d.length=ps.length->bindArgs (PySem.W.fnOf x a (qz st) (m8 st) (bF st) .none kV b c i g j) ⟨d,[]⟩=pure (ps.zip d)):Binds K k ps []:=by
 obtain⟨m,l,kV,b,c,i,g,j,q,rfl,n,p⟩:=F.ex;exact .all (h kV b c i g j)
theorem Mh{x a:ar}{st:aB}{f:af}{j:aa}{i h:Option af}{m:Array (Option aa)}{kV b g d ct:aa}(l:K.lookup f=some ⟨j,i,.func (PySem.W.fnOf x a (qz st) (m8 st) (bF st) .none kV b g h d ct),m⟩)
  (c:PySem.W.codeIn K d a=true) (k:PySem.W.keepIn K (.ref f)=true):aT K x a st f (PySem.W.fnOf x a (qz st) (m8 st) (bF st) .none kV b g h d ct):=⟨⟨j,i,kV,b,g,h,d,ct,m,rfl,l,c⟩,k⟩
theorem xH{n:Nat}(h:n<=1000):n<sizeLine:=Y0 h (by decide)
section
variable{X:Cx}
theorem pv(i:Nat){x:ar}{a:aC}(b:X.N[i]?=some x:=by rfl)(f:tO X.env.scope x:=by first|exact Or.inl rfl|exact Or.inr (Or.inl rfl)|exact Or.inr (Or.inr rfl))(c:(x==("__debug__":ar))=false:=by decide)
  (d:(x==("__classdict__":ar))=false:=by decide):PE X (.Name x a) (km i):=xE8 b f c d
end
theorem bY{A B:Prop}(h:B):if false=true then A else B:=by
 rw[Zl ZH];exact h
theorem bQ{A B:Prop}(h:A):if true=true then A else B:=by
 rw[Zr rfl];exact h
theorem cM{c A B:Prop}[Decidable c](h1:c->A)(h2:¬c->B):if c then A else B:=by
 by_cases h:c
 ·rw[Zr h];exact h1 h
 ·rw[Zl h];exact h2 h
theorem E9{c A B:Prop}[Decidable c](hc:c)(h:B):if(!decide c)=true then A else B:=by
 rw[Zh hc];exact bY h
def aF(H a:Hp):Prop:=∀b o,H b=some o->a b=some o
theorem aF.refl(H:Hp):aF H H:=λ_ _ h=>h
theorem aF.trans{H d f:Hp}(a:aF H d)(b:aF d f):aF H f:=λc o h=>b c o (a c o h)
theorem aF.seq{K:PySem.W.Frag}{H b:Hp}{a:af}{xs:List V}(e:aF H b)(h:cu K H a xs):cu K b a xs:=by
 rcases h with(h|⟨o,h⟩)|h
 ·exact .inl (.inl (e _ _ h))
 ·exact .inl (.inr ⟨o,e _ _ h⟩)
 ·exact .inr h
section
variable{X:Cx}
theorem G4{env:Env}:∀{names:List (ar×NameKind)}{acc:List (ar×af)},
  (∀p∈names,p.2=.free->∃c,cellOf env p.1=pure c/\env.cells.lookup p.1=some c) ->
  (∀y c,acc.lookup y=some c->env.cells.lookup y=some c) ->
  ∃b:List (ar×af),(forIn names acc λp t=>(if p.2==.free then(do let c <- cellOf env p.1;pure (ForInStep.yield ((p.1,c)::t)))else pure (ForInStep.yield t):Sem (ForInStep (List (ar×af)))))=pure b /\
   (∀y c,b.lookup y=some c->env.cells.lookup y=some c)/\(∀y,(acc.lookup y).isSome=true->(b.lookup y).isSome=true)/\∀p∈names,p.2=.free->(b.lookup p.1).isSome=true
 |[],acc,_,j=>⟨acc,by simp,j,λ_ h=>h,λ_ h=>absurd h (by simp)⟩
 |(n,k)::r,acc,l,j=>by
  by_cases q:k=.free
  ·subst q;obtain⟨c,v,u⟩:=l (n,.free) Zu rfl;obtain⟨b,h1,h2,i,s⟩:=G4 (env:=env) (names:=r) (acc:=(n,c)::acc) (λp a=>l p (Zk _ a)) (λy d h=>by
    rw[YD]at h;cases f:y==n with
    |true=>rw[f]at h;cases h;rw[eq_of_beq f];exact u
    |false=>rw[f]at h;exact j y d h)
   refine⟨b,?_,h2,λy f=>i y (by
    rw[YD];cases y==n with
    |true=>rfl
    |false=>exact f),λp a g=>?_⟩
   ·rw[Vc];have m:cellOf env n=pure c:=v;simp only[VI,YR,m,W3];exact h1
   ·rcases ZD.mp a with rfl|a
    ·exact i _ (by simp[YD])
    ·exact s p a g
  ·obtain⟨b,h1,h2,i,s⟩:=G4 (env:=env) (names:=r) (acc:=acc) (λp a=>l p (Zk _ a)) j;refine⟨b,?_,h2,i,λp a g=>?_⟩
   ·rw[Vc];have:(k==NameKind.free)=false:=by simpa using q
    simp only[this,Zs,ZU,W3];exact h1
   ·rcases ZD.mp a with rfl|a
    ·exact absurd g q
    ·exact s p a g
def CJ(j:TI)(te:TE):TE:=λh H Q=>j h H λJ g=>∀D,g D=none->∃W:Nat->Nat->List V->Hp->Prop,(∃m,W 0 m [] (upd g D (.lst []))) /\
 ∀i m a b,W i m a b->b D=some (.lst a)/\a.length<sizeLine/\((J.stop i b/\Q (.ref D) b)\/(J.go i b/\∀y d,J.lF i b y d ->
  te (some y::h) d λv f=>f D=some (.lst a)/\∃c,c<m/\W (i+1) c (a++[v]) (upd f D (.lst (a++[v])))))
theorem qv5{scope:aA}{env:Env}(b:∀p∈scope.names,p.2=.free->∃c,env.cells.lookup p.1=some c):
  ∃a:List (ar×af),closureFor scope env=pure a/\(∀y c,a.lookup y=some c->env.cells.lookup y=some c)/\∀p∈scope.names,p.2=.free->(a.lookup p.1).isSome=true:=by
 obtain⟨a,h1,h2,_,g⟩:=G4 (env:=env) (names:=scope.names) (acc:=[]) (λp f d=>by
  obtain⟨c,e⟩:=b p f d;refine⟨c,?_,e⟩;unfold cellOf;rw[e]) (λy c h=>by simp at h)
 refine⟨a,?_,h2,g⟩;unfold closureFor;refine Eq.trans ?_ h1;simp only[bind_pure]
theorem Ae{env:Env}:∀{names:List (ar×NameKind)}{y:ar}{k:NameKind},(names.map λ(n,k)=>if(k==NameKind.free&&env.scope.kind==.function&&env.kindOf n==some .cell)then(n,NameKind.cell)else(n,k)).lookup y=some k ->
  (∀p∈names,p.2≠.cell)->(k=.cell\/k=.free)->∃p∈names,p.1=y/\p.2=.free
 |[],_,_,h,_,_=>by simp at h
 |(n,b)::r,y,k,h,g,d=>by
  rw[ZG]at h;by_cases f:y=n
  ·subst f;by_cases a:b=.free
   ·exact⟨(y,b),Zu,rfl,a⟩
   ·exfalso;have e:(b==NameKind.free)=false:=by simpa using a
    simp only[e,Bool.false_and,Zs,ZU,YD,VI,Option.some.injEq]at h;rcases d with z|z
    ·exact g _ Zu (h.trans z)
    ·exact a (h.trans z)
  ·have hb:(y==n)=false:=by simpa using f
   have i:(r.map λ(n,k)=>if(k==NameKind.free&&env.scope.kind==.function&&env.kindOf n==some .cell)then(n,NameKind.cell)else(n,k)).lookup y=some k:=by
    revert h;dsimp only;split<;>(intro h;simpa only[YD,hb]using h)
   obtain⟨p,c,e⟩:=Ae i (λp c=>g p (Zk _ c)) d;exact⟨p,Zk _ c,e⟩
theorem N_{env:Env}:∀{names:List (ar×NameKind)}{y:ar},(names.map λ(n,k)=>if(k==NameKind.free&&env.scope.kind==.function&&env.kindOf n==some .cell)then(n,NameKind.cell)else(n,k)).lookup y=some .local ->
  names.lookup y=some .local
 |[],_,h=>by simp at h
 |(n,b)::r,y,h=>by
  rw[ZG]at h;by_cases a:y=n
  ·subst a;rw[YD,VI];revert h;dsimp only;split
   ·intro h;simp[YD]at h
   ·intro h;simpa[YD]using h
  ·have hb:(y==n)=false:=by simpa using a
   rw[YD,hb];refine N_ (env:=env) ?_;revert h;dsimp only;split<;>(intro h;simpa only[YD,hb]using h)
end
section
variable{κ:Type}[DecidableEq κ]
def dA(kvs:List (κ×V))(k:κ):Option V:=(kvs.find? λkv=>decide (kv.1=k)).map (·.2)
def putK(kvs:List (κ×V))(k:κ)(v:V):List (κ×V):=
 if(kvs.any λkv=>decide (kv.1=k))=true then kvs.map (λkv=>if kv.1=k then(kv.1,v)else kv)else kvs++[(k,v)]
theorem C_{p:κ×V}{r:List (κ×V)}{k:κ}(e:p.1=k):dA (p::r) k=some p.2:=by simp[dA,XU,e]
theorem C9{p:κ×V}{r:List (κ×V)}{k:κ}(e:¬p.1=k):dA (p::r) k=dA r k:=by simp[dA,XU,e]
theorem zX(k:κ):∀a:List (κ×V),(a.any λkv=>decide (kv.1=k))=(dA a k).isSome
 |[]=>rfl
 |p::r=>by
  rw[XX];by_cases e:p.1=k
  ·simp only[C_ e,Zh e,Bool.true_or,Option.isSome_some]
  ·rw[C9 e,Zi e,Bool.false_or];exact zX k r
theorem N1(kvs:List (κ×V))(k:κ)(v:V):(putK kvs k v).length<=kvs.length+1:=by
 unfold putK;split
 ·rw[Zf];exact iO
 ·rw[Zn,Zz,XV];lia
theorem gA.c9{o:Option V}{u:Option aa}(r:gA o u):o.isSome=u.isSome:=by
 cases o with
 |none=>cases u with
  |none=>rfl
  |some _=>exact(show False from r).elim
 |some _=>cases u with
  |none=>exact(show False from r).elim
  |some _=>rfl
theorem KV.val{kvs:List (κ×V)}{d:List (κ×aa)}(r:KV kvs d)(k:κ):gA (dA kvs k) (valueAt d k):=by
 unfold KV at r
 induction r with
 |nil=>exact True.intro
 |@cons p q g c h t f=>
  obtain⟨h1,h2⟩:=h;by_cases e:p.1=k
  ·have a:q.1=k:=h1.symm.trans e;have b:valueAt (q::c) k=some q.2:=by simp[valueAt,XU,a]
   rw[C_ e,b];exact h2
  ·have a:¬q.1=k:=λz=>e (h1.trans z);have b:valueAt (q::c) k=valueAt c k:=by simp[valueAt,XU,a]
   rw[C9 e,b];exact f
theorem KV.any{kvs:List (κ×V)}{a:List (κ×aa)}(r:KV kvs a)(k:κ):(kvs.any λkv=>decide (kv.1=k))=a.any λkv=>decide (kv.1=k):=by
 unfold KV at r
 induction r with
 |nil=>rfl
 |cons h t b=>rw[XX,XX,b,h.1]
theorem KV.uu{kvs:List (κ×V)}{a:List (κ×aa)}(r:KV kvs a)(k:κ){y:V}{u:aa}(c:RelV y u):
  KV (kvs.map λkv=>if kv.1=k then(kv.1,y)else kv) (a.map λkv=>if kv.1=k then(kv.1,u)else kv):=by
 unfold KV at r ⊢
 induction r with
 |nil=>exact .nil
 |@cons p q d f h t b=>
  rw[ZG,ZG];refine .cons ?_ b;obtain⟨h1,h2⟩:=h;by_cases e:p.1=k
  ·rw[Zr e,Zr (h1.symm.trans e)];exact⟨h1,c⟩
  ·rw[Zl e,Zl (λz=>e (h1.trans z))];exact⟨h1,h2⟩
theorem KV.put{kvs:List (κ×V)}{a:List (κ×aa)}(r:KV kvs a)(k:κ){y:V}{u:aa}(b:RelV y u):KV (putK kvs k y) (stored a k u):=by
 unfold putK stored;rw[r.any k];by_cases e:(a.any λkv=>decide (kv.1=k))=true
 ·rw[Zr e,Zr e];exact r.uu k b
 ·rw[Zl e,Zl e];exact Paired.snoc r ⟨rfl,b⟩
theorem KV.keys{kvs:List (κ×V)}{a:List (κ×aa)}(r:KV kvs a):kvs.map (·.1)=a.map (·.1):=by
 unfold KV at r
 induction r with
 |nil=>rfl
 |cons h t b=>rw[ZG,ZG,b,h.1]
theorem KV.length{kvs:List (κ×V)}{a:List (κ×aa)}(r:KV kvs a):kvs.length=a.length:=Wt r
end
theorem AF{P:ag}{w:aj}{k:Key}{u:aa}(r:RelV (kV k) u):(iZ P w).is k u=true:=by
 cases k with
 |inl i=>obtain⟨t,e⟩:=(show ∃t,u=Value.int i t from r);subst e;exact qN1 P w i t
 |inr x=>obtain⟨t,e⟩:=(show ∃t,u=Value.str x t from r);subst e;exact qN2 P w x t
theorem GJ{P:ag}{w:aj}:∀{a:List Key}{b:List aa},Vals (a.map kV) b->ItemsAre (iZ P w) a b
 |[],_,r=>by rw[Vk]at r;cases r;exact .nil
 |k::a,_,r=>by
  rw[ZG]at r;cases r with
  |cons h t=>exact .cons (AF h) (GJ t)
abbrev KT(H:Hp):List (List Key×V)->List (List Key×af×aa)->Prop:=Paired λp q=>p.1=q.1/\H q.2.1=some (.tup (p.1.map kV))/\RelV p.2 q.2.2
theorem KT.val{H:Hp}{kvs:List (List Key×V)}{xs:List (List Key×af×aa)}(r:KT H kvs xs)(k:List Key):gA (dA kvs k) ((atKey xs k).map (·.2)):=by
 induction r with
 |nil=>exact True.intro
 |@cons p q f c h t d=>
  obtain⟨h1,_,h2⟩:=h;by_cases e:p.1=k
  ·have a:q.1=k:=h1.symm.trans e;have b:atKey (q::c) k=some q.2:=by simp[atKey,XU,a]
   rw[C_ e,b];exact h2
  ·have a:¬q.1=k:=λz=>e (h1.trans z);have b:atKey (q::c) k=atKey c k:=by simp[atKey,XU,a]
   rw[C9 e,b];exact d
theorem KT.uu{H:Hp}{kvs:List (List Key×V)}{xs:List (List Key×af×aa)}(r:KT H kvs xs)(k:List Key){y:V}{u:aa}(c:RelV y u):
  KT H (kvs.map λkv=>if kv.1=k then(kv.1,y)else kv) (xs.map (putAt k u)):=by
 induction r with
 |nil=>exact .nil
 |@cons p q d f h t a=>
  rw[ZG,ZG];refine .cons ?_ a;obtain⟨h1,h2,b⟩:=h;unfold putAt;by_cases e:p.1=k
  ·rw[Zr e,Zr (h1.symm.trans e)];exact⟨h1,h2,c⟩
  ·rw[Zl e,Zl (λz=>e (h1.trans z))];exact⟨h1,h2,b⟩
theorem KT.put{H:Hp}{kvs:List (List Key×V)}{xs:List (List Key×af×aa)}(r:KT H kvs xs)(k:List Key){b:af}{y:V}{u:aa}(hb:H b=some (.tup (k.map kV)))(a:RelV y u):
  KT H (putK kvs k y) (storedH xs k b u):=by
 have e:(kvs.any λkv=>decide (kv.1=k))=(atKey xs k).isSome:=by
  rw[zX,(r.val k).c9,VA]
 unfold putK storedH;rw[e];by_cases q:(atKey xs k).isSome=true
 ·rw[Zr q,Zr q];exact r.uu k a
 ·rw[Zl q,Zl q];exact Paired.snoc r ⟨rfl,hb,a⟩
theorem KT.keeps{H a:Hp}{kvs:List (List Key×V)}{xs:List (List Key×af×aa)}(r:KT H kvs xs)(d:∀b c,H b=some (.tup c)->a b=some (.tup c)):KT a kvs xs:=
 Paired.uU r λ_ _ z=>⟨z.1,d _ _ z.2.1,z.2.2⟩
section
variable{H:Hp}{h:ao}{a:af}
theorem MU{u:HO}(ok:dj P w H h)(e:Rd H a u):bc P w H h a u:=e.ok ok
theorem AE{kvs:List (Key×V)}(ok:dj P w H h)(e:Rd H a (.dK kvs)):kvs.length<=sizeLine/\(a==sysModules)=false/\∃b,KV kvs b/\h.DictOf (iZ P w) a b:=
 show bc P w H h a (.dK kvs)from MU ok e
theorem MT{kvs:List (Key×V)}(ok:dj P w H h)(e:H a=some (.dK kvs)):kvs.length<=sizeLine/\(a==sysModules)=false/\∃b,KV kvs b/\h.DictOf (iZ P w) a b:=AE ok (.inl e)
theorem As{b:List Key}(ok:dj P w H h)(e:H a=some (.tup (b.map kV))):(tupleKind (iZ P w)).is h b a:=by
 obtain⟨_,c,r,o,h1,h2,n,d⟩:=(show bc P w H h a (.tup (b.map kV))from ok a _ e);exact⟨o,c.toArray,n,h1,h2,d,by simpa using GJ r⟩
theorem AD{kvs:List (List Key×V)}(ok:dj P w H h)(e:Rd H a (.dT kvs)):kvs.length<=sizeLine/\(a==sysModules)=false /\
  ∃c,KT H kvs c/\h.DictOfH (tupleKind (iZ P w)) a c:=by
 obtain⟨z,y,c,r,o,j,f,h1,h2,k,n,i⟩:=(show bc P w H h a (.dT kvs)from MU ok e);refine⟨z,y,c,r,o,j,f,h1,h2,k,n,λx b=>?_,i⟩;have all:∀{l:List (List Key×V)}{m:List (List Key×af×aa)},KT H l m->∀x∈m,(tupleKind (iZ P w)).is h x.1 x.2.1:=by
  intro l m q
  induction q with
  |nil=>intro x b;exact nomatch b
  |@cons p q s u d t g=>
   intro x b;rcases ZD.mp b with e|b
   ·subst e;exact As ok (by rw[<- d.1];exact d.2.1)
   ·exact g x b
 exact all r x b
theorem xM9{kvs:List (List Key×V)}(ok:dj P w H h)(e:H a=some (.dT kvs)):kvs.length<=sizeLine/\(a==sysModules)=false /\
  ∃b,KT H kvs b/\h.DictOfH (tupleKind (iZ P w)) a b:=AD ok (.inl e)
end
def dN(H:Hp)(a:af)(y:V)(r:Option V):Prop:=
 (∃c k,Rd H a (.dK c)/\y=kV k/\r=dA c k)\/∃c k b,Rd H a (.dT c)/\y=.ref b/\H b=some (.tup (k.map kV))/\r=dA c k
def iJ(H:Hp)(a:af)(y v:V)(d:Hp):Prop:=
 (∃c k,H a=some (.dK c)/\y=kV k/\c.length<sizeLine/\d=upd H a (.dK (putK c k v))) \/
 ∃c k b,H a=some (.dT c)/\y=.ref b/\H b=some (.tup (k.map kV))/\c.length<sizeLine/\d=upd H a (.dT (putK c k v))
theorem dN.k{H:Hp}{a:af}{kvs:List (Key×V)}{k:Key}(e:H a=some (.dK kvs)):dN H a (kV k) (dA kvs k):=.inl ⟨kvs,k,.inl e,rfl,rfl⟩
theorem dN.t{H:Hp}{a b:af}{kvs:List (List Key×V)}{k:List Key}(e:H a=some (.dT kvs))(c:H b=some (.tup (k.map kV))):dN H a (.ref b) (dA kvs k):=.inr ⟨kvs,k,b,.inl e,rfl,c,rfl⟩
theorem iJ.k{H:Hp}{a:af}{kvs:List (Key×V)}{k:Key}{v:V}(e:H a=some (.dK kvs))(b:kvs.length<sizeLine):iJ H a (kV k) v (upd H a (.dK (putK kvs k v))):=.inl ⟨kvs,k,e,rfl,b,rfl⟩
theorem iJ.t{H:Hp}{a b:af}{kvs:List (List Key×V)}{k:List Key}{v:V}(e:H a=some (.dT kvs))(d:H b=some (.tup (k.map kV)))(c:kvs.length<sizeLine):
  iJ H a (.ref b) v (upd H a (.dT (putK kvs k v))):=.inr ⟨kvs,k,b,e,rfl,d,c,rfl⟩
section
variable{X:Cx}{j8:List (af×az)}{σ:St}{H:Hp}{s:ae}{a:af}{y v:V}{u r:aa}{o:Option V}{A:aq}{E:aa->ae->Prop}
theorem Inv.big(I:Inv X j8 σ H s):sysModules<s.heap.objs.size:=by
 have h:mainGlobals<s.heap.objs.size:=(I.mod.glob.keeps I.bk).lt;exact Xm (by decide) h
theorem q13{Q:aa->ae->Prop}(t:A.units+1<cLine)(I:Inv X j8 σ H s)(g:dN H a y (some v))(q:RelV y u)(h:∀c n,Inv X j8 σ H n->RelV v c->Q c n):
  ah (ai X.prog X.w) A (getItem (.ref a) u) Q E s:=by
 rcases g with⟨j,k,e,d,l⟩|⟨j,k,b,e,d,B,l⟩
 ·subst d;obtain⟨z,x,w,rel,m⟩:=AE I.aQ e;obtain⟨c,i,f⟩:=gA.some_of (v:=v) (o:=valueAt w k) (by rw[l];exact rel.val k);exact wpAny_getItem_of (AF q) m.mapOf i (h c _ (I.tok _) f)
 ·subst d;cases(show u=Value.ref b from q);obtain⟨z,x,F,rel,m⟩:=AD I.aQ e;obtain⟨c,i,f⟩:=gA.some_of (v:=v) (o:=(atKey F k).map (·.2)) (by rw[l];exact rel.val k);obtain⟨p,D,C⟩:=Zo.mp i;refine wpAny_getItem_heap (WF t) (As I.aQ B) m D ?_;rw[C];exact h c _ (I.tok _) f
theorem KQ{Q:aa->ae->Prop}(n:A.units+1<cLine)(I:Inv X j8 σ H s)(g:dN H a y o)(m:RelV y u)(h:∀j,Inv X j8 σ H j->Q (.bool o.isSome) j):
  ah (ai X.prog X.w) A (compareOp .In u (.ref a)) Q E s:=by
 rcases g with⟨f,k,e,c,l⟩|⟨f,k,b,e,c,p,l⟩
 ·subst c;obtain⟨z,d,t,rel,i⟩:=AE I.aQ e;refine wpAny_in_of (AF m) d i.mapOf ?_;rw[<- (rel.val k).c9,<- l];exact h _ (I.tok _)
 ·subst c;cases(show u=Value.ref b from m);obtain⟨z,d,w,rel,i⟩:=AD I.aQ e;refine wpAny_in_heap (WF n) (As I.aQ p) d i ?_;have q:=(rel.val k).c9;rw[VA]at q;rw[<- q,<- l];exact h _ (I.tok _)
theorem Um{Q:aa->ae->Prop}(n:A.units+1<cLine)(I:Inv X j8 σ H s)(g:dN H a y o)(m:RelV y u)(h:∀j,Inv X j8 σ H j->Q (.bool (!o.isSome)) j):
  ah (ai X.prog X.w) A (compareOp .NotIn u (.ref a)) Q E s:=by
 rcases g with⟨f,k,e,c,l⟩|⟨f,k,b,e,c,p,l⟩
 ·subst c;obtain⟨z,d,t,rel,i⟩:=AE I.aQ e;refine wpAny_notIn_of (AF m) d i.mapOf ?_;rw[<- (rel.val k).c9,<- l];exact h _ (I.tok _)
 ·subst c;cases(show u=Value.ref b from m);obtain⟨z,d,w,rel,i⟩:=AD I.aQ e;refine wpAny_notIn_heap (WF n) (As I.aQ p) d i ?_;have q:=(rel.val k).c9;rw[VA]at q;rw[<- q,<- l];exact h _ (I.tok _)
theorem Qv{h':ao}{t':Nat}{ob:HO}(I:Inv X j8 σ H s)(c:Cu (H a))(hs:Heap.SameBut a s.heap h')(d:∃q,h'.get? a=some q)(new:bc X.prog X.w (upd H a ob) h' a ob):
  Inv X j8 σ (upd H a ob) {s with heap:=h',toks:=t'}:=
 I.write (x:=a) (e:=a) c (.inl rfl) (λb q hb z=>(hs.2 b hb).trans z) d new
theorem xG1{P:ag}{w:aj}{c:Hp}{h':ao}{kvs:List (Key×V)}{b:List (Key×aa)}(z:kvs.length<=sizeLine)(d:(a==sysModules)=false)(rel:KV kvs b)(dd:h'.DictOf (iZ P w) a b):
  bc P w c h' a (.dK kvs):=⟨z,d,b,rel,dd⟩
theorem q15{B:Hp}{Q:Unit->ae->Prop}(L:A.units+1<cLine)(I:Inv X j8 σ H s)(g:iJ H a y v B)(K:RelV y u)(D:RelV v r)(h:∀F,Inv X j8 σ B F->Q () F):
  ah (ai X.prog X.w) A (setItem (.ref a) u r) Q E s:=by
 rcases g with⟨d,k,e,t,l,j⟩|⟨d,k,b,e,t,G,l,j⟩
 ·subst t j;obtain⟨z,n,P,rel,w⟩:=MT I.aQ e;have p:P.length<=sizeLine:=by rw[<- rel.length];exact z
  have x:(putK d k v).length<=sizeLine:=by have:=N1 d k v;exact A0 l this
  refine wpAny_setItem_pairs (hsz:=p) (AF K) w λJ f m=>h _ ?_;have O:∃q,J.get? a=some q:=let ⟨q,_,_,i,_⟩:=f;⟨q,i⟩;exact Qv I (by rw[e];exact True.intro) m O (xG1 x n (rel.put k D) f)
 ·subst t j;cases(show u=Value.ref b from K);obtain⟨z,n,T,rel,w⟩:=xM9 I.aQ e;have p:T.length<=sizeLine:=by rw[<- Wt rel];exact z
  have x:(putK d k v).length<=sizeLine:=by have:=N1 d k v;exact A0 l this
  refine wpAny_setItem_heap (hsz:=p) (WF L) (As I.aQ G) w λJ f m=>h _ ?_;obtain⟨q,S,R,i,h2,N,U,_,M⟩:=f;refine Qv I (by rw[e];exact True.intro) m ⟨q,i⟩ ⟨x,n,_,(rel.put k G D).keeps λc V C=>?_,q,S,R,i,h2,N,U,M⟩;rw[cK (xM0 C e (λz=>nomatch z))];exact C
end
def Ct(i:av):Prop:=∀b a,subscripted i false b a=operate [b,a] (getItem b a)
theorem Ul{prog:ag}{w:aj}{A:aq}{E:aa->ae->Prop}{s:ae}{env:Env}{b a:av}{g:aC}{T id:String}{Q:aa->ae->Prop}
  (p:typeLookup (.type T) "__getitem__"=pure (some (.builtin id))) (hs:Ct a)
  (h:ah (ai prog w) A (eval b env) (λo k=>ah (ai prog w) A (eval a env) (λi d=>d.TypeIs o T/\ah (ai prog w) A (getItem o i) Q E d) E k) E s):
  ah (ai prog w) A (eval (.Subscript b a g) env) Q E s:=by
 refine Subscript_ (Yw h (λo k n=>Yw n (λi d f=>?_) λ_ _ x=>x) λ_ _ x=>x);obtain⟨l,f⟩:=f;unfold subscriptTail;refine Za ?_;rw[getitemInPython_of_ne l.not_modules];refine Za (wpAny_specialOf l p ?_);have c:ah (ai prog w) A (subscripted a false o i) (λr j=>ah (ai prog w) A (letTemporaryGo b o r >>= λ_=>pure r) Q E j) E d:=by
  rw[hs o i];exact wpAny_operating (Yw f (λr j m=>Za (wpAny_letTemporaryGo (Zc m))) λ_ _ x=>x)
 first
  |exact Zc (Za c)
  |exact Za (Zc (Za c))
  |exact Za c
theorem qN6{X:Cx}{f:List (af×az)}{σ:St}{H:Hp}{s:ae}{a:af}{y:V}{o:Option V}(I:Inv X f σ H s)(g:dN H a y o):s.TypeIs (.ref a) "dict":=by
 rcases g with⟨c,k,e,_,_⟩|⟨c,k,b,e,_,_,_⟩
 ·obtain⟨_,_,h,_,d⟩:=AE I.aQ e;exact d.typeIs
 ·obtain⟨_,_,i,_,d⟩:=AD I.aQ e;exact d.typeIs
inductive tZ(Q:VK)(x y:V)(H2:Hp):Prop
 |mk(a:_)(v:_)(e0:x=.ref a)(e1:dN H2 a y (some v))(e2:Q v H2)
def xN0(b ty:TE):TE:=λa H Q=>b a H λx c=>ty a c λy d=>tZ Q x y d
inductive yX(Q:VK)(x y:V)(H2:Hp):Prop
 |mk(a:_)(o:_)(e0:x=.ref a)(e1:dN H2 a y o)(e2:Q (.bl o.isSome) H2)
def F_(ty b:TE):TE:=λa H Q=>ty a H λy c=>b a c λx d=>yX Q x y d
inductive nE(Q:VK)(x y:V)(H2:Hp):Prop
 |mk(a:_)(o:_)(e0:x=.ref a)(e1:dN H2 a y o)(e2:Q (.bl (!o.isSome)) H2)
def Uk(ty b:TE):TE:=λa H Q=>ty a H λy c=>b a c λx d=>nE Q x y d
inductive uo(D:Ends)(σ:St)(v x y:V)(H3:Hp):Prop
 |mk(a:_)(H4:_)(e0:x=.ref a)(e1:iJ H3 a y v H4)(e2:D.nx σ H4)
def xN1(f ty d:TE):TS:=λD a H=>d a H λv c=>f a c λx g=>ty a g λy b=>uo D a v x y b
section
variable{X:Cx}{o i e value:av}{pos pos' fz:aC}{td ty tv:TE}
theorem Uj(l:X.A.units+1<cLine)(n:PE X o td)(j:PE X i ty)(hs:Ct i):PE X (.Subscript o i pos) (xN0 td ty):=by
 intro b s d H Q I h;refine Ul PySem.F.slot_dict_getitem.lookup hs (bz (n b s d H _ I h) λu A ⟨x,C,p,q,t⟩=>bz (j b A d C _ p t) λG F ⟨y,k,c,B,a,v,r,g,m⟩=>?_);subst r;obtain rfl:u=Value.ref a:=q;exact⟨qN6 c g,q13 l c g B λE D w f=>⟨v,k,w,f,m⟩⟩
theorem Mf(j:X.A.units+1<cLine)(d:PE X i ty)(l:PE X o td):PC X .In i o (F_ ty td):=by
 intro b s c H Q I h;refine bz (d b s c H _ I h) λE v ⟨y,B,m,A,r⟩=>bz (l b v c B _ m r) λu D ⟨x,f,n,p,a,w,q,g,k⟩=>?_;subst q;obtain rfl:u=Value.ref a:=p;exact KQ j n g A λC t=>⟨.bl w.isSome,f,t,rfl,k⟩
theorem q16(j:X.A.units+1<cLine)(d:PE X i ty)(l:PE X o td):PC X .NotIn i o (Uk ty td):=by
 intro b s c H Q I h;refine bz (d b s c H _ I h) λE v ⟨y,B,m,A,r⟩=>bz (l b v c B _ m r) λu D ⟨x,f,n,p,a,w,q,g,k⟩=>?_;subst q;obtain rfl:u=Value.ref a:=p;exact Um j n g A λC t=>⟨.bl (!w.isSome),f,t,rfl,k⟩
theorem Qu(k:X.A.units+1<cLine)(m:PE X o td)(f:PE X i ty)(d:PE X value tv)(hs:swapsWith value (some (.Subscript o i pos')) pos.line X.env=pure false):
  PS X (.Assign [.Subscript o i pos'] value pos) (xN1 td ty tv):=by
 intro c s b H D I h;refine wpAny_Assign_Subscript (bz (d c s b H _ I h) λr F ⟨v,K,p,n,A⟩=>bz (m c F b K _ p A) λu C ⟨x,j,q,t,l⟩=>bz (f c C b j _ q l) λP M ⟨y,O,E,J,a,L,w,g,G⟩=>?_) hs;subst w;obtain rfl:u=Value.ref a:=t;exact q15 k E g J n λN B=>⟨b,L,B,G⟩
end
theorem xe6{P:ag}{w:aj}{H:Hp}(h:ao)(hb:sysModules<h.objs.size):bc P w H (h.push {cls:=.type "dict",data:=.dict #[]}) h.objs.size (.dT []):=
 ⟨Zt _,Wq.mpr (Xz (ZC hb)),[],.nil,_,#[],0,Zm _ rfl,⟨rfl,rfl,rfl⟩,rfl,rfl,Vr⟩
def xG2:TE:=λ_ H Q=>∀p,H p=none->Q (.ref p) (upd H p (.dT []))
section
variable{X:Cx}{pos:aC}
theorem Z_:PE X (.Dict [] [] pos) xG2:=λb s c H Q I h=>
 wpAny_Dict_empty ⟨.ref s.heap.objs.size,_,I.laid (a:=s.heap.objs.size) (o:=.dT []) (t':=s.toks) (λ_ _ q=>Zd _ q) (Zb _) (xe6 s.heap I.big),rfl,h _ (I.aQ.fresh (Zb _))⟩
end
end L2
namespace cS
open PySem
def g:Nat->Nat
 |0=>0
 |n+1=>5*g n+1
def F:Nat->Nat->Nat
 |0,x=>x
 |n+1,x=>5*F n x+1
theorem w_(n x:Nat):F n x=x+g n*(4*x+1):=by
 induction n with
 |zero=>simp[F,g]
 |succ n a=>
  show 5*F n x+1=x+(5*g n+1)*(4*x+1);rw[a,VB,Nat.one_mul,Xd];lia
theorem E8(m n x:Nat):F (m+n) x=F m (F n x):=by
 induction m with
 |zero=>simp[F]
 |succ m a=>
  rw[Nat.succ_add];show 5*F (m+n) x+1=5*F m (F n x)+1;rw[a]
theorem RY(n:Nat):g n=F n 0:=by
 rw[w_];simp
theorem xN2(m n:Nat):g (m+n)=g n+g m*(4*g n+1):=by
 rw[RY,E8,w_ m,<- RY n]
theorem MS:∀k:Nat,∃c,g (2^k)=2^k*(2*c+1)
 |0=>⟨0,rfl⟩
 |k+1=>by
  obtain⟨c,a⟩:=MS k;have e:g (2^(k+1))=g (2^k)*(4*g (2^k)+2):=by
   rw[YS,Nat.mul_two,xN2];generalize g (2^k)=y;rw[XM,XM];lia
  rw[e,a];refine⟨2^k*(2*c+1)*(2*c+1)+c,?_⟩;rw[YS];generalize 2^k=p;have h1:p*(2*c+1)*(4*(p*(2*c+1))+2)=p*2*((2*c+1)*(2*(p*(2*c+1))+1)):=by
   have:4*(p*(2*c+1))+2=2*(2*(p*(2*c+1))+1):=by lia
   rw[this,Xd,Xd,Nat.mul_left_comm (2*c+1) 2]
  rw[h1];congr 1;rw[XM,Nat.mul_one,Nat.mul_left_comm,XO (2*c+1) (p*(2*c+1))];lia
theorem DL(k a q:Nat):(2^k*a+q)%2^(k+1)=(2^k*(a%2)+q)%2^(k+1):=by
 have b:a=2*(a/2)+a%2:=by lia
 have:2^k*a+q=(2^k*(a%2)+q)+2^(k+1)*(a/2):=by
  have h:2^k*a+q=2^k*(2*(a/2)+a%2)+q:=by rw[<- b]
  rw[h,YS,XM,Xd];lia
 rw[this,Nat.add_mul_mod_self_left]
theorem MR:∀(k x y:Nat),∃r,r<2^k/\F r x%2^k=y%2^k
 |0,x,y=>⟨0,by decide,by simp[Nat.mod_one]⟩
 |k+1,x,y=>by
  obtain⟨r,j,e⟩:=MR k x y;obtain⟨c,f⟩:=MS k;have g:F (2^k+r) x=F r x+2^k*(2*c+1)*(4*F r x+1):=by
   rw[E8,w_ (2^k),f]
  have a:2^k*(y/2^k)+y%2^k=y:=Nat.div_add_mod y _;have b:2^k*(F r x/2^k)+F r x%2^k=F r x:=Nat.div_add_mod _ _;by_cases h:F r x/2^k%2=y/2^k%2
  ·refine⟨r,by lia,?_⟩;rw[<- b,<- a,DL,h,<- DL,e]
  ·refine⟨2^k+r,by lia,?_⟩;rw[g];generalize F r x=z at *;have o:(2*c+1)*(4*z+1)=2*(c*(4*z+1)+2*z)+1:=by
    rw[VB,Nat.one_mul,Xd];lia
   have i:z+2^k*(2*c+1)*(4*z+1)=2^k*(z/2^k+(2*(c*(4*z+1)+2*z)+1))+z%2^k:=by
    rw[Xd,o,XM (2^k) (z/2^k)];lia
   rw[i,<- a,DL,e];have d:(z/2^k+(2*(c*(4*z+1)+2*z)+1))%2=y/2^k%2:=by lia
   rw[d,<- DL]
def iL(mask:Nat):Nat->Nat->Nat->Nat
 |0,i,_=>i
 |r+1,i,p=>iL mask r (SetTable.leap mask i p).1 (SetTable.leap mask i p).2
theorem NZ(k:Nat):∀(r i:Nat),iL (2^k-1) r (i%2^k) 0=F r i%2^k
 |0,i=>rfl
 |r+1,i=>by
  have b:0<2^k:=WB k;show iL (2^k-1) r ((i%2^k*5+1+0/32)%(2^k-1+1)) (0/32)=_;have a:2^k-1+1=2^k:=by exact oH b
  have c:(i%2^k*5+1+0/32)%2^k=(5*i+1)%2^k:=by
   simp only[Nat.zero_div,Vm];rw[Nat.add_mod,Nat.mul_mod,Nat.mod_mod,<- Nat.mul_mod,<- Nat.add_mod,XO]
  rw[a,c,Nat.zero_div,NZ k r (5*i+1)];have:F r (5*i+1)=F (r+1) i:=by rw[E8 r 1 i];rfl
  rw[this]
theorem NV(mask:Nat):∀(a b i p:Nat),iL mask (a+b) i p=iL mask b (iL mask a i p) (p/32^a)
 |0,b,i,p=>by simp[iL]
 |a+1,b,i,p=>by
  rw[Nat.succ_add];show iL mask (a+b) _ _=iL mask b (iL mask a _ _) _;rw[NV mask a b];show iL mask b _ (p/32/32^a)=_;rw[Nat.div_div_eq_div_mul,YS,XO (32^a) 32]
theorem PN(mask:Nat):∀(a i p:Nat),i<mask+1->iL mask a i p<mask+1
 |0,i,p,h=>h
 |a+1,i,p,_=>PN mask a _ _ (W4 _ (Vn _))
theorem NY(k i p j:Nat)(g:i<2^k)(f:p<2^64)(b:j<2^k):∃r,r<13+2^k/\iL (2^k-1) r i p=j:=by
 have h:=PN (2^k-1) 13 i p (by lia);obtain⟨r,d,e⟩:=MR k (iL (2^k-1) 13 i p) j;refine⟨13+r,qY d,?_⟩;rw[NV];have a:p/32^13=0:=Nat.div_eq_of_lt (Xm f (by decide));have c:iL (2^k-1) 13 i p=iL (2^k-1) 13 i p%2^k:=(Nat.mod_eq_of_lt (by lia)).symm;rw[a,c,NZ,e,Nat.mod_eq_of_lt b]
theorem PM(mask i:Nat):SetTable.runEnd mask i-i<=9:=by unfold SetTable.runEnd;split<;>lia
def cG(t:aw):Nat->SetTable.Probe->SetTable.Probe
 |0,p=>p
 |n+1,p=>cG t n (t.advance p)
theorem DK(t:aw):∀(m:Nat)(p:SetTable.Probe),m<=p.more->cG t m p={p with j:=p.j+m,more:=p.more-m}
 |0,p,_=>by simp[cG]
 |m+1,p,h=>by
  have e:t.advance p={p with j:=p.j+1,more:=p.more-1}:=by
   unfold SetTable.advance;rw[Zr (by lia)]
  show cG t m (t.advance p)=_;rw[e,DK t m _ (by show m<=p.more-1;lia)];congr 1
  ·show p.j+1+m=p.j+(m+1);exact mH
  ·show p.more-1-m=p.more-(m+1);lia
theorem sL(t:aw):∀(a b:Nat)(p:SetTable.Probe),cG t (a+b) p=cG t b (cG t a p)
 |0,b,p=>by simp[cG]
 |a+1,b,p=>by rw[Nat.succ_add];exact sL t a b _
structure Head(t:aw)(i perturb:Nat)(d:Option Nat)(p:SetTable.Probe):Prop where
 e:p={j:=i,more:=SetTable.runEnd t.mask i-i,i:=i,perturb:=perturb,dummy:=d}
theorem q18{t:aw}{i q:Nat}{d:Option Nat}{p:SetTable.Probe}(h:Head t i q d p):∃n,n<=10/\Head t (SetTable.leap t.mask i q).1 (SetTable.leap t.mask i q).2 d (cG t n p):=by
 have a:=PM t.mask i;refine⟨(SetTable.runEnd t.mask i-i)+1,by lia,⟨?_⟩⟩;rw[sL,DK t _ p (by rw[h.e];exact Zb _)];show t.advance _=_;rw[h.e];unfold SetTable.advance;rw[Zl (by show ¬(SetTable.runEnd t.mask i-i)-(SetTable.runEnd t.mask i-i)>0;exact Lw)]
theorem Qt{t:aw}{d:Option Nat}:∀(r:Nat){i q:Nat}{p:SetTable.Probe},Head t i q d p->∃n,n<=10*r/\(cG t n p).j=iL t.mask r i q/\(cG t n p).dummy=d
 |0,i,q,p,h=>⟨0,Zb _,by show p.j=i;rw[h.e],by show p.dummy=d;rw[h.e]⟩
 |r+1,i,q,p,h=>by
  obtain⟨n,c,h1⟩:=q18 h;obtain⟨m,f,a,b⟩:=Qt r h1;exact⟨n+m,by lia,by rw[sL];exact a,by rw[sL];exact b⟩
theorem PL(t:aw):∀(n:Nat)(p:SetTable.Probe),(cG t n p).dummy=p.dummy
 |0,p=>rfl
 |n+1,p=>by
  show(cG t n (t.advance p)).dummy=_;rw[PL t n];unfold SetTable.advance;split<;>rfl
theorem Qs(h:Int):SetTable.bits h<2^64:=by
 unfold SetTable.bits;have:=WG h (show(0:Int)<2^64 by decide);lia
theorem meet{t:aw}{k:Nat}(b:t.mask=2^k-1)(h:Int){j:Nat}(c:j<2^k):∃n,n<10*SetTable.turns t.mask/\(cG t n (t.probeStart h)).j=j:=by
 have a:0<2^k:=WB k;have f:Head t (SetTable.bits h%(t.mask+1)) (SetTable.bits h) none (t.probeStart h):=⟨rfl⟩;obtain⟨r,i,e⟩:=NY k (SetTable.bits h%(t.mask+1)) (SetTable.bits h) j (by rw[b];have:=W4 (SetTable.bits h) a;rw[show 2^k-1+1=2^k from oH a];exact this) (Qs h) c;obtain⟨n,g,d,_⟩:=Qt r f;refine⟨n,?_,by rw[d];rw[<- b]at e;exact e⟩;unfold SetTable.turns;lia
theorem HS(j:Nat):SetTable.has #[] j=false:=by
 unfold SetTable.has;simp
theorem Qr{t:aw}(a:t.dummies=#[])(j:Nat):(t.slot j=.empty)\/∃i,t.slot j=.live i/\t.place[i]?=some j:=by
 unfold SetTable.slot;simp only;split
 ·rename_i h;exact .inr ⟨_,rfl,by simpa using h⟩
 ·rw[a,HS];exact .inl rfl
theorem q22{t:aw}(a:t.dummies=#[]){j:Nat}(h:j∉t.place.toList):t.slot j=.empty:=by
 rcases Qr a j with e|⟨i,_,e⟩
 ·exact e
 ·refine absurd ?_ h;have:=Array.mem_of_getElem? e;simpa using this
theorem Me:∀(n:Nat)(l:List Nat),l.length<n->∃j,j<n/\j∉l
 |0,l,h=>absurd h (Yp _)
 |n+1,l,h=>by
  by_cases a:n∈l
  ·obtain⟨j,b,c⟩:=Me n (l.erase n) (by rw[List.length_erase_of_mem a];have:=List.length_pos_of_mem a;lia);refine⟨j,mI b,λm=>c ?_⟩;exact(List.mem_erase_of_ne (by lia)).mpr m
  ·exact⟨n,YE n,a⟩
structure cw(t:aw)(n:Nat):Prop where
 pl:t.place.size=n
 du:t.dummies=#[]
 ma:∃k,t.mask=2^k-1/\1<=k
 le:n<=t.mask
theorem cw.fill{t:aw}{n:Nat}(h:cw t n):t.fill=n:=by unfold SetTable.fill;rw[h.pl,h.du];rfl
theorem cw.way{t:aw}{n:Nat}(h:cw t n):t.gaveWay=false:=by
 obtain⟨k,e,b⟩:=h.ma;unfold SetTable.gaveWay;rw[e];obtain⟨k,rfl⟩:∃m,k=m+1:=⟨k-1,by lia⟩;have:=WB k;have a:(2^(k+1)-1)%2=1:=by rw[YS];lia
 rw[a]
 rfl
theorem cw.meets{t:aw}{n:Nat}(g:cw t n)(h:Int):∃m,m<10*SetTable.turns t.mask/\t.slot (cG t m (t.probeStart h)).j=.empty:=by
 obtain⟨k,e,_⟩:=g.ma;have f:=WB k;obtain⟨j,a,d⟩:=Me (2^k) t.place.toList (by simp only[ZP,g.pl];have:=g.le;lia);obtain⟨m,b,c⟩:=meet e h a;exact⟨m,b,by rw[c];exact q22 g.du d⟩
theorem Ha{α:Type}(xs:Array α)(p:Nat)(x:α):(SetTable.insertAt xs p x).size=xs.size+1:=by
 unfold SetTable.insertAt;simp;lia
theorem cw.put{t:aw}{n:Nat}(g:cw t n)(a:t.tooFull=false)(j:Nat):cw (t.put j).1 (n+1):=by
 have e:(t.put j).1={t with place:=SetTable.insertAt t.place (SetTable.below t.place j) j}:=by
  unfold SetTable.put;simp only;rw[g.du,HS];simp[g.du]
 rw[e];refine⟨by rw[Ha,g.pl],g.du,g.ma,?_⟩;show n+1<=t.mask;unfold SetTable.tooFull at a;rw[g.fill]at a;have:=Yx a;lia
theorem PK{mask:Nat}{owner:Array (Option Nat)}:∀(f r i p:Nat),r<f->(owner.getD (iL mask r i p) (some 0)).isNone=true ->
  ∃j,SetTable.layClean.free mask owner f i p=some j/\(owner.getD j (some 0)).isNone=true
 |0,r,i,p,h,_=>absurd h (Yp _)
 |f+1,r,i,p,h,a=>by
  unfold SetTable.layClean.free;cases e:(List.range (SetTable.runEnd mask i+1-i)).find? λk=>(owner.getD (i+k) (some 0)).isNone with
  |some k=>
   have:=List.find?_some e;exact⟨i+k,rfl,this⟩
  |none=>
   cases r with
   |zero=>
    have b:∀x∈List.range (SetTable.runEnd mask i+1-i),¬(owner.getD (i+x) (some 0)).isNone=true:=by simpa using e
    have c:0∈List.range (SetTable.runEnd mask i+1-i):=Yv.mpr (by unfold SetTable.runEnd;split<;>lia);exact absurd a (b 0 c)
   |succ r=>exact PK f r _ _ (oJ h) a
def cnt(owner:Array (Option Nat)):Nat:=(owner.toList.filter Option.isSome).length
theorem N7:∀(l:List (Option Nat))(j k:Nat),l[j]?=some none->((l.set j (some k)).filter Option.isSome).length=(l.filter Option.isSome).length+1
 |[],j,k,h=>by simp at h
 |a::l,0,k,h=>by
  have:a=none:=by simpa using h
  subst this;simp
 |a::l,j+1,k,h=>by
  have b:=N7 l j k (by simpa using h);rw[List.set_cons_succ,Y1,Y1];split
  ·rw[Zz,Zz,b]
  ·exact b
theorem Qq:∀(l:List (Option Nat)),(l.filter Option.isSome).length<l.length->∃j:Nat,l[j]?=some none
 |[],h=>by simp at h
 |none::l,_=>⟨0,rfl⟩
 |some a::l,h=>by
  obtain⟨j,b⟩:=Qq l (by simpa using h);exact⟨j+1,by simpa using b⟩
structure Laid(mask:Nat)(owner:Array (Option Nat))(K:Nat):Prop where
 sz:owner.size=mask+1
 ct:cnt owner=K
 lt:∀v,some v∈owner.toList->v<K
theorem Laid.step{mask k K:Nat}{owner:Array (Option Nat)}(n:mask=2^k-1)(g:Laid mask owner K)(m:K<=mask)(h:Int):
  ∃j,SetTable.layClean.free mask owner (SetTable.turns mask) (SetTable.bits h%(mask+1)) (SetTable.bits h)=some j/\Laid mask (owner.setIfInBounds j (some K)) (K+1):=by
 have t:=WB k;obtain⟨c,i⟩:=Qq owner.toList (by
  have:=g.ct;unfold cnt at this;rw[this,ZP,g.sz];exact uW m)
 have s:c<mask+1:=by
  have:=(cF i).1;rw[ZP,g.sz]at this;exact this
 have f:mask+1=2^k:=by lia
 obtain⟨r,u,l⟩:=NY k (SetTable.bits h%(mask+1)) (SetTable.bits h) c (by rw[<- f];exact W4 _ (Vn _)) (Qs h) (m_ s f);rw[<- n]at l;have d:∀j,(owner.getD j (some 0)).isNone=true<->owner.toList[j]?=some none:=λj=>by
  rw[Z5];by_cases b:j<owner.size
  ·simp[Array.getD,b]
  ·simp[Array.getD,b]
 obtain⟨j,q,b⟩:=PK (mask:=mask) (owner:=owner) (SetTable.turns mask) r _ _ (by unfold SetTable.turns;lia) (by rw[l];exact(d c).mpr i);have p:=(d j).mp b;refine⟨j,q,by rw[Ww];exact g.sz,?_,λv a=>?_⟩
 ·unfold cnt;rw[Wf,N7 _ _ _ p];have:=g.ct;unfold cnt at this;rw[this]
 ·rw[Wf]at a;rcases List.mem_or_eq_of_mem_set a with a|a
  ·have:=g.lt v a;exact mI this
  ·have:v=K:=by simpa using a
   lia
theorem O3{mask k:Nat}(l:mask=2^k-1):∀(b:List Int)(a:Array (Option Nat))(K:Nat),Laid mask a K->K+b.length<=mask ->
  ∃i,(b.foldl (λ(c:Option (Array (Option Nat)×Nat)) (h:Int)=>do
   let (a,k) <- c
   let j <- SetTable.layClean.free mask a (SetTable.turns mask) (SetTable.bits h%(mask+1)) (SetTable.bits h)
   pure (a.setIfInBounds j (some k),k+1)) (some (a,K)))=some (i,K+b.length)/\Laid mask i (K+b.length)
 |[],a,K,g,_=>⟨a,rfl,g⟩
 |h::b,a,K,g,f=>by
  rw[Zz]at f;obtain⟨j,p,q⟩:=g.step l (gQ f) h;obtain⟨n,m,d⟩:=O3 l b _ (K+1) q (LC f);refine⟨n,?_,by rw[Zz,show K+(b.length+1)=K+1+b.length from LG];exact d⟩;rw[Z3,Zz,show K+(b.length+1)=K+1+b.length from LG,<- m];congr 1;show(SetTable.layClean.free mask a (SetTable.turns mask) (SetTable.bits h%(mask+1)) (SetTable.bits h)).bind _=_;rw[p]
  rfl
theorem Ui{mask k:Nat}(c:mask=2^k-1)(hs:Array Int)(f:hs.size<=mask):∃a,SetTable.layClean mask hs=some a/\Laid mask a hs.size:=by
 have b:Laid mask (Array.replicate (mask+1) none) 0:=⟨by simp,by unfold cnt;simp,λv d=>by simp at d⟩;obtain⟨o,e,g⟩:=O3 c hs.toList _ 0 b (by simpa using f);refine⟨o,?_,by simpa using g⟩;unfold SetTable.layClean;rw[<- Vs,e]
 rfl
theorem HR{α b:Type}{f g:α->Option b}:∀(l:List α),(∀x∈l,f x=g x)->l.filterMap f=l.filterMap g
 |[],_=>rfl
 |a::l,h=>by
  rw[ZT,ZT,h a Zu,HR l λx c=>h x (Zk _ c)]
theorem O0:∀(l:List (Option Nat))(a:Nat),((List.range' a l.length).filterMap λj=>((l[j-a]?).getD none).map (λv=>(j,v))).length=(l.filter Option.isSome).length
 |[],a=>rfl
 |x::l,a=>by
  rw[Zz,List.range'_succ,ZT];have b:=O0 l (a+1);have e:(List.range' (a+1) l.length).filterMap (λj=>(((x::l)[j-a]?).getD none).map (λv=>(j,v)))=(List.range' (a+1) l.length).filterMap λj=>((l[j-(a+1)]?).getD none).map (λv=>(j,v)):=by
   refine HR _ λj c=>?_;have:=(List.mem_range'_1.mp c).1;obtain⟨d,rfl⟩:∃d,j=a+1+d:=⟨j-(a+1),u4 this⟩;rw[show a+1+d-a=d+1 by lia,show a+1+d-(a+1)=d from u7,List.getElem?_cons_succ]
  rw[e,Vo];cases x with
  |none=>simpa using b
  |some v=>simpa using b
theorem q24{mask k finger moves:Nat}{led plain:Bool}(h:mask=2^k-1)(h1:1<=k)(hs:Array Int)(i:hs.size<=mask):
  ∃t c,SetTable.laid mask finger moves led plain hs=some (t,c)/\cw t hs.size/\t.mask=mask/\t.led=led/\t.moves=moves/\c.size=hs.size/\∀v∈c,v<hs.size:=by
 obtain⟨b,e,g⟩:=Ui h hs i;have m:∀a:Nat,(List.range (mask+1)).filterMap (λj=>(b.getD j none).map (λv=>(j,v)))=(List.range' 0 b.toList.length).filterMap λj=>((b.toList[j-0]?).getD none).map (λv=>(j,v)):=λ_=>by
  rw[ZP,g.sz,<- List.range_eq_range'];refine HR _ λj f=>?_;have d:=Yv.mp f;rw[Nat.sub_zero,Z5];simp[Array.getD,g.sz,d]
 have len:((List.range (mask+1)).filterMap (λj=>(b.getD j none).map (λv=>(j,v)))).length=hs.size:=by
  rw[m 0,O0,<- g.ct]
  rfl
 refine⟨_,_,by unfold SetTable.laid;rw[e];rfl,⟨?_,rfl,⟨k,h,h1⟩,i⟩,rfl,rfl,rfl,?_,λv s=>?_⟩
 ·show((((List.range (mask+1)).filterMap (λj=>(b.getD j none).map (λv=>(j,v)))).map (·.1)).toArray).size=_;rw[ZJ,Zf,len]
 ·show((((List.range (mask+1)).filterMap (λj=>(b.getD j none).map (λv=>(j,v)))).map (·.2)).toArray).size=_;rw[ZJ,Zf,len]
 ·have n:v∈((List.range (mask+1)).filterMap (λj=>(b.getD j none).map (λv=>(j,v)))).map (·.2):=by simpa using s
  obtain⟨q,p,rfl⟩:=Yi.mp n;obtain⟨j,f,r⟩:=WE.mp p;obtain⟨l,ev,rfl⟩:=Zo.mp r;refine g.lt l ?_;have d:=Yv.mp f;have:b[j]'(by rw[g.sz];exact d)=some l:=by simpa[Array.getD,g.sz,d]using ev
  rw[<- this];simp
theorem PJ:∀(f k n:Nat),3<=k->n<2^(k+f)->∃a,SetTable.sizeAbove.go n f (2^k)=2^a/\3<=a/\n<2^a/\(2^k<=2*n+8->2^a<=2*n+8)
 |0,k,n,b,h=>⟨k,rfl,b,h,λz=>z⟩
 |f+1,k,n,b,h=>by
  unfold SetTable.sizeAbove.go;by_cases c:2^k<=n
  ·rw[Zr c,<- YS];obtain⟨a,e,h1,h2,d⟩:=PJ f (k+1) n (tj b) (by rw[show k+1+f=k+(f+1)from mH];exact h);exact⟨a,e,h1,h2,λ_=>d (by rw[YS];lia)⟩
  ·rw[Zl c];exact⟨k,rfl,b,by lia,λz=>z⟩
theorem N6{n:Nat}(h:n<2^60):∃k,SetTable.sizeAbove n=2^k/\3<=k/\n<2^k/\2^k<=2*n+8:=by
 obtain⟨k,e,h1,h2,a⟩:=PJ 64 3 n (by decide) (Xm h (by decide));exact⟨k,e,h1,h2,a (by show 8<=2*n+8;exact uX)⟩
theorem qN7{t:aw}{hs:Array Int}{wanted:Nat}(hw:wanted<2^60)(j:hs.size<wanted):
  ∃b a,t.relaid hs wanted=some (b,a)/\cw b hs.size/\wanted<=b.mask/\b.mask<=2*wanted+8/\b.led=t.led/\a.size=hs.size/\∀v∈a,v<hs.size:=by
 obtain⟨k,e,h1,h2,h⟩:=N6 hw;obtain⟨b,a,d,g,c,f,_,i,ev⟩:=q24 (mask:=2^k-1) (k:=k) (finger:=t.finger) (moves:=t.movedTo (2^k-1)) (led:=t.led) (plain:=t.plain) rfl (by lia) hs (by lia);refine⟨b,a,?_,g,by rw[c];exact ky h2,by rw[c];exact qT h,f,i,ev⟩;unfold SetTable.relaid;rw[e];exact d
theorem Ac{α:Type}{es:Array α}{b:Array Nat}(h:∀v∈b,v<es.size):(b.filterMap (es[·]?)).size=b.size:=by
 rw[<- ZP,Array.toList_filterMap,<- ZP (xs:=b)];have:∀l:List Nat,(∀v∈l,v<es.size)->(l.filterMap (es[·]?)).length=l.length:=λl=>by
  induction l with
  |nil=>intro _;rfl
  |cons a l f=>
   intro d;rw[ZT];have g:=d a Zu;rw[show es[a]?=some es[a] by simp[g]];simp[f λv c=>d v (Zk _ c)]
 exact this _ λv c=>h v (by simpa using c)
end cS
namespace cS
open PySem PySem.Spec PyProof.Rows
section
variable{K:Type}[DecidableEq K]{knd:KeyKind prog w K}{A:aq}{E:aa->ae->Prop}{s:ae}
theorem qw0(n:Nat){v:aa}(h:carriedByValue v=true):ofAClassStatement n v=pure false:=by
 cases v with
 |ref a=>simp[carriedByValue]at h
 |_=>first|rfl|(unfold ofAClassStatement;rfl)|(cases n<;>rfl)
theorem eI{M:Model}{a:af}{o:az}{items:Array aa}{n:Nat}{Q:Option (Array aa)->ae->Prop}(b:s.heap.get? a=some o)(c:o.data=.seq items n)(h:Q (some items) s):
  ah M A (seqItems? (.ref a)) Q E s:=Vt b c h
theorem N9{q:List K}{a:af}{Q:Bool->ae->Prop}(i:IsTupleKey knd s.heap q a)(h:Q false s):ah (ai prog w) A (ofAClassStatement 8 (.ref a)) Q E s:=by
 have j:=i.typeIs;obtain⟨o,c,n,k,_,l,p⟩:=i;unfold ofAClassStatement;refine Za (VO j ?_);show ah _ _ ((if("tuple"=="tuple")=true then pure true else isSubtype (.type "tuple") (.type "tuple")) >>= _) _ _ s;rw[Zr (by decide)];refine Za (Zc ?_);simp only[YJ,Zs,ZU];refine Za (eI k l ?_);dsimp only;refine Za ?_;rw[<- Array.forIn_toList];refine Wn _ (λb r d=>r.1=none/\d=s/\∀v∈b,carriedByValue v=true) _ ?_ ?_ _ _ ⟨rfl,rfl,p.byValue⟩
 ·rintro v b r d ⟨f,rfl,g⟩;rw[qw0 _ (g v Zu)];refine Za (Zc ?_);simp only[Zs,ZU];exact Zc ⟨rfl,rfl,λu m=>g u (Zk _ m)⟩
 ·rintro⟨x,t⟩ d ⟨f,rfl,_⟩;simp only at f;subst f;exact Zc h
theorem xG5{p:List K}{a:af}{Q:Bool->ae->Prop}(k:IsTupleKey knd s.heap p a)(h:Q false s){c:List aa}(m:∀y∈c,∃b f,y=.ref b/\IsTupleKey knd s.heap f b):
  ah (ai prog w) A (searchCouldBeSeen (.ref a) c) Q E s:=by
 unfold searchCouldBeSeen;refine Za ?_;refine Wn _ (λd r g=>r.1=none/\g=s/\∀y∈d,∃b f,y=.ref b/\IsTupleKey knd s.heap f b) _ ?_ ?_ _ _ ⟨rfl,rfl,m⟩
 ·rintro y d r g ⟨i,rfl,j⟩;obtain⟨b,f,rfl,hb⟩:=j y Zu;have l:∀y∈d,∃b f,y=.ref b/\IsTupleKey knd g.heap f b:=λu n=>j u (Zk _ n);dsimp only;split
  ·exact Zc ⟨rfl,rfl,l⟩
  ·refine Za (wpAny_eqIsQuiet_tuple k ?_);simp only[YJ,Zs,ZU];refine Za (wpAny_eqIsQuiet_tuple hb ?_);simp only[YJ,Zs,ZU];refine Za (N9 k ?_);simp only[Zs,ZU];refine Za (N9 hb ?_);simp only[Zs,ZU];exact Zc ⟨rfl,rfl,l⟩
 ·rintro⟨t,q⟩ g ⟨i,rfl,_⟩;simp only at i;subst i;exact Zc h
def Hb(v:aa):Prop:=∃b,∀n,hashByValue n v=pure b
theorem Hb.int(k:Int)(t:Tok):Hb (.int k t):=⟨true,λn=>by cases n<;>rfl⟩
theorem Hb.str(x:ar)(t:Tok):Hb (.str x t):=⟨false,λn=>by cases n<;>rfl⟩
theorem qH6{a:af}{o:az}{items:Array aa}{n:Nat}{Q:Bool->ae->Prop}(i:s.heap.get? a=some o)(hc:o.cls=.type "tuple")(j:o.data=.seq items n)(l:∀v∈items.toList,Hb v)(h:∀b,Q b s):
  ah (ai prog w) A (hashByValue 8 (.ref a)) Q E s:=by
 have m:s.TypeIs (.ref a) "tuple":=⟨o,i,hc⟩;unfold hashByValue;refine Za (wpAny_specialOf m F.slot_tuple_hash.lookup ?_);dsimp only;refine Za (eI i j ?_);dsimp only[Option.getD];refine Za ?_;rw[<- Array.forIn_toList];refine Wn _ (λc r d=>r.1=none/\d=s/\∀v∈c,Hb v) _ ?_ ?_ _ _ ⟨rfl,rfl,l⟩
 ·rintro v c r d ⟨f,rfl,g⟩;obtain⟨b,hb⟩:=g v Zu;rw[hb];refine Za (Zc ?_);cases b with
  |true=>
   simp only[YJ,Zs,ZU];exact Zc ⟨rfl,rfl,λu k=>g u (Zk _ k)⟩
  |false=>
   simp only[WN,YR];exact Zc (Zc (h false))
 ·rintro⟨q,p⟩ d ⟨f,rfl,_⟩;simp only at f;subst f;exact Zc (h true)
theorem cw.fits{t:aw}{n:Nat}(g:cw t n):t.fits n=true:=by
 unfold SetTable.fits;rw[g.pl,g.fill];simp[g.le]
theorem GF{h:ao}{a b:af}{o:az}{i:List K}{es:Array (Int×aa)}{ep:Nat}{t:aw}(x:IsTupleKey knd h i b)(f:h.get? a=some o)(g:o.data=.set es ep t):b≠a:=by
 rintro rfl;obtain⟨j,c,n,k,_,d,_⟩:=x;obtain rfl:j=o:=ZE (k.symm.trans f);rw[g]at d;exact nomatch d
theorem Dm{h h':ao}{a b:af}{d:List K}(x:IsTupleKey knd h d b)(f:b≠a)(hs:Heap.SameBut a h h'):IsTupleKey knd h' d b:=by
 obtain⟨k,c,n,l,i,g,j⟩:=x;exact⟨k,c,n,(hs.2 b f).trans l,i,g,j⟩
theorem Qp{h:ao}{a:af}{o:az}{es es':Array (Int×aa)}{ep:Nat}{t t':aw}(c:h.get? a=some o)(b:o.data=.set es ep t):
  (h.update a (Obj.putSet es' t')).get? a=some {o with data:=.set es' (ep+1) t'}:=by
 have:=YH (Obj.putSet es' t') c (by rw[putSet_of es' t' b];rfl);rw[putSet_of es' t' b]at this;exact this
end
section
variable{K:Type}[DecidableEq K]{knd:KeyKind prog w K}
def fX(knd:KeyKind prog w K)(h:ao)(c:List K)(b:af):Prop:=∃o a n,h.get? b=some o/\o.cls=.type "tuple" /\ o.data=.seq a n/\ItemsAre knd c a.toList/\∀v∈a.toList,Hb v
theorem fX.key{h:ao}{a:List K}{b:af}(x:fX knd h a b):IsTupleKey knd h a b:=let ⟨o,items,n,h1,h2,h3,h4,_⟩:=x;⟨o,items,n,h1,h2,h3,h4⟩
theorem fX.hb{h:ao}{g:List K}{b:af}(x:fX knd h g b):∀o a m,h.get? b=some o->o.data=.seq a m->∀v∈a.toList,Hb v:=λo a m d i=>by
 obtain⟨l,j,k,h1,_,c,_,f⟩:=x;rw[d]at h1;cases h1;rw[i]at c;cases c;exact f
theorem fX.at{h h':ao}{a:List K}{b:af}(x:fX knd h a b)(k:∀o,h.get? b=some o->h'.get? b=some o):fX knd h' a b:=let ⟨o,items,n,h1,r⟩:=x;⟨o,items,n,k o h1,r⟩
variable{R:Result->ae->Prop}{I:af}{fp wr:List af}{G:Array GenState->Array GenState->Prop}{n:Nat}{P:Nat->aa->Prop}{St:Nat->ae->Prop}
def E7(knd:KeyKind prog w K)(S:af)(wr:List af)(P:Nat->aa->Prop)(val:Nat->List K)(h:ao):Prop:=∀i v,P i v->∃b,v=.ref b/\b≠S/\b∉wr/\fX knd h (val i) b
def xN3(knd:KeyKind prog w K)(wr:List af)(h:ao):Prop:=∀b∈wr,¬∃a,IsTupleKey knd h a b
end
end cS
namespace cS
open PySem PySem.Spec
section
variable{K:Type}[DecidableEq K]{knd:KeyKind prog w K}{A:aq}{E:aa->ae->Prop}{s:ae}
abbrev gj(led:Bool):az:={cls:=.type "set",dict:=none,data:=.set #[] 0 (.fresh 0 0 led)}
end
end cS
namespace L2
open PySem PySem.Spec PyProof.Rows PySem.W
def xN4(h base:ao)(e:af)(cls d:aa):Prop:=∃b a T oT c,h.get? e=some b/\b.cls=cls/\b.data=.fields a/\a[1]?=some (.ref T)/\a[2]?=some .none/\base.get? T=none/\T≠e/\h.get? T=some oT/\oT.data=.fields c/\c[3]?=some d
structure Over(base:ao)(l:List Env)(e:af)(cls fl:aa)(h:ao):Prop where
 stays:base.StaysIn h
 new:base.get? e=none
 frames:h.FunFrames base l
 ou:xN4 h base e cls fl
section
variable{M:Model}{A:aq}{E:aa->ae->Prop}{s:ae}{base:ao}{env:Env}{outer:List Env}{L e:af}{oe:az}{vs:Array aa}{head:aa}{rD:Bool}
theorem PH{Q:Unit->ae->Prop}(x:A.frames=some (env::outer))(k:s.heap.FunFrames base (env::outer))(B:env.frame=some L)(j:s.heap.get? e=some oe)(kb:base.StaysIn s.heap)(ne:base.get? e=none)
  (c:oe.data=.fields vs) (h2:vs[2]?=some .none) (F:∀l,Over base (env::outer) e oe.cls (rawInt L) l->s.heap.UpToSlots l->Q () {s with heap:=l}):
  ah M A (do let a <- frameOf env;let h <- entryPlaceOf L rD;let b <- EntryCells.newEntry head a .none (rawInt L) .none h;setField (.ref e) 1 b) Q E s:=by
 have r:1<vs.size:=Xm (by decide) (ZK.mp h2).1;have C:e∉(env::outer).filterMap (·.frame):=λz=>by
  obtain⟨_,o,g,y⟩:=k.mem z;rw[j]at g;cases g;exact y vs c
 refine Za (wpAny_frameOf_fun x k B λf i=>?_);refine Za (wpAny_entryPlaceOf λh D=>?_);unfold EntryCells.newEntry newFields;refine Za (ZW ?_ (D.sizeOk5 _ _ _ _ _));dsimp only;have u:f.get? e=some oe:=(i.2.1 e C).trans j;have w:base.StaysIn f:=λb o q=>(i.2.1 b (λz=>by rw[(k.mem z).1]at q;cases q)).trans (kb b o q);have m:(([head,.ref L,.none,rawInt L,.none]++(if h.isEmpty then List.replicate 6 Value.none else h)).toArray:Array aa)[3]?=some (rawInt L):=by
  simp
 generalize ([head,.ref L,.none,rawInt L,.none]++(if h.isEmpty then List.replicate 6 Value.none else h)).toArray=v at m;have t:(f.push {cls:=.type "traceback",dict:=none,data:=.fields v}).get? e=some oe:=Zd _ u;have n:f.objs.size≠e:=Wm (Zj u);refine Y6 t c r (F _ ⟨?_,ne,?_,?_⟩ ?_)
 ·exact λb o q=>(ZL _ _ (λz=>by rw[z,q]at ne;cases ne)).trans (Zd _ (w b o q))
 ·refine k.of_keeps λb o q d=>?_;obtain⟨p,g⟩:=i.2.2 b o q;exact⟨_,(ZL _ _ (λz=>by rw[<- z,j]at q;cases q;exact d vs c)).trans (Zd _ g),rfl⟩
 ·refine⟨_,_,f.objs.size,_,v,YH _ t (Xi (Yy c _)),WO _ _,Yy c _,by simp[r],?_,w.fresh,n,(ZL _ _ (Xz n)).trans (Zm f rfl),rfl,m⟩;rw[Array.getElem?_setIfInBounds_ne (by decide)];exact h2
 ·intro b o q d;obtain⟨p,g⟩:=i.2.2 b o q;exact⟨p,(ZL _ _ (λz=>by rw[<- z,j]at q;cases q;exact d vs c)).trans (Zd _ g)⟩
theorem Dq{Q:Unit->ae->Prop}{l:List Env}{cls u:aa}(O:Over base l e cls u s.heap)(v:∀f,Over base l e cls .none f->s.heap.UpToSlots f->Q () {s with heap:=f}):ah M A (setFlight (.ref e) none) Q E s:=by
 obtain⟨r,n,t,oe,vs,T,oT,k,i,p,h,h1,h2,c,g,a,dT,m⟩:=O;have j:=(ZK.mp m).1;unfold setFlight;refine Za (Yb i h h1 ?_);rw[Zr (by simp)];refine Y6 a dT j (v _ ⟨?_,n,?_,?_⟩ ?_)
 ·exact λb o q=>(ZL _ _ (λz=>by rw[z,q]at c;cases c)).trans (r b o q)
 ·exact t.of_keeps λb o q d=>⟨o,(ZL _ _ (λz=>by rw[<- z,a]at q;cases q;exact d k dT)).trans q,rfl⟩
 ·exact⟨oe,vs,T,_,_,(ZL _ _ g).trans i,p,h,h1,h2,c,g,YH _ a (Xi (Yy dT _)),Yy dT _,by simp[j]⟩
 ·exact λb o q d=>⟨o.slots,(ZL _ _ (λz=>by rw[<- z,a]at q;cases q;exact d k dT)).trans q⟩
theorem qV7{Q:Unit->ae->Prop}(f:A.frames=some (env::outer))(h:s.heap.FunFrames base (env::outer))(b:env.frame=some L)(d:s.heap.get? e=some oe)(kb:base.StaysIn s.heap)(ne:base.get? e=none)
  (c:oe.data=.fields vs) (h1:vs[1]?=some .none) (h2:vs[2]?=some .none) (g:∀a,Over base (env::outer) e oe.cls (rawInt L) a->s.heap.UpToSlots a->Q () {s with heap:=a}):ah M A (noteFrame (.ref e) env) Q E s:=by
 unfold noteFrame;simp only[b];refine Za (Yb d c h1 ?_);rw[Zl (by decide)];exact PH f h b d kb ne c h2 g
theorem PF{Q:Unit->ae->Prop}{cls:aa}(m:A.frames=some (env::outer))(g:env.frame=some L)(O:Over base (env::outer) e cls .none s.heap)(B:∀a,Over base (env::outer) e cls (rawInt L) a->s.heap.UpToSlots a->Q () {s with heap:=a}):
  ah M A (noteFrame (.ref e) env) Q E s:=by
 obtain⟨t,p,w,oe,vs,T,oT,x,j,r,h,h1,h2,f,n,c,dT,i⟩:=O;subst r;have u:=(ZK.mp i).1;unfold noteFrame;simp only[g];refine Za (Yb j h h1 ?_);rw[Zr (by simp)];refine Za (Yb c dT i ?_);rw[Zl (by simp[rawInt])];refine Za (Y6 c dT u ?_);have k:∀b o,s.heap.get? b=some o->(∀l,o.data≠.fields l)->T≠b:=λb o q d z=>by rw[<- z,c]at q;cases q;exact d x dT
 refine PH (s:={s with heap:=_}) m ?_ g ((ZL _ _ n).trans j) ?_ p h h2 λa v y=>B a v λb o q d=>?_
 ·exact w.of_keeps λb o q d=>⟨o,(ZL _ _ (k b o q d)).trans q,rfl⟩
 ·exact λb o q=>(ZL _ _ (λz=>by rw[z,q]at f;cases f)).trans (t b o q)
 ·exact y b o ((ZL _ _ (k b o q d)).trans q) d
theorem qN8{Q:Unit->ae->Prop}(h:A.frames=some (env::outer))(k:s.heap.FunFrames base (env::outer))(d:env.frame=some L)(j:s.heap.get? e=some oe)(kb:base.StaysIn s.heap)(ne:base.get? e=none)
  (f:oe.data=.fields vs) (h1:vs[1]?=some .none) (h2:vs[2]?=some .none) (i:∀b,Over base outer e oe.cls .none b->s.heap.UpToSlots b->Q () {s with heap:=b}):ah M A (leaving env (.ref e)) Q E s:=by
 unfold leaving;refine Za (qV7 h k d j kb ne f h1 h2 λg O U=>?_);refine Dq O λl a c=>i l ⟨a.stays,a.new,a.frames.2.2,a.ou⟩ (U.trans c)
theorem qV8{Q:Unit->ae->Prop}{cls:aa}(f:A.frames=some (env::outer))(d:env.frame=some L)(O:Over base (env::outer) e cls .none s.heap)(i:∀b,Over base outer e cls .none b->s.heap.UpToSlots b->Q () {s with heap:=b}):
  ah M A (leaving env (.ref e)) Q E s:=by
 unfold leaving;refine Za (PF f d O λg h U=>?_);refine Dq h λj a c=>i j ⟨a.stays,a.new,a.frames.2.2,a.ou⟩ (U.trans c)
end
end L2
namespace L2
open PySem PySem.Spec PyProof.Rows
theorem bc.there{P:ag}{w:aj}{H:Hp}{h:ao}{a:af}{o:HO}(x:bc P w H h a o):∃ob,h.get? a=some ob:=by
 cases o with
 |lst c=>obtain⟨_,_,_,_,e⟩:=x;exact⟨_,e⟩
 |tup c=>obtain⟨_,_,_,o,e,_⟩:=x;exact⟨_,e⟩
 |dK b=>obtain⟨_,_,_,_,o,_,_,e,_⟩:=x;exact⟨_,e⟩
 |dT b=>obtain⟨_,_,_,_,o,_,_,e,_⟩:=x;exact⟨_,e⟩
 |set S n=>obtain⟨o,_,_,_,e,_⟩:=x;exact⟨_,e⟩
 |ins C i fs=>obtain⟨_,_,_,e,_⟩:=x;exact⟨_,e⟩
 |own y=>exact x
 |xd fs=>obtain⟨_,⟨_,_,_,e,_⟩,_⟩:=x;exact⟨_,e⟩
 |sf g k=>obtain⟨_,_,_,e⟩:=x;exact⟨_,e⟩
 |lj ob u=>obtain⟨e,_⟩:=x;exact⟨_,e⟩
 |rX j=>exact⟨_,(show h.get? a=some _ from x)⟩
 |met f y=>exact⟨_,(show h.get? a=some _ from x)⟩
 |ext d=>exact x.2.1
def Cw(P:ag)(w:aj)(outer:List Env)(H a:Hp)(h h':ao)(x:af)(cls:aa):Prop:=
 ∃(B:ao),Un (c6 outer) [] H a h h'/\dj P w a h'/\Over B outer x cls .none h'/\(∀b o,h.get? b=some o->b∉c6 outer->∃ob,B.get? b=some ob)/\(∀b o,a b=some o->∃ob,B.get? b=some ob)/\a x=none
def jv(P:ag)(w:aj):kl:=λa H s E e b=>∃(x:af)(cls:aa)(c:Hp),e=.ref x/\b.os=s.os/\AllBare b.gens/\Cw P w a H c s.heap b.heap x cls/\E cls none c
def Md(X:Cx)(E:XK):Prop:=∀(b:List (af×az))(c:St)(H:Hp)(s:ae)(a:ao)(e:af)(cls:aa)(args:List aa),Inv X b c H s->Heap.MadeExcOf s.heap a e cls args->E cls none H->X.xe (.ref e) {s with heap:=a}
section
variable{H H1 H':Hp}{h h1 h':ao}{outer:List Env}{env:Env}{x L:af}{cls:aa}
theorem Cw.left{B:ao}(d:Un (c6 outer) [] H H1 h h1)(l:∀b o,h.get? b=some o->b≠L)(v:env.frame=some L)(g:Un (c6 (env::outer)) [] H1 H' h1 h')(K:dj P w H' h')
  (k:∀b o,h1.get? b=some o->b∉c6 (env::outer)->∃ob,B.get? b=some ob) (m:∀b o,H' b=some o->∃ob,B.get? b=some ob) (V:H' x=none) (st:B.StaysIn h') (I:h.FunFrames B' outer)
  {h2:ao}(i:Over B outer x cls .none h2) (U:h'.UpToSlots h2):Cw P w outer H H' h h2 x cls:=by
 have fr:∀b,b∉c6 outer->b≠L->b∉c6 (env::outer):=λb hb E r=>by
  unfold c6 at r hb;rw[ZT,v]at r;rcases ZD.mp r with z|z
  ·exact E z
  ·exact hb z
 have M:∀b,b∈c6 outer->b∈c6 (env::outer):=λb hb=>by
  unfold c6 at hb ⊢;rw[ZT,v];exact Zk _ hb
 have i6:∀b:af,b∉([]:List af):=λb=>by simp
 have same:∀b ob o,B.get? b=some ob->h'.get? b=some o->h2.get? b=some o:=λb ob o a f=>by
  have C:=st b ob a;have F:=i.stays b ob a;rw[f]at C;cases C;exact F
 refine⟨B,⟨λb o e n hb _=>?_,λb o e n hb _=>?_,λb o e n _=>?_,λb o e _=>?_,λb D e=>g.cR b D (d.cR b D e),λb o u e=>g.dX b o u (d.dX b o u e),λb N e=>?_⟩,λb o e=>?_,i,λb o e hb=>?_,m,V⟩
 ·have a:=d.keep b o e n hb (i6 b);have y:=fr b hb (l b o e);have f:=g.keep b o a (d.free b o e n (i6 b)) y (i6 b);obtain⟨ob,z⟩:=k b o a y;exact same b ob o z f
 ·obtain⟨W,a⟩:=d.slot b o e n hb (i6 b);obtain⟨X,f⟩:=g.slot b _ a (d.free b o e n (i6 b)) (M b hb) (i6 b);obtain⟨_,A,t,G⟩:=I.mem hb;rw[e]at t;cases t;obtain⟨T,S⟩:=U b _ f G;exact⟨T,S⟩
 ·obtain⟨A,a⟩:=d.there b o e (i6 b);exact g.free b A a (d.free b o e n (i6 b)) (i6 b)
 ·obtain⟨j,a⟩:=d.there b o e (i6 b);by_cases hb:b∈c6 (env::outer)
  ·by_cases s:b∈c6 outer
   ·obtain⟨_,Q,f,_⟩:=i.frames.mem s;exact⟨Q,f⟩
   ·exact absurd hb (fr b s (l b o e))
  ·obtain⟨ob,z⟩:=k b j a hb;exact⟨ob,i.stays b ob z⟩
 ·obtain⟨R,a⟩:=d.eu b N e;obtain⟨O,f⟩:=g.eu b _ a;exact⟨R++O,by rw[f,Array.append_assoc]⟩
 ·refine(K b o e).dS (λc u J q=>?_) (λ_ q=>q) λ_ _ q=>q;rcases J with z|z
  ·obtain⟨ob,p⟩:=m b o e;rw[z]at q ⊢;exact same b ob u p q
  ·obtain⟨ob,p⟩:=m c _ z;exact same c ob u p q
 ·obtain⟨j,a⟩:=d.there b o e (i6 b);exact k b j a (fr b hb (l b o e))
end
section
variable{N:List ar}{qual:ar}{scope:aA}{f:af}{cd:aa}{A:aq}{outer:List Env}{aH:ae}{aJ:Hp}{E:XK}
theorem Ho:xj (jv P w) (gU (jv P w) P w K mg base N qual scope f cd A outer aH aJ E) E:=by
 intro r t H s e u I h;obtain⟨x,a,g,rfl,l,hb,⟨B,U,m,c,i,k,q⟩,n⟩:=h;have d:(envOfC qual scope aH.heap.objs.size f cd).frame=some aH.heap.objs.size:=rfl;refine qV8 I.ok.frames d c λh2 j p=>?_;refine⟨x,a,g,rfl,l.trans I.os,hb,?_,n⟩;exact Cw.left I.base (λb o e=>ZC (Zj e)) d U m i k q c.stays I.ok.di j p
theorem Qo:Md (gU (jv P w) P w K mg base N qual scope f cd A outer aH aJ E) E:=by
 intro y C H s h' e i k I c r;have j:(envOfC qual scope aH.heap.objs.size f cd).frame=some aH.heap.objs.size:=rfl;have x:s.heap.FunFrames base (envOfC qual scope aH.heap.objs.size f cd::outer):=I.stack;have u:∀d∈(envOfC qual scope aH.heap.objs.size f cd::outer),∀a,d.frame=some a->a∈c6 (envOfC qual scope aH.heap.objs.size f cd::outer):=λd g a p=>WE.mpr ⟨d,g,p⟩;obtain⟨t,g,_,_⟩:=c.there;have v:(PySem.W.hideAll s.heap (c6 (envOfC qual scope aH.heap.objs.size f cd::outer))).get? e=none:=by
  cases q:(PySem.W.hideAll s.heap (c6 (envOfC qual scope aH.heap.objs.size f cd::outer))).get? e with
  |none=>rfl
  |some o=>
   have:=WC _ q;rw[c.new]at this;cases this
 have m:H e=none:=by
  cases z:H e with
  |none=>rfl
  |some o=>
   obtain⟨ob,q⟩:=(I.aQ e o z).there;rw[c.new]at q;cases q
 refine qN8 (base:=PySem.W.hideAll s.heap (c6 (envOfC qual scope aH.heap.objs.size f cd::outer))) I.ok.frames ((PySem.W.funFrames_hide x u).of_keeps λb o hb _=>⟨o,c.keeps b o hb,rfl⟩) j g
  (λb o hb=>c.keeps b o (WC _ hb)) v rfl rfl rfl λh2 l n=>?_
 refine⟨e,i,H,rfl,I.os,I.bare,?_,r⟩;refine Cw.left (B:=PySem.W.hideAll s.heap (c6 (envOfC qual scope aH.heap.objs.size f cd::outer))) (h':=h') I.base (λb o z=>ZC (Zj z)) j (Un.kept c.keeps) (I.aQ.kept c.keeps) (λb o z hb=>⟨o,Vg _ z hb⟩) (λb o z=>?_) m (λb o hb=>c.keeps b o (WC _ hb)) I.ok.di l n;obtain⟨ob,q⟩:=(I.aQ b o z).there;refine⟨ob,Vg _ q λh=>?_⟩;have:=I.ij b h;rw[z]at this;cases this
end
def rS(r:af)(n:Nat)(h:ao):Prop:=∃o a b t,h.get? r=some o/\o.ExactSet/\o.data=.set a b t/\t.fits a.size=true/\a.size=n
section
variable{X:Cx}
theorem xN5{k:Key}{u:aa}(r:RelV (kV k) u):cS.Hb u:=by
 cases k with
 |inl i=>obtain⟨t,rfl⟩:=r;exact cS.Hb.int i t
 |inr x=>obtain⟨t,rfl⟩:=r;exact cS.Hb.str x t
theorem Mc:∀{c:List Key}{b:List aa},Vals (c.map kV) b->∀v∈b,cS.Hb v
 |[],_,.nil,v,a=>by cases a
 |k::c,_,.cons r t,v,a=>by
  rcases ZD.mp a with rfl|a
  ·exact xN5 r
  ·exact Mc t v a
theorem Uh{P:ag}{w:aj}{H:Hp}{h:ao}{b:af}{a:List Key}(ok:dj P w H h)(e:H b=some (.tup (a.map kV))):cS.fX (iZ P w) h a b:=by
 obtain⟨_,f,r,o,c,i,n,d⟩:=ok b _ e;exact⟨o,f.toArray,n,c,i,d,by simpa using GJ r,λv g=>Mc r v (by simpa using g)⟩
inductive gX(xs:List V)(H:Hp)(Q:VK):Prop
 |mk(r:af)(n:Nat)(aV:xs=[.ref r])(c7:H r=some (.ext (rS r n)))(cq:n<=1200)(aP:Q (.int n) H)
theorem qO0:ft X (.builtin "len") gX:=by
 intro k s m H w p Q I f h;obtain⟨r,n,rfl,i,l,q⟩:=h;obtain⟨u,rfl,j⟩:=gO f;cases j;obtain⟨⟨o,a,v,t,b,g,c,d,rfl⟩,_⟩:=I.aQ r _ i;have hb:(a.size:Int)<=1200:=by lia
 exact call_len_set b g c d (Int.lt_of_le_of_lt hb (by decide)) ⟨.int a.size,H,I.tok _,⟨_,rfl⟩,q⟩
end
mutual
inductive aY(H:Hp):V->PyData->Prop
 |cb:aY H .cb .none
 |bl (b:Bool):aY H (.bl b) (.bool b)
 |int (i:Int):aY H (.int i) (.int i)
 |str (x:ar):aY H (.str x) (.str x)
 |lst {a:af}{xs:List V}{ds:List PyData}(h:H a=some (.lst xs)) (r:aO H xs ds):aY H (.ref a) (.list ds)
 |tup {a:af}{xs:List V}{ds:List PyData}(h:H a=some (.tup xs)) (r:aO H xs ds):aY H (.ref a) (.tuple ds)
inductive aO(H:Hp):List V->List PyData->Prop
 |nil:aO H [] []
 |cons {x:V}{xs:List V}{d:PyData}{ds:List PyData}(h:aY H x d) (r:aO H xs ds):aO H (x::xs) (d::ds)
end
section
variable{H:Hp}{h:ao}
mutual
theorem aY.reads(ok:dj P w H h):∀{x:V}{d:PyData}{u:aa},aY H x d->RelV x u->∃as,Reads h u d as
 |_,_,u,.cb,r=>⟨[],by cases(show u=Value.none from r);exact .none⟩
 |_,_,u,.bl b,r=>⟨[],by cases(show u=Value.bool b from r);exact .bool b⟩
 |_,_,u,.int i,r=>⟨[],by obtain⟨t,rfl⟩:=r;exact .int i t⟩
 |_,_,u,.str x,r=>⟨[],by obtain⟨t,rfl⟩:=r;exact .str x t⟩
 |_,_,u,.lst (a:=a) e rs,r=>by
  cases(show u=Value.ref a from r);obtain⟨_,k,n,f,c⟩:=ok a _ e;obtain⟨as,g⟩:=aO.reads ok rs f;exact⟨a::as,.list c rfl rfl (by simpa using g)⟩
 |_,_,u,.tup (a:=a) e rs,r=>by
  cases(show u=Value.ref a from r);obtain⟨_,k,f,o,c,l,n,j⟩:=ok a _ e;obtain⟨as,g⟩:=aO.reads ok rs f;exact⟨as,.tuple c l j (by simpa using g)⟩
theorem aO.reads(ok:dj P w H h):∀{c:List V}{b:List PyData}{a:List aa},aO H c b->Vals c a->∃as,ReadsAll h a b as
 |_,_,_,.nil,.nil=>⟨[],.nil⟩
 |_,_,_,.cons h1 i,.cons r d=>by
  obtain⟨as,g⟩:=aY.reads ok h1 r;obtain⟨bs,f⟩:=aO.reads ok i d;exact⟨as++bs,.cons g f⟩
end
mutual
theorem aY.same{a:Hp}(s:∀b o,H b=some o->a b=some o):∀{x:V}{d:PyData},aY H x d->aY a x d
 |_,_,.cb=>.cb
 |_,_,.bl b=>.bl b
 |_,_,.int i=>.int i
 |_,_,.str x=>.str x
 |_,_,.lst e r=>.lst (s _ _ e) (aO.same s r)
 |_,_,.tup e r=>.tup (s _ _ e) (aO.same s r)
theorem aO.same{a:Hp}(s:∀b o,H b=some o->a b=some o):∀{d:List V}{c:List PyData},aO H d c->aO a d c
 |_,_,.nil=>.nil
 |_,_,.cons h r=>.cons (aY.same s h) (aO.same s r)
end
theorem aO.ints:∀(a:List Int),aO H (a.map V.int) (a.map PyData.int)
 |[]=>.nil
 |n::a=>.cons (.int n) (aO.ints a)
end
section
variable{X:Cx}
inductive pK(x:V)(y:V)(H:Hp)(Q:VK):Prop
 |mk(d:_)(e:_)(aV:aY H x d)(c7:aY H y e)(cq:d.canLay0=true)(aP:e.canLay0=true)(pV:d.depth<=60)(wq:Q (.bl (PyData.eqv d e)) H)
theorem Ar{k:Nat}(l:aZ k X.A):fi X (compareOp .Eq) pK:=by
 intro n s p H x y v u Q I j m h;obtain⟨d,e,f,i,a,c,dp,q⟩:=h;obtain⟨as,g⟩:=f.reads I.aQ j;obtain⟨bs,b⟩:=i.reads I.aQ m;have un:=l.units;exact SeqAt.rcAt_reads g b a c (M6 dp un) X.prog X.w X.xe _ ⟨.bl _,H,I,rfl,q⟩
inductive pI(x:V)(y:V)(H:Hp)(Q:VK):Prop
 |mk(d:_)(e:_)(aV:aY H x d)(c7:aY H y e)(cq:d.canLay0=true)(aP:e.canLay0=true)(pV:d.depth<=60)(wq:Q (.bl (!PyData.eqv d e)) H)
theorem Ig{k:Nat}(l:aZ k X.A):fi X (compareOp .NotEq) pI:=by
 intro n s p H x y v u Q I j m h;obtain⟨d,e,f,i,a,c,dp,q⟩:=h;obtain⟨as,g⟩:=f.reads I.aQ j;obtain⟨bs,b⟩:=i.reads I.aQ m;have un:=l.units;exact SeqAt.rcNeAt_reads g b a c (M6 dp un) X.prog X.w X.xe _ ⟨.bl _,H,I,rfl,q⟩
inductive iG(xs:List V)(H:Hp)(Q:VK):Prop
 |mk(p:af)(d:PyData)(aV:xs=[.ref p])(c7:aY H (.ref p) d)(cq:d.showable=true)(aP:d.hasDict=false)(pV:d.depth<=60)(wq:d.shown.length<=sizeLine)(KL:Q (.str d.shown) H)
theorem NU{k:Nat}(a:aZ k X.A):ft X (.builtin "repr") iG:=by
 intro n s v H y w Q I r h;obtain⟨p,d,rfl,i,f,c,dp,l,q⟩:=h;obtain⟨u,rfl,m⟩:=gO r;cases m;obtain⟨as,j⟩:=i.reads (u:=.ref p) I.aQ rfl;have un:=a.units;exact repr_of_reads' j f (λz=>by rw[c]at z;cases z) a.gd (by lia) (λb o e=>e) (λx u t g=>⟨.str _,H,I.kept g,⟨_,rfl⟩,q⟩) l
end
theorem G8:∀(a b:List Int),PyData.eqvAll (a.map PyData.int) (b.map PyData.int)=decide (a=b)
 |[],[]=>by simp[PyData.eqvAll]
 |x::a,[]=>by simp[PyData.eqvAll]
 |[],y::b=>by simp[PyData.eqvAll]
 |x::a,y::b=>by
  show(PyData.eqv (.int x) (.int y)&&PyData.eqvAll (a.map PyData.int) (b.map PyData.int))=_;rw[G8 a b,show PyData.eqv (.int x) (.int y)=(x==y) by simp[PyData.eqv]];rw[Xa];simp
theorem G7:∀(a:List Int),PyData.canLayAll0 (a.map PyData.int)=true
 |[]=>by simp[PyData.canLayAll0]
 |x::a=>by
  show(PyData.canLay0 (.int x)&&PyData.canLayAll0 (a.map PyData.int))=true;rw[G7 a];simp[PyData.canLay0]
def dT(a:List Int):PyData:=.tuple (a.map PyData.int)
def dL(a:List Int):PyData:=.list (a.map PyData.int)
theorem Ie(a:List Int):(dT a).canLay0=true:=by
 exact G7 a
theorem Dy(a:List Int):(dL a).canLay0=true:=by
 exact G7 a
theorem xG6(a b:List Int):PyData.eqv (dT a) (dT b)=decide (a=b):=by
 exact G8 a b
theorem Ic(a b:List Int):PyData.eqv (dL a) (dL b)=decide (a=b):=by
 exact G8 a b
end L2
namespace l_
open PySem PySem.Spec
theorem qV9{it t:af}{i:Nat}{items:Array aa}{x:aa}{Q:aa->ae->Prop}(st:s.heap.IsTupleIter it t i)(d:s.heap.IsTuple t items)(j:items[i]?=some x)
  (q:∀c,c.IsTupleIter it t (i+1)->Heap.SameBut it s.heap c->Q x {s with heap:=c}):ah (ai prog w) A (Builtin.SmallTypes.nextOf (.ref it)) Q E s:=by
 obtain⟨o,b,h,a⟩:=id st;obtain⟨k,g,_,l,f⟩:=d;unfold Builtin.SmallTypes.nextOf;refine Za (Z6 (name:=Str.ofString "__next__") st.typeIs Xe (Yj Xe st.typeIs F.entry_tuple_iterator_next ?_ (F.args_tuple_iterator_next_1 _)));show ah _ _ (field (.ref it) 0 >>= _) _ _ s;refine Za (Yb b a (x:=.ref t) rfl ?_);show ah _ _ (if(Value.ref t==Value.none)=true then _ else _) _ _ s;rw[Zl (show ¬((Value.ref t==Value.none)=true)from ZH)];show ah _ _ (field (.ref it) 1 >>= _) _ _ s;refine Za (Yb b a (x:=.int i 0) rfl ?_);show ah _ _ (seqItems? (.ref t) >>= _) _ _ s;refine Za (Vt g f ?_);simp only[ZY,j];refine Za (Y6 b a (by simp) (Zc ⟨x,rfl,Zc (q _ ⟨_,YH _ b (Xi (Yy a _)),(WO ..).trans h,?_⟩ (Xc ..))⟩));rw[Yy a];simp[rawInt]
theorem q30{it t:af}{i:Nat}{items:Array aa}{Q:aa->ae->Prop}(f:A.handled=none)(st:s.heap.IsTupleIter it t i)(g:s.heap.IsTuple t items)(k:items[i]?=none)
  (q:∀c e,Heap.ExtBut it s.heap c->(∃o,c.get? e=some o/\o.cls=.type "StopIteration")->E (.ref e) {s with heap:=c}):ah (ai prog w) A (Builtin.SmallTypes.nextOf (.ref it)) Q E s:=by
 obtain⟨o,b,n,d⟩:=id st;obtain⟨l,j,_,p,h⟩:=g;unfold Builtin.SmallTypes.nextOf;refine Za (Z6 (name:=Str.ofString "__next__") st.typeIs Xe (Yj Xe st.typeIs F.entry_tuple_iterator_next ?_ (F.args_tuple_iterator_next_1 _)));show ah _ _ (field (.ref it) 0 >>= _) _ _ s;refine Za (Yb b d (x:=.ref t) rfl ?_);show ah _ _ (if(Value.ref t==Value.none)=true then _ else _) _ _ s;rw[Zl (show ¬((Value.ref t==Value.none)=true)from ZH)];show ah _ _ (field (.ref it) 1 >>= _) _ _ s;refine Za (Yb b d (x:=.int i 0) rfl ?_);show ah _ _ (seqItems? (.ref t) >>= _) _ _ s;refine Za (Vt j h ?_);simp only[ZY,k];refine Za (Xf (Za (Y6 b d (by simp) ?_)));show ah _ _ (newExc (.type "StopIteration") [] >>= _) _ _ _;refine Za ?_;simp only[newExc,newTuple];refine Za (ZW ?_ (by size_fits));refine Za (m:=firstArgMember _ _) (wpAny_of_eq (a:=Value.none) (by first|rfl|(simp only[firstArgMember];rfl)) ?_);refine ZW ?_ (by size_fits);simp only[raiseNew];refine Za (wpAny_handled ?_)
 first|rw[show A.in1.handled=none from f]|rw[f]
 refine Za (Zc (wpAny_throw ?_));exact q _ _ (((Xc ..).extBut.push _).push _) ⟨_,Zm _ rfl,rfl⟩
theorem q31{e it:af}{i:Nat}{x a:aa}{St:ao->Prop}{Q:aa->ae->Prop}(J:IsEnum s.heap e it i a)(jE:e≠it)
  (nx:∀V:aa->ae->Prop,(∀k,Heap.SameBut it s.heap k->St k->V x {s with heap:=k})->ah (ai prog w) A (Builtin.SmallTypes.nextOf (.ref it)) V E s)
  (q:∀h1 k,Heap.SameBut it s.heap h1->St h1->IsEnumOut k e it ((i:Int)+1) x s.heap.objs.size->k.get? s.heap.objs.size=some {cls:=.type "tuple",data:=.seq #[.int i s.toks,x]} ->
   (∀b o,b≠e->h1.get? b=some o->k.get? b=some o)->Q (.ref s.heap.objs.size) {s with heap:=k,toks:=s.toks+1}):
  ah (ai prog w) A (Builtin.«enumerate.__next__» ⟨[.ref e],[]⟩) (λK Y=>∃v,K=.done (.ret v)/\Q v Y) E s:=by
 obtain⟨l,g,d,c,j⟩:=s;show ah _ _ (field (.ref e) 2 >>= _) _ _ _;refine Za (Yb J rfl (x:=.ref it) rfl ?_);refine Za (nx _ λf p Z=>?_)
 replace p:Heap.SameBut it l f:=p
 have M:IsEnum f e it i a:=(p.2 e jE).trans J;show ah _ _ (field (.ref e) 3 >>= _) _ _ ⟨f,g,d,c,j⟩;refine Za (Yb M rfl (x:=rawInt i) rfl ?_);show ah _ _ (field (.ref e) 4 >>= _) _ _ ⟨f,g,d,c,j⟩;refine Za (Yb M rfl (x:=.none) rfl ?_);show ah _ _ (mkInt i >>= _) _ _ ⟨f,g,d,c,j⟩;refine Za (wpAny_mkInt ?_);show ah _ _ (setField (.ref e) 3 (rawInt ((i:Int)+1)) >>= _) _ _ ⟨f,g,d,c+1,j⟩;refine Za (XQ M (by simp) λB I y=>?_)
 replace y:Heap.SameBut e f B:=y
 replace I:IsEnum B e it ((i:Int)+1) a:=I
 show ah _ _ (setField (.ref e) 4 .none >>= _) _ _ ⟨B,g,d,c+1,j⟩;refine Za (XQ I (by simp) λm F u=>?_)
 replace u:Heap.SameBut e B m:=u
 replace F:IsEnum m e it ((i:Int)+1) a:=F
 show ah _ _ (newTuple [.int i c,x] >>= _) _ _ ⟨m,g,d,c+1,j⟩;refine Za (wpAny_newTuple ?_);have U:m.objs.size=l.objs.size:=by rw[u.1,y.1,p.1]
 have H:e<l.objs.size:=Zj J;obtain⟨h,r⟩:∃h,m.push {cls:=.type "tuple",data:=.seq #[.int i c,x]}=h:=⟨_,rfl⟩;have G:IsEnum h e it ((i:Int)+1) a:=by rw[<- r];exact Zd _ F
 have W:h.get? l.objs.size=some {cls:=.type "tuple",data:=.seq #[.int i c,x]}:=by rw[<- r,<- U];exact Zm _ rfl
 have X:∀b o,b≠e->f.get? b=some o->h.get? b=some o:=λb o hb n=>by
  rw[<- r];exact Zd _ (u.extBut b o hb (y.extBut b o hb n))
 rw[r];show ah _ _ (Builtin.SmallTypes.ownedTupleIsFree (.ref e) >>= _) _ _ ⟨h,g,d,c+1,j⟩;rw[U];refine Za ?_;unfold Builtin.SmallTypes.ownedTupleIsFree;refine Za (Yb G rfl (x:=.none) rfl (Zc ?_));simp only[YR];refine Za (Xf ?_);refine Za (Yb G rfl (x:=a) rfl ?_);refine Za (XQ G (by simp) λt S L=>?_)
 replace L:Heap.SameBut e h t:=L
 replace S:IsEnum t e it ((i:Int)+1) x:=S
 show ah _ _ (Builtin.SmallTypes.ownedTupleHandOut (.ref e) (.ref l.objs.size) >>= _) _ _ ⟨t,g,d,c+1,j⟩;refine Za ?_;unfold Builtin.SmallTypes.ownedTupleHandOut;refine Za (XQ S (by simp) λN D O=>?_)
 replace O:Heap.SameBut e t N:=O
 replace D:IsEnumOut N e it ((i:Int)+1) x l.objs.size:=D
 refine XQ D (by simp) λC R P=>?_
 replace P:Heap.SameBut e N C:=P
 replace R:IsEnumOut C e it ((i:Int)+1) x l.objs.size:=R
 have T:∀b o,b≠e->h.get? b=some o->C.get? b=some o:=λb o hb n=>P.extBut b o hb (O.extBut b o hb (L.extBut b o hb n));exact Za (wpAny_letGo (Zc ⟨_,rfl,q f C p Z R (T _ _ (Wm H) W) λb o hb n=>T b o hb (X b o hb n)⟩))
theorem mG{e it t:af}{i:Nat}{items:Array aa}{x f:aa}{Q:Option aa->ae->Prop}(j:IsEnum s.heap e it i f)(l:e≠it)(st:s.heap.IsTupleIter it t i)(r:s.heap.IsTuple t items)(B:items[i]?=some x)
  (q:∀h1 a,Heap.SameBut it s.heap h1->IsEnumOut a e it ((i:Int)+1) x s.heap.objs.size->a.IsTupleIter it t (i+1)->a.get? s.heap.objs.size=some {cls:=.type "tuple",data:=.seq #[.int i s.toks,x]} ->
   (∀b o,b≠e->h1.get? b=some o->a.get? b=some o)->Q (some (.ref s.heap.objs.size)) {s with heap:=a,toks:=s.toks+1}):ah (ai prog w) A (pyNext (.ref e)) Q E s:=by
 have k:s.TypeIs (.ref e) "enumerate":=⟨_,j,rfl⟩;unfold pyNext;refine Za (XY (Z6 (name:=Str.ofString "__next__") k X6 (Yj X6 k F.entry_enumerate_next
  (q31 (St:=λh=>h.IsTupleIter it t (i+1)) j l (λC y=>qV9 st r B λa p c=>y a c p) λh1 a c v n d g=>Zc (q h1 a c n ?_ d g)) (F.args_enumerate_next_1 _))))
 obtain⟨o,u,m⟩:=v;exact⟨o,g it o (Xz l) u,m⟩
theorem next_end{e it t:af}{i:Nat}{items:Array aa}{a:aa}{Q:Option aa->ae->Prop}(g:A.handled=none)(d:IsEnum s.heap e it i a)(st:s.heap.IsTupleIter it t i)(l:s.heap.IsTuple t items)(m:items[i]?=none)
  (q:∀c,Heap.ExtBut it s.heap c->Q none {s with heap:=c}):ah (ai prog w) A (pyNext (.ref e)) Q E s:=by
 have f:s.TypeIs (.ref e) "enumerate":=⟨_,d,rfl⟩;unfold pyNext;refine Za (XY (Z6 (name:=Str.ofString "__next__") f X6 (Yj X6 f F.entry_enumerate_next ?_ (F.args_enumerate_next_1 _))));show ah _ _ (field (.ref e) 2 >>= _) _ _ _;refine Za (Yb d rfl (x:=.ref it) rfl ?_);refine Za (q30 g st l m λc x j ⟨o,h,k⟩=>?_);exact Za (Wo (T:= "StopIteration") (b:=true) ⟨o,h,k⟩ isSubtype_stop (Zc (q _ j)))
theorem q32(l:af)(items:Array aa)(n:Nat)(i:Option af)(f:Array (Option aa)):
  Meets (Builtin.«enumerate.__new__» ⟨[.type "enumerate",.ref l],[]⟩) (λ_ R s=>s.heap.get? l=some {cls:=.type "tuple",dict:=i,data:=.seq items n,slots:=f} /\
   R (.ok (.ret (.ref (s.heap.push {cls:=.type "tuple_iterator",data:=.fields #[.ref l,.int 0 0]}).objs.size)))
    {s with heap:=(s.heap.push {cls:=.type "tuple_iterator",data:=.fields #[.ref l,.int 0 0]}).push {cls:=.type "enumerate",data:=.fields #[.none,.bool false,.ref s.heap.objs.size,rawInt 0,.none,.none]}}):=
 .of_wp λprog w A R s h=>by
  obtain⟨m,g,d,j,k⟩:=s;obtain⟨a,h⟩:=h;have q:=sub_enumerate;have b:Heap.IsTuple (Shared.heap ⟨m,g,d,j,k⟩) l items:=⟨_,a,rfl,n,rfl⟩
  wp_walk using Wx a
  refine wpAny_stack_any λp=>Zc ?_;split
  ·rename_i c _ _ _ _ _;cases(c==Value.type "enumerate")
   all_goals
    wp_walk using Wx a,WD b
    exact⟨_,rfl,h⟩
  ·wp_walk using Wx a,WD b
   exact⟨_,rfl,h⟩
theorem pF{l:af}{items:Array aa}{Q:aa->ae->Prop}(m:s.heap.IsTuple l items)
  (q:∀a,IsEnum a (s.heap.objs.size+1) s.heap.objs.size 0 .none->a.IsTupleIter s.heap.objs.size l 0->(∀b o,s.heap.get? b=some o->a.get? b=some o)->Q (.ref (s.heap.objs.size+1)) {s with heap:=a}):
  ah (ai prog w) A (call (.type "enumerate") [.ref l]) Q E s:=by
 obtain⟨⟨c,k,p,j⟩,r,g,n,d⟩:=m
 replace g:c=.type "tuple":=g
 replace d:p=.seq items n:=d
 subst g d;refine callType_new F.called_enumerate (by decide) (F.typeCall_enumerate_1 _) (F.newCall_enumerate_1 _) (λf=>F.args_object_init_2 f _) F.entry_enumerate_new (q32 l items n k j) ⟨r,?_⟩;have i:(s.heap.push {cls:=.type "tuple_iterator",data:=.fields #[.ref l,.int 0 0]}).objs.size=s.heap.objs.size+1:=YT ..;show _/\_;rw[i];have h:=Zm (s.heap.push {cls:=.type "tuple_iterator",data:=.fields #[.ref l,.int 0 0]}) (o:={cls:=.type "enumerate",data:=.fields #[.none,.bool false,.ref s.heap.objs.size,rawInt 0,.none,.none]}) rfl;rw[i]at h;exact⟨⟨_,h,rfl⟩,q _ h ⟨_,Zd _ (Zm _ rfl),rfl,rfl⟩ λb o x=>Zd _ (Zd _ x)⟩
end l_
namespace L2
open PySem PySem.Spec PyProof.Rows
def yP(K:PySem.W.Frag)(a:af):It:=
 ⟨λi H=>∃b x,bh K H a b/\b[i]?=some x,λi H y c=>∃p x,H p=none/\(∀b,bh K H a b->b[i]?=some x)/\c=upd H p (.tup [.int i,x])/\y=.ref p,λi H=>∃b,bh K H a b/\b.length<=i⟩
theorem Qn{h:ao}{o a:az}{b:af}(e:(h.push o).get? b=some a)(c:b<h.objs.size):h.get? b=some a:=by
 unfold Heap.get? Heap.push at *;simp only[Vh]at e;rw[Zl (ZC c)]at e;exact e
theorem qW0{P:ag}{w:aj}{K:PySem.W.Frag}{n:List av}{x1:Nat}{fz:aC}(a e it:af)(jE:e≠it):
  Turn P w K (.Tuple n x1 fz) (yP K a) [e,it] e (λi h=>(∃c,IsEnum h e it i c)/\h.IsTupleIter it a i) where
 mem:=by simp
 obj:=λi h f b hb=>by
  rcases ZD.mp hb with rfl|hb
  ·obtain⟨⟨c,z⟩,_⟩:=f;exact⟨_,z,λv q=>by
    have y:Data.fields _=Data.cell v:=q;cases y⟩
  ·have:b=it:=by simpa using hb
   subst this;obtain⟨_,o,z,_,d⟩:=f;exact⟨o,z,λv q=>by rw[d]at q;cases q⟩
 keep:=λi h h' f k=>by
  obtain⟨⟨c,z⟩,l⟩:=f;exact⟨⟨c,k e (by simp) _ z⟩,l.at λo q=>k it (by simp) o q⟩
 item:=by
  intro X F U G hc i Y s σ H E I A f T;subst F U G;obtain⟨⟨c,j⟩,l⟩:=f;obtain⟨xs,x,C,D⟩:=T;obtain⟨J,S,p,hz⟩:=I.tuple C;obtain⟨u,hu,ru⟩:=S.get D;obtain⟨e0,e1,e2,e3,e4,Z⟩:=A e (by simp);obtain⟨O,N,f2,L,W,V⟩:=A it (by simp);refine l_.mG j jE l (show s.heap.IsTuple a J.toArray from p) (x:=u) (by simpa using hu) λh1 h' sb ho gM ht kp=>?_;refine⟨_,rfl,wpAny_letOwnedTupleGo_enum ho λh2 vO NQ=>?_⟩;have R:e<s.heap.objs.size:=Zj j;have Q:it<s.heap.objs.size:=by obtain⟨o,z,_⟩:=l;exact Zj z
  have fresh:H s.heap.objs.size=none:=I.aQ.fresh (Zb _);have B:h1.objs.size=s.heap.objs.size:=sb.1;have J0:Inv X Y σ (upd H s.heap.objs.size (.tup [.int i,x])) {s with heap:=s.heap.push {cls:=.type "tuple",data:=.seq #[.int i s.toks,u]},toks:=s.toks+1}:=
   I.laid (λb o q=>Zd _ q) (Zb _) ⟨by show 2<=sizeLine;decide,[.int i s.toks,u],.cons ⟨_,rfl⟩ (.cons ru .nil),_,Zm _ rfl,rfl,⟨_,rfl⟩,rfl⟩
  have r:(upd H s.heap.objs.size (.tup [.int i,x])) it=none:=by rw[cK (ZC Q)];exact O
  have g:(upd H s.heap.objs.size (.tup [.int i,x])) e=none:=by rw[cK (ZC R)];exact e0
  have J1:=J0.turned (it:=it) (h':=h1.push {cls:=.type "tuple",data:=.seq #[.int i s.toks,u]}) (t':=s.toks+1) (λb o hb q=>by
    have q:(s.heap.push {cls:=.type "tuple",data:=.seq #[.int i s.toks,u]}).get? b=some o:=q;by_cases m:b<s.heap.objs.size
    ·have y:s.heap.get? b=some o:=Qn q m;exact Zd _ ((sb.2 b hb).trans y)
    ·have M:b<s.heap.objs.size+1:=by have:=Zj q;rw[YT]at this;exact this
     have t:b=s.heap.objs.size:=Nat.le_antisymm (X9 M) (VH m);subst t;rw[Zm _ rfl]at q;cases q;have:=Zm h1 (o:={cls:=.type "tuple",data:=.seq #[.int i s.toks,u]}) rfl;rw[B]at this;exact this) r N L W V
  have J2:=J1.turned (it:=e) (h':=h') (t':=s.toks+1) (λb o hb q=>by
    have q:(h1.push {cls:=.type "tuple",data:=.seq #[.int i s.toks,u]}).get? b=some o:=q;by_cases m:b<s.heap.objs.size
    ·have y:h1.get? b=some o:=Qn q (by rw[B];exact m);exact kp b o hb y
    ·have M:b<s.heap.objs.size+1:=by have:=Zj q;rw[YT,B]at this;exact this
     have t:b=s.heap.objs.size:=Nat.le_antisymm (X9 M) (VH m);subst t;have:=Zm h1 (o:={cls:=.type "tuple",data:=.seq #[.int i s.toks,u]}) rfl;rw[B]at this;rw[this]at q;cases q;exact ht) g e1 e3 e4 Z
  have J3:=J2.turned (it:=e) (h':=h2) (t':=s.toks+1) (λb o hb q=>(NQ.2 b hb).trans q) g e1 e3 e4 Z;refine⟨.ref s.heap.objs.size,_,J3,rfl,⟨_,x,fresh,λys hy=>by rw[I.gY hy C];exact D,rfl,rfl⟩,⟨⟨u,by
   have:(((i+1:Nat)):Int)=(i:Int)+1:=by lia
   rw[this];exact vO⟩,gM.at λo q=>(NQ.2 it (Xz jE)).trans q⟩,λb hb=>?_⟩
  rcases ZD.mp hb with rfl|hb
  ·exact g
  ·have:b=it:=by simpa using hb
   subst this;exact r
 done:=by
  intro X F U G hc i Y s σ H E I A f T;subst F U G;obtain⟨⟨c,j⟩,l⟩:=f;obtain⟨xs,C,D⟩:=T;obtain⟨J,S,p,hz⟩:=I.tuple C;obtain⟨O,N,f2,L,W,V⟩:=A it (by simp);have hl:=S.length;exact l_.next_end (I.ok.hd hc) j l (show s.heap.IsTuple a J.toArray from p) (by simp;exact oz hl D) λh' t=>⟨rfl,I.turned (t':=s.toks) (λb o hb e=>t b o hb e) O N L W V⟩
 self:=λ_ _ _ _ _ f h=>by
  obtain⟨⟨c,j⟩,_⟩:=f;exact wpAny_pyIter_enum j h
section
variable{X:Cx}{elts:List av}{x1:Nat}{fz:aC}
def xG7(K:PySem.W.Frag)(ta:TA):TI:=λd H R=>ta d H λc b=>∃a,c=[.ref a]/\(∃f,bh K b a f)/\R (yP K a) b
theorem HQ{e:av}{ta:TA}{p f:aC}(t:Gl X "enumerate")(v:X.mg "enumerate"=none)(r:PA X [e] ta)(hs:starEach [e] X.env=[(false,eval e X.env)]:=by rfl):PI X (.Tuple elts x1 fz) (.Call (.Name "enumerate" p) [e] [] f) (xG7 X.K ta):=by
 intro g s j H R I h;refine Call_ (Aw I t v PyProof.Rows.boot_enumerate (X8 (bz (r f g s j H _ I h) λF c ⟨E,k,d,m,w⟩=>?_) hs rfl));obtain⟨a,rfl,⟨G,y⟩,q⟩:=w;obtain⟨u,rfl,B⟩:=gO m;cases B;obtain⟨l,C,pt,D⟩:=d.tuple y;refine l_.pF (show c.heap.IsTuple a l.toArray from pt) λA i x n=>?_;refine wpAny_pyIter_enum i ?_;have J:Inv X g j k {c with heap:=A}:=d.kept (t':=c.toks) n;refine⟨c.heap.objs.size+1,[c.heap.objs.size+1,c.heap.objs.size],_,_,k,rfl,J,qW0 a _ _ (Nat.succ_ne_self _),⟨⟨.none,i⟩,x⟩,λb hb=>?_,q⟩;rcases ZD.mp hb with rfl|hb
 ·exact d.mQ (Nat.le_succ _) (d.aQ.fresh (Nat.le_succ _))
 ·have:b=c.heap.objs.size:=by simpa using hb
  subst this;exact d.mQ (Zb _) (d.aQ.fresh (Zb _))
end
section
variable{X:Cx}
def dP(X:Cx)(scope:aA)(a:List (ar×af))(C:af)(b:List ar)(fp:List af)(aH:ae)(aJ:Hp):Cx:=
 {X with N:=b++X.N,aH:=aH,aJ:=aJ,env:=compEnvC scope a C X.env,outer:=X.stack,stack:=X.stack,ex:=fp,fn:=λ_=>false,pn:=[],xe:=λ_ _=>False}
def qy(n:Nat)(r:TI)(g:TG)(s:TT)(te:TE):TE:=λl H Q=>r l H λJ q=>∀D,q D=none->∃W:Nat->Nat->List V->Hp->Prop,(∃m,W 0 m [] (upd q D (.lst []))) /\
 ∀i m a c,W i m a c->c D=some (.lst a)/\a.length<sizeLine/\((J.stop i c/\Q (.ref D) c)\/(J.go i c/\∀y p,J.lF i c y p->∀k:St,k.length=n ->
  g y (k++l) p λh t=>s h t λb j=>if b=true then te h j λv f=>f D=some (.lst a)/\∃d,d<m/\W (i+1) d (a++[v]) (upd f D (.lst (a++[v])))else ∃d,d<m/\W (i+1) d a j))
theorem q34{prog:ag}{w:aj}{A:aq}{R:Result->ae->Prop}{s:ae}{b a iter:av}{f:List av}{scope:aA}{d:aC}{it acc:aa}{env:Env}(T:Sem Bool)
  (D:compTurn (.ListComp b [⟨a,iter,f,0⟩] scope d) 0 it acc env=(standAt iter.pos >>= λ_=>pyNext it >>= λr=>match r with
   |none=>pure (.done .next)
   |some v=>letOwnedTupleGo a it v >>= λ_=>assign a env v >>= λ_=>T >>= λok=>(if ok=true then(eval b env >>= λx=>call (.builtin "list.append") [acc,x] >>= λ_=>pure ())else pure ()) >>= λ_=>
     again (.compLoop (.ListComp b [⟨a,iter,f,0⟩] scope d) 0 it acc env)))
  (I:Nat->ae->Prop)
  (g:∀n s,I n s->ah (ai prog w) A (pyNext it) (λr k=>match r with
   |none=>R (.ok .next) k
   |some v=>ah (ai prog w) A (letOwnedTupleGo a it v) (λ_ l=>ah (ai prog w) A (assign a env v) (λ_ p=>ah (ai prog w) A T (λok j=>
     if ok=true then ah (ai prog w) A (eval b env) (λx t=>ah (ai prog w) A (call (.builtin "list.append") [acc,x]) (λ_ q=>∃m,m<n/\I m q) (λ_ _=>False) t) (λ_ _=>False) j
     else ∃m,m<n/\I m j) (λ_ _=>False) p) (λ_ _=>False) l) (λ_ _=>False) k) (λ_ _=>False) s)
  (n:Nat) (h:I n s):codeAny (ai prog w) A (.compLoop (.ListComp b [⟨a,iter,f,0⟩] scope d) 0 it acc env) R s:=by
 refine codeAny_loop rfl I (λn s y=>?_) n h;show ah _ A ((compTurn (.ListComp b [⟨a,iter,f,0⟩] scope d) 0 it acc env).onRaise (λx=>do noteFrame x env;theTreesLotGoes x)) _ _ s;refine wpAny_noted ?_;rw[D];refine Za (wpAny_standAt (Za (Yw (g n s y) (λr k u=>?_) λ_ _ c=>c.elim)));cases r with
 |none=>exact Zc u
 |some v=>
  refine Za (Yw u (λ_ l F=>?_) λ_ _ c=>c.elim);refine Za (Yw F (λ_ p E=>Za (Yw E (λok j i=>?_) λ_ _ c=>c.elim)) λ_ _ c=>c.elim);cases ok with
  |true=>
   rw[Zr rfl]at i;simp only[YR];exact Za (Za (Yw i (λx t B=>Za (Yw B (λ_ q C=>Zc (Zc ⟨rfl,C⟩)) λ_ _ c=>c.elim)) λ_ _ c=>c.elim))
  |false=>
   rw[Zl ZH]at i;simp only[Zs,ZU];exact Za (Zc (Zc ⟨rfl,i⟩))
theorem Hn(b a iter:av)(scope:aA)(c:aC)(it acc:aa)(env:Env):compTurn (.ListComp b [⟨a,iter,[],0⟩] scope c) 0 it acc env=(standAt iter.pos >>= λ_=>pyNext it >>= λr=>match r with
   |none=>pure (.done .next)
   |some v=>letOwnedTupleGo a it v >>= λ_=>assign a env v >>= λ_=>(pure true:Sem Bool) >>= λok=>(if ok=true then(eval b env >>= λx=>call (.builtin "list.append") [acc,x] >>= λ_=>pure ())else pure ()) >>= λ_=>
     again (.compLoop (.ListComp b [⟨a,iter,[],0⟩] scope c) 0 it acc env)):=by
 rw[compTurn_list1];congr 1
theorem OZ(b a iter c:av)(scope:aA)(d:aC)(it acc:aa)(env:Env):compTurn (.ListComp b [⟨a,iter,[c],0⟩] scope d) 0 it acc env=(standAt iter.pos >>= λ_=>pyNext it >>= λr=>match r with
   |none=>pure (.done .next)
   |some v=>letOwnedTupleGo a it v >>= λ_=>assign a env v >>= λ_=>isTrue c env (eval c env) >>= λok=>(if ok=true then(eval b env >>= λx=>call (.builtin "list.append") [acc,x] >>= λ_=>pure ())else pure ()) >>= λ_=>
     again (.compLoop (.ListComp b [⟨a,iter,[c],0⟩] scope d) 0 it acc env)):=by
 rw[compTurn_list];refine VQ λ_=>VQ λr=>?_;cases r with
 |none=>rfl
 |some v=>
  refine VQ λ_=>VQ λ_=>?_;simp only[Vc,List.forIn_nil,YR,bind_assoc,W3];refine VQ λok=>?_;cases ok<;>simp
theorem qO2{G:List (af×az)}{σ:St}{H:Hp}{s:ae}{h':ao}{tk:Nat}{scope:aA}{n:List (ar×af)}{C:af}{nn:List ar}{fp:List af}{m:ar->Option aa}
  (I:Inv X G σ H s) (E:C=s.heap.objs.size) (keep:∀b o,s.heap.get? b=some o->h'.get? b=some o) (R:h'.Ns C m) (x:∀b∈fp,gF X G H b) (B:∀b∈fp,b<s.heap.objs.size)
  (O:scope.kind=.function) (w:∀y∈scope.names,y.2≠.cell) (V:∀y∈X.N,scope.names.lookup y≠some .local)
  (l:∀y c,n.lookup y=some c->X.env.cells.lookup y=some c) (N:∀p∈scope.names,p.2=.free->(n.lookup p.1).isSome=true)
  (P:∀p∈scope.names,p.2=.free->tO X.env.scope p.1/\X.env.scope.names.lookup p.1≠some .local):
  Inv (dP X scope n C nn fp s H) [] ((nn.map λ_=>none)++σ) H {s with heap:=h',toks:=tk}:=by
 have f:∀y c,n.lookup y=some c->∃v,s.heap.IsCell c v:=λy c e=>I.cell y c (l y c e);have KR:∀y c,n.lookup y=some c->c<s.heap.objs.size:=λy c e=>by
  obtain⟨v,q⟩:=f y c e;exact q.lt
 have L:∀c v,s.heap.IsCell c v->h'.IsCell c v:=λc v ⟨o,e,d⟩=>⟨o,keep c o e,d⟩;have K:∀b∈c6 X.stack,∃o,s.heap.get? b=some o:=λb hb=>by
  rcases ZD.mp (I.dQ b hb)with e|hb
  ·obtain⟨_,⟨o,_,_,A,_⟩,_⟩:=I.loc;exact⟨o,by rw[e];exact A⟩
  ·obtain⟨_,o,A,_⟩:=I.di.mem hb;exact⟨o,A⟩
 refine⟨⟨I.ok.mod,O,I.ok.glob,I.ok.blt,Vl E.symm,λy z c h1 h2=>I.ok.inj y z c (l y c h1) (l z c h2),λy g=>?_,λy c h _=>Bool.noConfusion h,I.ok.hd,I.ok.frames,.inl rfl,λb hb=>⟨?_,λy c e z=>?_⟩,I.bs,
  Zw I.ok.mR I.sz,λb o e hb=>?_,λb hb S=>?_,I.stack,I.ij⟩,rfl,I.bare,Un.kept keep,⟨m,R,λi y v h1 h2 a=>?_⟩,λy c e=>?_,?_,λy c e=>?_,λp k=>absurd k (by simp[dP]),I.aQ.kept keep,?_⟩
 ·
  have g:(relabel scope X.env).names.lookup y=some .cell\/(relabel scope X.env).names.lookup y=some .free:=g;obtain⟨p,k,t,r⟩:∃p∈scope.names,p.1=y/\p.2=.free:=by
   rcases g with g|g
   ·exact Ae g w (.inl rfl)
   ·exact Ae g w (.inr rfl)
  obtain⟨c,e⟩:=Wu.mp (N p k r);exact⟨c,by rw[<- t];exact e⟩
 ·show b≠C;rw[E];exact ZC (B b hb)
 ·exact(x b hb).2.2.2.2.1 y c (l y c e) z
 ·rcases(x b hb).2.2.2.1 with z|z
  ·exact I.ok.iu b o e z
  ·exact absurd (ZO (Zj (I.ok.bs b o e).1) z) (Yn _)
 ·rcases ZD.mp (I.dQ b S)with z|z
  ·exact(x b hb).2.1 z
  ·exact(x b hb).2.2.1 z
 ·
  by_cases W:i<nn.length
  ·rw[Zp (by simpa using W)]at h2;simp at h2
  ·obtain⟨j,rfl⟩:∃j,i=nn.length+j:=⟨i-nn.length,by lia⟩;have h1:X.N[j]?=some y:=by
    have h1:(nn++X.N)[nn.length+j]?=some y:=h1;rw[Zx (Yk _ _),WI]at h1;exact h1
   have h2:σ[j]?=some (some v):=by
    rw[Zx (by simp)]at h2;simpa using h2
   have a:(relabel scope X.env).names.lookup y=some .local\/(relabel scope X.env).names.lookup y=some .cell\/(relabel scope X.env).names.lookup y=some .free:=a;rcases a with a|a
   ·exact absurd (N_ a) (V y (Zy h1))
   ·obtain⟨p,k,t,r⟩:∃p∈scope.names,p.1=y/\p.2=.free:=by
     rcases a with a|a
     ·exact Ae a w (.inl rfl)
     ·exact Ae a w (.inr rfl)
    obtain⟨J,M⟩:=P p k r;rw[t]at J M;obtain⟨m0,_,Q⟩:=I.loc;obtain⟨u,Z,F⟩:=Q j y v h1 h2 J;rcases F with⟨F,_⟩|⟨_,c,T,U⟩
    ·exact absurd F M
    ·obtain⟨Y,D⟩:=Wu.mp (N p k r);rw[t]at D;have:=l y Y D;rw[T]at this;cases this;refine⟨u,Z,.inr ⟨a,c,D,L c _ U⟩⟩
 ·obtain⟨v,q⟩:=f y c e;exact⟨v,L c v q⟩
 ·show H C=none;exact I.aQ.fresh (Vl E.symm)
 ·exact I.cJ y c (l y c e)
 ·show((nn.map λ_=>none)++σ).length=(nn++X.N).length;simp[I.len]
theorem q35{f:List (af×az)}{σ σ':St}{H a:Hp}{s s':ae}{h':ao}{scope:aA}{m:List (ar×af)}{C:af}{nn:List ar}{fp:List af}
  (I:Inv X f σ H s) (p:C=s.heap.objs.size) (r:∀b∈fp,gF X f H b) (J:Inv (dP X scope m C nn fp s H) [] σ' a s') (sb:Heap.SameBut C s'.heap h'):Inv X f σ a {s' with heap:=h'}:=by
 have h:∀b o,s.heap.get? b=some o->b≠C:=λb o e=>by rw[p];exact ZC (Zj e)
 have B:Un (c6 X.stack) fp H a s.heap s'.heap:=J.base;have U:Un (c6 X.stack) fp H a s.heap h':=
  ⟨λb o e n hb d=>(sb.2 b (h b o e)).trans (B.keep b o e n hb d),λb o e n hb d=>by
   obtain⟨i,q⟩:=B.slot b o e n hb d;exact⟨i,(sb.2 b (h b o e)).trans q⟩,B.free,λb o e d=>by
   obtain⟨l,q⟩:=B.there b o e d;exact⟨l,(sb.2 b (h b o e)).trans q⟩,B.cR,B.dX,B.eu⟩
 have g:a C=none:=J.free;have K:dj X.prog X.w a h':=λb o e=>(J.aQ b o e).dS (λc u k q=>(sb.2 c (by
  rintro rfl;rcases k with z|z
  ·rw[z,e]at g;cases g
  ·rw[g]at z;cases z)).trans q) (λ_ q=>q) λ_ _ q=>q
 refine I.tL (s':={s' with heap:=h'}) (ch:=fp) J.os U K J.bare λb hb=>?_;obtain⟨_,h2,_,v,j,t⟩:=r b hb;exact⟨v,h2,j,t⟩
theorem NT{use:Option (aa->Sem Unit)}{QQ:aa->ae->Prop}{Q:VK}{w:List (af×az)}{s:ae}{σ:St}{H:Hp}{nn:List ar}{F:av}{A:List av}{B:aC}{f iter:av}{scope:aA}{wi:TI}{g:TG}{tt:TT}{te:TE}(T:Env->Sem Bool)(hc:X.calm=true)(hi:PI X F iter wi)
  (i_:∀it P env,compTurn (.ListComp f [⟨F,iter,A,0⟩] scope B) 0 it P env=(standAt iter.pos >>= λ_=>pyNext it >>= λr=>match r with
   |none=>pure (.done .next)
   |some v=>letOwnedTupleGo F it v >>= λ_=>assign F env v >>= λ_=>T env >>= λok=>(if ok=true then(eval f env >>= λx=>call (.builtin "list.append") [P,x] >>= λ_=>pure ())else pure ()) >>= λ_=>
     again (.compLoop (.ListComp f [⟨F,iter,A,0⟩] scope B) 0 it P env)))
  (oZ:∀t C d aH Z,PG (dP X scope t C nn d aH Z) F g)
  (jb:∀y (l σ:St) H R,l.length=nn.length->g y (l++σ) H R->g y (l++σ) H λσ' k=>(∃hV:St,hV.length=nn.length/\σ'=hV++σ)/\R σ' k)
  (Bp:∀t C d aH Z (w:List (af×az)) (s:ae) (σ:St) (H:Hp) (Q:Bool->Hp->Prop),Inv (dP X scope t C nn d aH Z) w σ H s->tt σ H Q->ah (ai X.prog X.w) X.A (T (compEnvC scope t C X.env)) (TP (dP X scope t C nn d aH Z) w σ Q) (λ_ _=>False) s)
  (he:∀t C d aH Z,PE (dP X scope t C nn d aH Z) f te)
  (jD:scope.kind=.function) (jB:∀y∈scope.names,y.2≠.cell) (jC:∀y∈scope.names,y.2=.local->scope.names.lookup y.1=some .local)
  (jI:∀y∈X.N,scope.names.lookup y≠some .local) (jJ:∀p∈scope.names,p.2=.free->tO X.env.scope p.1/\X.env.scope.names.lookup p.1≠some .local)
  (hs:∀x,foldedSetIterable iter X.env x=pure x) (I:Inv X w σ H s) (h:qy nn.length wi g tt te σ H Q)
  (fin:∀(D C:af)(K:Hp)(S:ae)(m4:ar->Option aa),gF X w K C->S.heap.Ns C m4->(∀h',Heap.SameBut C S.heap h'->Inv X w σ K {S with heap:=h'})->Q (.ref D) K->compPost (ai X.prog X.w) X.A X.xe use QQ (.ref D) C (.ok Flow.next) S):
  ah (ai X.prog X.w) X.A (comprehension (.ListComp f [⟨F,iter,A,0⟩] scope B) scope X.env (firstIterPos [⟨F,iter,A,0⟩] B) (newList []) false (eval iter X.env) use) QQ X.xe s:=by
 obtain⟨t,BP,k6,rB⟩:=qv5 (scope:=scope) (env:=X.env) (λp hp hk=>by
  obtain⟨hv,hn⟩:=jJ p hp hk;refine I.ok.has p.1 ?_;rcases hv with z|z
  ·exact absurd z hn
  ·exact z)
 refine wpAny_comprehension_free (use:=use) rfl hs BP jD jC (bz (hi w s σ H _ I h) λv s1 h1=>bz h1 λIJ a h2=>?_);obtain⟨it,d,tn,J,H2,rfl,I2,E,bZ,f2,q⟩:=h2;have hD:H2 a.heap.objs.size=none:=I2.aQ.fresh (Zb _);obtain⟨W,⟨m0,w0⟩,turn⟩:=q _ hD;refine ZW (wpAny_newFunctionEnv jB (by intro y hy;simp at hy) (λcX lh lg=>?_) jD);dsimp only at lh lg ⊢;have I3:Inv X w σ (upd H2 a.heap.objs.size (.lst [])) {a with heap:=a.heap.push {cls:=.type "list",dict:=none,data:=.seq ([]:List aa).toArray}}:=
  I2.laid (t':=a.toks) (λb u e=>Zd _ e) (Zb _) ⟨Zt _,[],0,.nil,Zm _ rfl⟩
 have fpn:∀b∈d,b≠a.heap.objs.size:=λb hb=>by
  obtain⟨o,e,_⟩:=E.obj 0 a.heap bZ b hb;exact ZC (Zj e)
 have wj:∀b∈d,b<(a.heap.push {cls:=.type "list",dict:=none,data:=.seq ([]:List aa).toArray}).objs.size:=λb hb=>by
  obtain⟨o,e,_⟩:=E.obj 0 a.heap bZ b hb;rw[YT];exact Yc (Zj e)
 have f3:∀b∈d,gF X w (upd H2 a.heap.objs.size (.lst [])) b:=λb hb=>⟨by rw[cK (fpn b hb)];exact(f2 b hb).1,(f2 b hb).2⟩;generalize Rn:a.heap.push {cls:=.type "list",dict:=none,data:=.seq ([]:List aa).toArray}=G at lh lg I3 wj ⊢;have keep:∀b o,G.get? b=some o->cX.get? b=some o:=λb o e=>(lg.2 b (ZC (Zj e))).trans (Zd _ e);have J0:=qO2 (nn:=nn) (tk:=a.toks+([]:List (ar×aa)).length) I3 (C:=G.objs.size) rfl keep lh f3 wj jD jB jI k6 rB jJ;generalize j:dP X scope t G.objs.size nn d {a with heap:=G} (upd H2 a.heap.objs.size (.lst []))=Y at J0;have eY:PE Y f te:=by rw[<- j];exact he _ _ _ _ _
 have eG:PG Y F g:=by rw[<- j];exact oZ _ _ _ _ _
 have eT:∀(w:List (af×az))(s:ae)(σ:St)(H:Hp)(Q:Bool->Hp->Prop),Inv Y w σ H s->tt σ H Q->ah (ai Y.prog Y.w) Y.A (T Y.env) (TP Y w σ Q) Y.xe s:=by rw[<- j];exact Bp _ _ _ _ _
 have eP:Y.prog=X.prog:=by rw[<- j];rfl
 have eW:Y.w=X.w:=by rw[<- j];rfl
 have eK:Y.K=X.K:=by rw[<- j];rfl
 have eA:Y.A=X.A:=by rw[<- j];rfl
 have eC:Y.calm=true:=by rw[<- j];exact hc
 have O:Y.env=compEnvC scope t G.objs.size X.env:=by rw[<- j];rfl
 have eX:Y.xe=λ_ _=>False:=by rw[<- j];rfl
 have eN:Y.N=nn++X.N:=by rw[<- j];rfl
 have eEx:Y.ex=d:=by rw[<- j];rfl
 have eFs:Y.fs=c6 X.stack:=by rw[<- j];rfl
 have ePn:Y.pn=[]:=by rw[<- j];rfl
 have Kt:∀{k:Hp},(∀b∈d,k b=none)->∀b∈d,gF Y [] k b:=λhn b hb=>by
  have g:=f3 b hb;refine⟨hn b hb,?_,?_,.inl (by rw[eEx];exact hb),?_,λp hp=>absurd hp (by rw[ePn];simp)⟩
  ·rw[O];exact ZC (wj b hb)
  ·rw[eFs];intro z;rcases ZD.mp (I3.dQ b z)with z|z
   ·exact g.2.1 z
   ·exact g.2.2.1 z
  ·rw[O];exact λy c e=>g.2.2.2.2.1 y c (k6 y c e)
 have L:∀gL:ae,gL={a with heap:=cX,toks:=a.toks+([]:List (ar×aa)).length} ->
   codeAny (ai X.prog X.w) X.A (.compLoop (.ListComp f [⟨F,iter,A,0⟩] scope B) 0 (.ref it) (.ref a.heap.objs.size) (compEnvC scope t G.objs.size X.env))
    (compPost (ai X.prog X.w) X.A X.xe use QQ (.ref a.heap.objs.size) G.objs.size) gL:=by
  rintro gL rfl;refine q34 (T (compEnvC scope t G.objs.size X.env)) (i_ _ _ _) (λn s'=>∃i U k l,l.length=nn.length/\Inv Y [] (l++σ) k s'/\tn i s'.heap/\(∀b∈d,k b=none)/\W i n U k) ?_ m0
   ⟨0,[],_,nn.map λ_=>none,by simp,J0,E.keep 0 _ _ bZ (λb hb o e=>keep b o (by rw[<- Rn];exact Zd _ e)),λb hb=>(f3 b hb).1,w0⟩
  rintro n s3 ⟨i,U,K,l,w5,I4,gM,Cf,w3⟩;obtain⟨RG,hlx,alt⟩:=turn i n U K w3;rcases alt with⟨stop,qn⟩|⟨go,step⟩
  ·have D1:=E.done Y eP eW eK eC i [] s3 _ K (λ_ _=>False) I4 (Kt Cf) gM stop;rw[eA]at D1;refine bz D1 λr S ⟨hr,I5⟩=>?_;subst hr;obtain⟨m4,kI,_⟩:=id I5.loc;rw[O]at kI;have hC0:K G.objs.size=none:=by
    have:=I5.free;rw[O]at this;exact this
   rw[<- j]at I5;exact fin _ _ K S m4 (I3.mQ (Zb _) hC0) kI (λh' sb=>q35 I3 rfl f3 I5 sb) qn
  ·have G1:=E.item Y eP eW eK eC i [] s3 _ K (λ_ _=>False) I4 (Kt Cf) gM go;rw[eA]at G1;refine bz G1 λr S ⟨u,hr,h4⟩=>?_;subst hr;refine bz h4 λ_ s5 ⟨y,H5,I5,r5,y5,se,Kp⟩=>?_;have K4:=I5.pinned (Kt Kp) (E.obj _ _ se);have S1:=eG _ s5 _ H5 y u _ K4 r5 (jb y l σ H5 _ w5 (step y _ y5 l w5));rw[eP,eW,eA,O,eX]at S1;refine bz S1 λ_ s6 ⟨Lk,H6,I6,⟨QA,Js,e6⟩,q6⟩=>?_;subst e6;have S2:=eT _ s6 _ _ _ I6 q6;rw[eP,eW,eA,O,eX]at S2;refine bz S2 λok s7 ⟨H7,I7,q7⟩=>?_;have N:∀{s9:ae}{M:Hp}{m':Nat}{zs:List V},Inv Y ([]++Av d s5.heap) (QA++σ) M s9->m'<n->W (i+1) m' zs M->∃m,m<n/\∃i U k l,l.length=nn.length/\Inv Y [] (l++σ) k s9/\tn i s9.heap/\(∀b∈d,k b=none)/\W i m U k:=λ{s9 M m' zs} I9 dW w9=>by
    have pin:∀b∈d,∀ob,s5.heap.get? b=some ob->s9.heap.get? b=some ob/\M b=none:=λb hb ob e=>by
     have z:=I9.pin (b,ob) (Z1 _ (Z1 _ (Dr hb e)));exact⟨z.1,z.2.1⟩
    refine⟨m',dW,i+1,zs,M,QA,Js,I9.dC,E.keep _ _ _ se (λb hb ob e=>(pin b hb ob e).1),λb hb=>?_,w9⟩;obtain⟨ob,e,_⟩:=E.obj _ _ se b hb;exact(pin b hb ob e).2
   cases ok with
   |true=>
    rw[Zr rfl]at q7;rw[Zr rfl];have S3:=eY _ s7 _ _ _ I7 q7;rw[eP,eW,eA,O,eX]at S3;refine bz S3 λxv s8 ⟨v8,H8,I8,r8,hD8,m',dW,w8⟩=>?_;have S4:=sS (X:=Y) _ s8 _ H8 (.ref a.heap.objs.size) [v8] (.ref a.heap.objs.size) [xv] (λ_ M=>M=upd H8 a.heap.objs.size (.lst (U++[v8]))) I8 rfl (.cons r8 .nil) ⟨_,U,v8,rfl,rfl,hD8,hlx,rfl⟩;rw[eP,eW,eA,eX]at S4;refine bz S4 λ_ s9 ⟨v9,M,I9,_,e9⟩=>?_;subst e9;exact N I9 dW w8
   |false=>
    rw[Zl ZH]at q7;rw[Zl ZH];obtain⟨m',dW,w8⟩:=q7;exact N I7 dW w8
 exact codeAny_compStart_list (L _ rfl) (E.self _ 0 _ _ _ (E.keep 0 _ _ bZ (λb hb o e=>keep b o (by rw[<- Rn];exact Zd _ e))) (L _ rfl))
theorem HP{nn:List ar}{j:av}{f:List av}{d:aC}{b iter:av}{scope:aA}{E:TI}{g:TG}{F:TT}{te:TE}(T:Env->Sem Bool)(hc:X.calm=true)(M:PI X j iter E)
  (V:∀u k a,compTurn (.ListComp b [⟨j,iter,f,0⟩] scope d) 0 u k a=(standAt iter.pos >>= λ_=>pyNext u >>= λr=>match r with
   |none=>pure (.done .next)
   |some v=>letOwnedTupleGo j u v >>= λ_=>assign j a v >>= λ_=>T a >>= λok=>(if ok=true then(eval b a >>= λx=>call (.builtin "list.append") [k,x] >>= λ_=>pure ())else pure ()) >>= λ_=>
     again (.compLoop (.ListComp b [⟨j,iter,f,0⟩] scope d) 0 u k a)))
  (P:∀i C m n l,PG (dP X scope i C nn m n l) j g)
  (Z:∀y (A c:St) H R,A.length=nn.length->g y (A++c) H R->g y (A++c) H λt G=>(∃B:St,B.length=nn.length/\t=B++c)/\R t G)
  (Bp:∀i C m n l (w:List (af×az)) (s:ae) (c:St) (H:Hp) (Q:Bool->Hp->Prop),Inv (dP X scope i C nn m n l) w c H s->F c H Q->ah (ai X.prog X.w) X.A (T (compEnvC scope i C X.env)) (TP (dP X scope i C nn m n l) w c Q) (λ_ _=>False) s)
  (S:∀i C m n l,PE (dP X scope i C nn m n l) b te)
  (K:scope.kind=.function) (Y:∀y∈scope.names,y.2≠.cell) (J:∀y∈scope.names,y.2=.local->scope.names.lookup y.1=some .local)
  (U:∀y∈X.N,scope.names.lookup y≠some .local) (L:∀p∈scope.names,p.2=.free->tO X.env.scope p.1/\X.env.scope.names.lookup p.1≠some .local)
  (hs:∀x,foldedSetIterable iter X.env x=pure x):PE X (.ListComp b [⟨j,iter,f,0⟩] scope d) (qy nn.length E g F te):=by
 intro w s c H Q I h;rw[eval_ListComp];exact NT (use:=none) T hc M V P Z Bp S K Y J U L hs I h λD C H3 s4 W _ O iv q=>⟨W,O,λh' N=>⟨.ref _,H3,iv h' N,rfl,q⟩⟩
theorem Ab{scope b:aA}{N:List ar}(h:X.N=N)(j:X.env.scope=b)
  (i:scope.names.all (λy=>y.2 != .cell)=true) (c:scope.names.all (λy=>y.2 != .local||scope.names.lookup y.1==some .local)=true) (d:N.all (λy=>scope.names.lookup y != some .local)=true)
  (g:scope.names.all (λp=>p.2 != .free||(b.names.lookup p.1==some .cell||b.names.lookup p.1==some .free))=true):
  (∀y∈scope.names,y.2≠.cell)/\(∀y∈scope.names,y.2=.local->scope.names.lookup y.1=some .local)/\(∀y∈X.N,scope.names.lookup y≠some .local)/\(∀p∈scope.names,p.2=.free->tO X.env.scope p.1/\X.env.scope.names.lookup p.1≠some .local):=by
 refine⟨λy a=>?_,λy a l=>?_,λy a=>?_,λp k f=>?_⟩
 ·have:=Z8.mp i y a;simpa using this
 ·have:=Z8.mp c y a;simpa[l]using this
 ·have:=Z8.mp d y (by rw[<- h];exact a);simpa using this
 ·have:=Z8.mp g p k;rw[f]at this;have z:b.names.lookup p.1=some .cell\/b.names.lookup p.1=some .free:=by simpa using this
  rw[j];refine⟨.inr z,λq=>?_⟩;rcases z with z|z<;>(rw[z]at q;cases q)
theorem rg{y:V}{b σ:St}{H:Hp}{R:St->Hp->Prop}(f:b.length=1)(h:fu 0 y (b++σ) H R):fu 0 y (b++σ) H λa d=>(∃c:St,c.length=1/\a=c++σ)/\R a d:=by
 match b,f with
 |[o],_=>exact⟨⟨[some y],rfl,rfl⟩,h⟩
theorem IE{K:PySem.W.Frag}{y:V}{c σ:St}{H:Hp}{R:St->Hp->Prop}(k:c.length=2)(h:pk K 2 (qH (fu 0) (qH (fu 1) pq)) y (c++σ) H R):
  pk K 2 (qH (fu 0) (qH (fu 1) pq)) y (c++σ) H λb g=>(∃f:St,f.length=2/\b=f++σ)/\R b g:=by
 obtain⟨u,w,rfl⟩:=L2.Io k
 ·
  obtain⟨a,l,p,n,t,v,r,j,d,s,i,m,q⟩:=h;exact⟨a,l,p,n,t,v,r,j,d,s,i,m,⟨[some v,some d],rfl,rfl⟩,q⟩
theorem PD{x:ar}{q k:aC}{d iter c:av}{scope:aA}{u:TI}{v:TT}{te:TE}(N:List ar)(m:aA)(M:X.N=N)(P:X.env.scope=m)(hc:X.calm=true)(T:X.N.Nodup)(F:PI X (.Name x q) iter u)
  (K:∀f C g j b,PT (dP X scope f C [x] g j b) c v) (J:∀f C g j b,PE (dP X scope f C [x] g j b) d te)
  (D:scope.kind=.function:=by rfl) (O:scope.names.all (λy=>y.2 != .cell)=true:=by decide +kernel) (A:scope.names.all (λy=>y.2 != .local||scope.names.lookup y.1==some .local)=true:=by decide +kernel)
  (w:scope.names.lookup x=some .local:=by rfl) (L:N.all (λy=>scope.names.lookup y != some .local)=true:=by decide +kernel)
  (E:scope.names.all (λp=>p.2 != .free||(m.names.lookup p.1==some .cell||m.names.lookup p.1==some .free))=true:=by decide +kernel)
  (hs:∀x,foldedSetIterable iter X.env x=pure x:=by intro _;rfl):PE X (.ListComp d [⟨.Name x q,iter,[c],0⟩] scope k) (qy 1 u (fu 0) v te):=by
 obtain⟨V,U,t,S⟩:=Ab M P O A L E;refine HP (nn:=[x]) (λa=>isTrue c a (eval c a)) hc F (λW n a=>OZ d _ iter c scope k W n a) (λf C g j b=>?_) (λy Y r H R G h=>rg G h) (λf C g j b B s r H Q I h=>K f C g j b B s r H Q I h) J D V U t S hs;have l:(dP X scope f C [x] g j b).env.scope.names.lookup x=some .local:=Y7 w;exact uJ (i:=0) (YB.mpr ⟨λz=>t x z w,T⟩) rfl (.inl l) (.inr l)
theorem xN6{x y:ar}{h n m:aC}{k:Nat}{scope:aA}{a:List (ar×af)}{C:af}{fp:List af}{aH:ae}{aJ:Hp}(hc:X.calm=true)(j:X.N.Nodup)(l:x≠y)(b:∀z∈X.N,scope.names.lookup z≠some .local)(c:scope.names.lookup x=some .local)(f:scope.names.lookup y=some .local):
  PG (dP X scope a C [x,y] fp aH aJ) (.Tuple [.Name x h,.Name y n] k m) (pk X.K 2 (qH (fu 0) (qH (fu 1) pq))):=by
 have d:(dP X scope a C [x,y] fp aH aJ).env.scope.names.lookup x=some .local:=Y7 c;have g:(dP X scope a C [x,y] fp aH aJ).env.scope.names.lookup y=some .local:=Y7 f;have nd:(dP X scope a C [x,y] fp aH aJ).N.Nodup:=YB.mpr ⟨λz=>by
  rcases ZD.mp z with z|z
  ·exact l z
  ·exact b x z c,YB.mpr ⟨λz=>b y z f,j⟩⟩
 exact sE (X:=dP X scope a C [x,y] fp aH aJ) hc (ir (uJ (i:=0) nd rfl (.inl d) (.inr d)) (ir (uJ (i:=1) nd rfl (.inl g) (.inr g)) sN))
def xW:TT:=λ_ H Q=>Q true H
theorem OY{x y:ar}{m n t b:aC}{k:Nat}{a iter:av}{scope:aA}{r:TI}{te:TE}(N:List ar)(f:aA)(G:X.N=N)(L:X.env.scope=f)(hc:X.calm=true)(P:X.N.Nodup)(A:PI X (.Tuple [.Name x m,.Name y n] k t) iter r)
  (D:∀g C i l d,PE (dP X scope g C [x,y] i l d) a te) (M:x≠y:=by decide)
  (v:scope.kind=.function:=by rfl) (K:scope.names.all (λy=>y.2 != .cell)=true:=by decide +kernel) (u:scope.names.all (λy=>y.2 != .local||scope.names.lookup y.1==some .local)=true:=by decide +kernel)
  (V:scope.names.lookup x=some .local:=by rfl) (J:scope.names.lookup y=some .local:=by rfl) (F:N.all (λy=>scope.names.lookup y != some .local)=true:=by decide +kernel)
  (w:scope.names.all (λp=>p.2 != .free||(f.names.lookup p.1==some .cell||f.names.lookup p.1==some .free))=true:=by decide +kernel)
  (hs:∀x,foldedSetIterable iter X.env x=pure x:=by intro _;rfl):PE X (.ListComp a [⟨.Tuple [.Name x m,.Name y n] k t,iter,[],0⟩] scope b) (qy 2 r (pk X.K 2 (qH (fu 0) (qH (fu 1) pq))) xW te):=by
 obtain⟨T,S,q,O⟩:=Ab G L K u F w;exact HP (nn:=[x,y]) (λ_=>pure true) hc A (λU j c=>Hn a _ iter scope b U j c) (λg C i l d=>xN6 hc P M q V J) (λy Y E H R B h=>IE B h) (λg C i l d W s E H Q I h=>Zc ⟨H,I,h⟩) D v T S q O hs
end
end L2
namespace L2
open PySem PySem.Spec PyProof.Rows PySem.W PySem.Builtin PySem.Builtin.ObjectAttr PySem.Builtin.Getset_descriptor
section
variable{K:Frag}{x C:af}
def ExcAt(x C:af)(h:ao):Prop:=∃a b,h.get? x=some a/\a.cls=.ref C/\a.data=.fields b/\b[2]?=some .none
theorem ExcAt.type{M:Model}{h:ao}(I:ExcAt x C h):Looks M h (typeOf (.ref x)) (.ref C):=by
 obtain⟨b,_,h1,h2,_⟩:=I;have z:=(Looks.ld (M:=M) (part:=none) h1).andThen (f:=λo=>pure o.cls) (Looks.now (a:=b.cls));rw[h2]at z;exact z
theorem Ug{a:aa}{R:Result->ae->Prop}(X:K.In s.heap)(I:ExcAt x C s.heap)(b:mroIn K C (.type "object")=some true)(h:R (.ok (.ret (.ref C))) s):
  codeAny (ai prog w) A (.call (.builtin "getset_descriptor.__get__") ⟨[.builtin "object.__class__",.ref x,a],[]⟩) R s:=by
 obtain⟨h1,i,f,c,g⟩:=s;have j:=I.type (M:=ai prog w);have d:=looks_mroIn (M:=ai prog w) X b;refine W9 KF.slot_gs.plain KF.entry_gs ?_;refine KF.slot_gs.check _ _ _ _ _ _ _ _ KF.type_class (KF.args_gs _ _ _) ?_;unfold Builtin.«getset_descriptor.__get__» descrGet;rw[dga_obj];refine Za (Zc ?_);unfold descrGetter descrCheckInstance descrNameAndClass isInstance;simp only[KF.owner_class]
 repeat lk
 refine⟨Code.quiet_builtin _ (by decide +kernel),Xb KF.entry_class ?_⟩;unfold Builtin.«object.__class__» shownTypeOf
 repeat lk
 exact h
theorem q36{tk:Tok}{Q:Fin->ae->Prop}(X:K.In s.heap)(I:ExcAt x C s.heap)
  (l:findIn K (.ref C) "__class__"=some (some (.builtin "object.__class__"))) (c:specialIn K (.builtin "object.__class__") "__get__"=some (some (.builtin "getset_descriptor.__get__"))) (n:takesIn K (.builtin "object.__class__")=some true)
  (f:mroIn K C (.type "object")=some true) (hc:(clsIn K C).isSome=true) (h:Q (.done (.ret (.ref C))) s):ah (ai prog w) A (Builtin.«object.__getattribute__» ⟨[.ref x,.str "__class__" tk],[]⟩) Q E s:=by
 obtain⟨a,g,d,t,q⟩:=s;have b:=I.type (M:=ai prog w);have i:Looks (ai prog w) a (Builtin.ObjectAttr.find (.ref x) (.ref C) "__class__") (Builtin.ObjectAttr.Found.bind (.builtin "getset_descriptor.__get__") (.builtin "object.__class__")):=by
  have m:=looks_findIn (M:=ai prog w) X l;have j:Looks (ai prog w) a (Builtin.ObjectAttr.getOf (some (.builtin "object.__class__"))) (some (.builtin "getset_descriptor.__get__")):=looks_specialIn X c;have p:=looks_takesIn (M:=ai prog w) X n;have k:Looks (ai prog w) a (Builtin.ObjectAttr.dataDescriptor? (some (.builtin "object.__class__")) (some (.builtin "getset_descriptor.__get__"))) (some (.builtin "getset_descriptor.__get__",.builtin "object.__class__")):=p.andThen .now;exact m.andThen (j.andThen (k.andThen (Looks.tag .now)))
 unfold Builtin.«object.__getattribute__»
 repeat (first|with_reducible refine b.at ?_|with_reducible refine i.at ?_|wp_step)
 refine Ug X I f ?_
 repeat (any_goals (first|assumption|wp_step))
theorem q37{M:Model}{a:aa}{P:Unit->ae->Prop}(X:K.In s.heap)(I:ExcAt x C s.heap)(hb:mroIn K C (.type "BaseException")=some true)(h:P () s):
  ah M A (checkBuiltinCall "BaseException.__getattribute__" ⟨[.ref x,a],[]⟩) P E s:=by
 have f:builtinKind "BaseException.__getattribute__"=some .slot:=by decide +kernel
 have i:splitId "BaseException.__getattribute__"=some ("BaseException","__getattribute__"):=by decide +kernel
 have l:=F.args_bexc_ga (.ref x) a;obtain⟨j,g,d,t,k⟩:=s;have c:=I.type (M:=M);have b:=looks_mroIn (M:=M) X hb;simp only[checkBuiltinCall,f,i];refine Za ?_;unfold isInstance;refine Za (c.at (b.at ?_))
 repeat (first|assumption|wp_step)
theorem Y_{tk:Tok}{R:Result->ae->Prop}(X:K.In s.heap)(I:ExcAt x C s.heap)
  (a:findIn K (.ref C) "__class__"=some (some (.builtin "object.__class__"))) (b:specialIn K (.builtin "object.__class__") "__get__"=some (some (.builtin "getset_descriptor.__get__"))) (d:takesIn K (.builtin "object.__class__")=some true)
  (c:mroIn K C (.type "object")=some true) (hb:mroIn K C (.type "BaseException")=some true) (hc:(clsIn K C).isSome=true) (h:R (.ok (.ret (.ref C))) s):
  codeAny (ai prog w) A (.call (.builtin "BaseException.__getattribute__") ⟨[.ref x,.str "__class__" tk],[]⟩) R s:=
 W9 F.excAttr_ValueError.ga.plain F.entry_bexc_ga (q37 X I hb (q36 X I a b d c hc h))
theorem q38{Q:Option aa->ae->Prop}(X:K.In s.heap)(I:ExcAt x C s.heap)(b:findIn K (.ref C) "__getattribute__"=some (some (.builtin "BaseException.__getattribute__")))(n:findIn K (.ref C) "__getattr__"=some none)
  (m:findIn K (.ref C) "__class__"=some (some (.builtin "object.__class__"))) (i:specialIn K (.builtin "object.__class__") "__get__"=some (some (.builtin "getset_descriptor.__get__"))) (p:takesIn K (.builtin "object.__class__")=some true)
  (j:mroIn K C (.type "object")=some true) (hb:mroIn K C (.type "BaseException")=some true) (hc:(clsIn K C).isSome=true) (h:Q (some (.ref C)) {s with toks:=s.toks+1}):
  ah (ai prog w) A (getAttr? (.ref x) "__class__") Q E s:=by
 have go:=λ(k:aq) (R:Result->ae->Prop) (tk:Tok)=>Y_ (prog:=prog) (w:=w) (A:=k) (R:=R) (s:={s with toks:=s.toks+1}) (tk:=tk) X I m i p j hb hc;obtain⟨r,g,d,t,v⟩:=s;have a:=I.type (M:=ai prog w);have c:=looks_findIn (M:=ai prog w) X b;have q:=looks_findIn (M:=ai prog w) X n;have u:=F.excAttr_ValueError.ga.bind (.ref x);have l:(Value.builtin "BaseException.__getattribute__"== Value.builtin "object.__getattribute__")=false:=by decide +kernel
 have f:(onTheHeap (Value.ref C)&&Value.builtin "BaseException.__getattribute__"== Value.builtin "object.__getattribute__")=false:=by rw[l];rfl
 unfold getAttr? getAttrBy? getAttrBy;refine Za (wpAny_mkText (Za (XY (Yg (Za (a.at (Za (c.at ?_))))))));dsimp only;rw[Zl (by rw[f];exact ZH)];unfold getAttrByItsOwn
 repeat (any_goals (first|assumption|with_reducible refine a.at ?_|with_reducible refine q.at ?_|wp_step))
 refine go _ _ _ ?_
 repeat (any_goals (first|assumption|wp_step))
structure dk(K:Frag)(C:af):Prop where
 BM:findIn K (.ref C) "__getattribute__"=some (some (.builtin "BaseException.__getattribute__"))
 oZ:findIn K (.ref C) "__getattr__"=some none
 ha:findIn K (.ref C) "__class__"=some (some (.builtin "object.__class__"))
 hn:specialIn K (.builtin "object.__class__") "__get__"=some (some (.builtin "getset_descriptor.__get__"))
 ni:takesIn K (.builtin "object.__class__")=some true
 hm:mroIn K C (.type "object")=some true
 hb:mroIn K C (.type "BaseException")=some true
 hc:(clsIn K C).isSome=true
theorem OX(T:dk K C):KitX K (.ref x) (.ref C) (ExcAt x C) where
 ty:=λ_ _ _ I=>I.type
 it:=λ_ _ X _=>by
  have a:=T.hc;unfold clsIn at a;split at a
  ·rename_i m g c l b;intro p B u y d j;unfold isType loadHead;refine Za (wpAny_loadPart (d _ _ (X _ _ b)) ?_);exact Zc j
  ·cases a
 ne:=λh f v r n t X i=>by
  have a:=T.hc;refine Yu.mpr λq=>?_;have e:C=f:=Value.ref.inj (Wg.mp q);subst e;unfold clsIn at a;split at a
  ·rename_i m g c l b;have z:=(X _ _ b).symm.trans i;cases z
  ·cases a
 ca:=λX I k=>q38 X I T.BM T.oZ T.ha T.hn T.ni T.hm T.hb T.hc k
end
end L2
namespace L2
open PySem PySem.Spec PyProof.Rows PySem.W
section
variable{K:Frag}{h:ao}{C:af}{SE:List aa}{newId:String}
theorem xG8(X:K.In h)(q:excIn K C SE newId=true):∃n N E qn bs x Z a y b d B k1 u w W k,
  h.get? C=some (excClassObj E qn C N bs n x Z a y b d B k1 u w W newId)/\h.Ns N k/\k "__init__"=none/\OwnTail h SE n:=by
 unfold excIn at q;split at q
 ·rename_i d L A D;split at q
  ·rename_i C1 R f i r j v m p I;simp only[YC,Wg,Wa]at q;obtain⟨⟨⟨⟨⟨M,F⟩,g⟩,Y⟩,c⟩,s⟩:=q;subst M F;obtain⟨Q,O,a3,T,G,S,t,P,H,J,SS⟩:=L;dsimp only at p g c s;subst p g;obtain⟨l⟩:=A;have U:l=[f,i,r,j,some (.builtin v),m]:=I;subst U;have V:=isNs_of_in X c;exact⟨R,T,Q,G,O,S,t,P,H,J,d,f,i,r,j,m,_,X _ _ D,.of_isNs V,nsMap_none_of_in X c s,tail_of_in X Y⟩
  ·cases q
 ·cases q
end
abbrev Es:List aa:=[.type "ValueError",.type "Exception",.type "BaseException",.type "object"]
section
variable{X:Cx}{x:ar}{C:af}{E:XK}{rJ:av}{rest:List av}{t:TA}{np cZ pos:aC}
def xG9(cls:aa)(E:XK)(t:TA):TS:=λ_ b H=>t b H λa c=>a.length<=sizeLine/\E cls none c
theorem OW(l:Gl X x)(p:X.mg x=some (.ref C))(M:excIn X.K C Es "ValueError.__new__"=true)(hc:X.calm=true)(u:Md X E)(k:PA X (rJ::rest) t)(j:(x==("__debug__":ar))=false:=by decide)
  (d:starEach (rJ::rest) X.env=(false,eval rJ X.env)::starEach rest X.env:=by rfl) (i:(backTo cZ (starEach rest X.env)).any (·.1)=false:=by rfl):
  PS X (.Raise (some (.Call (.Name x np) (rJ::rest) [] cZ)) none pos) (xG9 (.ref C) E t):=by
 intro b s f H D I h;obtain⟨bm,N,nm,L,bs,w,sn,sub,ab,col,dd,k0,k1,k2,k3,k5,mN,G,A,g,T⟩:=xG8 I.ok.mod.oP M;refine wpAny_Raise_call_subU (C:=C) (nm:=nm) (q:=L) (N:=N) (bs:=bs) (bm:=bm) (hdct:=w) (sn:=sn) (sub:=sub) (ab:=ab) (col:=col) (dd:=dd) (k0:=k0) (k1:=k1) (k2:=k2) (k3:=k3) (k5:=k5) (mN:=mN)
  F.excBase_ValueError (by decide) F.excBase_ValueError (T.hasType F.excBase_ValueError.hasBase) (I.ok.hd hc) (by rw[d];show(false||(backTo cZ (starEach rest X.env)).any (·.1))=false;rw[i];rfl) g (xw I l p ⟨rfl,?_⟩ j)
 have c:=k cZ b s f H _ I h;rw[d]at c ⊢;refine Calls.evalArgs_plain (Yw c (λP B ⟨O,K,a,r,n,m⟩=>?_) λ_ _ y=>y);exact⟨rfl,by rw[<- r.length];exact n,a.bk _ _ G,A.keeps a.bk,T.keeps a.bk,λJ e v=>u b f K B J e _ _ a v m⟩
end
section
variable{X:Cx}{j8:List (af×az)}{σ:St}{H:Hp}{s:ae}
def xV(X:Cx)(j8:List (af×az))(E:XK):Cx:={X with
 pn:=X.pn++j8
 xe:=λe d=>∃(x:af)(cls:aa)(B:ao)(a:Hp)(c:St),e=.ref x/\Inv X j8 c a d/\Over B X.stack x cls .none d.heap /\
  (∀b o,X.aH.heap.get? b=some o->b∉c6 X.stack->∃ob,B.get? b=some ob)/\(∀b o,a b=some o->∃ob,B.get? b=some ob)/\(∀p∈X.pn++j8,∃ob,B.get? p.1=some ob)/\a x=none/\E cls none a}
def yF(X:Cx)(x:af):Cx:={X with A:=X.A.mark (some (.ref x)),calm:=false,xe:=λ_ _=>False}
theorem Inv.yV(I:Inv X j8 σ H s)(E:XK):Inv (xV X j8 E) [] σ H s:=
 ⟨⟨I.ok.mod,I.ok.kind,I.ok.glob,I.ok.blt,I.ok.above,I.ok.inj,I.ok.has,I.ok.rM,I.ok.hd,I.ok.frames,I.ok.p7,I.ok.yH,I.ok.bs,I.ok.mR,I.ok.iu,I.ok.je,I.ok.di,I.ok.pz⟩,I.os,I.bare,I.base,I.loc,I.cell,I.free,I.cJ,
  λp a=>I.pin p (by simpa[xV]using a),I.aQ,I.len⟩
theorem Inv.fw{E:XK}{a:List (af×az)}(I:Inv (xV X j8 E) a σ H s):Inv X j8 σ H s:=
 ⟨⟨I.ok.mod,I.ok.kind,I.ok.glob,I.ok.blt,I.ok.above,I.ok.inj,I.ok.has,I.ok.rM,I.ok.hd,I.ok.frames,I.ok.p7,I.ok.yH,I.ok.bs,I.ok.mR,I.ok.iu,I.ok.je,I.ok.di,I.ok.pz⟩,I.os,I.bare,I.base,I.loc,I.cell,I.free,I.cJ,
  λp b=>I.pin p (Y5 _ b),I.aQ,I.len⟩
theorem Inv.CT(I:Inv X j8 σ H s)(x:af):Inv (yF X x) j8 σ H s:=
 ⟨⟨I.ok.mod,I.ok.kind,I.ok.glob,I.ok.blt,I.ok.above,I.ok.inj,I.ok.has,I.ok.rM,λz=>Bool.noConfusion z,I.ok.frames,I.ok.p7,I.ok.yH,I.ok.bs,I.ok.mR,I.ok.iu,I.ok.je,I.ok.di,I.ok.pz⟩,I.os,I.bare,I.base,I.loc,I.cell,I.free,I.cJ,I.pin,I.aQ,I.len⟩
theorem Inv.ofH{x:af}(hA:X.calm=true->X.A.handled=none)(I:Inv (yF X x) j8 σ H s):Inv X j8 σ H s:=
 ⟨⟨I.ok.mod,I.ok.kind,I.ok.glob,I.ok.blt,I.ok.above,I.ok.inj,I.ok.has,I.ok.rM,hA,I.ok.frames,I.ok.p7,I.ok.yH,I.ok.bs,I.ok.mR,I.ok.iu,I.ok.je,I.ok.di,I.ok.pz⟩,I.os,I.bare,I.base,I.loc,I.cell,I.free,I.cJ,I.pin,I.aQ,I.len⟩
theorem Ue{E:XK}(t:X.ex=[]):xj (jv X.prog X.w) (xV X j8 E) E:=by
 intro j σ H s e A I h;obtain⟨x,c,d,rfl,m,hb,⟨B,U,u,i,f,l,D⟩,v⟩:=h;have n:Inv (xV X j8 E) j σ d A:=I.tL m U u hb (λb z=>absurd z (by simp));have a:∀b,b≠X.env.locals->b∉X.fs->b∉c6 X.stack:=λb h1 h2 q=>by
  rcases ZD.mp (I.fw.dQ b q)with z|z
  ·exact h1 z
  ·exact h2 z
 refine⟨x,c,B,d,σ,rfl,n.fw,i,λb o z hb=>?_,l,λp k=>?_,D,v⟩
 ·obtain⟨w,r⟩:=I.fw.base.there b o z (by rw[t];simp);exact f b w r hb
 ·obtain⟨y,_,g,C,_⟩:=I.fw.pin p k;exact f p.1 p.2 y (a p.1 g C)
theorem Inv.si{B h2:ao}{tk:Nat}(I:Inv X j8 σ H s)(S:X.ex=[])(U:B.StaysIn s.heap)(D:B.StaysIn h2)(A:s.heap.UpToSlots h2)
  (K:∀b o,X.aH.heap.get? b=some o->b∉c6 X.stack->∃ob,B.get? b=some ob) (E:∀b o,H b=some o->∃ob,B.get? b=some ob) (cp:∀p∈X.pn++j8,∃ob,B.get? p.1=some ob):Inv X j8 σ H {s with heap:=h2,toks:=tk}:=by
 have same:∀b ob o,B.get? b=some ob->s.heap.get? b=some o->h2.get? b=some o:=λb ob o J T=>by
  have L:=U b ob J;have f:=D b ob J;rw[T]at L;cases L;exact f
 have G:∀c v,s.heap.IsCell c v->h2.IsCell c v:=λc v ⟨o,e,d⟩=>by
  obtain⟨h,q⟩:=A c o e (λvs z=>by rw[d]at z;cases z);exact⟨_,q,d⟩
 have a:∀b∈c6 X.stack,∀o,s.heap.get? b=some o->∃h,h2.get? b=some {o with slots:=h}:=λb hb o e=>by
  obtain⟨_,F,M,d⟩:=I.stack.mem hb;rw[e]at M;cases M;exact A b o e d
 have t:∀b,b∈X.fs->b∈c6 X.stack:=λb hb=>by
  rcases I.ok.p7 with z|⟨z,_⟩
  ·rw[z];exact hb
  ·rw[z];show b∈(X.env::X.outer).filterMap (·.frame);rw[ZT];split
   ·exact hb
   ·exact Zk _ hb
 have nl:∀b o,X.aH.heap.get? b=some o->b≠X.env.locals:=λb o e=>ZC (ZO (Zj e) I.ok.above);have j:∀b o,X.aH.heap.get? b=some o->b∉X.fs->b∉c6 X.stack:=λb o e h2 x=>by
  rcases ZD.mp (I.dQ b x)with z|z
  ·exact nl b o e z
  ·exact h2 z
 have i6:∀b:af,b∉X.ex:=λb=>by rw[S];simp
 refine⟨I.ok,I.os,I.bare,⟨λb o e n hb g=>?_,λb o e n hb g=>?_,I.base.free,λb o e g=>?_,I.base.cR,I.base.dX,I.base.eu⟩,?_,λy c e=>?_,I.free,I.cJ,λp C=>?_,λb o e=>?_,I.len⟩
 ·obtain⟨ob,z⟩:=K b o e (j b o e hb);exact same b ob o z (I.base.keep b o e n hb g)
 ·obtain⟨h,q⟩:=I.base.slot b o e n hb g;obtain⟨Y,f⟩:=a b (t b hb) _ q;exact⟨Y,f⟩
 ·obtain⟨F,q⟩:=I.base.there b o e g;by_cases hb:b∈c6 X.stack
  ·obtain⟨h,f⟩:=a b hb F q;exact⟨_,f⟩
  ·obtain⟨ob,z⟩:=K b o e hb;exact⟨ob,D b ob z⟩
 ·obtain⟨m,O,W⟩:=I.loc;refine⟨m,A.ns O,λi y v h1 h2 x=>?_⟩;obtain⟨u,r,l⟩:=W i y v h1 h2 x;refine⟨u,r,?_⟩;rcases l with l|⟨k,c,e,z⟩
  ·exact .inl l
  ·exact .inr ⟨k,c,e,G c _ z⟩
 ·obtain⟨v,z⟩:=I.cell y c e;exact⟨v,G c v z⟩
 ·obtain⟨V,P,N,Z,R⟩:=I.pin p C;obtain⟨ob,z⟩:=cp p C;exact⟨same p.1 ob p.2 z V,P,N,Z,R⟩
 ·refine(I.aQ b o e).dS (λc u Q q=>?_) (λ_ q=>q) λ_ _ q=>q;rcases Q with z|z
  ·obtain⟨ob,w⟩:=E b o e;rw[z]at q ⊢;exact same b ob u w q
  ·obtain⟨ob,w⟩:=E c _ z;exact same c ob u w q
theorem Inv.wx{x C:af}{B:ao}(I:Inv X j8 σ H s)(S:X.stack=X.env::X.outer)(G:X.env.frame=some X.env.locals)(a:H x=none)(F:Over B X.stack x (.ref C) .none s.heap)
  (N:∀b o,X.aH.heap.get? b=some o->b∉c6 X.stack->∃ob,B.get? b=some ob) (V:∀p∈X.pn++j8,∃ob,B.get? p.1=some ob):Inv X j8 σ (upd H x (.ext (ExcAt x C))) s:=by
 obtain⟨fB,D,U,l,A,T,oT,Z,f,J,g,_,h,_⟩:=F;have t:x∉c6 X.stack:=λO=>by
  obtain⟨_,o,e,d⟩:=U.mem O;rw[f]at e;cases e;exact d A g
 have W:X.env.locals≠x:=λz=>t (by
  rw[S];show x∈(X.env::X.outer).filterMap (·.frame);rw[ZT,G,z];exact Zu)
 have Y:∀b o,X.aH.heap.get? b=some o->b≠x:=λb o e z=>by
  subst z;obtain⟨ob,q⟩:=N b o e t;rw[D]at q;cases q
 refine⟨I.ok,I.os,I.bare,⟨I.base.keep,I.base.slot,λb o e n P=>?_,I.base.there,λb w e=>?_,λb o u e=>?_,λb Q e=>?_⟩,I.loc,I.cell,?_,λy c e=>?_,λp r=>?_,λb o e=>?_,I.len⟩
 ·rw[cK (Y b o e)];exact I.base.free b o e n P
 ·have z:=I.base.cR b w e;rw[cK (dv z a)];exact z
 ·have z:=I.base.dX b o u e;rw[cK (dv z a)];exact z
 ·obtain⟨m,z⟩:=I.base.eu b Q e;exact⟨m,by rw[cK (dv z a)];exact z⟩
 ·rw[cK W];exact I.free
 ·rw[cK (λz=>?_)]
  ·exact I.cJ y c e
  ·obtain⟨v,o,q,d⟩:=I.cell y c e;rw[z,f]at q;cases q;rw[g]at d;cases d
 ·obtain⟨M,L,E⟩:=I.pin p r;obtain⟨ob,q⟩:=V p r;refine⟨M,?_,E⟩;rw[cK (λz=>by rw[z,D]at q;cases q)];exact L
 ·by_cases hb:b=x
  ·subst hb;rw[bg]at e;cases e;refine⟨⟨l,A,f,J,g,h⟩,⟨l,f⟩,λh1 h2 ⟨j,i,R,K⟩ k=>⟨j,i,k j R,K⟩⟩
  ·rw[cK hb]at e;exact(I.aQ b o e).dS (λc u _ q=>q) (λc q=>by rw[cK (dv q a)];exact q) λc w q=>by rw[cK (dv q a)];exact q
theorem Ud{h:ao}{a:af}{m b:ar->Option aa}(x:h.Ns a m)(y:h.Ns a b):m=b:=by
 obtain⟨o,p,l,g,j,_,f⟩:=x;obtain⟨q,k,r,d,c,_,i⟩:=y;rw[g]at d;cases d;rw[j]at c;cases c;funext n;rw[<- f n,i n]
theorem Inv.pZ{i:Nat}{n:ar}{h':ao}{m:ar->Option aa}{v:Option aa}{tk:Nat}(I:Inv X j8 σ H s)(O:X.N.Nodup)(x:X.N[i]?=some n)(K:s.heap.Ns X.env.locals m)(B:h'.Ns X.env.locals (λy=>if y=n then v else m y))(sb:Heap.SameBut X.env.locals s.heap h'):
  Inv X j8 (σ.set i none) H {s with heap:=h',toks:=tk}:=by
 have g:∀b o,X.aH.heap.get? b=some o->b≠X.env.locals:=λb o e=>ZC (ZO (Zj e) I.ok.above);have tr:∀b o,H b=some o->b≠X.env.locals:=λb o e z=>by rw[z,I.free]at e;cases e
 refine⟨I.ok,I.os,I.bare,⟨λb o e a c d=>(sb.2 b (g b o e)).trans (I.base.keep b o e a c d),λb o e a c d=>?_,I.base.free,λb o e d=>?_,I.base.cR,I.base.dX,I.base.eu⟩,?_,λy c e=>?_,I.free,I.cJ,λp C=>?_,λb o e=>?_,by simpa using I.len⟩
 ·obtain⟨D,q⟩:=I.base.slot b o e a c d;exact⟨D,(sb.2 b (g b o e)).trans q⟩
 ·obtain⟨G,q⟩:=I.base.there b o e d;exact⟨G,(sb.2 b (g b o e)).trans q⟩
 ·obtain⟨R,L,M⟩:=I.loc;refine⟨_,B,λj y w A f N=>?_⟩;have h:j≠i:=λz=>by
   subst z;rw[WK (by rw[I.len];exact(cF x).1)]at f;cases f
  rw[W8 (Xz h)]at f;obtain⟨u,r,l⟩:=M j y w A f N;refine⟨u,r,?_⟩;have P:y≠n:=λz=>h (HU O A (z▸x));rcases l with⟨k,e⟩|⟨k,c,e,z⟩
  ·refine .inl ⟨k,?_⟩;show(if y=n then v else m y)=some u;rw[Zl P,Ud K L];exact e
  ·exact .inr ⟨k,c,e,z.sameBut sb (I.rK y c e)⟩
 ·obtain⟨w,z⟩:=I.cell y c e;exact⟨w,z.sameBut sb (I.rK y c e)⟩
 ·obtain⟨J,E,t,Q⟩:=I.pin p C;exact⟨(sb.2 p.1 t).trans J,E,t,Q⟩
 ·refine(I.aQ b o e).dS (λc u F q=>(sb.2 c ?_).trans q) (λ_ q=>q) λ_ _ q=>q;rcases F with z|z
  ·rw[z];exact tr b o e
  ·exact tr c _ z
def KJ(X:Cx)(F:aa)(i:Nat)(th:af->TS)(D:Ends):XK:=λa _ b=>∃C,a=.ref C/\exmOne X.K a F=some true/\∀x,b x=none ->
 th x {nx:=λσ H=>D.nx (σ.set i none) H,rt:=D.rt,bk:=λσ H=>D.bk (σ.set i none) H,ct:=λσ H=>D.ct (σ.set i none) H} ((List.replicate X.N.length none).set i (some (.ref x))) (upd b x (.ext (ExcAt x C)))
def FU(X:Cx)(F:aa)(i:Nat)(tb:XK->TS)(th:af->TS):TS:=λD σ H=>tb (KJ X F i th D) D σ H
theorem xH0{p:List aB}{Cp:aB}{sd:List aB}{G n:ar}{np Bx pos:aC}{FA:af}{i:Nat}{tb:XK->TS}{th:af->TS}(kN:X.ex=[])(K:X.stack=X.env::X.outer)(jJ:X.env.frame=some X.env.locals)
  (hN:X.N.Nodup) (hi:X.N[i]?=some n) (hl:X.env.scope.names.lookup n=some .local) (hg:Gl X G) (hm:X.mg G=some (.ref FA)) (hb:∀j8 E,gI (xV X j8 E) p (tb E)) (hh:∀x,gI (yF X x) (Cp::sd) (th x))
  (hd:(G==("__debug__":ar))=false:=by decide):PS X (.Try p [.ExceptHandler (some (.Name G np)) (some n) (Cp::sd) Bx] [] [] pos) (FU X (.ref FA) i tb th):=by
 intro j8 s σ H D I h;have pj:(X.env.scope.kind==.class||(X.env.scope.kind==.module&&X.env.locals != X.env.globals))=false:=by rw[I.ok.kind];rfl
 refine wpAny_Try_except ?_;refine Yw (hb j8 _ [] s σ H D (I.yV _) h) (λf w N=>?_) (λe w hx=>?_)
 ·cases f with
  |next=>
   obtain⟨a,b,l,q⟩:=N;exact WA ⟨a,b,l.fw,q⟩
  |brk=>
   obtain⟨a,b,l,q⟩:=N;exact⟨a,b,l.fw,q⟩
  |cont=>
   obtain⟨a,b,l,q⟩:=N;exact⟨a,b,l.fw,q⟩
  |ret u=>
   obtain⟨v,a,b,l,r,q⟩:=N;exact⟨v,a,b,l.fw,r,q⟩
 ·obtain⟨x,cls,B,b,a,rfl,l,FW,c0,c2,cp,DS,C,rfl,JK,Y⟩:=hx;have SX:=FW;rw[K]at SX;have Kr:X.A.frames=some (X.env::X.outer):=by rw[<- K];exact I.ok.frames
  refine PF Kr jJ SX λh4 F V=>?_;refine Dq F λh5 L S=>?_;have Q:Inv X j8 a b {w with heap:=h5}:=l.si (tk:=w.toks) kN FW.stays L.stays (V.trans S) c0 c2 cp;obtain⟨ob,Z,_,_,_,ho,DY,wH,_,O,_⟩:=id L.ou;refine wpAny_handleBy_cons (codeAny_handlers_test ?_) (by intro q;cases q);refine xw (X:=yF X x) (Q.CT x) hg hm ?_ hd;have LT:Looks (ai X.prog X.w) h5 (typeOf (.ref x)) (.ref C):=ExcAt.type ⟨ob,Z,ho,DY,wH,O⟩;refine(exm_one (M:=ai X.prog X.w) Q.gn LT JK).here ?_;refine codeAny_handlers_suite_as ?_;refine Dq L λU R4 T=>?_;have I6:Inv X j8 a b {w with heap:=U}:=Q.si (tk:=w.toks) kN L.stays R4.stays T c0 c2 cp;have SW:Inv X j8 a (upd b x (.ext (ExcAt x C))) {w with heap:=U}:=I6.wx K jJ DS (by rw[K];exact R4) c0 cp;have W:Inv X j8 (List.replicate X.N.length none) (upd b x (.ext (ExcAt x C))) {w with heap:=U}:=SW.weak (by rw[XZ,SW.len]) (λj v e=>by
   rw[XF]at e;split at e<;>cases e)
  refine De (X:=yF X x) (v:=.ref x) (W.CT x) hN hi (.inl hl) rfl (λs7 I7=>?_) (.inr hl);refine Yw (hh x j8 s7 _ _ _ I7 (Y x DS)) (λf s8 J=>?_) λ_ _ z=>z.elim;have g:∀{y:St}{c:Hp},Inv (yF X x) j8 y c s8->∀{P:Unit->ae->Prop}{E':aa->ae->Prop},(∀A,Inv X j8 (y.set i none) c A->P () A) ->
    ah (ai X.prog X.w) X.A (do bindName X.env n .none;unbindBehindTheSuite X.env n Bx) P E' s8:=λ{y c} d {P E'} k=>by
   obtain⟨m,hn,_⟩:=id d.loc;refine wpAny_nameGoes_keeps hl hn pj λh9 v hn9 R=>k _ ?_;exact(d.ofH I.ok.hd).pZ hN hi hn hn9 R
  cases f with
  |next=>
   obtain⟨y,c,d,q⟩:=J;exact g d λA t=>⟨_,c,t,q⟩
  |brk=>
   obtain⟨y,c,d,q⟩:=J;exact g d λA t=>⟨_,c,t,q⟩
  |cont=>
   obtain⟨y,c,d,q⟩:=J;exact g d λA t=>⟨_,c,t,q⟩
  |ret u=>
   obtain⟨v,y,c,d,r,q⟩:=J;exact g d λA t=>⟨v,_,c,t,r,q⟩
end
theorem qC3:entryFor table "proto.unchain"=some Builtin.«proto.unchain»:=entryFor_of_tree (by kernel_rfl)
section
variable{x C e:af}
theorem q39{α:Type}{Q:α->ae->Prop}{b:az}{a:Array aa}(c:A.handled=some (.ref x))(k:ExcAt x C s.heap)(ne:x≠e)(j:s.heap.get? e=some b)(f:b.data=.fields a)(hs:2<a.size)
  (i:E (.ref e) {s with heap:=s.heap.update e (Obj.mapFields (·.setIfInBounds 2 (.ref x)))}):ah (ai prog w) A (raiseNew (.ref e):Sem α) Q E s:=by
 obtain⟨l,n,h,m,d,g⟩:=k;unfold raiseNew;refine Za (wpAny_handled ?_);rw[c];dsimp only;rw[Zr (by simp[ne])];refine Za (Yg (wpAny_runValue (Xb qC3 ?_)));unfold Builtin.«proto.unchain»;refine Za (Yb h d g ?_);rw[Zr (by rfl)]
 first
  |refine Za (Zc (Zc ?_))
  |refine Zc ?_
 dsimp only;show ah _ _ (setField (.ref e) 2 (.ref x) >>= λ_=>throw (.ref e)) _ _ _;exact Za (Y6 j f hs (wpAny_throw i))
theorem X_{α:Type}{Q:α->ae->Prop}(j:A.handled=some (.ref x))(l:ExcAt x C s.heap)
  (t:∀c e,(∀b o,s.heap.get? b=some o->c.get? b=some o)->(∃o,c.get? e=some o/\o.cls=.type "StopIteration")->E (.ref e) {s with heap:=c}):ah (ai prog w) A (newExc (.type "StopIteration") [] >>= λe=>(raiseNew e:Sem α)) Q E s:=by
 refine Za ?_;simp only[newExc,newTuple];refine Za (ZW ?_ (by size_fits));refine Za (m:=firstArgMember _ _) (wpAny_of_eq (a:=Value.none) (by first|rfl|(simp only[firstArgMember];rfl)) ?_);refine ZW ?_ (by size_fits);obtain⟨n,u,g,p,k,r⟩:=id l;have i:∀(f h:az) b o,s.heap.get? b=some o->((s.heap.push f).push h).get? b=some o:=λf h b o q=>Zd _ (Zd _ q);have v:x≠(s.heap.push {cls:=.type "tuple",dict:=none,data:=.seq ([]:List aa).toArray}).objs.size:=by
  rw[YT];exact ZC (Yc (Zj g))
 refine q39 (C:=C) j ⟨n,u,i _ _ _ _ g,p,k,r⟩ v (Zm _ rfl) rfl (by simp[Array.size_append];lia) (t _ _ (λb o q=>?_) ⟨_,YH _ (Zm _ rfl) (Xi (Yy rfl _)),WO _ _⟩);refine(ZL _ _ (λz=>?_)).trans (i _ _ b o q);have d:=Zj q;rw[<- z,YT]at d;exact Yn _ (Xm (YE _) d)
theorem qC4{it l:af}{i:Nat}{items:Array aa}{Q:Option aa->ae->Prop}(g:A.handled=some (.ref x))(H:ExcAt x C s.heap)(v:it≠x)(a:s.heap.IsListIter it l i)(u:s.heap.IsList l items)(m:items[i]?=none)
  (D:∀f,(∀b o,b≠it->s.heap.get? b=some o->f.get? b=some o)->Q none {s with heap:=f}):ah (ai prog w) A (pyNext (.ref it)) Q E s:=by
 obtain⟨o,c,J,d⟩:=id a;obtain⟨I,n,_,K,p⟩:=u;obtain⟨h,F,r,k,y,B⟩:=id H;unfold pyNext;refine Za (XY (Z6 (name:=Str.ofString "__next__") a.typeIs slot_listiter_next ?_));refine Yj slot_listiter_next a.typeIs entry_listiter_next ?_ (args_listiter_next _);show ah _ _ (field (.ref it) 0 >>= _) _ _ s;refine Za (Yb c d (x:=.ref l) rfl ?_);show ah _ _ (if(Value.ref l==Value.none)=true then _ else _) _ _ s;rw[Zl (show ¬((Value.ref l==Value.none)=true)from λz=>Bool.noConfusion z)];show ah _ _ (field (.ref it) 1 >>= _) _ _ s;refine Za (Yb c d (x:=.int i 0) rfl ?_);show ah _ _ (seqItems? (.ref l) >>= _) _ _ s;refine Za (Vt n p ?_);simp only[ZY,m];refine Za (Xf (Za (Y6 c d (by simp) ?_)));show ah _ _ (newExc (.type "StopIteration") [] >>= λe=>raiseNew e) _ _ _;refine X_ (A:=A.in1) (x:=x) (C:=C) g ⟨h,F,(ZL _ _ v).trans r,k,y,B⟩ λf e G j=>?_;refine Za (Wo (T:= "StopIteration") (b:=true) j isSubtype_stop ?_);exact Zc (D _ λb ob t q=>G b ob ((ZL _ _ (Xz t)).trans q))
end
end L2
namespace L2
open PySem PySem.Spec PyProof.Rows
def AB(CX:kl)(P:ag)(w:aj)(K:PySem.W.Frag)(mg:ar->Option aa)(base:ao)(N:List ar)(a:ar)(scope:aA)(f:af)(b:aa)(A:aq)(outer:List Env)(s:ae)(H:Hp)(E:XK):Cx:=
 {gU CX P w K mg base N a scope f b A outer s H E with calm:=false,xe:=λ_ _=>False}
theorem qW3{CX:kl}{P:ag}{w:aj}{K:PySem.W.Frag}{mg:ar->Option aa}{base:ao}{N ps:List ar}{d:ar}{scope:aA}{f:af}{B:aa}{A:aq}{outer:List Env}{s I:ae}{H:Hp}{E:XK}{us:List aa}{j:List V}
  (S:aI N ps scope) (g:mV P w K mg base A outer s H) (G:j.length=ps.length) (r:Vals j us)
  (x:InCallC s s.heap.objs.size (bindL (envOfC d scope s.heap.objs.size f B).kindOf (ps.zip us) λ_=>none) (cellsFrom (s.heap.objs.size+1) scope.names []) (bindC (envOfC d scope s.heap.objs.size f B).kindOf (ps.zip us) λ_=>none) I):
  Inv (AB CX P w K mg base N d scope f B A outer s H E) [] (start N j) H I:=by
 have O:ps.length<=N.length:=by have:=Yo List.length S.pre;rw[XE]at this;exact Ln this
 obtain⟨h1,Q,rfl,F⟩:=x.done;have C:∀b:af,b∉(AB CX P w K mg base N d scope f B A outer s H E).ex:=λb z=>absurd (show b∈([]:List af)from z) (by simp);refine⟨⟨g.mod,S.kind,rfl,rfl,Zb _,λy z c h1 h2=>?_,λy l=>?_,λy c _ h=>?_,λz=>Bool.noConfusion z,Around.frames_deeper g.frames,.inr ⟨rfl,rfl⟩,λb z=>absurd z (C b),g.bs,g.mR,λb _ _=>C b,λb z=>absurd z (C b),g.di,g.pz⟩,
  rfl,g.bare,Un.kept F,⟨_,x.toInCall.ns,λi y v h1 h2 R=>?_⟩,λy c h=>⟨_,x.cell y c h⟩,g.aQ.fresh (Zb _),λy c h=>?_,λp m=>absurd (show p∈([]:List (af×az))from m) (by simp),g.aQ.kept F,?_⟩
 ·exact name_of_addr x.apart (Yh h1) (Yh h2)
 ·have l:scope.names.lookup y=some .cell\/scope.names.lookup y=some .free:=l;rcases l with l|l
  ·exact Dc l
  ·exact absurd rfl (S.ow _ (Yh l))
 ·exact Yt (x.above y c (Yh h))
 ·have t:i<j.length:=by
   unfold start at h2;by_cases t:i<j.length
   ·exact t
   ·rw[Zx (by simpa using t)]at h2;rw[XF]at h2;split at h2<;>cases h2
  have M:j[i]?=some v:=by
   unfold start at h2;rw[Zp (by simpa using t),Zg]at h2;cases e:j[i]? with
   |none=>rw[e]at h2;cases h2
   |some a=>rw[e]at h2;cases h2;rfl
  obtain⟨u,D,L⟩:=r.get M;have m:ps[i]?=some y:=by
   rw[<- S.pre,Wv (m_ t G)];exact h1
  have J:ps.Nodup:=by rw[<- S.pre];exact S.nd.sublist (List.take_sublist _ _)
  refine⟨u,L,?_⟩;rcases S.par y (Zy m)with k|k
  ·exact .inl ⟨k,GU J m D k⟩
  ·obtain⟨c,e⟩:=Dc (n:=s.heap.objs.size+1) k;refine .inr ⟨.inl k,c,e,?_⟩;have q:=x.cell y c e;rw[GQ J m D (by show scope.names.lookup y≠_;rw[k];decide)]at q;exact q
 ·exact g.aQ.fresh (Yt (x.above y c (Yh h)))
 ·unfold start;show _=N.length;rw[Zn,Zf,XZ];exact Nq G O
structure e_(k:Nat)(x:af)(A:aq):Prop where
 hd:A.handled=some (.ref x)
 dp:A.depth+3*k+5<recursionLimit
 un:A.units+16*k+200<cLine
theorem aZ.CT{k:Nat}{A:aq}(r:aZ k A)(x:af):e_ k x (A.mark (some (.ref x))):=⟨rfl,r.dp,r.un⟩
theorem e_.deeper{k:Nat}{x:af}{A:aq}(r:e_ (k+1) x A)(env:Env):e_ k x (A.deeper env):=
 ⟨r.hd,by have:=r.dp;show A.depth+1+3*k+5<_;exact Lz this,by have:=r.un;show A.units+3+16*k+200<_;exact M1 this⟩
theorem e_.depth{k:Nat}{x:af}{A:aq}(r:e_ k x A):A.depth<recursionLimit:=by have:=r.dp;exact LF this
abbrev Cr:=List V->Hp->VK->Prop
structure ju(P:ag)(w:aj)(K:PySem.W.Frag)(mg:ar->Option aa)(base:ao)(k:Nat)(x:af)(f:af)(fd:ak)(ps:List ar)(sp:Cr):Prop where
 len:∀vs H Q,sp vs H Q->vs.length=ps.length
 run:∀(A:aq)(outer:List Env)(s:ae)(H:Hp)(args:Args)(us:List aa)(vs:List V)(Q:VK),e_ k x A->mV P w K mg base A outer s H->BindsTo s fd args (ps.zip us)->Vals vs us->sp vs H Q ->
  codeAny (ai P w) A (.call (.ref f) args) (CR aR outer P w H s Q E0) s
theorem aT.okH{P:ag}{w:aj}{K:PySem.W.Frag}{mg:ar->Option aa}{base:ao}{x c:ar}{st:aB}{f xe:af}{L:ak}{N ps:List ar}{k:Nat}{sp:Cr}(F:aT K x c st f L)(S:aI N ps (bF st))(len:∀g H Q,sp g H Q->g.length=ps.length)
  (jX:∀(j:aa)(A:aq)(a:List Env)(s:ae)(H:Hp)(g:List V)(Q:VK),e_ k xe (A.deeper (envOfC c (bF st) s.heap.objs.size f j))->sp g H Q ->
   ∃t,gI (AB aR P w K mg base N c (bF st) f j A a s H E0) (m8 st) t/\t {nx:=λ_ h=>Q .cb h,rt:=Q} (start N g) H):ju P w K mg base (k+1) xe f L ps sp:=by
 obtain⟨oc,od,kV,T,pm,an,j,ct,mF,rfl,lk,U⟩:=F.ex;refine⟨len,λA a s H D us g Q E m hb r C=>?_⟩;have Z:=len _ _ _ C;have G:K.In s.heap:=m.mod.oP.keeps λb o e=>(m.bs b o e).1;have lim:s.heap.NoLimit:=m.mod.nolimit.keeps λb o e=>(m.bs b o e).1;have O:∀y∈ps.zip us,(bF st).names.lookup y.1=some .local\/((bF st).names.lookup y.1=some .cell/\((cellsFrom (s.heap.objs.size+1) (bF st).names []).lookup y.1).isSome=true):=λ⟨n,v⟩ Y=>by
  rcases S.par n (Vb Y).1 with q|q
  ·exact .inl q
  ·exact .inr ⟨q,WM _ _ _ (.inl q)⟩
 refine codeAny_call_function E.depth (G _ _ lk) rfl S.co S.gen rfl (PySem.W.codeRec_of G U) (hb _ _ _ _ ?_);refine wpAny_newFunctionEnv_cells S.kind O λR W M x=>?_;subst W;refine⟨lim.keeps x.toInCall.keep,codeAny_func ?_⟩;obtain⟨t,X,hq⟩:=jX j A a s H g Q (E.deeper _) C;have I:Inv (AB aR P w K mg base N c (bF st) f j A a s H E0) [] (start N g) H M:=qW3 S m Z r x;refine Yw (X [] M (start N g) H _ I hq) (λfl B i=>?_) λe B i=>i.elim;have l:∀{d:St}{h:Hp}{v:V}{u:aa},Inv (AB aR P w K mg base N c (bF st) f j A a s H E0) [] d h B->RelV v u->Q v h->CE a P w H s Q u B:=
  λ{d h v u} J p q=>⟨v,h,J.os,J.bare,J.base,J.aQ,p,q⟩
 cases fl with
 |ret u=>
  obtain⟨v,d,h,J,p,q⟩:=i;exact l J p q
 |next=>
  obtain⟨d,h,J,q⟩:=i;exact l (v:=V.cb) (u:=Value.none) J rfl q
 |brk=>
  obtain⟨_,_,_,q⟩:=i;exact False.elim q
 |cont=>
  obtain⟨_,_,_,q⟩:=i;exact False.elim q
section
variable{X:Cx}{k:Nat}{f xe:af}{fd:ak}{ps:List ar}{sp:Cr}{x:ar}{p pos:aC}{e:av}{es:List av}{t:TA}
def xH1(sp:Cr)(t:TA):TE:=λc H Q=>t c H λa b=>sp a b Q
theorem W_(F:ju X.prog X.w X.K X.mg X.base k xe f fd ps sp)(C:e_ k xe X.A)(m:Gl X x)(B:X.mg x=some (.ref f))(y:PySem.W.keepIn X.K (.ref f)=true)(hb:Binds X.K fd ps [])
  (l:PA X (e::es) t) (j:(x==("__debug__":ar))=false:=by decide) (n:starEach (e::es) X.env=(false,eval e X.env)::starEach es X.env:=by rfl) (A:(backTo pos (starEach es X.env)).any (·.1)=false:=by rfl):
  PE X (.Call (.Name x p) (e::es) [] pos) (xH1 sp t):=by
 intro g s v H Q I h;refine XN (xw I m B ?_ j);refine PySem.W.callWith_K (h₀:=X.base) I.ok.mod.oP y (bz (l pos g s v H _ I h) λc d ⟨w,G,b,r,q⟩=>⟨b.gn,?_⟩) n A;have D:c.length=ps.length:=by rw[<- r.length];exact F.len _ _ _ q
 have bt:=hb d c b.gn (by rw[YK];exact D);rw[YK]at bt;refine wpAny_call (WL (F.run X.A X.stack d G ⟨c,[]⟩ c w Q C b.Ci bt r q) λi J a=>?_);cases i with
 |error e=>exact False.elim a
 |ok E=>
  cases E with
  |ret u=>exact b.after a
  |next=>exact False.elim a
  |brk=>exact False.elim a
  |cont=>exact False.elim a
end
end L2
namespace L2
open PySem PySem.Spec PyProof.Rows PySem.W
section
variable{X:Cx}
def Co:V->Option aa
 |.ty n=>some (.type n)
 |.ref a=>some (.ref a)
 |_=>none
theorem Uc{c:V}{u b:aa}(r:RelV c u)(e:Co c=some b):u=b:=by
 cases c with
 |ty n=>cases e;exact r
 |ref a=>cases e;exact r
 |_=>cases e
def CB(K:Frag)(H:Hp)(x:V)(t:aa):Prop:=∃a C,x=.ref a/\H a=some (.ext (ExcAt a C))/\dk K C/\t=.ref C
inductive lu(K_:PySem.W.Frag)(xs:List V)(H:Hp)(Q:VK):Prop
 |mk(x:_)(c:_)(t:_)(cv:_)(b:_)(aV:xs=[x,c])(c7:Co c=some cv)(cq:(eZ K_ H x t\/CB K_ H x t))(aP:kitOne K_ t cv=some b)(pV:Q (.bl b) H)
theorem mD:ft X (.builtin "isinstance") (lu X.K):=by
 intro l s v H y w Q I r h;obtain⟨x,c,t,m,b,rfl,i,j,f,q⟩:=h;obtain⟨u,n,rfl,d,k⟩:=CL r;cases Uc k i;rcases j with ty|⟨a,C,rfl,e,T,rfl⟩
 ·exact q03 I d ty f λg=>⟨.bl b,H,I.tok _,rfl,q⟩
 ·cases(show u=Value.ref a from d);have p:ExcAt a C s.heap:=(I.aQ a _ e).1;exact kia_one (OX T) I.gn p f (λz=>nomatch z) λg=>⟨.bl b,H,I.tok _,rfl,q⟩
theorem Walks.Bc{prog:ag}{w:aj}{A:aq}{x C:af}(u:A.handled=some (.ref x))(I c:af)(y:c≠I)(t:I≠x)(items:Array aa):
  Walks prog w A I [I,c,x] [I] items.size (λi v=>items[i]?=some v) (λi h=>h.IsListIter I c i/\h.IsList c items/\ExcAt x C h) where
 sub:=λb hb=>by simp at hb;simp[hb]
 frame:=λi h g a n=>⟨a.1.at λo e=>n I (by simp) o e,a.2.1.at λo e=>n c (by simp) o e,by
  obtain⟨f,m,p,j⟩:=a.2.2;exact⟨f,m,n x (by simp) f p,j⟩⟩
 item:=λi s Q E r a d=>by
  refine wpAny_pyNext_list_item a.1 a.2.1 (x:=items[i]) (by simp[r]) λg q l=>?_;refine d _ g s.toks (by simp[r]) ⟨q,a.2.1.at λo e=>(l.2 c y).trans e,?_⟩ λb o hb e=>(l.2 b (λz=>hb (by simp[z]))).trans e;obtain⟨f,m,p,j⟩:=a.2.2;exact⟨f,m,(l.2 x (Xz t)).trans p,j⟩
 done:=λs Q E a d=>qC4 u a.2.2 t a.1 a.2.1 (by simp) λg k=>d g s.toks λb o hb e=>k b o (λz=>hb (by simp[z])) e
 self:=λi s Q E a d=>wpAny_pyIter_listiter a.1 d
def AA(bs:List Bool):Int:=(bs.map λb=>if b=true then(1:Int)else 0).sum
theorem qI1(bs:List Bool):∀n,n<=bs.length->preSum (λi=>if bs.getD i false=true then 1 else 0) n=AA (bs.take n):=by
 intro n
 induction n with
 |zero=>intro _;simp[preSum,AA]
 |succ n b=>
  intro h;have a:n<bs.length:=h;rw[preSum,b (Yt a),Xn a];unfold AA;rw[ZS,List.sum_append];simp[List.getD,a]
theorem Gz{c:List (af×az)}{σ:St}{H:Hp}{s s':ae}{k:az}{d:List af}(I:Inv X c σ H s)(l:Moved d (λa b=>b=a) {s with heap:=s.heap.push k} s')(i:∀b o,s.heap.get? b=some o->b∈d->False):Inv X c σ H s':=by
 obtain⟨h',p,g,t',f⟩:=s';obtain⟨n,m,h,j,q⟩:=l;cases(show p=s.gens from m);cases(show g=s.drawn from h);cases(show f=s.os from j);exact I.kept (h':=h') (t':=t') λb o e=>n b o (λz=>i b o e z) (Zd _ e)
inductive jl(X:Cx)(xs:List V)(H:Hp)(Q:VK):Prop
 |mk(p:af)(bs:List Bool)(x C:af)(aV:xs=[.ref p])(c7:H p=some (.lst (bs.map V.bl)))(cq:X.A.handled=some (.ref x))(aP:H x=some (.ext (ExcAt x C)))(pV:Q (.int (AA bs)) H)
theorem q42:ft X (.builtin "sum") (jl X):=by
 intro S s T H Z Y Q I r h;obtain⟨p,bs,x,C,rfl,J,B,N,q⟩:=h;obtain⟨u,rfl,O⟩:=gO r;cases O;obtain⟨z,a,n,m,j⟩:=I.aQ p _ J;have g:ExcAt x C s.heap:=(I.aQ x _ N).1;have k:s.heap.IsList p a.toArray:=⟨_,j,rfl,_,rfl⟩;have y:a.length=bs.length:=by have:=m.length;simpa using this.symm
 refine call_sum_walkAnyB (Xl k ?_);have R:s.heap.objs.size≠x:=Wm (by obtain⟨d,_,c,_⟩:=g;exact Zj c);have E:p≠s.heap.objs.size:=ZC (Zj j);refine⟨s.heap.objs.size,_,_,_,_,_,_,λi=>if bs.getD i false=true then 1 else 0,rfl,(Walks.Bc (A:=X.A.in1) (C:=C) B s.heap.objs.size p E R a.toArray).toS,
  ⟨⟨_,Zm _ rfl,rfl,rfl⟩,k.at λo e=>Zd _ e,?_⟩,?_,?_,?_⟩
 ·obtain⟨d,M,c,F⟩:=g;exact⟨d,M,Zd _ c,F⟩
 ·intro b hb;have f:s.heap.objs.size<(s.heap.push {cls:=.type "list_iterator",data:=.fields #[.ref p,.int 0 0]}).objs.size:=by rw[YT];exact YE _
  rcases ZD.mp hb with rfl|hb
  ·exact f
  rcases ZD.mp hb with rfl|hb
  ·exact Xm (Zj j) f
  ·have:b=x:=by simpa using hb
   subst this;obtain⟨d,_,c,_⟩:=g;exact Xm (Zj c) f
 ·intro i v G;have w:a[i]?=some v:=by simpa using G
  have l:i<bs.length:=by rw[<- y];exact(cF w).1
  obtain⟨W,t,L⟩:=m.get (x:=V.bl (bs[i])) (i:=i) (by simp[l]);rw[w]at t;cases t;refine .inr ⟨bs[i],L,?_⟩;simp[List.getD,l]
 ·intro U D K;have P:a.toArray.size=bs.length:=by simpa using y
  refine⟨.int (AA bs),H,Gz I K λb o e hb=>?_,⟨D,?_⟩,q⟩
  ·have:b=s.heap.objs.size:=by simpa using hb
   exact Yn _ (by rw[this]at e;exact Zj e)
  ·rw[P,qI1 bs _ (Zb _),XG]
inductive jt(xs:List V)(H:Hp)(Q:VK):Prop
 |mk(p:af)(bs:List Bool)(aV:xs=[.ref p])(c7:H p=some (.lst (bs.map V.bl)))(cq:Q (.bl (bs.all id)) H)
theorem Dl(hc:X.calm=true):ft X (.builtin "all") jt:=by
 intro K s M H S P Q I r h;obtain⟨p,bs,rfl,E,q⟩:=h;obtain⟨u,rfl,G⟩:=gO r;cases G;obtain⟨z,c,n,g,t⟩:=I.aQ p _ E;have f:s.heap.IsList p c.toArray:=⟨_,t,rfl,_,rfl⟩;have m:c.length=bs.length:=by have:=g.length;simpa using this.symm
 have B:p≠s.heap.objs.size:=ZC (Zj t);refine call_all_walk (Xl f ?_);refine⟨s.heap.objs.size,_,_,_,_,_,λi=>bs.getD i true,rfl,Walks.list (A:=X.A.in1) (I.ok.hd hc) s.heap.objs.size p B c.toArray,⟨⟨_,Zm _ rfl,rfl,rfl⟩,f.at λo e=>Zd _ e⟩,?_,?_⟩
 ·intro i v N L R D d;have l:c[i]?=some v:=by simpa using D
  have a:i<bs.length:=by rw[<- m];exact(cF l).1
  obtain⟨O,j,F⟩:=g.get (x:=V.bl (bs[i])) (i:=i) (by simp[a]);rw[l]at j;cases j;cases(show v=Value.bool bs[i]from F);have y:bs.getD i true=bs[i]:=by simp[List.getD,a]
  dsimp only at d;rw[y]at d;exact Z9 d
 ·intro h' C k;refine⟨.bl (bs.all id),H,I.kept (h':=h') (t':=C) (λb o e=>k b o (λz=>?_) (Zd _ e)),?_,q⟩
  ·have:b=s.heap.objs.size:=by simpa using z
   exact Yn _ (by rw[this]at e;exact Zj e)
  ·have J:c.toArray.size=bs.length:=by simpa using m
   rw[J];show Value.bool _=Value.bool _;congr 1;rw[Xa,Z8,Z8];constructor
   ·intro z b hb;obtain⟨i,a,e⟩:=ZQ.mp hb;have:=z i (Yv.mpr a);simpa[List.getD,a,e]using this
   ·intro z i a;have w:=Yv.mp a;have:=z bs[i] (XH w);simpa[List.getD,w]using this
inductive js(xs:List V)(H:Hp)(Q:VK):Prop
 |mk(p:af)(bs:List Bool)(aV:xs=[.ref p])(c7:H p=some (.lst (bs.map V.bl)))(cq:Q (.bl (bs.any id)) H)
theorem Gy(hc:X.calm=true):ft X (.builtin "any") js:=by
 intro K s M H S P Q I r h;obtain⟨p,bs,rfl,F,q⟩:=h;obtain⟨u,rfl,G⟩:=gO r;cases G;obtain⟨z,c,n,j,w⟩:=I.aQ p _ F;have g:s.heap.IsList p c.toArray:=⟨_,w,rfl,_,rfl⟩;have t:c.length=bs.length:=by have:=j.length;simpa using this.symm
 have C:p≠s.heap.objs.size:=ZC (Zj w);refine call_any_walk (Xl g ?_);refine⟨s.heap.objs.size,_,_,_,_,_,λi=>bs.getD i true,rfl,Walks.list (A:=X.A.in1) (I.ok.hd hc) s.heap.objs.size p C c.toArray,⟨⟨_,Zm _ rfl,rfl,rfl⟩,g.at λo e=>Zd _ e⟩,?_,?_⟩
 ·intro i v N L R E f;have m:c[i]?=some v:=by simpa using E
  have a:i<bs.length:=by rw[<- t];exact(cF m).1
  obtain⟨O,l,d⟩:=j.get (x:=V.bl (bs[i])) (i:=i) (by simp[a]);rw[m]at l;cases l;cases(show v=Value.bool bs[i]from d);have B:bs.getD i true=bs[i]:=by simp[List.getD,a]
  dsimp only at f;rw[B]at f;exact Z9 f
 ·intro h' D k;refine⟨.bl (bs.any id),H,I.kept (h':=h') (t':=D) (λb o e=>k b o (λz=>?_) (Zd _ e)),?_,q⟩
  ·have:b=s.heap.objs.size:=by simpa using z
   exact Yn _ (by rw[this]at e;exact Zj e)
  ·have J:c.toArray.size=bs.length:=by simpa using t
   rw[J];show Value.bool _=Value.bool _;congr 1;rw[Xa,XI,XI];constructor
   ·rintro⟨i,a,e⟩;have y:=Yv.mp a;refine⟨bs[i],XH y,?_⟩;simpa[List.getD,y]using e
   ·rintro⟨b,hb,e⟩;obtain⟨i,a,d⟩:=ZQ.mp hb;refine⟨i,Yv.mpr a,?_⟩;have:bs.getD i true=bs[i]:=by simp[List.getD,a]
    rw[this,d];exact e
def best(a:List Int):Nat->Int
 |0=>a.getD 0 0
 |k+1=>if a.getD (k+1) 0>best a k then a.getD (k+1) 0 else best a k
theorem OV(a:List Int):∀k,a.getD (argBest (λi j=>decide (a.getD i 0>a.getD j 0)) k) 0=best a k/\argBest (λi j=>decide (a.getD i 0>a.getD j 0)) k<=k
 |0=>⟨rfl,Zb _⟩
 |k+1=>by
  obtain⟨h1,h2⟩:=OV a k;unfold argBest best;rw[<- h1];by_cases b:a.getD (k+1) 0>a.getD (argBest (λi j=>decide (a.getD i 0>a.getD j 0)) k) 0
  ·rw[Zr (Zh b),Zr b];exact⟨rfl,Zb _⟩
  ·rw[Zl (by simpa using b),Zl b];exact⟨rfl,Nat.le_succ_of_le h2⟩
inductive jn(xs:List V)(H:Hp)(Q:VK):Prop
 |mk(p:af)(ns:List Int)(aV:xs=[.ref p])(c7:H p=some (.lst (ns.map V.int)))(cq:ns≠[])(aP:Q (.int (best ns (ns.length-1))) H)
theorem q43(hc:X.calm=true):ft X (.builtin "max") jn:=by
 intro S s W H xs Z Q I r h;obtain⟨p,c,rfl,G,P,q⟩:=h;obtain⟨u,rfl,N⟩:=gO r;cases N;obtain⟨z,d,n,w,l⟩:=I.aQ p _ G;have m:s.heap.IsList p d.toArray:=⟨_,l,rfl,_,rfl⟩;have C:d.length=c.length:=by have:=w.length;simpa using this.symm
 have F:p≠s.heap.objs.size:=ZC (Zj l);have D:d.toArray.size=c.length:=by simpa using C
 have k:0<c.length:=XA.mpr P;have a:∀(i:Nat)(v:aa),d.toArray[i]?=some v->∃t,v=.int (c.getD i 0) t:=λi v f=>by
  have B:d[i]?=some v:=by simpa using f
  have g:i<c.length:=by rw[<- C];exact(cF B).1
  obtain⟨Y,y,t,L⟩:=w.get (x:=V.int (c[i])) (i:=i) (by simp[g]);rw[B]at y;cases y;exact⟨t,by rw[L];simp[List.getD,g]⟩
 refine call_max_walkS (Xl m ?_);refine⟨s.heap.objs.size,_,_,_,_,_,_,λi j=>decide (c.getD i 0>c.getD j 0),rfl,(Walks.list (A:=X.A.in1) (I.ok.hd hc) s.heap.objs.size p F d.toArray).toS,⟨⟨_,Zm _ rfl,rfl,rfl⟩,m.at λo e=>Zd _ e⟩,?_,by rw[D];exact k,?_,?_⟩
 ·intro b hb;rw[YT];rcases ZD.mp hb with rfl|hb
  ·exact YE _
  ·have:b=p:=by simpa using hb
   subst this;exact Yc (Zj l)
 ·intro i j O K M U E' g E R;obtain⟨t,rfl⟩:=a i O g;obtain⟨T,rfl⟩:=a j K E;exact gt_int R
 ·intro v M f J;rw[D]at f;obtain⟨t,rfl⟩:=a _ v f;rw[(OV c (c.length-1)).1];refine⟨.int _,H,Gz I J (λb o e hb=>?_),⟨t,rfl⟩,q⟩;have:b=s.heap.objs.size:=by simpa using hb
  exact Yn _ (by rw[this]at e;exact Zj e)
theorem xN7{P:ag}{w:aj}{k:Key}{v:aa}(h:(iZ P w).is k v=true):RelV (kV k) v:=by
 rcases pT (show uN k v=true from h)with⟨i,t,rfl,rfl⟩|⟨x,t,rfl,rfl⟩
 ·exact⟨t,rfl⟩
 ·exact⟨t,rfl⟩
theorem DJ:∀{b:List V}{a:List aa},b.length=a.length->(∀(i:Nat) x v,b[i]?=some x->a[i]?=some v->RelV x v)->Vals b a
 |[],[],_,_=>.nil
 |[],_::_,h,_=>by simp at h
 |_::_,[],h,_=>by simp at h
 |x::b,u::a,h,f=>.cons (f 0 x u rfl rfl) (DJ (by simpa using h) λi y v c d=>f (i+1) y v (by simpa using c) (by simpa using d))
inductive iI(xs:List V)(H:Hp)(Q:VK):Prop
 |mk(d:af)(kvs:List (Key×V))(aV:xs=[.ref d])(c7:H d=some (.dK kvs))(cq:∀l,H l=none->Q (.ref l) (upd H l (.lst (kvs.map λkv=>kV kv.1))))
theorem qW4(hc:X.calm=true):ft X (.type "list") iI:=by
 intro N s P H O R Q I r h;obtain⟨d,kvs,rfl,C,q⟩:=h;obtain⟨u,rfl,M⟩:=gO r;cases M;obtain⟨z,J,f,rel,G⟩:=MT I.aQ C;obtain⟨ep,L⟩:=G.dictAt;have n:=rel.length;refine kdl_call (kdl_dict (knd:=iZ X.prog X.w) (kvs:=f) (ep:=ep) J) (I.ok.hd hc) L (by rw[<- n];exact z) λS t g c A B j=>?_;refine⟨.ref s.heap.objs.size,_,I.laid (a:=s.heap.objs.size) (o:=.lst (kvs.map λkv=>kV kv.1)) (t':=t) A (Zb _) ⟨by simpa using z,g.toList,c,?_,by simpa using B⟩,rfl,q _ I.fresh⟩;refine DJ (by simp[n,j.1]) λi x v p w=>?_;rw[Zg]at p;obtain⟨kv,K,rfl⟩:=Zo.mp p;obtain⟨k,y,F,b⟩:=j.2 i v (by simpa using w);have E:f[i]?=some (k,y):=F;have D:kv.1=k:=by
  have m:(kvs.map (·.1))[i]?=some kv.1:=by rw[Zg,K];rfl
  have l:(f.map (·.1))[i]?=some k:=by rw[Zg,E];rfl
  rw[rel.keys]at m;rw[m]at l;exact ZE l
 rw[D];exact xN7 b
inductive gC(xs:List V)(H:Hp)(Q:VK):Prop
 |mk(n:Int)(aV:xs=[.int n])(c7:∀r,H r=none->Q (.ref r) (upd H r (.sf 0 n)))
theorem qI2:ft X (.type "range") gC:=by
 intro c s f H g d Q I r h;obtain⟨n,rfl,q⟩:=h;obtain⟨u,rfl,t,rfl⟩:=gO r;exact call_range_1 ⟨.ref s.heap.objs.size,_,I.laid (a:=s.heap.objs.size) (o:=.sf 0 n) (λb o e=>Zd _ e) (Zb _) ⟨_,_,_,Zm _ rfl⟩,rfl,q _ I.fresh⟩
inductive iH(xs:List V)(H:Hp)(Q:VK):Prop
 |mk(r:af)(n:Nat)(aV:xs=[.ref r])(c7:H r=some (.sf 0 (n:Int)))(cq:n<=1000000)(aP:∀l,H l=none->Q (.ref l) (upd H l (.lst ((List.range n).map λ(i:Nat)=>V.int (i:Int)))))
theorem qW5(hc:X.calm=true):ft X (.type "list") iH:=by
 intro D s F H K G Q I A h;obtain⟨r,n,rfl,B,E,q⟩:=h;obtain⟨u,rfl,C⟩:=gO A;cases C;obtain⟨t,u,v,y⟩:=I.aQ r _ B;refine call_list_range (a:=0) (b:=n) (c:=1) (n:=n) (I.ok.hd hc) y (small_one (by lia) (by lia) (by lia) (by lia)) (by rw[rangeSize_one];split<;>lia) (by lia) λJ l d c w p f=>?_;refine⟨.ref s.heap.objs.size,_,I.laid (a:=s.heap.objs.size) (o:=.lst ((List.range n).map λ(i:Nat)=>V.int (i:Int))) (t':=l) w (Zb _) ⟨?_,d.toList,c,?_,by simpa using p⟩,rfl,q _ I.fresh⟩
 ·rw[Zf,WP,We];lia
 ·refine DJ (by simp[f.1]) λi x v g m=>?_;rw[Zg]at g;obtain⟨j,k,rfl⟩:=Zo.mp g;have e:j=i:=by
   obtain⟨_,e⟩:=cF k;simpa using e.symm
  subst e;obtain⟨t',rfl⟩:=f.2 j v (by simpa using m);exact⟨t',by simp⟩
end
namespace gv
theorem noFill:fillsNumberSlot (.type "tuple") "mul"=pure false:=
 PySem.fillsNumberSlot_seq (id:= "tuple.__mul__") (r:=some (.builtin "tuple.__rmul__")) F.slot_tuple_mul.lookup (by decide +kernel) F.slot_tuple_rmul.lookup (by decide +kernel)
theorem rep:seqRepeat? (.type "tuple")=pure (some (.builtin "tuple.__mul__")):=by
 unfold seqRepeat?
 rw[PySem.seqSlot_of (T:= "tuple") (name:= "__mul__") (id:= "tuple.__mul__") F.slot_tuple_mul.lookup (by decide +kernel),PySem.seqSlot_of (T:= "tuple") (name:= "__rmul__") (id:= "tuple.__rmul__") F.slot_tuple_rmul.lookup (by decide +kernel)]
 rfl
theorem declines(a:Int)(t:Tok)(l:af)(items:Array aa)(n:Nat)(f:Option af)(c:Array (Option aa)):
  Meets (Builtin.«int.__rmul__» ⟨[.int a t,.ref l],[]⟩) (λ_ R s=>s.heap.get? l=some {cls:=.type "tuple",dict:=f,data:=.seq items n,slots:=c}/\R (.ok (.ret Value.notImplemented)) s):=
 .of_wp λb w A R s h=>by
  obtain⟨k,g,d,i,j⟩:=s;obtain⟨m,h⟩:=h
  wp_walk
  exact⟨_,rfl,h⟩
theorem mul(k:Int)(t:Tok)(l:af)(items:Array aa)(n:Nat)(x:Option af)(v:Array (Option aa))(h1:1<k)(h2:k<=1000)(hs:items.size=1):
  Meets (Builtin.«tuple.__mul__» ⟨[.ref l,.int k t],[]⟩) (λ_ R s=>s.heap.get? l=some {cls:=.type "tuple",dict:=x,data:=.seq items n,slots:=v} /\
   R (.ok (.ret (.ref s.heap.objs.size))) {s with heap:=s.heap.push {cls:=.type "tuple",data:=.seq ((List.replicate k.toNat items).foldl (·++·) #[])}}):=
 .of_wp λb w A R s h=>by
  obtain⟨D,g,d,C,E⟩:=s;obtain⟨F,h⟩:=h;have p:(decide (k < -2^63)||decide (k>=2^63))=false:=by simp;lia
  have c:items.isEmpty=false:=by
   cases he:items.isEmpty with
   |false=>rfl
   |true=>rw[Array.isEmpty_iff.mp he]at hs;cases hs
  have r:(items.isEmpty||k==1)=false:=by rw[c];simp;lia
  have B:(decide (k<=0)||items.isEmpty)=false:=by rw[c];simp;lia
  have q:¬((items.size:Int)*k>(2^63-1)/8):=by rw[hs];lia
  have u:Builtin.Tuple.tupleTooMany ((items.size:Int)*k)=false:=by
   rw[hs];show decide (((1:Nat):Int)*k>(sizeLine:Int))=false;rw[We];exact Zi (by lia)
  wp_walk
  refine XW (λz=>by rw[p]at z;cases z) λ_=>?_
  wp_walk
  refine XW (λz=>by rw[r]at z;cases z) λ_=>?_;refine XW (λz=>by rw[B]at z;cases z) λ_=>?_;refine XW (λz=>absurd z q) λ_=>?_;refine XW (λz=>by rw[u]at z;cases z) λ_=>?_
  wp_walk
  refine XW (λz=>absurd z ?_) λ_=>?_
  ·have f:∀(m:Nat)(a:Array aa),(List.foldl (λy j=>y++j) a (List.replicate m items)).size=a.size+m:=λm=>by
    induction m with
    |zero=>intro a;rfl
    |succ m i=>
     intro a;rw[Vi,Z3,i,Array.size_append,hs];exact mH
   rw[f,We];simp;lia
  wp_walk
  exact⟨_,rfl,h⟩
end gv
section
variable{X:Cx}
theorem Ub:fi X (binaryOp .Mult) (λx y H Q=>∃(l:af)(k:Int)(v:V),x=.ref l/\y=.int k/\H l=some (.tup [v])/\1<k/\k<=1000/\∀p,H p=none->Q (.ref p) (upd H p (.tup (List.replicate k.toNat v)))):=by
 intro Y s Z H x y v u Q I R W h;obtain⟨l,k,O,rfl,rfl,M,h1,h2,q⟩:=h;cases R;obtain⟨t,rfl⟩:=W;obtain⟨_,K,r,o,g,A,⟨n,N⟩,w⟩:=I.aQ l _ M;obtain⟨S,E,B,D⟩:=o
 replace A:S=.type "tuple":=A
 replace w:B=.seq K.toArray n:=w
 subst A w;cases r with
 |cons L J=>
  cases J;rename_i d;have G:List.foldl (λC j=>C++j) #[] (List.replicate k.toNat #[d])=(List.replicate k.toNat d).toArray:=by
   have f:∀(m:Nat)(c:List aa),List.foldl (λC j=>C++j) c.toArray (List.replicate m #[d])=(c++List.replicate m d).toArray:=λm=>by
    induction m with
    |zero=>intro c;simp
    |succ m i=>
     intro c;rw[Vi,Z3,show c.toArray++#[d]=(c++[d]).toArray by simp,i];simp[Vi]
   have:=f k.toNat [];simpa using this
  refine wpAny_binaryOp_repeat_ref (T:= "tuple") (U:= "int") (by decide) ⟨_,g,rfl⟩ (λP=>typeIs_int P k t) gv.noFill F.fills_int_mul F.slot_int_rmul gv.rep F.slot_int_index.lookup
   (VP F.slot_int_rmul (typeIs_int s k t) F.entry_int_rmul (F.args_int_rmul_2 _ _) (gv.declines k t l _ n E D)
    ⟨g,rfl,⟨_,g,rfl⟩,VP F.slot_tuple_mul ⟨_,g,rfl⟩ F.entry_tuple_mul (F.args_tuple_mul_2 _ _) (gv.mul k t l _ n E D h1 h2 rfl) ⟨g,?_⟩⟩)
  rw[G];refine⟨.ref _,_,I.laid (a:=s.heap.objs.size) (o:=.tup (List.replicate k.toNat O)) (t':=s.toks) (λb o e=>Zd _ e) (Zb _) ⟨?_,List.replicate k.toNat d,?_,_,Zm _ rfl,rfl,⟨_,rfl⟩,rfl⟩,rfl,q _ I.fresh⟩
  ·rw[XZ,We];lia
  ·generalize k.toNat=m
   induction m with
   |zero=>exact .nil
   |succ m i=>exact .cons L i
end
end L2
namespace Qf
abbrev Row:=List Nat
def mx:List Nat->Nat
 |[]=>0
 |a::l=>max a (mx l)
theorem Az{x:Nat}:∀{l:List Nat},x∈l->x<=mx l
 |a::l,h=>by
  rcases ZD.mp h with rfl|h
  ·exact Nat.le_max_left _ _
  ·exact Zw (Az h) (Nat.le_max_right _ _)
theorem E6{b:Nat}:∀{l:List Nat},(∀x∈l,x<=b)->mx l<=b
 |[],_=>Zt _
 |a::l,h=>Nat.max_le.mpr ⟨h a Zu,E6 λx c=>h x (Zk _ c)⟩
theorem V_{f g:Nat->Nat}{l:List Nat}(h:∀x∈l,f x=g x):mx (l.map f)=mx (l.map g):=by
 rw[XB h]
def Ay(p:Nat)(r:Row):Prop:=r.length=4/\∀x∈r,x<p+2
def fh(rows:List Row):Prop:=∀p r,rows[p]?=some r->Ay p r
def Ua(a:List Nat)(r:Row):List Nat:=a++[1+mx (r.map (a.getD · 0))]
def fo(rows:List Row):List Nat:=rows.foldl Ua [0,0]
def dp(rows:List Row)(x:Nat):Nat:=(fo rows).getD x 0
theorem Dk(rows:List Row)(r:Row):fo (rows++[r])=fo rows++[1+mx (r.map (dp rows))]:=by
 unfold fo dp fo;rw[Xo]
 rfl
theorem OU{P:List Row->Prop}(h0:P [])(h1:∀l a,P l->P (l++[a]))(l:List Row):P l:=by
 have:∀m:List Row,P m.reverse:=λm=>by
  induction m with
  |nil=>exact h0
  |cons a m b=>rw[List.reverse_cons];exact h1 _ _ b
 have h:=this l.reverse
 rwa [List.reverse_reverse]at h
theorem zW(rows:List Row):(fo rows).length=rows.length+2:=by
 induction rows using OU with
 |h0=>rfl
 |h1 l a b=>rw[Dk,Zn,b,Zn];simp
theorem qW6{rows:List Row}{r:Row}{x:Nat}(h:x<rows.length+2):dp (rows++[r]) x=dp rows x:=by
 unfold dp;rw[Dk,ZF,ZF,Zp (by rw[zW];exact h)]
theorem qW7{rows:List Row}{r:Row}:dp (rows++[r]) (rows.length+2)=1+mx (r.map (dp rows)):=by
 unfold dp;rw[Dk,ZF,Zx (by rw[zW];exact Zb _),zW];simp only[Vo,List.getElem?_cons_zero,Option.getD_some]
 rfl
theorem G_{rows more:List Row}{x:Nat}(h:x<rows.length+2):dp (rows++more) x=dp rows x:=by
 induction more using OU with
 |h0=>simp
 |h1 l a b=>
  rw[<- Z4,qW6 (by simp;lia),b]
theorem Mb{rows:List Row}{x:Nat}(h:x<2):dp rows x=0:=by
 have:=G_ (rows:=[]) (more:=rows) (x:=x) (by simpa using h);rw[List.nil_append]at this;rw[this]
 match x,h with
 |0,_=>rfl
 |1,_=>rfl
theorem q46{rows:List Row}{p:Nat}{r:Row}(a:rows[p]?=some r):rows=rows.take p++[r]++rows.drop (p+1):=by
 have b:=(cF a).1;have c:=(cF a).2;rw[<- c,Xu b,YG]
theorem uM{rows:List Row}(ok:fh rows){p:Nat}{r:Row}(a:rows[p]?=some r):dp rows (p+2)=1+mx (r.map (dp rows)):=by
 have c:=(cF a).1;have b:(rows.take p).length=p:=by simp;exact LH c
 have e:=q46 a;have h1:dp rows (p+2)=dp (rows.take p++[r]) (p+2):=by
  have:=G_ (rows:=rows.take p++[r]) (more:=rows.drop (p+1)) (x:=p+2) (by simp;lia);rw[<- e]at this;exact this
 have h2:=qW7 (rows:=rows.take p) (r:=r);rw[b]at h2;rw[h1,h2];congr 1;refine V_ λx f=>?_;have d:=(ok p r a).2 x f;have:=G_ (rows:=rows.take p) (more:=[r]++rows.drop (p+1)) (x:=x) (by rw[b];exact d);rw[<- Z4,<- e]at this;exact this.symm
def dm(rows:List Row):Nat->List Nat->Nat->List Nat
 |0,e,_=>e
 |d+1,e,x=>if x<2\/x-2∈e then e else(rows.getD (x-2) []).foldl (dm rows d) e++[x-2]
theorem Gx{f:List Nat->Nat->List Nat}(h:∀e x,∃s,f e x=e++s):∀(l:List Nat)(e:List Nat),∃s,l.foldl f e=e++s
 |[],e=>⟨[],by simp⟩
 |a::l,e=>by
  obtain⟨s,c⟩:=h e a;obtain⟨b,d⟩:=Gx h l (f e a);exact⟨s++b,by rw[Z3,d,c,Z4]⟩
theorem Qm(rows:List Row):∀(d:Nat)(e:List Nat)(x:Nat),∃s,dm rows d e x=e++s
 |0,e,x=>⟨[],by simp[dm]⟩
 |d+1,e,x=>by
  unfold dm;split
  ·exact⟨[],by simp⟩
  ·obtain⟨s,a⟩:=Gx (Qm rows d) (rows.getD (x-2) []) e;exact⟨s++[x-2],by rw[a,Z4]⟩
structure gE(rows:List Row)(e:List Nat):Prop where
 nd:e.Nodup
 lt:∀p∈e,p<rows.length
 ch:∀(i p:Nat),e[i]?=some p->∀q∈rows.getD p [],q<2\/∃j:Nat,j<i/\e[j]?=some (q-2)
theorem C8(rows:List Row):gE rows []:=⟨Vr,λp a=>(nomatch a),λi p h=>by simp at h⟩
theorem Ql{e s:List Nat}{j a:Nat}(h:e[j]?=some a):(e++s)[j]?=some a:=by
 have:=(cF h).1;rw[Zp this];exact h
theorem uL{rows:List Row}(ok:fh rows):∀(d:Nat)(e:List Nat)(x:Nat),gE rows e->x<rows.length+2->dp rows x<=d->gE rows (dm rows d e x)/\(x<2\/x-2∈dm rows d e x)
 |0,e,x,A,r,J=>by
  refine⟨A,?_⟩;by_cases h:x<2
  ·exact .inl h
  ·exfalso;obtain⟨p,rfl⟩:∃p,x=p+2:=⟨x-2,A2 h⟩;have B:rows[p]?=some (rows[p]'(oJ r)):=by simp[show p<rows.length from oJ r]
   rw[uM ok B]at J;lia
 |d+1,e,x,A,r,J=>by
  unfold dm;split
  ·rename_i h;exact⟨A,h⟩
  ·rename_i h;obtain⟨h1,h2⟩:=not_or.mp h;obtain⟨p,rfl⟩:∃p,x=p+2:=⟨x-2,by lia⟩;rw[Nat.add_sub_cancel]at h2 ⊢;have Q:p<rows.length:=by exact oJ r
   have B:rows[p]?=some rows[p]:=by simp[Q]
   have O:rows.getD p []=rows[p]:=by simp[List.getD,Q]
   rw[O];have yx:=uM ok B;have rk:=ok p _ B;have key:∀(l:List Nat)(f:List Nat),(∀q∈l,q<p+2/\dp rows q<=d)->gE rows f->gE rows (l.foldl (dm rows d) f)/\(∀q∈l,q<2\/q-2∈l.foldl (dm rows d) f)/\(∀a∈l.foldl (dm rows d) f,a∈f\/a<p):=λl=>by
    induction l with
    |nil=>exact λf _ K=>⟨K,λq g=>(nomatch g),λa c=>.inl c⟩
    |cons q l X=>
     intro f U K;obtain⟨S,G⟩:=U q Zu;obtain⟨p1,m1⟩:=uL ok d f q K (ng S r) G;obtain⟨p2,m2,n2⟩:=X (dm rows d f q) (λv m=>U v (Zk _ m)) p1;obtain⟨s,Z⟩:=Gx (Qm rows d) l (dm rows d f q);refine⟨p2,λv m=>?_,λa c=>?_⟩
     ·rcases ZD.mp m with rfl|m
      ·rcases m1 with z|z
       ·exact .inl z
       ·rw[Z3,Z];exact .inr (Y5 _ z)
      ·exact m2 v m
     ·rcases n2 a c with z|z
      ·
       have k:∀(w:Nat)(C:List Nat)(y:Nat),y<rows.length+2->∀a∈dm rows w C y,a∈C\/a+2<=y:=λw=>by
        induction w with
        |zero=>exact λC y _ a c=>.inl c
        |succ w L=>
         intro C y hy a c;unfold dm at c;split at c
         ·exact .inl c
         ·rename_i V;obtain⟨Y,hh2⟩:=not_or.mp V;rcases ZX.mp c with c|c
          ·have H:y-2<rows.length:=by lia
           have I:rows.getD (y-2) []=rows[y-2]:=by simp[List.getD,H]
           rw[I]at c;have E:=ok (y-2) rows[y-2] (by simp[H]);have kk:∀(u:List Nat)(t:List Nat),(∀q∈u,q<y-2+2)->∀a∈u.foldl (dm rows w) t,a∈t\/a+2<=y:=λu=>by
            induction u with
            |nil=>exact λt _ a c=>.inl c
            |cons R u M=>
             intro t P a c;rcases M _ (λv m=>P v (Zk _ m)) a c with z|z
             ·have G:=P R Zu;rcases L t R (qW H G) a z with z|z
              ·exact .inl z
              ·exact .inr (by lia)
             ·exact .inr z
           exact kk _ _ E.2 a c
          ·have:a=y-2:=by simpa using c
           exact .inr (by lia)
       rcases k d f q (ng S r) a z with z|z
       ·exact .inl z
       ·exact .inr (by lia)
      ·exact .inr z
   obtain⟨F,W,k3⟩:=key rows[p] e (λq g=>⟨rk.2 q g,by
    have:dp rows q<=mx (rows[p].map (dp rows)):=Az (Yi.mpr ⟨q,g,rfl⟩);exact Fd yx this J⟩) A
   refine⟨⟨?_,?_,?_⟩,.inr (Z1 _ (by simp))⟩
   ·rw[VC];refine⟨F.nd,by simp,λa c b hb=>?_⟩;have:b=p:=by simpa using hb
    subst this;intro z;subst z;rcases k3 a c with z|z
    ·exact h2 z
    ·exact Yn _ z
   ·intro a c;rcases ZX.mp c with c|c
    ·exact F.lt a c
    ·have:a=p:=by simpa using c
     lia
   ·intro i a n q g;by_cases T:i<(rows[p].foldl (dm rows d) e).length
    ·rw[Zp T]at n;rcases F.ch i a n q g with z|⟨j,D,N⟩
     ·exact .inl z
     ·exact .inr ⟨j,D,Ql N⟩
    ·rw[Zx (iw T)]at n;have wN:i-(rows[p].foldl (dm rows d) e).length=0:=by
      have:=(cF n).1;simp at this;exact this
     rw[wN]at n;have:a=p:=by simpa using n.symm
     subst this;rw[O]at g;rcases W q g with z|z
     ·exact .inl z
     ·obtain⟨j,D,N⟩:=ZQ.mp z;exact .inr ⟨j,by lia,Ql (by simp[D,N])⟩
theorem dD{α:Type}{l:List α}:l.Nodup<->∀i j:Nat,i<j->j<l.length->l[i]?≠l[j]?:=by
 unfold List.Nodup;rw[YY];constructor
 ·intro h i j b a z;rw[Ze (ng b a),Ze a]at z;exact h i j (ng b a) a b (ZE z)
 ·intro h i j c a b z;refine h i j b a ?_;rw[Ze c,Ze a,z]
theorem Qk{rows:List Row}{p:Nat}(h:p<rows.length):rows[p]?=some (rows.getD p []):=by
 simp[List.getD,h]
def jy(r:Row):Prop:=r=[0,0,0,0]\/r=[1,1,1,1]
instance(r:Row):Decidable (jy r):=by unfold jy;infer_instance
structure Canon(n top:Nat)(rows:List Row):Prop where
 size:n<=12
 mn:fh rows
 oQ:top<rows.length+2
 deep:dp rows top<=n
 lH:∀r∈rows,¬jy r
 unlike:rows.Nodup
 ends:dm rows n [] top=List.range rows.length
end Qf
namespace L2
open PySem PySem.Spec PyProof.Rows
section
variable{X:Cx}
theorem OT{i0:Nat}{k:ar}{A S:aC}{nn:List ar}{j:av}{d:List av}{f:aC}{a iter:av}{scope:aA}{P:TI}{g:TG}{V:TT}{te:TE}(T:Env->Sem Bool)(hc:X.calm=true)(hi:PI X j iter P)
  (i_:∀B m c,compTurn (.ListComp a [⟨j,iter,d,0⟩] scope f) 0 B m c=(standAt iter.pos >>= λ_=>pyNext B >>= λr=>match r with
   |none=>pure (.done .next)
   |some v=>letOwnedTupleGo j B v >>= λ_=>assign j c v >>= λ_=>T c >>= λok=>(if ok=true then(eval a c >>= λx=>call (.builtin "list.append") [m,x] >>= λ_=>pure ())else pure ()) >>= λ_=>
     again (.compLoop (.ListComp a [⟨j,iter,d,0⟩] scope f) 0 B m c)))
  (oZ:∀l C fp t q,PG (dP X scope l C nn fp t q) j g)
  (jb:∀y (E i:St) H R,E.length=nn.length->g y (E++i) H R->g y (E++i) H λw W=>(∃N:St,N.length=nn.length/\w=N++i)/\R w W)
  (Bp:∀l C fp t q (u:List (af×az)) (s:ae) (i:St) (H:Hp) (Q:Bool->Hp->Prop),Inv (dP X scope l C nn fp t q) u i H s->V i H Q->ah (ai X.prog X.w) X.A (T (compEnvC scope l C X.env)) (TP (dP X scope l C nn fp t q) u i Q) (λ_ _=>False) s)
  (he:∀l C fp t q,PE (dP X scope l C nn fp t q) a te)
  (jD:scope.kind=.function) (jB:∀y∈scope.names,y.2≠.cell) (Y:∀y∈scope.names,y.2=.local->scope.names.lookup y.1=some .local)
  (jI:∀y∈X.N,scope.names.lookup y≠some .local) (jJ:∀p∈scope.names,p.2=.free->tO X.env.scope p.1/\X.env.scope.names.lookup p.1≠some .local)
  (hs:∀x,foldedSetIterable iter X.env x=pure x) (F:X.N.Nodup) (wN:X.N[i0]?=some k) (L:X.env.scope.names.lookup k=some .local) (Br:swapsWith (.ListComp a [⟨j,iter,d,0⟩] scope f) (some (.Name k A)) S.line X.env=pure true):
  PS X (.Assign [.Name k A] (.ListComp a [⟨j,iter,d,0⟩] scope f) S) (iS (qy nn.length P g V te) (fu i0)):=by
 intro u s i H EE I h;rw[exec_Assign_Name_used _ _ _ _ Br];refine Za (wpAny_standAt (Za ?_));show ah _ X.A (do let _ <- comprehension (.ListComp a [⟨j,iter,d,0⟩] scope f) scope X.env _ (newList []) false (eval iter X.env) (some (assign (.Name k A) X.env))) _ _ s;refine Za (Yw (NT (use:=some (assign (.Name k A) X.env)) (QQ:=λ_ O=>SP X u EE .next O) T hc hi i_ oZ jb Bp he jD jB Y jI jJ hs I h λD C U J m4 n M iv qn=>?_) (λ_ O hq=>Zc (Zc hq)) λ_ _ e=>e);have IX:Inv X u i U J:=iv J.heap (Heap.SameBut.refl _ _);obtain⟨oC,esC,epC,G,rC⟩:=id M;have Z:=IX.pinned (fp:=[C]) (λb hb=>by
  have:b=C:=by simpa using hb
  subst this;exact n) (λb hb=>by
  have:b=C:=by simpa using hb
  subst this;exact⟨oC,G,λv z=>by rw[rC.1]at z;cases z⟩)
 show ah _ X.A (assign (.Name k A) X.env (.ref D)) _ _ J;refine wpAny_assign_Name (De (v:=.ref D) Z F wN (.inl L) rfl (λs5 K=>?_) (.inr L));have pC:=K.pin (C,oC) (Z1 _ (Z1 _ (Dr (by simp) G)));refine⟨m4,M.at' (λo e=>by rw[G]at e;cases e;exact pC.1),λh' sb=>⟨_,U,?_,qn⟩⟩;exact K.dC.turned (t':=s5.toks) (λb o hb e=>(sb.2 b hb).trans e) n.1 n.2.1 n.2.2.2.1 n.2.2.2.2.1 n.2.2.2.2.2
theorem Qj{i0:Nat}{c:ar}{r v:aC}{x:ar}{n b:aC}{a iter:av}{scope:aA}{u:TI}{te:TE}(N:List ar)(m:aA)(P:X.N=N)(T:X.env.scope=m)(hc:X.calm=true)(w:X.N.Nodup)(Z:X.N[i0]?=some c)(J:X.env.scope.names.lookup c=some .local)(G:PI X (.Name x n) iter u)
  (L:∀f C g j d,PE (dP X scope f C [x] g j d) a te)
  (D:scope.kind=.function:=by rfl) (S:scope.names.all (λy=>y.2 != .cell)=true:=by decide +kernel) (B:scope.names.all (λy=>y.2 != .local||scope.names.lookup y.1==some .local)=true:=by decide +kernel)
  (A:scope.names.lookup x=some .local:=by rfl) (O:N.all (λy=>scope.names.lookup y != some .local)=true:=by decide +kernel)
  (E:scope.names.all (λp=>p.2 != .free||(m.names.lookup p.1==some .cell||m.names.lookup p.1==some .free))=true:=by decide +kernel)
  (hs:∀x,foldedSetIterable iter X.env x=pure x:=by intro _;rfl) (F:swapsWith (.ListComp a [⟨.Name x n,iter,[],0⟩] scope b) (some (.Name c r)) v.line X.env=pure true:=by rfl):
  PS X (.Assign [.Name c r] (.ListComp a [⟨.Name x n,iter,[],0⟩] scope b) v) (iS (qy 1 u (fu 0) xW te) (fu i0)):=by
 obtain⟨W,V,t,U⟩:=Ab P T S B O E;refine OT (nn:=[x]) (λ_=>pure true) hc G (λY q k=>Hn a _ iter scope b Y q k) (λf C g j d=>?_) (λy os M H R K h=>rg K h) (λf C g j d j8 s M H Q I h=>Zc ⟨H,I,h⟩) L D W V t U hs w Z J F;have l:(dP X scope f C [x] g j d).env.scope.names.lookup x=some .local:=Y7 A;exact uJ (i:=0) (YB.mpr ⟨λz=>t x z A,w⟩) rfl (.inl l) (.inr l)
end
end L2
namespace L2
open PySem PySem.Spec PyProof.Rows PySem.W
section
variable{X:Cx}
def xH2:TE:=λ_ H Q=>∀p,H p=none->Q (.ref p) (upd H p (.dK []))
theorem V9{b:aC}:PE X (.Dict [] [] b) xH2:=λc s d H Q I h=>by
 have hb:sysModules<s.heap.objs.size:=Xm (by decide) (I.mod.glob.keeps I.bk).lt;exact wpAny_Dict_empty ⟨.ref s.heap.objs.size,_,I.laid (a:=s.heap.objs.size) (o:=.dK []) (t':=s.toks) (λ_ _ q=>Zd _ q) (Zb _) ⟨Zt _,Wq.mpr (Xz (ZC hb)),[],.nil,Heap.DictOf.new _⟩,rfl,h _ (I.aQ.fresh (Zb _))⟩
inductive jj(x:V)(xs:List V)(H:Hp)(Q:VK):Prop
 |mk(l:af)(bs:List Bool)(j:Nat)(aV:x=.ref l)(c7:xs=[.bl true])(cq:H l=some (.lst (bs.map V.bl)))(aP:bs[j]?=some true)(pV:(∀m,m<j->bs[m]?=some false))(wq:(j:Int)<1000)(KL:Q (.int j) H)
theorem q51:Cv X "list.index" jj:=by
 intro S s W H x U v us Q I K G h;obtain⟨l,bs,j,rfl,rfl,O,r,D,T,q⟩:=h;cases K;obtain⟨u,rfl,R⟩:=G.one;cases R;obtain⟨z,c,n,C,B⟩:=I.aQ l _ O;have M:bs.length=c.length:=by have:=C.length;simpa using this
 have a:∀(m:Nat)(g:m<c.length),∃b,bs[m]?=some b/\c[m]=.bool b:=λm g=>by
  obtain⟨Z,f,d⟩:=C.get (i:=m) (x:=V.bl (bs[m]'(by lia))) (by simp[show m<bs.length by lia]);refine⟨bs[m]'(by lia),by simp[show m<bs.length by lia],?_⟩;have:c[m]?=some c[m]:=by simp[g]
  rw[this]at f;cases f;exact d
 have t:j<c.length:=by rw[<- M];exact(cF r).1
 refine VP F.slot_list_index ⟨_,B,rfl⟩ F.entry_list_index (F.args_list_index_2 _ _) (MeetsSeq.list_index l c.toArray n (.bool true) (λy=>y==.bool true) (λy L=>?_) j (by simpa using t) (by lia) ?_ ?_) ⟨B,?_⟩
 ·obtain⟨m,g,e⟩:=ZQ.mp (show y∈c by simpa using L);obtain⟨b,_,d⟩:=a m g;rw[e]at d;subst d;intro k w A E Y J P;refine SeqAt.EqAt.bool_bool b true k w E J ?_;cases b<;>exact P
 ·obtain⟨b,f,d⟩:=a j t;rw[r]at f;cases f;simpa using d
 ·intro m g p;have N:m<c.length:=by simpa using g
  obtain⟨b,f,d⟩:=a m N;rw[D m p]at f;cases f;have:c.toArray[m]=.bool false:=by simpa using d
  rw[this]
  rfl
 ·exact⟨.int j,H,I.tok _,⟨_,rfl⟩,q⟩
end
end L2
namespace L2
open PySem PySem.Spec PyProof.Rows
theorem V8{a:TI}{te:TE}:CJ a te=qy 1 a (fu 0) xW te:=by
 funext σ H Q;unfold CJ qy;congr 1;funext J H1;refine propext (Y2 λD=>Y2 λ_=>exists_congr λW=>Vd λ_=>Y2 λi=>Y2 λm=>Y2 λf=>Y2 λg=>Y2 λ_=>Vd λ_=>Vd λ_=>or_congr_right (Vd λ_=>Y2 λy=>Y2 λd=>Y2 λ_=>⟨λh c b=>?_,λh=>?_⟩))
 ·match c,b with
  |[o],_=>
   unfold fu xW;dsimp only;rw[Zr rfl];exact h
 ·have z:=h [none] rfl;unfold fu xW at z;dsimp only at z;rw[Zr rfl]at z;exact z
section
variable{X:Cx}
theorem og{x:ar}{n b:aC}{a iter:av}{scope:aA}{r:TI}{te:TE}(N:List ar)(k:aA)(G:X.N=N)(K:X.env.scope=k)(hc:X.calm=true)(M:X.N.Nodup)(A:PI X (.Name x n) iter r)(D:∀d C f g c,PE (dP X scope d C [x] f g c) a te)
  (v:scope.kind=.function:=by rfl) (J:scope.names.all (λy=>y.2 != .cell)=true:=by decide +kernel) (u:scope.names.all (λy=>y.2 != .local||scope.names.lookup y.1==some .local)=true:=by decide +kernel)
  (t:scope.names.lookup x=some .local:=by rfl) (F:N.all (λy=>scope.names.lookup y != some .local)=true:=by decide +kernel)
  (w:scope.names.all (λp=>p.2 != .free||(k.names.lookup p.1==some .cell||k.names.lookup p.1==some .free))=true:=by decide +kernel)
  (hs:∀x,foldedSetIterable iter X.env x=pure x:=by intro _;rfl):PE X (.ListComp a [⟨.Name x n,iter,[],0⟩] scope b) (CJ r te):=by
 obtain⟨P,O,q,L⟩:=Ab G K J u F w;rw[V8];refine HP (nn:=[x]) (λ_=>pure true) hc A (λS m j=>Hn a _ iter scope b S m j) (λd C f g c=>?_) (λy U E H R B h=>rg B h) (λd C f g c T s E H Q I h=>Zc ⟨H,I,h⟩) D v P O q L hs;have l:(dP X scope d C [x] f g c).env.scope.names.lookup x=some .local:=Y7 t;exact uJ (i:=0) (YB.mpr ⟨λz=>q x z t,M⟩) rfl (.inl l) (.inr l)
end
end L2
namespace L2
open PySem
theorem cT{H:Hp}{a b:af}{o u:HO}(e:H a=some o)(c:H b=none):upd H b u a=some o:=by rw[cK (dv e c)];exact e
theorem bf{H:Hp}{a:af}{o:HO}(h:H a=none):aF H (upd H a o):=λb u e=>cT e h
def lq(H a:Hp):Prop:=∀b u,H b=some (.tup u)->a b=some (.tup u)
theorem aF.cR{H a:Hp}(s:aF H a):lq H a:=λb u e=>s b _ e
structure Goes(J:It)(H:Hp)(n:Nat)(item:Nat->V->Hp->Prop):Prop where
 go:∀i H2,i<n->aF H H2->J.go i H2
 yl:∀i H2 y H3,i<n->aF H H2->J.lF i H2 y H3->aF H2 H3/\item i y H3
 st:∀H2,aF H H2->J.stop n H2
theorem xE{K:PySem.W.Frag}{H:Hp}{a:af}{xs:List V}(b:H a=some (.tup xs)):Goes (yN K a) H xs.length (λi y _=>xs[i]?=some y) where
 go:=λi d c s=>⟨xs,xs[i],bh.of (s _ _ b),by simp[c]⟩
 yl:=λi d y f c s h=>by
  obtain⟨e,h⟩:=h;subst e;exact⟨aF.refl _,h xs (bh.of (s _ _ b))⟩
 st:=λd s=>⟨xs,bh.of (s _ _ b),Zb _⟩
theorem C7{K:PySem.W.Frag}{H:Hp}{a:af}{xs:List V}(b:H a=some (.lst xs)):Goes (yO K a) H xs.length (λi y _=>xs[i]?=some y) where
 go:=λi d c s=>⟨xs,xs[i],cu.of (s _ _ b),by simp[c]⟩
 yl:=λi d y f c s h=>by
  obtain⟨e,h⟩:=h;subst e;exact⟨aF.refl _,h xs (cu.of (s _ _ b))⟩
 st:=λd s=>⟨xs,cu.of (s _ _ b),Zb _⟩
theorem PB{K:PySem.W.Frag}{H:Hp}{a:af}{xs:List V}(b:H a=some (.tup xs)):Goes (yP K a) H xs.length (λi y d=>∃p x,y=.ref p/\xs[i]?=some x/\d p=some (.tup [.int i,x])) where
 go:=λi c f s=>⟨xs,xs[i],bh.of (s _ _ b),by simp[f]⟩
 yl:=λi c y d f s h=>by
  obtain⟨p,x,g,j,rfl,rfl⟩:=h;exact⟨bf g,p,x,rfl,j xs (bh.of (s _ _ b)),bg⟩
 st:=λc s=>⟨xs,bh.of (s _ _ b),Zb _⟩
theorem sR{J:It}{H:Hp}{n:Nat}{item:Nat->V->Hp->Prop}{te:TE}{σ:St}{Fin:Hp->Prop}{D:af}(w:H D=none)(c:Nat->V->Hp->Prop)(G:Goes J H n item)(hsz:n<sizeLine)
  (mono:∀i y F a,i<n->lq F a->c i y F->c i y a)
  (step:∀i x a,i<n->item i x a->aF H a->∀A:VK,(∀y f,aF a f->c i y f->A y f)->te (some x::σ) a A)
  (fin:∀d a,aF H a->a D=some (.lst d)->d.length=n->(∀i y,d[i]?=some y->c i y a)->Fin a):
  ∃W:Nat->Nat->List V->Hp->Prop,(∃m,W 0 m [] (upd H D (.lst []))) /\
   ∀i m p a,W i m p a->a D=some (.lst p)/\p.length<sizeLine/\((J.stop i a/\Fin a)\/(J.go i a/\∀y f,J.lF i a y f ->
    te (some y::σ) f λv g=>g D=some (.lst p)/\∃E,E<m/\W (i+1) E (p++[v]) (upd g D (.lst (p++[v]))))):=by
 refine⟨λi m d a=>i<=n/\m=n-i/\d.length=i/\a D=some (.lst d)/\aF H a/\∀j y,d[j]?=some y->c j y a,⟨n,Zt _,rfl,rfl,bg,bf w,λj y h=>by simp at h⟩,?_⟩;rintro i m d a ⟨O,rfl,C,r,l,rel⟩;refine⟨r,by lia,?_⟩;by_cases I:i=n
 ·subst I;exact .inl ⟨G.st a l,fin d a l r C rel⟩
 ·refine .inr ⟨G.go i a (by lia) l,λy f K=>?_⟩;obtain⟨q,M⟩:=G.yl i a y f (by lia) l K;refine step i y f (by lia) M (l.trans q) _ λv g s L=>?_;have B:=s _ _ (q _ _ r);refine⟨B,n-(i+1),by lia,by lia,rfl,by rw[Zn,C];rfl,bg,?_,?_⟩
  ·intro b o e;rw[cK (dv e w)];exact s _ _ (q _ _ (l _ _ e))
  ·have t:lq g (upd g D (.lst (d++[v]))):=λb u e=>by
    have:b≠D:=λz=>by subst z;rw[B]at e;cases e
    rw[cK this];exact e
   intro j z k;by_cases N:j<i
   ·rw[Zp (by lia)]at k;exact mono j z g _ (by lia) t (mono j z a g (by lia) (q.trans s).cR (rel j z k))
   ·rw[Zx (by lia)]at k;have:j-d.length=0:=by
     have:=(cF k).1;simp at this;lia
    rw[this]at k;have:z=v:=by simpa using k.symm
    subst this;have:j=i:=by lia
    subst this;exact mono _ _ g _ (by lia) t L
theorem Dp{J:It}{H:Hp}{n k:Nat}{item:Nat->V->Hp->Prop}{g:TG}{F:TT}{te:TE}{σ:St}{Fin:Hp->Prop}{D:af}(C:H D=none)(d:Nat->Bool)(val:Nat->V)(G:Goes J H n item)(hsz:n<sizeLine)
  (step:∀i x a,i<n->item i x a->aF H a->∀f:St,f.length=k->∀(I:Hp->Prop)(E:VK),(d i=false->∀c,aF a c->I c)->(d i=true->∀c,aF a c->E (val i) c) ->
   g x (f++σ) a λl t=>F l t λb p=>if b=true then te l p E else I p)
  (fin:∀a,aF H a->a D=some (.lst (((List.range n).filter d).map val))->Fin a):
  ∃W:Nat->Nat->List V->Hp->Prop,(∃m,W 0 m [] (upd H D (.lst []))) /\
   ∀i m j a,W i m j a->a D=some (.lst j)/\j.length<sizeLine/\((J.stop i a/\Fin a)\/(J.go i a/\∀y c,J.lF i a y c->∀f:St,f.length=k ->
    g y (f++σ) c λl t=>F l t λb p=>if b=true then te l p λv B=>B D=some (.lst j)/\∃s,s<m/\W (i+1) s (j++[v]) (upd B D (.lst (j++[v])))else ∃s,s<m/\W (i+1) s j p)):=by
 refine⟨λi m A a=>i<=n/\m=n-i/\A=((List.range i).filter d).map val/\a D=some (.lst A)/\aF H a,⟨n,Zt _,rfl,rfl,bg,bf C⟩,?_⟩;rintro i m A a ⟨R,rfl,w,u,h⟩;have S:A.length<=i:=by
  rw[w,Zf];exact Zw (List.length_filter_le _ _) (by simp)
 refine⟨u,by lia,?_⟩;by_cases N:i=n
 ·subst N;exact .inl ⟨G.st a h,fin a h (w▸u)⟩
 ·refine .inr ⟨G.go i a (by lia) h,λy c O f M=>?_⟩;obtain⟨q,Q⟩:=G.yl i a y c (by lia) h O;refine step i y c (by lia) Q (h.trans q) f M _ _ (λK t r=>?_) (λL t r=>?_)
  ·refine⟨n-(i+1),by lia,by lia,rfl,?_,r _ _ (q _ _ u),(h.trans q).trans r⟩;rw[w,Xk,List.filter_append];simp[K]
  ·have P:=r _ _ (q _ _ u);refine⟨P,n-(i+1),by lia,by lia,rfl,?_,bg,λb o e=>?_⟩
   ·rw[w,Xk,List.filter_append];simp[L]
   ·rw[cK (dv e C)];exact r _ _ (q _ _ (h _ _ e))
theorem yh{X:Cx}(K:PySem.W.Frag)(h:X.K=K):mT X (ux K):=h▸m7
theorem ixT{X:Cx}(K:PySem.W.Frag)(h:X.K=K):mT X (uw K):=h▸fY
theorem tV{X:Cx}(K:PySem.W.Frag)(h:X.K=K):ft X (.type "tuple") (dn K):=h▸qB5
theorem Ij{X:Cx}{b l:av}{a:TE}(K:PySem.W.Frag)(h:X.K=K)(c:PE X l a):PI X b l (Bk K a):=h▸sD c
end L2
namespace Pr
open PySem L2
abbrev su:aB:=top 10
abbrev Dx:aB:=top 11
abbrev xU:aB:=top 12
abbrev qp:aB:=top 13
abbrev DI:aB:=top 14
abbrev xT:aB:=top 17
abbrev sJ:aB:=top 19
abbrev iV:aB:=top 20
abbrev sX:aB:=top 21
abbrev xD:aB:=top 22
abbrev x9:aB:=top 23
abbrev Dw:aB:=top 24
abbrev xu:aB:=top 27
abbrev C6:aB:=top 28
abbrev x8:aB:=top 29
abbrev zO:aB:=top 30
abbrev Dj:aB:=top 31
abbrev rj:aB:=top 33
abbrev qx:aB:=top 34
abbrev Aq:aB:=top 35
abbrev rl:aB:=top 36
abbrev Ap:aB:=top 37
abbrev sr:aB:=top 38
abbrev i8:aB:=top 39
abbrev sI:aB:=top 40
abbrev Ao:aB:=top 41
abbrev xS:aB:=top 42
abbrev uH:aB:=top 43
abbrev DH:aB:=top 44
abbrev An:aB:=top 45
abbrev CI:aB:=top 46
abbrev xR:aB:=top 47
abbrev Am:aB:=top 48
abbrev xC:aB:=top 49
abbrev Dv:aB:=top 50
abbrev iy:aB:=top 51
end Pr
namespace L2
open PySem PySem.Spec PyProof.Rows
theorem dz{N P:List ar}{h:aA}(a:h.kind=.function:=by rfl)(b:h.isCoroutine=false:=by rfl)(c:h.isGenerator=false:=by rfl)(d:N.Nodup:=by decide +kernel)(e:N.take P.length=P:=by rfl)(f:∀x∈P,h.names.lookup x=some .local\/h.names.lookup x=some .cell:=by decide +kernel)(g:∀y∈h.names,y.2≠.free:=by decide +kernel):aI N P h:=⟨a,b,c,d,e,f,g⟩
section
variable{X:Cx}
theorem c8(i:Nat){x:ar}{e:av}{te:TE}{b a:aC}(c:X.N.Nodup)(g:PE X e te)(h:X.N[i]?=some x:=by rfl)(d:Loc X.env.scope x:=by first|left;rfl|right;rfl)(hs:swapsWith e (some (.Name x a)) b.line X.env=pure false:=by rfl)(f:X.fn x=true\/X.env.scope.names.lookup x=some .local:=by first|left;rfl|right;rfl|assumption):PS X (.Assign [.Name x a] e b) (iS te (fu i)):=Mo c h d g hs f
theorem gh(i:Nat){x:ar}{a:aC}(b:X.N.Nodup)(d:X.N[i]?=some x:=by rfl)(f:Loc X.env.scope x:=by first|left;rfl|right;rfl)(c:X.fn x=true\/X.env.scope.names.lookup x=some .local:=by first|left;rfl|right;rfl|assumption):PG X (.Name x a) (fu i):=uJ b d f c
theorem bJ{k:Nat}{f:af}{b:ak}{ps:List ar}{sp:Sp}{x:ar}{p a:aC}{e:av}{es:List av}{t:TA}(F:aE X.prog X.w X.K X.mg X.base aR k f b ps sp)(i:aZ k X.A)(h:X.mg x=some (.ref f))(c:PySem.W.keepIn X.K (.ref f)=true)(hb:Binds X.K b ps [])(j:PA X (e::es) t)(l:Gl X x:=by rfl)(g:(x==("__debug__":ar))=false:=by decide)(m:starEach (e::es) X.env=(false,eval e X.env)::starEach es X.env:=by rfl)(d:(backTo a (starEach es X.env)).any (·.1)=false:=by rfl):
  PE X (.Call (.Name x p) (e::es) [] a) (AG sp [] E0 t):=uI F i l h c hb .nil CK j g m d
theorem de{r:R2}{a b:av}{c:aC}{ta tb:TE}(f:mT X r)(d:PE X a ta)(hb:PE X b tb)(hs:Hr b:=by intro _ _;rfl):PE X (.Subscript a b c) (rZ r ta tb):=E_ f d hb hs
end
end L2
namespace Pr
open PySem L2 Qf
structure ee(mg:ar->Option aa):Prop where
 lY:mg "isinstance"=none
 int:mg "int"=none
 bool:mg "bool"=none
 tuple:mg "tuple"=none
 list:mg "list"=none
 set:mg "set"=none
 len:mg "len"=none
 all:mg "all"=none
 any:mg "any"=none
 enum:mg "enumerate"=none
 range:mg "range"=none
 max:mg "max"=none
 min:mg "min"=none
structure pX(mg:ar->Option aa):Prop where
 first:∃t,mg "FIRST"=some (.int 2 t)
 full:∃t,mg "FULL"=some (.int 1 t)
 great:∃t,mg "GREATEST_SIZE"=some (.int 12 t)
def vN(r:List Nat):List V:=r.map λn:Nat=>V.int (n:Int)
theorem mz(r:List Nat):(vN r).length=r.length:=Zf ..
theorem x6{r:List Nat}{i:Nat}{x:V}(h:(vN r)[i]?=some x):∃n:Nat,r[i]?=some n/\x=.int (n:Int):=by
 unfold vN at h;rw[Zg]at h;obtain⟨n,h1,h2⟩:=Zo.mp h;exact⟨n,h1,h2.symm⟩
theorem xN8{r:List Nat}{i n:Nat}(h:r[i]?=some n):(vN r)[i]?=some (.int (n:Int)):=by
 unfold vN;rw[Zg,h];rfl
theorem uD{r:List Nat}{i n:Nat}(h:r[i]?=some n):rO (vN r) (i:Int)=some (.int (n:Int)):=n9 (xN8 h)
theorem qw(r:List Nat):vN r=(r.map λn:Nat=>(n:Int)).map V.int:=by unfold vN;rw[YL];rfl
def cC(H:Hp)(p:af)(rows:List Row):Prop:=∃bs:List af,H p=some (.tup (bs.map V.ref))/\bs.length=rows.length/\∀(i:Nat) b r,bs[i]?=some b->rows[i]?=some r->H b=some (.tup (vN r))
theorem cC.mono{H a:Hp}{p:af}{rows:List Row}(h:cC H p rows)(t:lq H a):cC a p rows:=by
 obtain⟨bs,h1,h2,d⟩:=h;exact⟨bs,t _ _ h1,h2,λi b r c f=>t _ _ (d i b r c f)⟩
theorem cC.same{H a:Hp}{p:af}{rows:List Row}(h:cC H p rows)(t:aF H a):cC a p rows:=h.mono t.cR
def gz(H:Hp)(p:af)(rows:List Row):Prop:=∃bs:List af,(H p=some (.tup (bs.map V.ref))\/H p=some (.lst (bs.map V.ref)))/\bs.length=rows.length/\∀(i:Nat) b r,bs[i]?=some b->rows[i]?=some r->H b=some (.tup (vN r))
theorem cC.zs{H:Hp}{p:af}{rows:List Row}(h:cC H p rows):gz H p rows:=let ⟨bs,a,b,c⟩:=h;⟨bs,.inl a,b,c⟩
theorem gz.same{H a:Hp}{p:af}{rows:List Row}(h:gz H p rows)(s:aF H a):gz a p rows:=by
 obtain⟨bs,h1,h2,d⟩:=h;exact⟨bs,h1.imp (s _ _) (s _ _),h2,λi b r c f=>s _ _ (d i b r c f)⟩
def qu(K:PySem.W.Frag):R2:=λx y H Q=>ux K x y H Q\/uw K x y H Q
theorem ixS{X:Cx}(K:PySem.W.Frag)(h:X.K=K):mT X (qu K):=(yh K h).or (ixT K h)
theorem Qi:aI ["thing"] ["thing"] (bF su):=dz
inductive nG(vs:List V)(H:Hp)(Q:VK):Prop
 |mk(i:Int)(e0:vs=[.int i])(e1:Q (.bl true) H)
def Hm:Sp:=λa H Q _=>nG a H Q
theorem OS{f:af}{b:ak}(F:aT K "is_whole" "is_whole" su f b)(B:ee mg):aE P w K mg base aR 1 f b ["thing"] Hm:=by
 refine F.ok Qi (λc H Q E h=>?_) (λg A a s H c Q E d h=>?_)
 ·obtain⟨i,rfl,_⟩:=h
  rfl
 ·obtain⟨i,rfl,q⟩:=h;refine⟨_,cD (cA (mB (cQ mD (by rfl) B.lY ZI (aG (pv 0) (aG (n_ (v:=.ty "int") (by rfl) B.int WV rfl) aN)))
   (mZ (Mr (cQ mD (by rfl) B.lY ZI (aG (pv 0) (aG (n_ (v:=.ty "bool") (by rfl) B.bool PyProof.Rows.boot_bool rfl) aN))))))),?_⟩
  exact⟨_,rfl,_,_,_,_,true,rfl,rfl,.inl (.int i),rfl,_,rfl,bQ ⟨_,rfl,_,_,_,_,false,rfl,rfl,.inl (.int i),rfl,_,rfl,q⟩⟩
theorem Ma:aI ["thing"] ["thing"] (bF xT):=dz
inductive p_(vs:List V)(H:Hp)(Q:VK):Prop
 |mk(n:Nat)(e0:vs=[.int n])(e1:n<=12)(e2:Q (.bl true) H)
def L_:Sp:=λa H Q _=>p_ a H Q
theorem T_{f a:af}{g c:ak}(F:aT K "is_size" "is_size" xT f g)(B:ee mg)(T:pX mg)(i:mg "is_whole"=some (.ref a))(d:aT K "is_whole" "is_whole" su a c)(k:Binds K c ["thing"] []):aE P w K mg base aR 2 f g ["thing"] L_:=by
 have p:aE P w K mg base aR 1 a c ["thing"] Hm:=OS d B;obtain⟨u,j⟩:=T.great;refine F.ok Ma (λl H Q E h=>?_) (λt A b s H l Q E m h=>?_)
 ·obtain⟨x,rfl,_⟩:=h
  rfl
 ·obtain⟨n,rfl,r,q⟩:=h;refine⟨_,cD (cA (mB (bJ p m i d.kp k (aG (pv 0) aN)) (mZ (Dd mX mX aS (pv 0) (gf (v:=.int 12) (by rfl) j ⟨_,rfl⟩))))),?_⟩;refine⟨_,rfl,n,rfl,_,rfl,bQ ⟨_,rfl,_,_,rfl,rfl,_,rfl,?_⟩⟩;have e:decide ((n:Int)<=12)=true:=Zh (by lia);refine cM (λ_=>⟨_,_,rfl,rfl,?_⟩) (λh1=>absurd (Zh (Int.natCast_nonneg n)) h1);rw[e];exact q
theorem OR:aI ["thing","many"] ["thing","many"] (bF sJ):=dz
inductive mj(vs:List V)(H:Hp)(Q:VK):Prop
 |mk(n m:Nat)(e0:vs=[.int n,.int m])(e1:n<m+2)(e2:Q (.bl true) H)
def HN:Sp:=λa H Q _=>mj a H Q
theorem q53{f a:af}{g c:ak}(F:aT K "is_number" "is_number" sJ f g)(B:ee mg)(T:pX mg)(i:mg "is_whole"=some (.ref a))(d:aT K "is_whole" "is_whole" su a c)(k:Binds K c ["thing"] []):aE P w K mg base aR 2 f g ["thing","many"] HN:=by
 have r:aE P w K mg base aR 1 a c ["thing"] Hm:=OS d B;obtain⟨x,j⟩:=T.first;refine F.ok OR (λl H Q E h=>?_) (λu A b s H l Q E p h=>?_)
 ·obtain⟨n,m,rfl,_⟩:=h
  rfl
 ·obtain⟨n,m,rfl,t,q⟩:=h;refine⟨_,cD (cA (mB (bJ r p i d.kp k (aG (pv 0) aN)) (mZ (Dd mX lU aS (pv 0) (br fZ (pv 1) (gf (v:=.int 2) (by rfl) j ⟨_,rfl⟩)))))),?_⟩;refine⟨_,rfl,n,rfl,_,rfl,bQ ⟨_,rfl,_,_,rfl,rfl,_,rfl,?_⟩⟩;have e:decide ((n:Int)<(m:Int)+2)=true:=Zh (by lia);refine cM (λ_=>⟨_,rfl,_,_,rfl,rfl,_,_,rfl,rfl,?_⟩) (λh1=>absurd (Zh (Int.natCast_nonneg n)) h1);rw[e];exact q
theorem T9:aI ["row"] ["row"] (bF Dx):=dz
inductive nH(vs:List V)(H:Hp)(Q:VK):Prop
 |mk(b:af)(r:Row)(e0:vs=[.ref b])(e1:H b=some (.tup (vN r)))(e2:r.length=4)(e3:∀H',aF H H'->Q (.bl (decide (jy r))) H')
def Qh:Sp:=λa H Q _=>nH a H Q
theorem DG{l m:List Nat}(h:(l.map λn:Nat=>(n:Int))=m.map λn:Nat=>(n:Int)):l=m:=by
 induction l generalizing m with
 |nil=>cases m with
  |nil=>rfl
  |cons b m=>simp at h
 |cons a l c=>cases m with
  |nil=>simp at h
  |cons b m=>
   rw[ZG,ZG]at h;injection h with h1 h2
   rw[c h2,Int.ofNat.inj h1]
theorem V7{f:af}{t:ak}(F:aT K "is_plain" "is_plain" Dx f t)(T:pX mg):aE P w K mg base aR 2 f t ["row"] Qh:=by
 obtain⟨J,y⟩:=T.first;refine F.ok T9 (λB H Q E h=>?_) (λG A i s H B Q E C h=>?_)
 ·obtain⟨b,r,rfl,_⟩:=h
  rfl
 ·obtain⟨b,r,rfl,hb,D,q⟩:=h;refine⟨_,cD (cA (mB (j_ lU (de fY (pv 0) aS) (gf (v:=.int 2) (by rfl) y ⟨_,rfl⟩) (cU _))
   (mZ (j_ (Ar C) (pv 0) (br Ub (iM (aG (de fY (pv 0) aS) aN)) aS) (cU _))))),?_⟩
  match r,D with
  |[a,d,c,g],_=>
   refine⟨_,rfl,b,_,0,.int a,rfl,rfl,bh.of hb,rfl,_,_,rfl,rfl,_,rfl,?_⟩;refine cM (λj=>?_) (λj=>?_)
   ·have h2:a<2:=by have:=ZB j;lia
    refine⟨_,rfl,_,rfl,b,_,0,.int a,rfl,rfl,bh.of hb,rfl,(by show 1<=sizeLine;decide),λp k=>⟨p,4,.int a,rfl,rfl,bg,by decide,by decide,λI n=>?_⟩⟩;have x:=cT (u:=.tup (List.replicate 4 (V.int a))) (cT (u:=.tup [V.int a]) hb k) n;refine⟨dT [(a:Int),(d:Int),(c:Int),(g:Int)],dT [(a:Int),(a:Int),(a:Int),(a:Int)],.tup x (aO.ints [(a:Int),(d:Int),(c:Int),(g:Int)]),.tup bg (aO.ints [(a:Int),(a:Int),(a:Int),(a:Int)]),Ie _,Ie _,(by show 1<=60;decide),?_⟩;rw[xG6];have e:decide (([(a:Int),(d:Int),(c:Int),(g:Int)]:List Int)=([(a:Int),(a:Int),(a:Int),(a:Int)]:List Int))=decide (jy [a,d,c,g]):=by
     congr 1;apply propext;unfold jy;constructor
     ·intro z;have:[a,d,c,g]=[a,a,a,a]:=DG (l:=[a,d,c,g]) (m:=[a,a,a,a]) z;have:a=0\/a=1:=by lia
      rcases this with rfl|rfl
      ·exact .inl ‹_›
      ·exact .inr ‹_›
     ·rintro(z|z)<;>(cases z;rfl)
    rw[e];exact q _ ((bf k).trans (bf n))
   ·have h2:¬a<2:=λz=>j (Zh (by lia));have e:decide (jy [a,d,c,g])=false:=Zi (by
     rintro(z|z)<;>(cases z;lia))
    have:=q H (aF.refl H);rw[e]at this;exact this
end Pr
namespace Qf
theorem T8(l:List Nat)(a:Nat):mx (l++[a])=max (mx l) a:=by
 induction l with
 |nil=>exact Nat.max_comm a 0
 |cons b l c=>exact(Yo (max b) c).trans (Nat.max_assoc b (mx l) a).symm
theorem Qg(l:List Nat):∀k,k<l.length->L2.best (l.map λn:Nat=>(n:Int)) k=(mx (l.take (k+1)):Nat)
 |0,h=>by
  cases l with
  |nil=>simp at h
  |cons a l=>show((a:Nat):Int)=((max a 0:Nat):Int);simp
 |k+1,h=>by
  have b:=Qg l k (dJ h);have e:(l.map λn:Nat=>(n:Int)).getD (k+1) 0=((l[k+1]:Nat):Int):=by simp[List.getD,h]
  have t:l.take (k+1+1)=l.take (k+1)++[l[k+1]]:=by rw[Xu h]
  unfold L2.best;rw[e,b,t,T8];split<;>lia
theorem V6{l:List Nat}(h:l≠[]):L2.best (l.map λn:Nat=>(n:Int)) ((l.map λn:Nat=>(n:Int)).length-1)=(mx l:Nat):=by
 have a:0<l.length:=XA.mpr h;rw[Zf,Qg l (l.length-1) (u9 a),show l.length-1+1=l.length from oH a,XG]
theorem q56{rows:List Row}{i:Nat}{r:Row}(h:rows[i]?=some r):fo (rows.take (i+1))=fo (rows.take i)++[1+mx (r.map (dp (rows.take i)))]:=by
 have a:=(cF h).1;have b:=(cF h).2;rw[<- Dk,<- b,Xu a]
theorem L9{rows:List Row}{x:Nat}(h:x<rows.length+2):(fo rows)[x]?=some (dp rows x):=by
 unfold dp;rw[ZF];have:x<(fo rows).length:=by rw[zW];exact h
 rw[Ze this];rfl
end Qf
namespace Pr
open PySem L2 Qf
theorem qD{xs ys:List V}(a:xs.length=ys.length)(h:∀(i:Nat) x,xs[i]?=some x->ys[i]?=some x):xs=ys:=by
 refine Wb λi=>?_;cases e:xs[i]? with
 |some x=>exact(h i x e).symm
 |none=>
  have:xs.length<=i:=List.getElem?_eq_none_iff.mp e;exact(YI (oz a this)).symm
theorem il:aI ["rows","depths","row"] ["rows"] (bF xU):=dz
inductive qe(vs:List V)(H:Hp)(Q:VK):Prop
 |mk(p:af)(rows:List Row)(e0:vs=[.ref p])(e1:cC H p rows)(e2:fh rows)(e3:rows.length<=1150)(e4:∀H' D,aF H H'->H' D=some (.lst (vN (fo rows)))->Q (.ref D) H')
def Ib:Sp:=λa H Q _=>qe a H Q
theorem Qe{f:af}{X:ak}(F:aT K "depths_of" "depths_of" xU f X)(B:ee mg):aE P w K mg base aR 1 f X ["rows"] Ib:=by
 refine F.ok il (λvs H Q E h=>?_) (λbw A M s H vs Q E hr h=>?_)
 ·obtain⟨p,rows,rfl,_⟩:=h
  rfl
 ·obtain⟨p,rows,rfl,hR,ok,hn,q⟩:=h;refine⟨_,fv (c8 1 il.nd (g_ (aG aS (aG aS aN))))
   (fv (sC YW rfl (sD (pv 0)) (gh 2 il.nd)
    (cD (iY (qG Z7 Yr Ys sS (pv 1) (aG (br fZ aS (cQ (q43 rfl) (by rfl) B.max WW
     (aG (og ["rows","depths","row"] (bF xU) rfl rfl rfl il.nd (sD (pv 2)) (λcl C fp aH aJ=>de (yh K rfl) (pv 2) (pv 0))) aN))) aN)))))
   (cD (cA (pv 1)))),?_⟩
  refine⟨(by show 2<=sizeLine;decide),λD L=>?_⟩;obtain⟨bs,R,j9,jF⟩:=id hR;have jM:=cT (u:=.lst [.int 0,.int 0]) R L;have T:(bs.map V.ref).length=rows.length:=by rw[Zf];exact j9
  refine⟨_,rfl,p,rfl,⟨_,bh.of jM⟩,DM (K:=K) (a:=p) (xs:=bs.map V.ref) (λi l c=>aF H c/\c D=some (.lst (vN (fo (rows.take i))))/\∃J,l=[some (.ref p),some (.ref D),J])
   ⟨bf L,bg,none,rfl⟩ (λi l c _ ⟨g,_⟩=>bh.of (g _ _ R)) ?_ ?_⟩
  ·rintro i y l c N ⟨g,d,J,rfl⟩;have S:i<rows.length:=by rw[<- T];exact(cF N).1
   rw[Zg]at N;obtain⟨b,hb,rfl⟩:=Zo.mp N;have I:rows[i]?=some rows[i]:=by simp[S]
   have O:=g _ _ (jF i b rows[i] hb I);have G:=ok i _ I;have U:(rows.take i).length=i:=by rw[XE];exact LH S
   have vA:∀x,x<i+2->(fo (rows.take i))[x]?=some (dp (rows.take i) x):=λx k=>L9 (by rw[U];exact k);generalize rows[i]=r at I O G;refine⟨_,rfl,.inl ⟨rfl,_,cu.of d⟩,_,rfl,b,rfl,⟨_,bh.of O⟩,λD2 k8=>sR k8 (λj z _=>∃x,r[j]?=some x/\z=.int (dp (rows.take i) x:Nat)) (xE (K:=K) O) (by rw[mz,G.1];decide) (λ_ _ _ _ _ _ h=>h) ?_ ?_⟩
   ·intro j x H3 hj k t Q' hq;obtain⟨m,v,rfl⟩:=x6 k;have jA:=G.2 m (Zy v);exact⟨_,rfl,_,rfl,D,_,(m:Int),.int (dp (rows.take i) m:Nat),rfl,rfl,cu.of (t _ _ d),uD (vA m jA),hq _ _ (aF.refl _) ⟨m,v,rfl⟩⟩
   ·intro Y H3 t Z jY k9;have ey:Y=(r.map (dp (rows.take i))).map (λn:Nat=>V.int (n:Int)):=by
     refine qD (by rw[jY,mz,Zf,Zf]) λj x k=>?_;obtain⟨m,v,rfl⟩:=k9 j x k;rw[Zg,Zg,v];rfl
    have e2:Y=((r.map (dp (rows.take i))).map (λn:Nat=>(n:Int))).map V.int:=ey.trans (qw _);have W:r.map (dp (rows.take i))≠[]:=λz=>by
     have:=Yo List.length z;rw[Zf,G.1]at this;cases this
    refine⟨D2,(r.map (dp (rows.take i))).map (λn:Nat=>(n:Int)),rfl,e2▸Z,λz=>W (Vj.mp z),_,_,rfl,rfl,?_⟩;rw[V6 W];have jR:=t _ _ d;refine⟨D,_,_,rfl,rfl,jR,?_,?_⟩
    ·rw[mz,zW,U];exact(Y0 (show _<=1191000 by lia) (by decide))
    ·have nD:∀b o,H b=some o->b≠D:=λb o e=>dv e L;refine⟨λb o e=>by rw[cK (nD b o e)];exact t _ _ (g _ _ e),?_,_,rfl⟩;rw[bg,q56 I];unfold vN;rw[ZS]
     rfl
  ·rintro l c ⟨g,d,J,rfl⟩;refine⟨_,rfl,q c D g ?_⟩;rw[T,XG]at d;exact d
end Pr
namespace Qf
theorem V5{rows:List Row}{e:List Nat}(h:gE rows e):e.length<=rows.length:=by
 have:=h.nd.length_le_of_subset (l₂:=List.range rows.length) λp a=>Yv.mpr (h.lt p a);simpa using this
theorem Gw{rows:List Row}(ok:fh rows){d p:Nat}{r:Row}(a:rows[p]?=some r)(f:dp rows (p+2)<=d+1):∀(l e:List Nat),(∀q∈l,q∈r)->gE rows e->gE rows (l.foldl (dm rows d) e)
 |[],_,_,b=>b
 |q::l,e,h,b=>by
  have g:=h q Zu;have k:=(ok p r a).2 q g;have j:=(cF a).1;have c:dp rows q<=d:=by
   have:=Az (Yi.mpr ⟨q,g,rfl⟩:dp rows q∈r.map (dp rows));have e:=uM ok a;exact Fd e this f
  exact Gw ok a f l _ (λz i=>h z (Zk _ i)) (uL ok d e q b (qW j k) c).1
theorem xN{rows:List Row}(ok:fh rows){d p:Nat}{r:Row}(a:rows[p]?=some r)(c:dp rows (p+2)<=d+1){q:Nat}(b:q∈r):q<rows.length+2/\dp rows q<=d:=by
 have g:=(ok p r a).2 q b;have f:=(cF a).1;have:=Az (Yi.mpr ⟨q,b,rfl⟩:dp rows q∈r.map (dp rows));have e:=uM ok a;exact⟨qW f g,Fd e this c⟩
theorem Al{rows:List Row}(ok:fh rows){x:Nat}(a:x<rows.length+2)(h:dp rows x<=0):x<2:=by
 by_cases z:x<2
 ·exact z
 ·exfalso;have b:x-2<rows.length:=by exact u5 a z
  have:=uM ok (Qk b);rw[show x-2+2=x from A_ z]at this;lia
end Qf
namespace Pr
open PySem L2 Qf
theorem pQ{n:Nat}(h:n<=1191000):n<sizeLine:=Y0 h (by decide)
def cz(e:af)(H a:Hp):Prop:=∀b o,H b=some o->b≠e->a b=some o
theorem cz.refl(e:af)(H:Hp):cz e H H:=λ_ _ h _=>h
theorem cz.trans{e:af}{H d f:Hp}(a:cz e H d)(b:cz e d f):cz e H f:=λc o h n=>b c o (a c o h n) n
theorem cz.upd{e:af}{H:Hp}{o:HO}:cz e H (upd H e o):=λb u h n=>by rw[cK n];exact h
theorem cz.of{e:af}{H a:Hp}(h:aF H a):cz e H a:=λb o q _=>h b o q
theorem cz.cR{e:af}{H a:Hp}(h:cz e H a){o:HO}(c:H e=some o)(d:∀u,o≠.tup u):lq H a:=λb u q=>h b _ q λz=>by
 subst z;rw[q]at c;exact d u (ZE c).symm
def eK(es:List Nat):List (Key×V):=es.map λp:Nat=>(Sum.inl (p:Int),V.bl true)
theorem L8(es:List Nat)(p:Nat):(dA (eK es) (Sum.inl (p:Int))).isSome=decide (p∈es):=by
 rw[<- zX];unfold eK;rw[List.any_map];by_cases h:p∈es
 ·rw[Zh h,XI];exact⟨p,h,by simp⟩
 ·rw[Zi h,Vz];intro q a;simp only[Function.comp,Wc];intro z;have:(q:Int)=p:=Sum.inl.inj z;exact h (by rw[<- Int.ofNat.inj this];exact a)
theorem xH3{es:List Nat}{p:Nat}(h:p∉es):putK (eK es) (Sum.inl (p:Int)) (.bl true)=eK (es++[p]):=by
 unfold putK;have:=L8 es p;rw[<- zX,Zi h]at this;rw[Zl (by rw[this];decide)];unfold eK;rw[ZS];rfl
theorem nQ:aI ["rows","number","ended","quarter"] ["rows","number","ended"] (bF qp):=dz
inductive uf(d:Nat)(vs:List V)(H:Hp)(Q:VK):Prop
 |mk(p e:af)(x:Nat)(rows:List Row)(es:List Nat)(e0:vs=[.ref p,.int (x:Nat),.ref e])(e1:gz H p rows)(e2:fh rows)(e3:rows.length<=1190900)(e4:x<rows.length+2)(e5:dp rows x<=d)(e6:gE rows es)(e7:H e=some (.dK (eK es)))(e8:∀H',cz e H H'->H' e=some (.dK (eK (dm rows d es x)))->Q .cb H')
def MQ(d:Nat):Sp:=λa H Q _=>uf d a H Q
theorem xH5{f:af}{fd:ak}(F:aT K "end_rows" "end_rows" qp f fd)(T:pX mg)(hE:mg "end_rows"=some (.ref f))(bE:Binds K fd ["rows","number","ended"] []):∀d,aE P w K mg base aR (d+1) f fd ["rows","number","ended"] (MQ d):=by
 obtain⟨tf,J⟩:=T.first;intro d
 induction d with
 |zero=>
  refine F.ok nQ (λvs H Q E h=>?_) (λbw A G s H vs Q E R h=>?_)
  ·obtain⟨p,e,x,rows,c,rfl,_⟩:=h
   rfl
  ·obtain⟨p,e,x,rows,c,rfl,hR,ok,hn,B,N,S,l,q⟩:=h;have W:A.units+3+1<cLine:=by have:=R.un;exact Y0 (Yk _ _) (show A.units+3+1+199<cLine from by simpa using this)
   have M:=Al ok B N;refine⟨_,fv (dH (iq (dG lU (pv 1) (gf (v:=.int 2) (by rfl) J ⟨_,rfl⟩) (cU _)) (iX (Hc (Mf W (br mY (pv 1) (gf (v:=.int 2) (by rfl) J ⟨_,rfl⟩)) (pv 2))))).pt (cD DN) dI) xI,?_⟩;refine⟨_,rfl,_,_,rfl,rfl,_,rfl,?_⟩;exact Fc (show(x:Int)<2 from Ll M) (bQ (q H (cz.refl e H) l))
 |succ d ih=>
  refine F.ok nQ (λvs H Q E h=>?_) (λbw A G s H vs Q E R h=>?_)
  ·obtain⟨p,e,x,rows,c,rfl,_⟩:=h
   rfl
  ·obtain⟨p,e,x,rows,c,rfl,hR,ok,hn,B,N,S,l,q⟩:=h;have W:A.units+3+1<cLine:=by have:=R.un;exact Y0 (Yk _ (16*(d+1)+199)) (show A.units+3+1+(16*(d+1)+199)<cLine from by
    have h2:A.units+3+16*(d+1)+200<cLine:=this;lia)
   refine⟨_,fv (dH (iq (dG lU (pv 1) (gf (v:=.int 2) (by rfl) J ⟨_,rfl⟩) (cU _)) (iX (Hc (Mf W (br mY (pv 1) (gf (v:=.int 2) (by rfl) J ⟨_,rfl⟩)) (pv 2))))).pt (cD DN) dI)
    (fv (sC YW rfl (sD (de (ixS K rfl) (pv 0) (br mY (pv 1) (gf (v:=.int 2) (by rfl) J ⟨_,rfl⟩)))) (gh 3 nQ.nd)
     (cD (iY (bJ ih R hE F.kp bE (aG (pv 0) (aG (pv 3) (aG (pv 2) aN)))))))
    (cD (Qu W (pv 2) (br mY (pv 1) (gf (v:=.int 2) (by rfl) J ⟨_,rfl⟩)) iK (by rfl)))),?_⟩
   refine⟨_,rfl,_,_,rfl,rfl,_,rfl,?_⟩;unfold dm at q;refine cM (λhc=>?_) (λhc=>?_)
   ·have M:x<2:=by have:=ZB hc;lia
    rw[Zr (.inl M)]at q;exact bQ (q H (cz.refl e H) l)
   ·have M:¬x<2:=λz=>hc (Zh (by lia));have t:(x:Int)-2=((x-2:Nat):Int):=by lia
    have dg:dN H e (.int ((x:Int)-2)) (dA (eK c) (Sum.inl ((x-2:Nat):Int))):=by rw[t];exact dN.k (k:=Sum.inl ((x-2:Nat):Int)) l
    refine⟨_,rfl,_,_,rfl,rfl,_,rfl,e,_,rfl,dg,_,rfl,?_⟩;rw[L8];refine cM (λI=>?_) (λI=>?_)
    ·rw[Zr (.inr (ZB I))]at q;exact q H (cz.refl e H) l
    ·have Q5:x-2∉c:=λz=>I (Zh z);rw[Zl (by rintro(z|z);exact M z;exact Q5 z)]at q;have jA:x-2<rows.length:=by lia
     have L:=Qk jA;generalize rows.getD (x-2) []=r at q L;obtain⟨bs,D,C,jF⟩:=id hR;have Y:dp rows (x-2+2)<=d+1:=by rw[show x-2+2=x by lia];exact N
     have vW:bs[x-2]?=some (bs[x-2]'(oB B C t)):=by simp[show x-2<bs.length from oB B C t]
     have kF:=jF (x-2) _ r vW L;have Iy:∀b∈bs,b≠e:=λb hb z=>by
      obtain⟨j,X,ej⟩:=ZQ.mp hb;have:=jF j b (rows[j]'(m_ X C)) (by rw[Ze X,ej]) (Ze (m_ X C));rw[z,l]at this;cases this
     have QC:p≠e:=λz=>by
      rw[z,l]at D;rcases D with D|D<;>cases D
     have vY:∀a,cz e H a->gz a p rows:=λa g=>⟨bs,D.imp (λh=>g _ _ h QC) (λh=>g _ _ h QC),C,λi b r e1 e2=>g _ _ (jF i b r e1 e2) (Iy b (Zy e1))⟩;have Z:∀Q':VK,Q' (.ref (bs[x-2]'(oB B C t))) H->qu K (.ref p) (.int ((x:Int)-2)) H Q':=λQ' hQ=>by
      rcases D with h|h
      ·exact .inr ⟨p,_,((x-2:Nat):Int),.ref (bs[x-2]'(oB B C t)),rfl,Yo V.int t,bh.of h,n9 (by rw[Zg,vW];rfl),hQ⟩
      ·exact .inl ⟨p,_,((x-2:Nat):Int),.ref (bs[x-2]'(oB B C t)),rfl,Yo V.int t,cu.of h,n9 (by rw[Zg,vW];rfl),hQ⟩
     refine⟨_,rfl,_,rfl,_,_,rfl,rfl,Z _ ⟨_,rfl,⟨_,bh.of kF⟩,
      DM (K:=K) (xs:=vN r) (λi U a=>cz e H a/\a e=some (.dK (eK ((r.take i).foldl (dm rows d) c)))/\∃v3,U=[some (.ref p),some (.int (x:Nat)),some (.ref e),v3])
      ⟨cz.refl e H,l,none,rfl⟩ (λi U a _ ⟨g,_⟩=>bh.of (g.cR l (λu z=>by cases z) _ _ kF)) ?_ ?_⟩⟩
     ·rintro i y U a hy ⟨g,O,v3,rfl⟩;obtain⟨m,I,rfl⟩:=x6 hy;have hq:=Zy I;obtain⟨b1,b2⟩:=xN ok L Y hq;refine⟨_,rfl,_,rfl,_,rfl,p,e,m,rows,(r.take i).foldl (dm rows d) c,rfl,vY a g,ok,hn,b1,b2,Gw ok L Y _ c (λz hz=>Wh hz) S,O,λH3 s3 BN=>⟨g.trans s3,?_,_,rfl⟩⟩;have vJ:=(cF I).1;have hme:=(cF I).2;rw[<- Xu vJ,Xo,hme];exact BN
     ·rintro U a ⟨g,O,v3,rfl⟩;rw[mz,XG]at O;have pf:=Gw ok L Y r c (λz hz=>hz) S;have n:=(uL ok (d+1) c x S B N).1;unfold dm at n;rw[Zl (by rintro(z|z);exact M z;exact Q5 z)]at n;have eg:rows.getD (x-2) []=r:=by
       rw[ZF,L];rfl
      rw[eg]at n;have Jz:x-2∉r.foldl (dm rows d) c:=λz=>by
       have:=(VC.mp n.nd).2.2 (x-2) z (x-2) (by simp);exact this rfl
      have dq:iJ a e (.int ((x:Int)-2)) (.bl true) (upd a e (.dK (eK (r.foldl (dm rows d) c++[x-2])))):=by
       rw[t,<- xH3 Jz];refine iJ.k (k:=Sum.inl ((x-2:Nat):Int)) O ?_;unfold eK;rw[Zf];exact pQ (by have:=V5 pf;lia)
      exact⟨_,rfl,_,rfl,_,_,rfl,rfl,e,_,rfl,dq,q _ (g.trans cz.upd) bg⟩
theorem iU:aI ["rows","top","ended"] ["rows","top"] (bF DI):=dz
inductive mi(d:Nat)(vs:List V)(H:Hp)(Q:VK):Prop
 |mk(p:af)(x:Nat)(rows:List Row)(e0:vs=[.ref p,.int (x:Nat)])(e1:gz H p rows)(e2:fh rows)(e3:rows.length<=1190900)(e4:x<rows.length+2)(e5:dp rows x<=d)(e6:∀H' D,aF H H'->H' D=some (.lst (vN (dm rows d [] x)))->Q (.ref D) H')
def HM(d:Nat):Sp:=λa H Q _=>mi d a H Q
theorem q59{f g:af}{m a:ak}(F:aT K "places_as_ended" "places_as_ended" DI f m)(B:ee mg)(T:pX mg)(j:mg "end_rows"=some (.ref g))(k:aT K "end_rows" "end_rows" qp g a)(n:Binds K a ["rows","number","ended"] [])(d:Nat):aE P w K mg base aR (d+2) f m ["rows","top"] (HM d):=by
 have r:aE P w K mg base aR (d+1) g a ["rows","number","ended"] (MQ d):=xH5 k T j n d;refine F.ok iU (λC H Q E h=>?_) (λN A c s H C Q E D h=>?_)
 ·obtain⟨p,x,rows,rfl,_⟩:=h
  rfl
 ·obtain⟨p,x,rows,rfl,u,ok,t,L,v,q⟩:=h;refine⟨_,fv (c8 2 iU.nd V9)
   (fv (iY (bJ r D j k.kp n (aG (pv 0) (aG (pv 1) (aG (pv 2) aN)))))
   (cD (cA (oh (qW4 rfl) (by rfl) B.list PyProof.Rows.boot_list (aG (pv 2) aN))))),?_⟩
  refine λe i=>⟨_,rfl,_,rfl,_,rfl,p,e,x,rows,[],rfl,u.same (bf i),ok,t,L,v,C8 rows,bg,λM J y=>?_⟩;refine⟨_,rfl,e,_,rfl,y,λl I=>q _ l ?_ ?_⟩
  ·intro b o z;have G:b≠e:=dv z i;exact cT (J b o (cT z i) G) I
  ·rw[bg];unfold eK vN;rw[YL]
   rfl
end Pr
namespace Qf
inductive Tr
 |z|o|nd (a b c d:Tr) deriving DecidableEq
namespace Tr
def kids:Tr->List Tr
 |nd a b c d=>[a,b,c,d]
 |_=>[]
def dep:Tr->Nat
 |nd a b c d=>1+mx [dep a,dep b,dep c,dep d]
 |_=>0
def Red:Tr->Prop
 |nd a b c d=>¬(a=z/\b=z/\c=z/\d=z)/\¬(a=o/\b=o/\c=o/\d=o)/\Red a/\Red b/\Red c/\Red d
 |_=>True
def post:Tr->List Tr->List Tr
 |nd a b c d,e=>if nd a b c d∈e then e else post d (post c (post b (post a e)))++[nd a b c d]
 |_,e=>e
def In(L:List Tr)(t:Tr):Prop:=t=z\/t=o\/t∈L
theorem In.app{L s:List Tr}{t:Tr}(h:In L t):In (L++s) t:=h.imp id λh=>h.imp id λh=>Y5 _ h
structure Ord(L:List Tr):Prop where
 nd:L.Nodup
 ch:∀(i:Nat) t,L[i]?=some t->(∃a b c d,t=.nd a b c d)/\∀s∈kids t,s=z\/s=o\/∃j:Nat,j<i/\L[j]?=some s
theorem eO:Ord []:=⟨Vr,λi t h=>by simp at h⟩
theorem b_:∀(t:Tr)(e:List Tr),∃s,post t e=e++s
 |z,e=>⟨[],by simp[post]⟩
 |o,e=>⟨[],by simp[post]⟩
 |nd a b c d,e=>by
  unfold post;split
  ·exact⟨[],by simp⟩
  ·obtain⟨h,h1⟩:=b_ a e;obtain⟨g,h2⟩:=b_ b (post a e);obtain⟨f,i⟩:=b_ c (post b (post a e));obtain⟨j,k⟩:=b_ d (post c (post b (post a e)));exact⟨h++g++f++j++[nd a b c d],by rw[k,i,h2,h1];simp⟩
theorem In.post{L:List Tr}{t:Tr}(s:Tr)(h:In L t):In (post s L) t:=by
 obtain⟨u,e⟩:=b_ s L;rw[e];exact h.app
theorem sP:∀(t:Tr)(e:List Tr)(s:Tr),s∈post t e->s∈e\/sizeOf s<=sizeOf t
 |z,e,s,h=>.inl h
 |o,e,s,h=>.inl h
 |nd a b c d,e,s,h=>by
  unfold post at h;split at h
  ·exact .inl h
  ·have sz:sizeOf (nd a b c d)=1+sizeOf a+sizeOf b+sizeOf c+sizeOf d:=by simp
   rcases ZX.mp h with h|h
   ·rcases sP d _ s h with h|h
    ·rcases sP c _ s h with h|h
     ·rcases sP b _ s h with h|h
      ·rcases sP a _ s h with h|h
       ·exact .inl h
       ·exact .inr (by lia)
      ·exact .inr (by lia)
     ·exact .inr (by lia)
    ·exact .inr (by lia)
   ·have:s=nd a b c d:=by simpa using h
    rw[this];exact .inr (Zb _)
theorem hX{a b c d:Tr}{e:List Tr}(h:nd a b c d∉e):nd a b c d∉post d (post c (post b (post a e))):=λh2=>by
 have sz:sizeOf (nd a b c d)=1+sizeOf a+sizeOf b+sizeOf c+sizeOf d:=by simp
 rcases sP d _ _ h2 with h2|h2
 ·rcases sP c _ _ h2 with h2|h2
  ·rcases sP b _ _ h2 with h2|h2
   ·rcases sP a _ _ h2 with h2|h2
    ·exact h h2
    ·lia
   ·lia
  ·lia
 ·lia
theorem bU:∀(t:Tr)(e:List Tr),Ord e->Ord (post t e)/\In (post t e) t
 |z,e,h=>⟨h,.inl rfl⟩
 |o,e,h=>⟨h,.inr (.inl rfl)⟩
 |nd a b c d,e,h=>by
  unfold post;split
  ·rename_i g;exact⟨h,.inr (.inr g)⟩
  ·rename_i g;obtain⟨A,n⟩:=bU a e h;obtain⟨G,u⟩:=bU b _ A;obtain⟨E,q⟩:=bU c _ G;obtain⟨p,C⟩:=bU d _ E;have n:=((n.post b).post c).post d;have u:=(u.post c).post d;have q:=q.post d;have v:=hX g;generalize post d (post c (post b (post a e)))=L at p n u q C v;refine⟨⟨?_,?_⟩,.inr (.inr (by simp))⟩
   ·rw[VC];exact⟨p.nd,by simp,λx H y F e=>v (by
     have:y=nd a b c d:=by simpa using F
     rw[<- this,<- e];exact H)⟩
   ·intro i t k;by_cases m:i<L.length
    ·rw[Zp m]at k;obtain⟨h1,h2⟩:=p.ch i t k;refine⟨h1,λs l=>(h2 s l).imp id λh=>h.imp id λ⟨j,f,e⟩=>⟨j,f,?_⟩⟩;rw[Zp (ng f m)];exact e
    ·have r:=(cF k).1;rw[Zn]at r;have w:i=L.length:=by simp at r;exact AZ r m
     subst w;have B:t=nd a b c d:=by simpa using k.symm
     subst B;refine⟨⟨a,b,c,d,rfl⟩,λs l=>?_⟩;have D:In L s:=by
      have:s=a\/s=b\/s=c\/s=d:=by simpa[kids]using l
      rcases this with rfl|rfl|rfl|rfl<;>assumption
     refine D.imp id λh=>h.imp id λg=>?_;obtain⟨j,f,e⟩:=ZQ.mp g;exact⟨j,f,by rw[Zp f,Ze f,e]⟩
def name(L:List Tr):Tr->Nat
 |z=>0
 |o=>1
 |t=>L.idxOf t+2
def rowsOf(L:List Tr):List Row:=L.map λt=>(kids t).map (name L)
theorem zN(L:List Tr)(a b c d:Tr):name L (.nd a b c d)=L.idxOf (.nd a b c d)+2:=rfl
theorem eQ{L:List Tr}(h:Ord L){i:Nat}{t:Tr}(e:L[i]?=some t):name L t=i+2:=by
 obtain⟨⟨a,b,c,d,rfl⟩,_⟩:=h.ch i t e;rw[zN];congr 1;have g:=(cF e).1;have f:=(cF e).2;rw[<- f];exact h.nd.idxOf_getElem i g
theorem sH{L:List Tr}(h:Ord L){t:Tr}(d:In L t):(t=z/\name L t=0)\/(t=o/\name L t=1)\/∃i:Nat,L[i]?=some t/\name L t=i+2:=by
 rcases d with rfl|rfl|c
 ·exact .inl ⟨rfl,rfl⟩
 ·exact .inr (.inl ⟨rfl,rfl⟩)
 ·obtain⟨j,b,e⟩:=ZQ.mp c;have a:L[j]?=some t:=by rw[Ze b,e]
  exact .inr (.inr ⟨j,a,eQ h a⟩)
theorem V4{L:List Tr}(h:Ord L){s t:Tr}(hs:In L s)(c:In L t)(e:name L s=name L t):s=t:=by
 rcases sH h hs with⟨rfl,d⟩|⟨rfl,d⟩|⟨i,f,d⟩
 ·rcases sH h c with⟨rfl,a⟩|⟨rfl,a⟩|⟨j,b,a⟩
  ·rfl
  ·lia
  ·lia
 ·rcases sH h c with⟨rfl,a⟩|⟨rfl,a⟩|⟨j,b,a⟩
  ·lia
  ·rfl
  ·lia
 ·rcases sH h c with⟨rfl,a⟩|⟨rfl,a⟩|⟨j,b,a⟩
  ·lia
  ·lia
  ·have:i=j:=by lia
   subst this;rw[f]at b;exact ZE b
theorem eR{L s:List Tr}{t:Tr}(h:In L t)(f:Ord L):name (L++s) t=name L t:=by
 rcases sH f h with⟨rfl,_⟩|⟨rfl,_⟩|⟨i,e,_⟩
 ·rfl
 ·rfl
 ·obtain⟨⟨a,b,c,d,rfl⟩,_⟩:=f.ch i t e;rw[zN,zN,List.idxOf_append,Zr (Zy e)]
theorem dF{L:List Tr}(h:Ord L){i:Nat}{t s:Tr}(e:L[i]?=some t)(hs:s∈kids t):In L s/\name L s<i+2:=by
 rcases(h.ch i t e).2 s hs with rfl|rfl|⟨j,b,a⟩
 ·exact⟨.inl rfl,by show 0<_;lia⟩
 ·exact⟨.inr (.inl rfl),by show 1<_;lia⟩
 ·exact⟨.inr (.inr (Zy a)),by rw[eQ h a];exact u6 b⟩
theorem bb(L:List Tr):(rowsOf L).length=L.length:=by simp[rowsOf]
theorem cm{L:List Tr}{i:Nat}{t:Tr}(e:L[i]?=some t):(rowsOf L)[i]?=some ((kids t).map (name L)):=by
 unfold rowsOf;rw[Zg,e];rfl
theorem GZ{L:List Tr}{i:Nat}{r:Row}(e:(rowsOf L)[i]?=some r):∃t,L[i]?=some t/\r=(kids t).map (name L):=by
 unfold rowsOf at e;rw[Zg]at e;obtain⟨t,h1,h2⟩:=Zo.mp e;exact⟨t,h1,h2.symm⟩
theorem Gv{L:List Tr}(h:Ord L):fh (rowsOf L):=λp r i=>by
 obtain⟨t,f,rfl⟩:=GZ i;obtain⟨⟨a,b,c,d,rfl⟩,_⟩:=h.ch p t f;refine⟨rfl,λx j=>?_⟩;obtain⟨s,g,rfl⟩:=Yi.mp j;exact(dF h f g).2
theorem G9{L:List Tr}(h:Ord L):∀{k l:List Tr},(∀s∈k,In L s)->(∀s∈l,In L s)->k.map (name L)=l.map (name L)->k=l
 |[],[],_,_,_=>rfl
 |[],_::_,_,_,e=>by simp at e
 |_::_,[],_,_,e=>by simp at e
 |a::k,b::l,h1,h2,e=>by
  simp only[ZG,YX]at e;rw[V4 h (h1 a Zu) (h2 b Zu) e.1,G9 h (λs c=>h1 s (Zk _ c)) (λs c=>h2 s (Zk _ c)) e.2]
theorem OQ{s t:Tr}(hs:∃a b c d,s=.nd a b c d)(f:∃a b c d,t=.nd a b c d)(e:kids s=kids t):s=t:=by
 obtain⟨a,b,c,d,rfl⟩:=hs;obtain⟨h,g,j,i,rfl⟩:=f;simpa[kids]using e
theorem N5{L:List Tr}(h:Ord L):(rowsOf L).Nodup:=by
 rw[dD];intro i j f a e;rw[bb]at a;have c:L[i]?=some L[i]:=Ze (ng f a);have b:L[j]?=some L[j]:=Ze a;rw[cm c,cm b]at e;have:=OQ (h.ch i _ c).1 (h.ch j _ b).1 (G9 h (λs d=>(dF h c d).1) (λs d=>(dF h b d).1) (ZE e));have h2:=dD.mp h.nd i j f a;rw[c,b]at h2;exact h2 (by rw[this])
end Tr
open Tr
def tr(rows:List Row):Nat->Nat->Tr
 |0,x=>if x=1 then .o else .z
 |d+1,x=>if x=0 then .z else if x=1 then .o else .nd (tr rows d ((rows.getD (x-2) []).getD 0 0)) (tr rows d ((rows.getD (x-2) []).getD 1 0)) (tr rows d ((rows.getD (x-2) []).getD 2 0)) (tr rows d ((rows.getD (x-2) []).getD 3 0))
theorem zM(rows:List Row)(d:Nat):tr rows d 0=.z:=by cases d<;>rfl
theorem Ak(rows:List Row)(d:Nat):tr rows d 1=.o:=by cases d<;>rfl
theorem xt{r:Row}(h:r.length=4):∃a b c d,r=[a,b,c,d]:=by
 match r,h with
 |[a,b,c,d],_=>exact⟨a,b,c,d,rfl⟩
theorem Ia{rows:List Row}{d p a b c e:Nat}(f:rows[p]?=some [a,b,c,e]):tr rows (d+1) (p+2)=.nd (tr rows d a) (tr rows d b) (tr rows d c) (tr rows d e):=by
 have:rows.getD p []=[a,b,c,e]:=by rw[ZF,f];rfl
 show(if p+2=0 then _ else if p+2=1 then _ else _)=_;rw[Zl (by lia),Zl (by lia),show p+2-2=p from LI,this]
 rfl
theorem sj{rows:List Row}(ok:fh rows){x:Nat}(i:x<rows.length+2)(h:¬x<2):∃p a b c d,x=p+2/\rows[p]?=some [a,b,c,d]:=by
 have g:x-2<rows.length:=by exact u5 i h
 have f:rows[x-2]?=some rows[x-2]:=Ze g;obtain⟨a,b,c,d,e⟩:=xt (ok _ _ f).1;exact⟨x-2,a,b,c,d,A2 h,by rw[f,e]⟩
theorem Di{rows:List Row}(ok:fh rows):∀(d f x:Nat),dp rows x<=d->dp rows x<=f->x<rows.length+2->tr rows d x=tr rows f x:=by
 intro d
 induction d with
 |zero=>
  intro f x h1 h2 k;have g:=Al ok k h1
  match x,g with
  |0,_=>rw[zM,zM]
  |1,_=>rw[Ak,Ak]
 |succ d h=>
  intro f x h1 h2 k;by_cases g:x<2
  ·match x,g with
   |0,_=>rw[zM,zM]
   |1,_=>rw[Ak,Ak]
  ·obtain⟨p,a,b,c,e,rfl,j⟩:=sj ok k g
   match f,h2 with
   |0,h2=>exact absurd (Al ok k h2) g
   |f+1,h2=>
    have q:=λy (l:y∈[a,b,c,e])=>xN ok j h1 l;have i:=λy (l:y∈[a,b,c,e])=>xN ok j h2 l;rw[Ia j,Ia j,h f a (q a (by simp)).2 (i a (by simp)).2 (q a (by simp)).1,h f b (q b (by simp)).2 (i b (by simp)).2 (q b (by simp)).1,h f c (q c (by simp)).2 (i c (by simp)).2 (q c (by simp)).1,h f e (q e (by simp)).2 (i e (by simp)).2 (q e (by simp)).1]
def T(rows:List Row)(x:Nat):Tr:=tr rows (dp rows x) x
theorem n6(rows:List Row):T rows 0=.z:=zM _ _
theorem nZ(rows:List Row):T rows 1=.o:=Ak _ _
theorem lT{rows:List Row}(ok:fh rows){p a b c e:Nat}(f:rows[p]?=some [a,b,c,e]):T rows (p+2)=.nd (T rows a) (T rows b) (T rows c) (T rows e):=by
 obtain⟨d,g⟩:∃d,dp rows (p+2)=d+1:=⟨_,by rw[uM ok f];exact Nat.add_comm _ _⟩;have q:=λy (h:y∈[a,b,c,e])=>xN ok f (Vl g) h;unfold T;rw[g,Ia f,Di ok d _ a (q a (by simp)).2 (Zb _) (q a (by simp)).1,Di ok d _ b (q b (by simp)).2 (Zb _) (q b (by simp)).1,Di ok d _ c (q c (by simp)).2 (Zb _) (q c (by simp)).1,Di ok d _ e (q e (by simp)).2 (Zb _) (q e (by simp)).1]
theorem xN9{rows:List Row}(ok:fh rows)(nd:rows.Nodup):∀(d x y:Nat),dp rows x<=d->x<rows.length+2->y<rows.length+2->T rows x=T rows y->x=y:=by
 intro d;have j:∀x y,x<2->y<rows.length+2->T rows x=T rows y->x=y:=λx y l g e=>by
  by_cases m:y<2
  ·match x,y,l,m with
   |0,0,_,_=>rfl
   |1,1,_,_=>rfl
   |0,1,_,_=>rw[n6,nZ]at e;cases e
   |1,0,_,_=>rw[n6,nZ]at e;cases e
  ·obtain⟨p,a,b,c,f,rfl,i⟩:=sj ok g m;rw[lT ok i]at e
   match x,l with
   |0,_=>rw[n6]at e;cases e
   |1,_=>rw[nZ]at e;cases e
 induction d with
 |zero=>exact λx y h r g e=>j x y (Al ok r h) g e
 |succ d n=>
  intro x y h r g e;by_cases l:x<2
  ·exact j x y l g e
  ·by_cases m:y<2
   ·exact(j y x m r e.symm).symm
   ·obtain⟨p,a,b,c,f,rfl,i⟩:=sj ok r l;obtain⟨s,w,v,A,u,rfl,k⟩:=sj ok g m;rw[lT ok i,lT ok k]at e;have q:=λy (g:y∈[a,b,c,f])=>xN ok i h g;have t:∀y∈[w,v,A,u],y<rows.length+2:=λy g=>by
     have:=(ok _ _ k).2 y g;have:=(cF k).1;lia
    injection e with e1 e2 e3 e4
    have h1:=n a w (q a (by simp)).2 (q a (by simp)).1 (t w (by simp)) e1;have h2:=n b v (q b (by simp)).2 (q b (by simp)).1 (t v (by simp)) e2;have B:=n c A (q c (by simp)).2 (q c (by simp)).1 (t A (by simp)) e3;have C:=n f u (q f (by simp)).2 (q f (by simp)).1 (t u (by simp)) e4;subst h1 h2 B C;have:p=s:=by
     rcases WQ p s with z|z|z
     ·exact absurd (i.trans k.symm) (dD.mp nd p s z (cF k).1)
     ·exact z
     ·exact absurd (k.trans i.symm) (dD.mp nd s p z (cF i).1)
    rw[this]
def jw(rows:List Row)(p:Nat):Tr:=T rows (p+2)
theorem T7{rows:List Row}(ok:fh rows)(nd:rows.Nodup){e:List Nat}(b:gE rows e){p:Nat}(c:p<rows.length):jw rows p∈e.map (jw rows)<->p∈e:=by
 constructor
 ·intro h;obtain⟨q,a,d⟩:=Yi.mp h;have:=xN9 ok nd _ (q+2) (p+2) (Zb _) (by have:=b.lt q a;exact u6 this) (u6 c) d;have:q=p:=by lia
  rw[<- this];exact a
 ·exact λh=>Yi.mpr ⟨p,h,rfl⟩
theorem OP{rows:List Row}(ok:fh rows)(nd:rows.Nodup):∀(d:Nat)(e:List Nat)(x:Nat),gE rows e->x<rows.length+2->dp rows x<=d->(dm rows d e x).map (jw rows)=post (T rows x) (e.map (jw rows)):=by
 intro d
 induction d with
 |zero=>
  intro e x i r l;have g:=Al ok r l
  match x,g with
  |0,_=>rw[n6];rfl
  |1,_=>rw[nZ];rfl
 |succ d j=>
  intro e x i r l;by_cases g:x<2
  ·have:dm rows (d+1) e x=e:=by
    show(if x<2\/x-2∈e then e else _)=e;rw[Zr (.inl g)]
   rw[this]
   match x,g with
   |0,_=>rw[n6];rfl
   |1,_=>rw[nZ];rfl
  ·obtain⟨p,a,b,c,f,rfl,h⟩:=sj ok r g;have G:=(cF h).1;have A:=T7 ok nd i G;have F:rows.getD p []=[a,b,c,f]:=by rw[ZF,h];rfl
   have n:jw rows p=.nd (T rows a) (T rows b) (T rows c) (T rows f):=lT ok h;rw[lT ok h];show(if p+2<2\/p+2-2∈e then e else(rows.getD (p+2-2) []).foldl (dm rows d) e++[p+2-2]).map (jw rows)=(if _∈e.map (jw rows)then _ else _);rw[show p+2-2=p from LI,<- n,F];by_cases k:p∈e
   ·rw[Zr (.inr k),Zr (A.mpr k)]
   ·rw[Zl (by rintro(z|z);lia;exact k z),Zl (λz=>k (A.mp z))];have q:=λy (H:y∈[a,b,c,f])=>xN ok h l H;obtain⟨w,C⟩:=q a (by simp);obtain⟨t,B⟩:=q b (by simp);obtain⟨D,v⟩:=q c (by simp);obtain⟨I,m⟩:=q f (by simp);have s:=(uL ok d e a i w C).1;have u:=(uL ok d _ b s t B).1;have E:=(uL ok d _ c u D v).1;show(dm rows d (dm rows d (dm rows d (dm rows d e a) b) c) f++[p]).map (jw rows)=_;rw[ZS,j _ f E I m,j _ c u D v,j _ b s t B,j _ a i w C,n];show _++[jw rows p]=_;rw[n]
theorem qX2{n top:Nat}{rows:List Row}(c:Canon n top rows):rows=rowsOf (post (T rows top) [])/\top=name (post (T rows top) []) (T rows top):=by
 have h:=OP c.mn c.unlike n [] top (C8 rows) c.oQ c.deep;rw[c.ends]at h;have u:Ord (post (T rows top) [])/\In (post (T rows top) []) (T rows top):=bU _ _ eO;have k:post (T rows top) []=(List.range rows.length).map (jw rows):=h.symm;obtain⟨l,s⟩:=u;generalize post (T rows top) []=L at l s k;have m:∀p,p<rows.length->L[p]?=some (jw rows p):=λp d=>by
  rw[k,Zg,Wr d];rfl
 have r:L.length=rows.length:=by rw[k];simp
 have g:∀q,q<rows.length+2->name L (T rows q)=q:=λq x=>by
  by_cases j:q<2
  ·match q,j with
   |0,_=>rw[n6];rfl
   |1,_=>rw[nZ];rfl
  ·have:=eQ l (m (q-2) (u5 x j));unfold jw at this;rw[show q-2+2=q from A_ j]at this;exact this
 refine⟨?_,(g top c.oQ).symm⟩;refine Wb λp=>?_;by_cases d:p<rows.length
 ·have i:rows[p]?=some rows[p]:=Ze d;obtain⟨a,b,e,f,t⟩:=xt (c.mn p _ i).1;rw[t]at i;rw[i,cm (m p d)];have v:jw rows p=.nd (T rows a) (T rows b) (T rows e) (T rows f):=lT c.mn i;have lt:∀y∈[a,b,e,f],y<rows.length+2:=λy w=>by
   have:=(c.mn _ _ i).2 y w;exact qW d this
  rw[v];show some [a,b,e,f]=some [name L (T rows a),name L (T rows b),name L (T rows e),name L (T rows f)];rw[g a (lt a (by simp)),g b (lt b (by simp)),g e (lt e (by simp)),g f (lt f (by simp))]
 ·rw[YI (iw d),YI (by rw[bb];exact A5 r d)]
theorem xr{L:List Tr}(h:Ord L):∀t:Tr,In L t->dp (rowsOf L) (name L t)=dep t
 |.z,_=>Mb (by decide:(0:Nat)<2)
 |.o,_=>Mb (by decide:(1:Nat)<2)
 |.nd a b c d,j=>by
  rcases sH h j with⟨e,_⟩|⟨e,_⟩|⟨i,e,k⟩
  ·cases e
  ·cases e
  ·have f:=λs (g:s∈kids (.nd a b c d))=>(dF h e g).1;rw[k,uM (Gv h) (cm e)];show 1+mx [_,_,_,_]=1+mx [dep a,dep b,dep c,dep d];rw[xr h a (f a (by simp[kids])),xr h b (f b (by simp[kids])),xr h c (f c (by simp[kids])),xr h d (f d (by simp[kids]))]
theorem uC{L:List Tr}(h:Ord L):∀t:Tr,In L t->T (rowsOf L) (name L t)=t
 |.z,_=>n6 _
 |.o,_=>nZ _
 |.nd a b c d,j=>by
  rcases sH h j with⟨e,_⟩|⟨e,_⟩|⟨i,e,k⟩
  ·cases e
  ·cases e
  ·have f:=λs (g:s∈kids (.nd a b c d))=>(dF h e g).1;rw[k,lT (Gv h) (cm e),uC h a (f a (by simp[kids])),uC h b (f b (by simp[kids])),uC h c (f c (by simp[kids])),uC h d (f d (by simp[kids]))]
def H_(L:List Tr):Prop:=∀t∈L,Red t
theorem zV:∀(t:Tr)(e:List Tr),Red t->H_ e->H_ (post t e)
 |.z,_,_,h=>h
 |.o,_,_,h=>h
 |.nd a b c d,e,f,h=>by
  unfold post;split
  ·exact h
  ·have i:=zV d _ f.2.2.2.2.2 (zV c _ f.2.2.2.2.1 (zV b _ f.2.2.2.1 (zV a e f.2.2.1 h)));intro s g;rcases ZX.mp g with g|g
   ·exact i s g
   ·have:s=.nd a b c d:=by simpa using g
    rw[this];exact f
theorem sQ{L:List Tr}{t:Tr}(h:name L t=0):t=.z:=by
 cases t with
 |z=>rfl
 |o=>cases h
 |nd a b c d=>rw[zN]at h;lia
theorem sO{L:List Tr}{t:Tr}(h:name L t=1):t=.o:=by
 cases t with
 |z=>cases h
 |o=>rfl
 |nd a b c d=>rw[zN]at h;lia
theorem qz0{L:List Tr}(h:Ord L)(l:H_ L):∀r∈rowsOf L,¬jy r:=λr k=>by
 obtain⟨i,m,e⟩:=ZQ.mp k;obtain⟨t,j,rfl⟩:=GZ (i:=i) (r:=r) (by rw[Ze m,e]);obtain⟨⟨a,b,c,d,rfl⟩,_⟩:=h.ch i t j;have g:=l _ (Zy j);rintro(z|z)
 ·have f:[name L a,name L b,name L c,name L d]=[0,0,0,0]:=z;simp only[YX,V0]at f;exact g.1 ⟨sQ f.1,sQ f.2.1,sQ f.2.2.1,sQ f.2.2.2⟩
 ·have f:[name L a,name L b,name L c,name L d]=[1,1,1,1]:=z;simp only[YX,V0]at f;exact g.2.1 ⟨sO f.1,sO f.2.1,sO f.2.2.1,sO f.2.2.2⟩
theorem qX3{n:Nat}(w:n<=12){t:Tr}(B:Red t)(h:dep t<=n):Canon n (name (post t []) t) (rowsOf (post t [])):=by
 obtain⟨a,d⟩:=bU t [] eO;have q:=zV t [] B (λs x=>nomatch x);have v:=uC a t d;have f:=xr a t d;generalize y:post t []=L at a d q v f;have ok:=Gv a;have p:=N5 a;have k:name L t<(rowsOf L).length+2:=by
  rw[bb];rcases sH a d with⟨_,e⟩|⟨_,e⟩|⟨i,e,g⟩
  ·lia
  ·lia
  ·have:=(cF e).1;lia
 refine⟨w,ok,k,by rw[f];exact h,qz0 a q,p,?_⟩;have u:=OP ok p n [] (name L t) (C8 _) k (by rw[f];exact h);rw[v]at u;have g:(dm (rowsOf L) n [] (name L t)).map (jw (rowsOf L))=L:=by rw[u];exact y
 have m:=(uL ok n [] (name L t) (C8 _) k (by rw[f];exact h)).1;generalize dm (rowsOf L) n [] (name L t)=E at g m;have j:E.length=L.length:=by rw[<- g];simp
 refine Wb λi=>?_;by_cases b:i<E.length
 ·have r:E[i]?=some E[i]:=Ze b;have c:=m.lt E[i] (XH b);rw[bb]at c;have l:L[i]?=some (jw (rowsOf L) E[i]):=by
   conv=>lhs;rw[<- g]
   rw[Zg,r];rfl
  have A:jw (rowsOf L) E[i]=L[E[i]]:=by
   have C:L[E[i]]?=some L[E[i]]:=Ze c;have:=uC a L[E[i]] (.inr (.inr (XH c)));rw[eQ a C]at this;exact this
  rw[A]at l;have:E[i]=i:=by
   rcases WQ E[i] i with z|z|z
   ·exact absurd (by rw[l];exact Ze c) (dD.mp a.nd E[i] i z (m_ b j))
   ·exact z
   ·exact absurd (by rw[l];exact(Ze c).symm) (dD.mp a.nd i E[i] z c)
  rw[r,this,Wr (by rw[bb];exact m_ b j)]
 ·rw[YI (iw b),YI (by rw[WP,bb];exact LD j b)]
end Qf
namespace Pr
open PySem L2 Qf
def uB(H:Hp)(t:af)(n top:Nat)(rows:List Row):Prop:=∃p:af,H t=some (.tup [.int (n:Nat),.int (top:Nat),.ref p])/\cC H p rows
theorem T6{ys:List V}(h:∀(i:Nat) y,ys[i]?=some y->y=.bl true):ys=(List.replicate ys.length true).map V.bl:=by
 refine qD (by simp) λi x a=>?_;have b:=(cF a).1;rw[h i x a];simp[b]
theorem Qd(k:Nat):(List.replicate k true).all id=true:=by
 rw[Z8];intro x a;exact(List.mem_replicate.mp a).2
theorem lM:aI ["thing","before"] ["thing","before"] (bF iV):=dz
inductive t_(vs:List V)(H:Hp)(Q:VK):Prop
 |mk(b:af)(i:Nat)(r:Row)(e0:vs=[.ref b,.int (i:Nat)])(e1:H b=some (.tup (vN r)))(e2:Ay i r)(e3:∀H',aF H H'->Q (.bl true) H')
def MP:Sp:=λa H Q _=>t_ a H Q
theorem xH7{f c:af}{l a:ak}(F:aT K "is_row" "is_row" iV f l)(B:ee mg)(M:mg "is_number"=some (.ref c))(R:aT K "is_number" "is_number" sJ c a)(y:Binds K a ["thing","many"] [])(u:aE P w K mg base aR 2 c a ["thing","many"] HN):aE P w K mg base aR 3 f l ["thing","before"] MP:=by
 refine F.ok lM (λI H Q E h=>?_) (λV A d s H I Q E L h=>?_)
 ·obtain⟨b,i,r,rfl,_⟩:=h
  rfl
 ·obtain⟨b,i,r,rfl,hb,g,q⟩:=h;refine⟨_,fv (dH (iq (kq (gP (cQ mD (by rfl) B.lY ZI (aG (pv 0) (aG (n_ (v:=.ty "tuple") (by rfl) B.tuple ZZ rfl) aN)))))
    (iX (dG sY (cQ mE (by rfl) B.len Ye (aG (pv 0) aN)) aS (cU _)))).pt (cD (cA iK)) dI)
   (cD (cA (cQ (Dl rfl) (by rfl) B.all X7 (aG (og ["thing","before"] (bF iV) rfl rfl rfl lM.nd (Ij K rfl (pv 0)) (λX C Y aH U=>bJ u L M R.kp y (aG (pv 0) (aG (pv 2) aN)))) aN)))),?_⟩
  refine⟨_,rfl,_,_,_,_,true,rfl,rfl,.inl (.tup hb),rfl,_,rfl,bY ⟨_,rfl,b,_,rfl,.inr (bh.of hb),rfl,_,rfl,E9 (by rw[mz,g.1];rfl) ?_⟩⟩;refine⟨_,rfl,b,rfl,⟨_,bh.of hb⟩,λD G=>sR G (λ_ z _=>z=.bl true) (xE (K:=K) hb) (by rw[mz,g.1];decide) (λ_ _ _ _ _ _ h=>h) ?_ ?_⟩
  ·intro j x n T S k W O;obtain⟨m,J,rfl⟩:=x6 S;exact⟨_,rfl,_,rfl,m,i,rfl,g.2 m (Zy J),O _ _ (aF.refl _) rfl⟩
  ·intro N n k p Z t;have e:=T6 t;refine⟨D,List.replicate N.length true,rfl,by rw[<- e];exact p,?_⟩;rw[Qd];exact q n k
theorem ik:aI ["thing"] ["thing"] (bF sX):=dz
inductive qd(vs:List V)(H:Hp)(Q:VK):Prop
 |mk(p:af)(rows:List Row)(e0:vs=[.ref p])(e1:cC H p rows)(e2:fh rows)(e3:rows.length<=1150)(e4:∀H',aF H H'->Q (.bl true) H')
def L7:Sp:=λa H Q _=>qd a H Q
theorem T5{f g:af}{u l:ak}(F:aT K "are_rows" "are_rows" sX f u)(B:ee mg)(M:mg "is_row"=some (.ref g))(W:aT K "is_row" "is_row" iV g l)(I:Binds K l ["thing","before"] [])(GR:aE P w K mg base aR 3 g l ["thing","before"] MP):aE P w K mg base aR 4 f u ["thing"] L7:=by
 refine F.ok ik (λU H Q E h=>?_) (λbw A j s H U Q E Y h=>?_)
 ·obtain⟨p,rows,rfl,_⟩:=h
  rfl
 ·obtain⟨p,rows,rfl,jS,ok,L,q⟩:=h;obtain⟨bs,c,Z,jF⟩:=id jS;refine⟨_,cD (cA (mB (cQ mD (by rfl) B.lY ZI (aG (pv 0) (aG (n_ (v:=.ty "tuple") (by rfl) B.tuple ZZ rfl) aN)))
   (mZ (cQ (Dl rfl) (by rfl) B.all X7 (aG (OY ["thing"] (bF sX) rfl rfl rfl ik.nd (HQ (by rfl) B.enum (aG (pv 0) aN)) (λcl C fp aH aJ=>bJ GR Y M W.kp I (aG (pv 1) (aG (pv 0) aN)))) aN))))),?_⟩
  refine⟨_,rfl,_,_,_,_,true,rfl,rfl,.inl (.tup c),rfl,_,rfl,bQ ?_⟩;have n:(bs.map V.ref).length=rows.length:=by rw[Zf];exact Z
  refine⟨_,rfl,p,rfl,⟨_,bh.of c⟩,λD R=>Dp R (λ_=>true) (λ_=>.bl true) (PB (K:=K) c) (by rw[n];exact xJ (A6 L)) ?_ ?_⟩
  ·rintro i x d a ⟨t,y,rfl,r,S⟩ m os O Q1 Q2 q1 N;obtain⟨o1,o2,rfl⟩:=L2.Io O
   ·
    have J:i<rows.length:=by rw[<- n];exact a
    rw[Zg]at r;obtain⟨b,hb,rfl⟩:=Zo.mp r;have G:rows[i]?=some rows[i]:=by simp[J]
    refine⟨t,_,rfl,bh.of S,rfl,_,_,rfl,_,_,rfl,rfl,?_⟩;refine bQ (B:=Q1 d) ?_;exact⟨_,rfl,_,rfl,b,i,rows[i],rfl,m _ _ (jF i b _ hb G),ok i _ G,λH3 T=>N rfl H3 T⟩
  ·intro d m X;refine⟨D,List.replicate (bs.map V.ref).length true,rfl,?_,?_⟩
   ·rw[X];congr 2;rw[List.map_replicate,List.filter_eq_self.mpr (λ_ _=>rfl)];refine qD (by simp) λi x k=>?_;have a:=(cF k).1;rw[Zg]at k;obtain⟨_,_,rfl⟩:=Zo.mp k;simp at a;rw[Zf,XF,Zr a]
   ·rw[Qd];exact q d m
theorem ck:aI ["thing","n","top","rows"] ["thing"] (bF xD):=dz
def m6(H:Hp)(t:af)(n top:Nat)(rows:List Row):Prop:=uB H t n top rows/\Canon n top rows/\rows.length<=1150
def eU(r:List Nat):List Key:=r.map λn:Nat=>Sum.inl (n:Int)
theorem uA(r:List Nat):(eU r).map kV=vN r:=by unfold eU vN;rw[YL];rfl
theorem HL{l m:List Nat}(h:eU l=eU m):l=m:=by
 have:vN l=vN m:=by rw[<- uA,<- uA,h]
 rw[qw,qw]at this;exact DG ((Vu (λ_ _ z=>V.int.inj z)).mp this)
theorem P1{rows:List Row}(h:rows.Nodup):(rows.map eU).Nodup:=by
 rw[dD]at h ⊢;intro i j b a z;rw[Zf]at a;refine h i j b a ?_;rw[Zg,Zg,Ze (ng b a),Ze a]at z;rw[Ze (by lia),Ze a];congr 1;exact HL (ZE z)
theorem qX4(b:List Int):PyData.depthAll (b.map PyData.int)<=1:=by
 induction b with
 |nil=>simp[PyData.depthAll]
 |cons a b c=>
  rw[ZG];simp only[PyData.depthAll,PyData.depth];lia
theorem OO(a:List Int):(dL a).depth<=2:=by
 have:=qX4 a;unfold dL;simp only[PyData.depth];lia
theorem eJ:aI ["thing","top","rows"] ["thing"] (bF x9):=dz
theorem T4:aI ["shape"] ["shape"] (bF Dw):=dz
end Pr
namespace L2
open PySem PySem.Spec PyProof.Rows PySem.W
def fc(h:ao)(d:af)(tab:Array DictEntry)(ep:Nat):Prop:=∃o,h.get? d=some o/\o.ExactDict/\o.data=.dict tab ep
theorem fc.dS{h h':ao}{d:af}{tab:Array DictEntry}{ep:Nat}(x:fc h d tab ep)(k:∀o,h.get? d=some o->h'.get? d=some o):fc h' d tab ep:=let ⟨o,ho,r⟩:=x;⟨o,k o ho,r⟩
theorem fc.ty{s:ae}{d:af}{tab:Array DictEntry}{ep:Nat}(x:fc s.heap d tab ep):s.TypeIs (.ref d) "dict":=let ⟨o,ho,hc,_⟩:=x;⟨o,ho,hc.1⟩
theorem fc.lt{h:ao}{d:af}{tab:Array DictEntry}{ep:Nat}(x:fc h d tab ep):d<h.objs.size:=let ⟨_,ho,_⟩:=x;Zj ho
section
variable{d it:af}{tab:Array DictEntry}{ep i:Nat}
theorem q63{Q:aa->ae->Prop}(c:(d==sysModules)=false)(x:fc s.heap d tab ep)
  (q:Q (.ref s.heap.objs.size) {s with heap:=s.heap.push {cls:=.type "dict_keyiterator",data:=.fields #[.ref d,.int 0 0,.int tab.size 0,.int ep 0]}}):ah (ai prog w) A (pyIter (.ref d)) Q E s:=by
 obtain⟨o,b,f,a⟩:=id x;refine wpAny_pyIter_slot x.ty F.slot_dict_iter (Yj F.slot_dict_iter x.ty F.entry_dict_iter ?_ (F.args_dict_iter_1 _));show ah _ _ (Builtin.Dict.dictSlotNone _ _ >>= _) _ _ _;unfold Builtin.Dict.dictSlotNone;refine Za (Za (wpAny_notOrdered_dict x.ty (Zc ?_)));show ah _ _ (Builtin.Dict.showsAll d >>= _) _ _ s;unfold Builtin.Dict.showsAll;rw[Zl (by rw[c];decide)];refine Za (Zc (Za (WR b a (Za (wpAny_dictEpoch b a ?_)))));refine Za (ZW (Zc ⟨_,rfl,"dict_keyiterator",_,⟨_,Zm _ rfl,rfl⟩,YM.lookup,?_⟩));simpa[rawInt]using q
theorem q64{Q:Option aa->ae->Prop}(st:s.heap.IsKeyIter it d i tab.size ep)(x:fc s.heap d tab ep)(k:i<tab.size)
  (q:∀c,c.IsKeyIter it d (i+1) tab.size ep->Heap.SameBut it s.heap c->Q (some tab[i].key) {s with heap:=c}):ah (ai prog w) A (pyNext (.ref it)) Q E s:=by
 obtain⟨o,b,j,a⟩:=id st;obtain⟨l,h,m,f⟩:=id x;unfold pyNext;refine Za (XY (Z6 (name:=Str.ofString "__next__") st.typeIs YM (Yj YM st.typeIs F.entry_dict_keyiterator_next ?_ (F.args_dict_keyiterator_next_1 _))));refine Za (Zc (Za (Za ?_)))
 first|(refine Za (Y8 st.typeIs (Zc (Za (Vv b a ?_)))))|(refine Za (Xv st.typeIs (Zc (Za (Vv b a ?_)))))
 simp only[show Builtin.Dict_items.ownsTuple "dict_keyiterator"=false by decide,Zs,ZU];show ah _ _ (if(Value.ref d==Value.none)=true then _ else _) _ _ s;rw[Zl (show ¬((Value.ref d==Value.none)=true) by exact ZH)];refine Za (Zc (Za (WR h f ?_)));rw[Zl (by simp)];refine Za (Zc (Za (wpAny_dictEpoch h f ?_)));rw[Zl (by simp)];refine Zc ?_;simp only[show ¬((i:Int)<0)from qX,ZU,ZY,ZN k];refine Za ?_
 first|(refine Za (Y8 st.typeIs (Zc (Za (WX st.typeIs ?_)))))|(refine Za (Xv st.typeIs (Zc (Za (WX st.typeIs ?_)))))
 show ah _ _ (setField (.ref it) 1 (rawInt ((i:Int)+1)) >>= _) _ _ s;refine Za (Y6 b a (by simp) ?_);have g:(s.heap.update it (Obj.mapFields (·.setIfInBounds 1 (rawInt ((i:Int)+1))))).IsKeyIter it d (i+1) tab.size ep:=⟨_,YH _ b (Xi (Yy a _)),(WO ..).trans j,by rw[Yy a];simp[rawInt]⟩;refine Za (Yg (Za (WX (s:={s with heap:=s.heap.update it (Obj.mapFields (·.setIfInBounds 1 (rawInt ((i:Int)+1))))}) g.typeIs ?_)));show ah _ _ (pure tab[i].key) _ _ _;exact Zc (Zc ⟨_,rfl,Zc (q _ g (Xc ..))⟩)
theorem V3{Q:Option aa->ae->Prop}(k:A.handled=none)(st:s.heap.IsKeyIter it d tab.size tab.size ep)(x:fc s.heap d tab ep)
  (q:∀g,Heap.ExtBut it s.heap g->Q none {s with heap:=g}):ah (ai prog w) A (pyNext (.ref it)) Q E s:=by
 obtain⟨o,c,p,f⟩:=id st;obtain⟨l,j,n,h⟩:=id x;unfold pyNext;refine Za (XY (Z6 (name:=Str.ofString "__next__") st.typeIs YM (Yj YM st.typeIs F.entry_dict_keyiterator_next ?_ (F.args_dict_keyiterator_next_1 _))));refine Za (Zc (Za (Za ?_)))
 first|(refine Za (Y8 st.typeIs (Zc (Za (Vv c f ?_)))))|(refine Za (Xv st.typeIs (Zc (Za (Vv c f ?_)))))
 simp only[show Builtin.Dict_items.ownsTuple "dict_keyiterator"=false by decide,Zs,ZU];show ah _ _ (if(Value.ref d==Value.none)=true then _ else _) _ _ s;rw[Zl (show ¬((Value.ref d==Value.none)=true) by exact ZH)];refine Za (Zc (Za (WR j h ?_)));rw[Zl (by simp)];refine Za (Zc (Za (wpAny_dictEpoch j h ?_)));rw[Zl (by simp)];refine Zc ?_;simp only[show ¬((tab.size:Int)<0)from qX,ZU,ZY,XS (Zb tab.size)];refine Za ?_
 first|(refine Za (Y8 st.typeIs (Zc ?_)))|(refine Za (Xv st.typeIs (Zc ?_)))
 show ah _ _ (setField (.ref it) 0 .none >>= _) _ _ s;refine Za (Y6 c f (by simp) ?_);show ah _ _ (newExc (.type "StopIteration") [] >>= _) _ _ _;refine Za ?_;simp only[newExc,newTuple];refine Za (ZW ?_ (by size_fits));refine Za (m:=firstArgMember _ _) (wpAny_of_eq (a:=Value.none) (by first|rfl|(simp only[firstArgMember];rfl)) (ZW ?_ (by size_fits)));simp only[raiseNew];refine Za (wpAny_handled ?_);rw[show A.in1.handled=none by exact k];refine Za (Zc (wpAny_throw ?_));refine Za (Wo (T:= "StopIteration") (b:=true) ⟨_,Zm _ rfl,rfl⟩ isSubtype_stop ?_);exact Zc (q _ (((Xc ..).extBut.push _).push _))
theorem qX5(j:A.handled=none)(l:d≠it):Walks prog w A it [it,d] [it] tab.size (λi v=>∃e,tab[i]?=some e/\v=e.key) (λi h=>h.IsKeyIter it d i tab.size ep/\fc h d tab ep) where
 sub:=λb hb=>by simp at hb;simp[hb]
 frame:=λ_ _ _ a k=>⟨a.1.at λo e=>k it (by simp) o e,a.2.dS λo e=>k d (by simp) o e⟩
 item:=λi s Q E g a q=>q64 a.1 a.2 g λc n f=>q _ c s.toks ⟨tab[i],by simp[g],rfl⟩ ⟨n,a.2.dS λo e=>f.extBut d o l e⟩ λb o hb e=>f.extBut b o (λh=>hb (by simp[h])) e
 done:=λs Q E a q=>V3 j a.1 a.2 λc m=>q c s.toks λb o hb e=>m b o (λh=>hb (by simp[h])) e
 self:=λ_ _ _ _ a q=>wpAny_pyIter_keyiter a.1 q
theorem V2(b:(d==sysModules)=false):KdlSrc prog w "dict" d d tab.size (λi v=>∃e,tab[i]?=some e/\v=e.key) (λh=>fc h d tab ep) where
 type:=λ_ x=>x.ty
 there:=λ_ x=>⟨x.lt,x.lt⟩
 keep:=λ_ _ x k=>x.dS λo e=>k d (.inl rfl) o e
 notList:=by decide
 notTuple:=by decide
 hint:=λ_ _ _ _ x q=>kdl_hint_dict x.ty q
 iter:=λ_ _ a x=>⟨_,_,(λ_ _ q=>q63 b x q),qX5 a (ZC x.lt),⟨⟨_,Zm _ rfl,rfl,rfl⟩,x.dS λo e=>Zd _ e⟩⟩
theorem q65(a:(d==sysModules)=false):MeetsIn prog w (Builtin.«dict.__len__» ⟨[.ref d],[]⟩) (λ_ R s=>∃tab ep,fc s.heap d tab ep/\R (.ok (.ret (.int tab.size s.toks))) {s with toks:=s.toks+1}):=
 .of_wp λA R s ⟨tab,ep,⟨o,b,f,c⟩,q⟩=>by
  show ah _ _ (dictSize d >>= _) _ _ s;unfold dictSize;refine Za (Za (WR b c (Zc ?_)));show ah _ _ (Builtin.Dict.pendingCount d >>= _) _ _ s;exact Za (wpAny_pendingCount_other a (wpAny_ret_mkInt (by rw[Vm];exact q)))
theorem V1{Q:aa->ae->Prop}(a:(d==sysModules)=false)(x:fc s.heap d tab ep)(b:(tab.size:Int)<2^63)(q:Q (.int tab.size (s.toks+1)) {s with toks:=s.toks+1+1}):
  ah (ai prog w) A (call (.builtin "len") [.ref d]) Q E s:=by
 refine Calls.call_function_entry kind_len plain_len entry_len (args_len1 _) ?_;unfold Builtin.«len»;refine Za (m:=oneArg "len" _) (Zc ?_);refine Za (m:=callSpecial? (.ref d) (Str.ofString "__len__")) (Z6 (name:=Str.ofString "__len__") x.ty F.slot_dict_len (call_meetsIn F.slot_dict_len x.ty F.entry_dict_len (F.args_dict_len_1 _) (q65 a) ⟨tab,ep,x,?_⟩));show ah _ _ _ _ _ {s with toks:=s.toks+1};refine Za (Yg (Zc (Za (wpAny_letGo ?_))));show ah _ _ (if((tab.size:Nat):Int)<0 then _ else _) _ _ _;rw[Zl qX];show ah _ _ (if((tab.size:Nat):Int)>=2^63 then _ else _) _ _ _;rw[Zl (by lia)];exact Za (wpAny_mkInt (Zc ⟨_,rfl,q⟩))
end
section
variable{X:Cx}
inductive jq(xs:List V)(H:Hp)(Q:VK):Prop
 |mk(d:_)(kvs:_)(aV:xs=[V.ref d])(c7:H d=some (.dT kvs))(cq:Q (.int kvs.length) H)
theorem q66:ft X (.builtin "len") jq:=by
 intro t s v H A w Q I r h;obtain⟨d,a,rfl,j,q⟩:=h;obtain⟨u,rfl,n⟩:=gO r;cases n;obtain⟨z,l,y,rel,o,b,x,i,p,k,f,m⟩:=(show bc X.prog X.w H s.heap d (.dT a)from I.aQ d _ j);have g:b.size=a.length:=(size_of_entries f).trans (Wt rel).symm;have c:(b.size:Int)<2^63:=by rw[g];rw[We]at z;lia
 refine V1 l ⟨o,i,p,k⟩ c ⟨.int a.length,H,I.tok _,?_,q⟩;rw[g];exact⟨_,rfl⟩
end
section
variable{T:String}{r d:af}{n:Nat}{P:Nat->aa->Prop}{OK:ao->Prop}
theorem qO5{Q:List aa->ae->Prop}(K:KdlSrc prog w T r d n P OK)(k:A.handled=none)(i:OK s.heap)(t:n<=sizeLine)
  (u:∀(c:ao) h f,(∀b o,s.heap.get? b=some o->c.get? b=some o)->ItemsOf P f n->Q f.toList {s with heap:=c,toks:=h}):ah (ai prog w) A (collect (.ref r)) Q E s:=by
 have j:=K.there _ i;unfold collect;refine Za (wpAny_runValue (Xb F.entry_proto_collect ?_));rw[Xp F.plain_proto_collect _];refine Za (ZW ?_);refine Zc ⟨VG F.plain_list_iadd _,Xb F.entry_list_iadd ?_⟩;rw[Xp F.plain_list_iadd _];have l:(s.heap.push {cls:=.type "list",data:=.seq ([]:List aa).toArray}).get? s.heap.objs.size=some {cls:=.type "list",data:=.seq ([]:List aa).toArray}:=Zm _ rfl;refine kdl_extend (R:=wants (λv p=>ah (ai prog w) A (match v with|.ref a=>(do let ob <- load a;match ob.data with|.seq x _=>pure x.toList|_=>unsupported "internal:collect")|_=>unsupported "internal:collect") Q E p) E) (s:={s with heap:=s.heap.push {cls:=.type "list",data:=.seq ([]:List aa).toArray}}) K k (K.keep _ _ i λb _ o e=>Zd _ e) s.heap.objs.size (Wm j.1) (Wm j.2) _ _ l (λc h f y q g m=>?_) t;refine Za (wpAny_load g ?_);exact Zc (u c h f (λb o e=>q b o (ZC (Zj e)) (Zd _ e)) m)
theorem qz1{Q₁:aa->ae->Prop}(K:KdlSrc prog w T r d n P OK)(m:A.handled=none)(k:OK s.heap)(j:n<=sizeLine)
  (h:∀(c:ao) g a,(∀b o,s.heap.get? b=some o->c.get? b=some o)->ItemsOf P a n->Q₁ (.ref c.objs.size) {s with heap:=c.push {cls:=.type "tuple",data:=.seq a},toks:=g}):
  codeAny (ai prog w) A (.call (.builtin "tuple.__new__") ⟨[.type "tuple",.ref r],[]⟩) (wants Q₁ E) s:=by
 refine codeAny_of_tree ?_;refine Za (wpAny_of_eq (F.newCall_tuple_1 _) (Zc ⟨VG F.plain_tuple_new _,Xb F.entry_tuple_new ?_⟩));rw[Xp F.plain_tuple_new _];have l:=sub_tuple_self;have u:=init_tuple_lookup;have q:=madeHere_tuple;have f:=K.type s k;have t:=K.notTuple
 wp_walk using VO f,qO5 (A:=A.in1) K m k j
 intro c g a p i;show ah _ _ (Builtin.Tuple.tupleExact a.toList.toArray >>= λv=>ret v) _ _ _;unfold Builtin.Tuple.tupleExact;refine Za (ZW ?_ (by show a.toList.toArray.size<=sizeLine;simp only[Array.toArray_toList];rw[i.1];exact j));refine Zc ?_;have e:a.toList.toArray=a:=by simp
 rw[e];exact h c g a p i
theorem q67{Q:aa->ae->Prop}(K:KdlSrc prog w T r d n P OK)(k:A.handled=none)(q:OK s.heap)(p:n<=sizeLine)
  (h:∀(f:ao) i a,(∀b o,s.heap.get? b=some o->f.get? b=some o)->ItemsOf P a n->Q (.ref f.objs.size) {s with heap:=f.push {cls:=.type "tuple",data:=.seq a},toks:=i}):
  ah (ai prog w) A (call (.type "tuple") [.ref r]) Q E s:=by
 refine callType_codes (Q₁:=λc g=>g.TypeIs c "tuple" /\ Q c g) F.called_tuple (F.typeCall_tuple_1 _) F.entry_object_init
  (qz1 K k q p λf i a m l=>⟨⟨_,Zm _ rfl,rfl⟩,h f i a m l⟩) λc g j=>?_
 exact⟨j.1,F.args_object_init_2 c _,object_init_meets F.called_tuple.init.lookup F.called_tuple.made (by decide) prog w A.in1 _ g ⟨j.1,rfl,j.2⟩⟩
end
section
variable{X:Cx}
theorem qJ2(hc:X.calm=true):ft X (.type "tuple") (λE H Q=>∃(d:af)(c:List (List Key×V)),E=[.ref d]/\H d=some (.dT c) /\
  ∀(l:af)(bs:List af),H l=none->bs.length=c.length->(∀(i:Nat) b kv,bs[i]?=some b->c[i]?=some kv->H b=some (.tup (kv.1.map kV)))->Q (.ref l) (upd H l (.tup (bs.map V.ref)))):=by
 intro j8 s σ H E us Q I r h;obtain⟨d,c,rfl,M,q⟩:=h;obtain⟨u,rfl,Z⟩:=gO r;cases Z;obtain⟨z,W,f,rel,o,tab,ep,L,hx,S,g,Y⟩:=(show bc X.prog X.w H s.heap d (.dT c)from I.aQ d _ M);have U:c.length=f.length:=Wt rel;have R:tab.size=f.length:=size_of_entries g;refine q67 (V2 (tab:=tab) (ep:=ep) W) (I.ok.hd hc) ⟨o,L,hx,S⟩ (by lia) λk A j K C=>?_;have w:∀(i:Nat) p y,c[i]?=some p->f[i]?=some y->H y.2.1=some (.tup (p.1.map kV)):=by
  have t:∀{l:List (List Key×V)}{m:List (List Key×af×aa)},Paired (λ(p:List Key×V) (q:List Key×af×aa)=>p.1=q.1/\H q.2.1=some (.tup (p.1.map kV))/\RelV p.2 q.2.2) l m->∀(i:Nat) p y,l[i]?=some p->m[i]?=some y->H y.2.1=some (.tup (p.1.map kV)):=by
   intro l m O
   induction O with
   |nil=>intro i p y h1;simp at h1
   |cons T a2 J=>
    intro i p y h1 h2;cases i with
    |zero=>simp at h1 h2;subst h1;subst h2;exact T.2.1
    |succ i=>exact J i p y (by simpa using h1) (by simpa using h2)
  exact t rel
 have B:(f.map (·.2.1)).length=c.length:=by rw[Zf,U]
 have D:=I.kept (t':=A) K;have N:H k.objs.size=none:=D.aQ.fresh (Zb _);refine⟨.ref k.objs.size,_,D.laid (a:=k.objs.size) (o:=.tup ((f.map (·.2.1)).map V.ref)) (t':=A) (λb o e=>Zd _ e) (Zb _) (show bc X.prog X.w _ _ _ (.tup ((f.map (·.2.1)).map V.ref))from⟨by rw[Zf,B];exact z,j.toList,?_,by have:=cO.new k j.toList.toArray;simpa using this⟩),rfl,q _ _ N B λi b kv G P=>?_⟩
 ·refine DJ (by simp[C.1,R]) λi x v h1 h2=>?_;rw[Zg,Zg]at h1;obtain⟨b,hb,rfl⟩:=Zo.mp h1;obtain⟨y,n,rfl⟩:=Zo.mp hb;obtain⟨e,F,rfl⟩:=C.2 i v (by simpa using h2);rw[entry_at g i,n]at F;have:=ZE F;subst this
  rfl
 ·rw[Zg]at G;obtain⟨y,n,rfl⟩:=Zo.mp G;exact w i kv y P n
open Classical in
noncomputable def pO(h:ao)(d:PyData)(w:aa):Bool:=decide (∃(e:PyData)(bs:List af),Reads h w e bs/\e.canLay0=true/\PyData.eqv e d=true)
open Classical in
theorem U_{h:ao}{d d':PyData}{w:aa}{bs:List af}(b:Reads h w d' bs)(c:d'.canLay0=true):pO h d w=PyData.eqv d' d:=by
 unfold pO;cases hb:PyData.eqv d' d with
 |true=>exact Zh ⟨d',bs,b,c,hb⟩
 |false=>
  refine Zi λ⟨e,a,g,_,f⟩=>?_;have:=SeqAt.Reads.unique d' e w bs a c b g;rw[<- this,hb]at f;cases f
theorem Hl{n:List (af×az)}{s:ae}{σ:St}{H:Hp}{v:aa}{d:PyData}{as:List af}(I:Inv X n σ H s)(un:X.A.units+64<cLine)(k:Reads s.heap v d as)(h:d.canLay0=true)(dd:d.depth<=50):
  ∀{m:List V}{b:List PyData}{g:List aa},aO H m b->Vals m g->PyData.canLayAll0 b=true->(∀w∈g,SeqAt.EqAt X.A.in1 s w v (pO s.heap d w))/\g.any (pO s.heap d)=b.any λe=>PyData.eqv e d
 |_,_,_,.nil,.nil,_=>⟨λw a=>(nomatch a),rfl⟩
 |_,j::x,A::NM,.cons y f,.cons q u,p=>by
  have c:j.canLay0=true/\PyData.canLayAll0 x=true:=by simpa[PyData.canLayAll0]using p
  obtain⟨t,r⟩:=Hl I un k h dd f u c.2;obtain⟨bs,i⟩:=y.reads I.aQ q;have l:=U_ (d:=d) i c.1;refine⟨λw a=>?_,?_⟩
  ·rcases ZD.mp a with rfl|a
   ·rw[l];exact SeqAt.eqAt_reads j d X.A.in1 s w v bs as i k c.1 h (by
     have:X.A.in1.units=X.A.units+1:=rfl;lia)
   ·exact t w a
  ·rw[XX,XX,l,r]
inductive pJ(x:V)(y:V)(H:Hp)(Q:VK):Prop
 |mk(p:af)(xs:List V)(ds:List PyData)(d:PyData)(aV:y=.ref p)(c7:H p=some (.tup xs))(cq:aO H xs ds)(aP:aY H x d)(pV:d.canLay0=true)(wq:PyData.canLayAll0 ds=true)(KL:d.depth<=50)(e7_:Q (.bl (ds.any λe=>PyData.eqv e d)) H)
theorem xH8{k:Nat}(r:aZ k X.A):fi X (compareOp .In) pJ:=by
 intro E s J H x y v u Q I m C h;obtain⟨p,G,F,d,rfl,f,A,i,c,g,t,q⟩:=h;cases C;obtain⟨as,l⟩:=i.reads I.aQ m;obtain⟨a,j,B,K⟩:=I.tuple (bh.of f);have un:=r.units;obtain⟨D,b⟩:=Hl (X:=X) I un l c t A j g;refine SeqAt.in_tupleAt (pO s.heap d) B (λw n=>D w (by simpa using n)) ⟨.bl _,H,I,rfl,?_⟩;rw[show a.toArray.any (pO s.heap d)=a.any (pO s.heap d) by simp,b];exact q
end
end L2
namespace L2
open PySem
theorem U9{α:Type}{d c:BEq α}(h1:@LawfulBEq α d)(h2:@LawfulBEq α c):d=c:=by
 have:∀a b,@BEq.beq α d a b=@BEq.beq α c a b:=λa b=>by
  rw[Xa,@Wg α d h1,@Wg α c h2]
 cases d;cases c;congr 1;funext a b;exact this a b
structure cg(X:Cx)(e:av)(t:TE):Prop where
 go:PE X e t
structure yK(X:Cx)(st:aB)(t:TS):Prop where
 go:PS X st t
inductive l9(X:Cx):List aB->TS->Prop
 |one {st:aB}{t:TS}(h:yK X st t):l9 X [st] t
 |cons {st:aB}{rest:List aB}{t u:TS}(h:yK X st t) (r:l9 X rest u):l9 X (st::rest) (nz t u)
theorem l9.go{X:Cx}:∀{l:List aB}{t:TS},l9 X l t->gI X l t
 |_,_,.one h=>cD h.go
 |_,_,.cons h r=>fv h.go r.go
theorem aX{X:Cx}{st:aB}{rest:List aB}{R:TS->Prop}(h:∃t,yK X st t/\∃u,gI X rest u/\R (nz t u)):∃t,gI X (st::rest) t/\R t:=by
 obtain⟨t,h1,u,h2,a⟩:=h;exact⟨_,fv h1.go h2,a⟩
theorem gG{X:Cx}{st:aB}{R:TS->Prop}(h:∃t,yK X st t/\R t):∃t,gI X [st] t/\R t:=by
 obtain⟨t,h1,a⟩:=h;exact⟨_,cD h1.go,a⟩
inductive cH(X:Cx):List av->TA->Prop
 |nil:cH X [] iR
 |cons {e:av}{es:List av}{te:TE}{t:TA}(h:cg X e te) (r:cH X es t) (hs:starEach (e::es) X.env=(false,eval e X.env)::starEach es X.env):cH X (e::es) (n5 te t)
theorem cH.go{X:Cx}:∀{a:List av}{t:TA},cH X a t->PA X a t
 |_,_,.nil=>aN
 |_,_,.cons h r b=>aG h.go r.go b
theorem xH9{X:Cx}{T id:String}{name:ar}{r:V->List V->Hp->VK->Prop}{o e:av}{es:List av}{c:TE}{t:TA}{a b:aC}(pa:PlainAttrs T)(slot:Slot T name id)(f:typeOf (.builtin id)=pure (.type "method_descriptor"))(g:Cv X id r)(d:cg X o c)(i:cH X (e::es) t)
  (l:attributeBase o name X.env (eval o X.env)=eval o X.env:=by rfl)
  (h:((backTo b (starEach (e::es) X.env)).all (λx=>!x.1)&&(backToKw b (keywordEach [] X.env)).all (λx=>x.1.isSome)
   && decide ((e::es).length+([]:List Keyword).length+(if([]:List Keyword).isEmpty then 0 else 1)<30))=true:=by rfl)
  (j:(a.endLine==b.line)=true:=by rfl) (hs:starEach (e::es) X.env=(false,eval e X.env)::starEach es X.env:=by rfl) (k:(backTo b (starEach es X.env)).any (·.1)=false:=by rfl):
  cg X (.Call (.Attribute o name a) (e::es) [] b) (Gb X.K T r c t):=⟨qG pa slot f g d.go i.go l h j hs k⟩
theorem fQ{X:Cx}{i:Int}{j:Nat}{a:aC}:cg X (.Constant (.int i) j a) (tC (.int i)):=⟨aS⟩
theorem Qc{X:Cx}{i:Nat}{x:ar}{e:av}{te:TE}{b a:aC}(c:X.N.Nodup)(h:X.N[i]?=some x)(d:Loc X.env.scope x)(g:cg X e te)(hs:swapsWith e (some (.Name x a)) b.line X.env=pure false)(f:X.fn x=true):
  yK X (.Assign [.Name x a] e b) (iS te (fu i)):=⟨Mo c h d g.go hs (.inl f)⟩
end L2
namespace Pr
open PySem L2 Qf
def aU(H:Hp)(p:af):Prop:=∃a b:Int,H p=some (.lst [.int a,.int b])/\0<=a/\0<=b/\b<2^40
theorem aU.same{H c:Hp}{p:af}(h:aU H p)(s:aF H c):aU c p:=by
 obtain⟨a,b,e,r⟩:=h;exact⟨a,b,s _ _ e,r⟩
def ba(H:Hp)(p:af)(rows:List Row):Prop:=∃bs:List af,H p=some (.lst (bs.map V.ref))/\bs.length=rows.length/\∀(i:Nat) b r,bs[i]?=some b->rows[i]?=some r->H b=some (.tup (vN r))
theorem ba.same{H a:Hp}{p:af}{rows:List Row}(h:ba H p rows)(s:aF H a):ba a p rows:=by
 obtain⟨bs,h1,h2,d⟩:=h;exact⟨bs,s _ _ h1,h2,λi b r c f=>s _ _ (d i b r c f)⟩
def eB{α κ:Type}(key:α->κ)(l:List α)(k:Nat):List (κ×V):=(l.zipIdx k).map λp=>(key p.1,V.int (p.2:Nat))
section
variable{α κ:Type}[DecidableEq α][DecidableEq κ]{key:α->κ}
theorem C5(l:List α)(k:Nat):(eB key l k).length=l.length:=by simp[eB]
theorem q69(a:α)(l:List α)(k:Nat):eB key (a::l) k=(key a,V.int (k:Nat))::eB key l (k+1):=by simp[eB]
theorem q70(l:List α)(a:α)(k:Nat):eB key (l++[a]) k=eB key l k++[(key a,V.int (k+l.length:Nat))]:=by simp[eB,List.zipIdx_append]
theorem HJ(inj:∀a b,key a=key b->a=b)(a:α):∀(l:List α)(k:Nat),dA (eB key l k) (key a)=if a∈l then some (.int (k+l.idxOf a:Nat))else none
 |[],k=>by simp[eB,dA]
 |b::l,k=>by
  rw[q69];by_cases h:b=a
  ·subst h;rw[C_ rfl,Zr Zu,List.idxOf_cons_self]
   rfl
  ·rw[C9 (λz=>h (inj _ _ z)),HJ inj a l (k+1)];by_cases c:a∈l
   ·have e:(b::l).idxOf a=l.idxOf a+1:=by
     rw[List.idxOf_cons,beq_false_of_ne h]
     rfl
    rw[Zr c,Zr (Zk _ c),e];congr 3;exact mH
   ·rw[Zl c,Zl (λz=>by rcases ZD.mp z with z|z;exact h z.symm;exact c z)]
theorem U8(inj:∀a b,key a=key b->a=b){l:List α}{a:α}{k:Nat}(h:a∉l):putK (eB key l k) (key a) (.int (k+l.length:Nat))=eB key (l++[a]) k:=by
 unfold putK;rw[zX,HJ inj,Zl h,Zl (by decide),q70]
end
theorem ba.but{H a:Hp}{p e:af}{rows:List Row}{o:HO}(h:ba H p rows)(b:cz e H a)(d:p≠e)(k:H e=some o)(g:∀u,o≠.tup u):ba a p rows:=by
 obtain⟨bs,h1,h2,j⟩:=h;exact⟨bs,b _ _ h1 d,h2,λi c r f l=>b.cR k g _ _ (j i c r f l)⟩
def mw(n top:Nat)(rows:List Row):PyData:=.tuple [.int (n:Nat),.int (top:Nat),.tuple (rows.map λr=>dT (r.map λx:Nat=>(x:Int)))]
theorem GY{H:Hp}:∀{bs:List af}{rows:List Row},bs.length=rows.length->(∀(i:Nat) b r,bs[i]?=some b->rows[i]?=some r->H b=some (.tup (vN r))) ->
  aO H (bs.map V.ref) (rows.map λr=>dT (r.map λx:Nat=>(x:Int)))
 |[],[],_,_=>.nil
 |b::bs,r::rows,g,h=>by
  refine .cons ?_ (GY (by simpa using g) λi c q f d=>h (i+1) c q (by simpa using f) (by simpa using d));have a:=h 0 b r rfl rfl;rw[qw]at a;exact .tup a (aO.ints _)
theorem q71{H:Hp}{t:af}{n top:Nat}{rows:List Row}(h:uB H t n top rows):aY H (.ref t) (mw n top rows):=by
 obtain⟨p,d,bs,b,c,a⟩:=h;exact .tup d (.cons (.int _) (.cons (.int _) (.cons (.tup b (GY c a)) .nil)))
theorem uK:∀rows:List Row,PyData.canLayAll0 (rows.map λr=>dT (r.map λx:Nat=>(x:Int)))=true
 |[]=>rfl
 |r::rows=>by
  rw[ZG,PyData.canLayAll0,Ie,uK rows];rfl
theorem P0:∀a:List Int,PyData.depthAll (a.map PyData.int)=0
 |[]=>rfl
 |n::a=>by rw[ZG,PyData.depthAll,P0 a];rfl
theorem PZ:∀rows:List Row,PyData.depthAll (rows.map λr=>dT (r.map λx:Nat=>(x:Int)))<=1
 |[]=>by decide
 |r::rows=>by
  have:=PZ rows;have e:(dT (r.map λx:Nat=>(x:Int))).depth=1:=by
   show PyData.depthAll _+1=1;rw[P0]
  rw[ZG,PyData.depthAll,e];lia
theorem U7(a:List af)(t:af):a.map V.ref++[.ref t]=(a++[t]).map V.ref:=by rw[ZS];rfl
def sW(rows:List Row):List PyData:=rows.map λr=>dT (r.map λx:Nat=>(x:Int))
theorem zL(m:List Row):PyData.eqv (.list (sW m)) (.list [])=m.isEmpty:=by
 cases m with
 |nil=>rfl
 |cons a l=>simp[sW,PyData.eqv,PyData.eqvAll]
theorem xM{H:Hp}{p:af}{rows:List Row}(h:ba H p rows):aY H (.ref p) (.list (sW rows)):=by
 obtain⟨bs,c,a,b⟩:=h;exact .lst c (GY a b)
theorem xO(rows:List Row):(PyData.list (sW rows)).depth<=60:=by
 have:=PZ rows;show PyData.depthAll _+1<=60;unfold sW;lia
def tK(rows:List Row):List (List Key×V):=eB eU rows 2
theorem U6{α:Type}{c b:BEq α}(h1:@LawfulBEq α c)(h2:@LawfulBEq α b)(l:List α)(a:α):@List.idxOf α c a l=@List.idxOf α b a l:=by
 cases U9 h1 h2
 rfl
theorem L6(rows:List Row)(r:Row):dA (tK rows) (eU r)=if r∈rows then some (.int (rows.idxOf r+2:Nat))else none:=by
 unfold tK;rw[HJ (λa b=>HL)];split
 ·rw[Nat.add_comm];exact Yo (λn:Nat=>some (V.int ((n+2:Nat):Int))) (U6 (by infer_instance) (by infer_instance) _ _)
 ·rfl
theorem uG{g i:Hp}{t n f:Nat}{rows:List Row}(h:m6 g t n f rows)(s:aF g i):m6 i t n f rows:=let ⟨⟨p,a,b⟩,c,d⟩:=h;⟨⟨p,s _ _ a,b.same s⟩,c,d⟩
end Pr
namespace Qf
open Tr
theorem zK{L:List Tr}{t:Tr}(h:In L t):post t L=L:=by
 cases t with
 |z=>rfl
 |o=>rfl
 |nd a b c d=>
  have f:Tr.nd a b c d∈L:=by rcases h with h|h|h;cases h;cases h;exact h
  unfold post;rw[Zr f]
theorem PY{L:List Tr}(h:Ord L){t:Tr}(c:∀s∈kids t,In L s):rowsOf (L++[t])=rowsOf L++[(kids t).map (name L)]:=by
 unfold rowsOf;rw[ZS];congr 1
 ·refine XB λu b=>?_;obtain⟨i,d,e⟩:=ZQ.mp b;exact XB λs a=>eR (dF h (i:=i) (t:=u) (by rw[Ze d,e]) a).1 h
 ·show[(kids t).map (name (L++[t]))]=_;congr 1;exact XB λs a=>eR (c s a) h
theorem T1{L:List Tr}(h:Ord L){a b c d:Tr}(k:∀s∈kids (.nd a b c d),In L s):(kids (.nd a b c d)).map (name L)∈rowsOf L<->Tr.nd a b c d∈L:=by
 constructor
 ·intro f;obtain⟨i,g,e⟩:=ZQ.mp f;obtain⟨t,j,m⟩:=GZ (i:=i) (r:=(kids (.nd a b c d)).map (name L)) (by rw[Ze g,e]);have:=OQ ⟨a,b,c,d,rfl⟩ (h.ch i t j).1 (G9 h k (λs l=>(dF h j l).1) m);rw[this];exact Zy j
 ·intro f;obtain⟨i,g,e⟩:=ZQ.mp f;exact Zy (cm (i:=i) (t:=.nd a b c d) (by rw[Ze g,e]))
theorem TZ{L:List Tr}(h:Ord L){i:Nat}{t:Tr}(e:L[i]?=some t):(rowsOf L).idxOf ((kids t).map (name L))=i:=by
 have c:=(cF e).1;have b:=cm e;have d:i<(rowsOf L).length:=by rw[bb];exact c
 have a:=(cF b).2;rw[<- a];exact(N5 h).idxOf_getElem i d
end Qf
namespace Pr
open PySem L2 Qf
theorem L5{H:Hp}{e u:af}{L:List Tr}(h:Tr.Ord L){a b c d:Tr}(l:Tr.nd a b c d∈L)(n:H e=some (.dT (tK (Tr.rowsOf L))))(j:H u=some (.tup (vN [Tr.name L a,Tr.name L b,Tr.name L c,Tr.name L d]))):
  dN H e (.ref u) (some (.int (Tr.name L (.nd a b c d):Nat))):=by
 obtain⟨i,p,q⟩:=ZQ.mp l;have f:L[i]?=some (.nd a b c d):=by rw[Ze p,q]
 have g:=TZ h f;have m:(Tr.kids (.nd a b c d)).map (Tr.name L)∈Tr.rowsOf L:=Zy (Tr.cm f);have:=dN.t (k:=eU ((Tr.kids (.nd a b c d)).map (Tr.name L))) n (by rw[uA];exact j);rw[L6,Zr m,g]at this;rw[Tr.eQ h f];exact this
end Pr
namespace L2
open PySem
theorem q72{H:Hp}{n k:Nat}{g:TG}{x:TT}{te:TE}{σ:St}{Fin:Hp->Prop}{D:af}(j:Nat->List V->Hp->Prop)(hsz:n<sizeLine)(i0:j 0 [] (upd H D (.lst [])))(E:∀i a c,j i a c->c D=some (.lst a)/\a.length<=i)
  (step:∀i a c,i<n->j i a c->∀l:St,l.length=k->∀(A:Hp->Prop)(B:VK),(∀d,j (i+1) a d->A d)->(∀v d,d D=some (.lst a)->j (i+1) (a++[v]) (upd d D (.lst (a++[v])))->B v d) ->
   g (.int (0+(i:Int))) (l++σ) c λr u=>x r u λb q=>if b=true then te r q B else A q)
  (fin:∀a c,j n a c->Fin c):
  ∃W:Nat->Nat->List V->Hp->Prop,(∃m,W 0 m [] (upd H D (.lst []))) /\
   ∀i m a c,W i m a c->c D=some (.lst a)/\a.length<sizeLine/\(((lA 0 n).stop i c/\Fin c)\/((lA 0 n).go i c/\∀y d,(lA 0 n).lF i c y d->∀l:St,l.length=k ->
    g y (l++σ) d λr u=>x r u λb q=>if b=true then te r q λv t=>t D=some (.lst a)/\∃s,s<m/\W (i+1) s (a++[v]) (upd t D (.lst (a++[v])))else ∃s,s<m/\W (i+1) s a q)):=by
 refine⟨λi m a c=>i<=n/\m=n-i/\j i a c,⟨n,Zt _,rfl,i0⟩,?_⟩;rintro i m a c ⟨f,rfl,w⟩;obtain⟨h1,h2⟩:=E i a c w;refine⟨h1,AY hsz f h2,?_⟩;by_cases p:i=n
 ·subst p;exact .inl ⟨Zb i,fin a c w⟩
 ·refine .inr ⟨show i<n from rf f p,λy d I l C=>?_⟩;obtain⟨G,F⟩:=I;rw[G,F];exact step i a c (rf f p) w l C _ _ (λq h=>⟨n-(i+1),u_ f p,q_ f p,rfl,h⟩) λv t h1 h2=>⟨h1,n-(i+1),u_ f p,q_ f p,rfl,h2⟩
theorem C4{H:Hp}{n:Nat}{te:TE}{σ:St}{Fin:Hp->Prop}{D:af}(d:Nat->List V->Hp->Prop)(hsz:n<sizeLine)(i0:d 0 [] (upd H D (.lst [])))(p:∀i a b,d i a b->b D=some (.lst a)/\a.length<=i)
  (step:∀i a b,i<n->d i a b->∀l:VK,(∀v c,c D=some (.lst a)->d (i+1) (a++[v]) (upd c D (.lst (a++[v])))->l v c)->te (some (.int (0+(i:Int)))::σ) b l)
  (fin:∀a b,d n a b->Fin b):
  ∃W:Nat->Nat->List V->Hp->Prop,(∃m,W 0 m [] (upd H D (.lst []))) /\
   ∀i m a b,W i m a b->b D=some (.lst a)/\a.length<sizeLine/\(((lA 0 n).stop i b/\Fin b)\/((lA 0 n).go i b/\∀y c,(lA 0 n).lF i b y c ->
    te (some y::σ) c λv k=>k D=some (.lst a)/\∃j,j<m/\W (i+1) j (a++[v]) (upd k D (.lst (a++[v]))))):=by
 refine⟨λi m a b=>i<=n/\m=n-i/\d i a b,⟨n,Zt _,rfl,i0⟩,?_⟩;rintro i m a b ⟨f,rfl,h⟩;obtain⟨h1,h2⟩:=p i a b h;refine⟨h1,AY hsz f h2,?_⟩;by_cases g:i=n
 ·subst g;exact .inl ⟨Zb i,fin a b h⟩
 ·refine .inr ⟨show i<n from rf f g,λy c s=>?_⟩;obtain⟨r,q⟩:=s;rw[r,q];exact step i a b (rf f g) h _ λv t h1 h2=>⟨h1,n-(i+1),u_ f g,q_ f g,rfl,h2⟩
end L2
namespace Pr
open PySem L2 Qf
structure rV(mg:ar->Option aa):Prop where
 abs:mg "abs"=none
 repr:mg "repr"=none
 str:mg "str"=none
theorem lO:aI ["_law_pot_here","_law_many_here","_law_digit_here"] ["_law_pot_here","_law_many_here"] (bF qx):=dz
inductive nK(vs:List V)(H:Hp)(Q:VK):Prop
 |mk(p:af)(n:Nat)(e0:vs=[.ref p,.int (n:Nat)])(e1:aU H p)(e2:0<n)(e3:n<1000000)(e4:∀(d:Nat)(H':Hp),d<n->cz p H H'->aU H' p->Q (.int (d:Nat)) H')
def sG:Sp:=λa H Q _=>nK a H Q
theorem xB{f:af}{t:ak}(F:aT K "_law_digit" "_law_digit" qx f t):aE P w K mg base aR 1 f t ["_law_pot_here","_law_many_here"] sG:=by
 refine F.ok lO (λD H Q E h=>?_) (λM A k s H D Q E O h=>?_)
 ·obtain⟨p,n,rfl,_⟩:=h
  rfl
 ·obtain⟨p,n,rfl,⟨a,b,c,r,hb,B⟩,m,N,q⟩:=h;refine⟨_,fv (dH (dG xX (de m7 (pv 0) aS) aS (cU _))
    (fv (c8 2 lO.nd (br sv (de m7 (pv 0) aS) (pv 1)))
    (fv (uE (br sM (de m7 (pv 0) aS) (pv 1)) (Mq (pv 0) aS O6))
    (cD (cA (pv 2))))) dI)
   (fv (uE (br sv (br fZ (br pR (de m7 (pv 0) aS) aS) aS) aS) (Mq (pv 0) aS O6))
   (cD (cA (br sv (br sM (de m7 (pv 0) aS) aS) (pv 1))))),?_⟩
  have i:∀{l:Hp}{u:List V},l p=some (.lst u)->cu K l p u:=λh=>cu.of h;have j:∀(d x y:Int),0<=d->d<(n:Int)->0<=x->0<=y->y<2^40->Q (.int d) (upd H p (.lst [.int x,.int y])):=λd x y J R v L G=>by
   have:=q d.toNat (upd H p (.lst [.int x,.int y])) (by lia) cz.upd ⟨x,y,bg,v,L,G⟩
   rwa [show((d.toNat:Nat):Int)=d from LK J]at this
  have g:(0:Int)<n:=by lia
  refine⟨_,rfl,p,_,0,_,rfl,rfl,i c,rfl,_,_,rfl,rfl,_,rfl,?_⟩;refine cM (λC=>?_) (λC=>?_)
  ·refine⟨_,rfl,p,_,0,_,rfl,rfl,i c,rfl,_,rfl,_,_,rfl,rfl,g,?_⟩;refine⟨_,rfl,p,_,0,_,rfl,rfl,i c,rfl,_,rfl,_,_,rfl,rfl,⟨g,by lia⟩,_,rfl,p,_,0,0,rfl,rfl,c,rfl,?_⟩;refine⟨_,rfl,?_⟩;exact j _ _ _ (VS _ (NB m)) (WG _ g) (Int.ediv_nonneg r yf) hb B
  ·refine⟨_,rfl,p,_,1,_,rfl,rfl,i c,rfl,_,_,rfl,rfl,.inl ⟨by lia,by lia⟩,_,_,rfl,rfl,_,_,rfl,rfl,(by show(0:Int)<2147483629;decide),_,rfl,p,_,1,1,rfl,rfl,c,rfl,?_⟩;have I:0<=(b*48271+8191)%2147483629/\(b*48271+8191)%2147483629<2147483629:=⟨VS _ (by decide),WG _ (by decide)⟩;refine⟨_,rfl,p,_,1,_,rfl,rfl,i bg,rfl,_,_,rfl,rfl,⟨by decide,by decide⟩,_,rfl,_,_,rfl,rfl,g,?_⟩;exact j _ _ _ (VS _ (NB m)) (WG _ g) r I.1 (by lia)
theorem nP:aI ["_law_script","_law_k","_law_cell"] ["_law_script","_law_k"] (bF rj):=dz
inductive ua(K:PySem.W.Frag)(vs:List V)(H:Hp)(Q:VK):Prop
 |mk(a:af)(k:Int)(ns:List Int)(e0:vs=[.ref a,.int k])(e1:cu K H a (ns.map V.int))(e2:ns.length<=63)(e3:0<=k)(e4:k<=1000)(e5:∀(H':Hp)(p:af),aF H H'->H p=none->aU H' p->Q (.ref p) H')
def MO(K:PySem.W.Frag):Sp:=λa H Q _=>ua K a H Q
theorem xI1{f:af}{l:ak}(F:aT K "_law_pot" "_law_pot" rj f l)(B:ee mg)(C:rV mg):aE P w K mg base aR 1 f l ["_law_script","_law_k"] (MO K):=by
 refine F.ok nP (λn H Q E h=>?_) (λu A g s H n Q E y h=>?_)
 ·obtain⟨a,k,b,rfl,_⟩:=h
  rfl
 ·obtain⟨a,k,b,rfl,m,D,t,h1,q⟩:=h;refine aX ⟨_,⟨c8 2 nP.nd aS⟩,?_⟩;refine aX ⟨_,⟨dH (dG lU (pv 1) (cQ mE (by rfl) B.len Ye (aG (pv 0) aN)) (cU _)) (cD (c8 2 nP.nd (de m7 (pv 0) (pv 1)))) dI⟩,?_⟩;refine gG ⟨_,⟨cA (g_ (cH.go (.cons ⟨cQ (PV rfl) (by rfl) B.max WW (aG aS (aG (br mY (cQ O7 (by rfl) C.abs PyProof.Rows.boot_abs (aG (pv 2) aN)) (br xF3 aS aS)) aN))⟩
    (.cons ⟨br fZ (br fZ (br sv (cQ O7 (by rfl) C.abs PyProof.Rows.boot_abs (aG (pv 2) aN)) aS) (br pR aS (pv 1))) aS⟩ .nil rfl) rfl)))⟩,?_⟩
  have d:∀(z:Int)(p:af),H p=none->Q (.ref p) (upd H p (.lst [.int (if(if z<0 then -z else z)-10^18>0 then(if z<0 then -z else z)-10^18 else 0),.int ((if z<0 then -z else z)%2147483629+97*k+1)])):=λz p c=>by
   refine q _ p (bf c) c ⟨_,_,bg,?_,?_,?_⟩
   ·split<;>lia
   ·lia
   ·lia
  refine⟨_,rfl,_,rfl,a,_,rfl,.inl m,_,_,rfl,rfl,_,rfl,?_⟩;refine cM (λi=>?_) (λi=>?_)
  ·have x:k<(b.length:Int):=by
    have:=ZB i;simpa using this
   have r:k.toNat<b.length:=by lia
   refine⟨_,rfl,_,rfl,a,_,k,.int (b[k.toNat]),rfl,rfl,m,?_,?_⟩
   ·have:=n9 (xs:=b.map V.int) (j:=k.toNat) (v:=.int (b[k.toNat])) (by simp[r]);rw[show((k.toNat:Nat):Int)=k from LK t]at this;exact this
   ·refine⟨_,rfl,_,rfl,_,_,rfl,rfl,⟨by decide,by decide,by decide⟩,_,_,rfl,rfl,_,_,rfl,?_⟩;exact⟨_,rfl,_,rfl,_,_,rfl,rfl,(by show(0:Int)<2147483629;decide),_,rfl,_,_,rfl,rfl,.inl ⟨by decide,by decide⟩,_,_,rfl,rfl,_,_,rfl,rfl,(by show 2<=sizeLine;decide),λp c=>d _ p c⟩
  ·refine⟨_,rfl,_,rfl,_,_,rfl,rfl,⟨by decide,by decide,by decide⟩,_,_,rfl,rfl,_,_,rfl,?_⟩;exact⟨_,rfl,_,rfl,_,_,rfl,rfl,(by show(0:Int)<2147483629;decide),_,rfl,_,_,rfl,rfl,.inl ⟨by decide,by decide⟩,_,_,rfl,rfl,_,_,rfl,rfl,(by show 2<=sizeLine;decide),λp c=>d _ p c⟩
end Pr
namespace Qf
def lS(n:Nat)(b:Row):Prop:=∃r c h w,b=[r,c,h,w]/\1<=h/\1<=w/\r+h<=2^n/\c+w<=2^n
def E5(b:Row):Prop:=∃r c h w,b=[r,c,h,w]/\((h<=9/\w<=9)\/∃s i j,h=2^s/\w=2^s/\r=i*2^s/\c=j*2^s)
def MN(n:Nat)(bs:List Row):Prop:=(∀b∈bs,lS n b)/\((n<4/\bs.length<=64)\/(bs.length<=5/\∀b∈bs,E5 b))
theorem uF(k:Nat):(1:Int)*2^((k:Int)).toNat=((2^k:Nat):Int):=by
 rw[ZY,Int.one_mul];push_cast;rfl
theorem qA{n:Nat}(h:n<=12):2^n<=4096/\0<2^n:=⟨by
 have:=Xq (n:=2) (by decide) h;simpa using this,VD (by decide)⟩
end Qf
namespace Pr
open PySem L2 Qf
theorem eM:aI ["_law_pot_here","_law_n","_law_most","_law_side","_law_size","_law_row","_law_column","_law_high","_law_wide"] ["_law_pot_here","_law_n","_law_most"] (bF rl):=dz
inductive ui(vs:List V)(H:Hp)(Q:VK):Prop
 |mk(p:af)(n:Nat)(e0:vs=[.ref p,.int (n:Nat),.int 9])(e1:aU H p)(e2:n<=12)(e3:∀(H':Hp)(t:af)(b:Row),cz p H H'->aU H' p->H' t=some (.tup (vN b))->lS n b->E5 b->Q (.ref t) H')
def E4:Sp:=λa H Q _=>ui a H Q
theorem xI3{f G:af}{fd C:ak}(F:aT K "_law_box" "_law_box" rl f fd)(B:ee mg)(m:mg "_law_digit"=some (.ref G))(g:aT K "_law_digit" "_law_digit" qx G C)(l:Binds K C ["_law_pot_here","_law_many_here"] []):
  aE P w K mg base aR 2 f fd ["_law_pot_here","_law_n","_law_most"] E4:=by
 have k:aE P w K mg base aR 1 G C ["_law_pot_here","_law_many_here"] sG:=xB g;refine F.ok eM (λvs H Q E h=>?_) (λbw A N s H vs Q E b h=>?_)
 ·obtain⟨p,n,rfl,_⟩:=h
  rfl
 ·obtain⟨p,n,rfl,hp,a,q⟩:=h;refine aX ⟨_,⟨c8 3 eM.nd (br n8 aS (pv 1))⟩,?_⟩;refine aX ⟨_,⟨dH (dG sZ (bJ k b m g.kp l (aG (pv 0) (aG aS aN))) aS (cU _))
   (l9.go (.cons ⟨c8 4 eM.nd (bJ k b m g.kp l (aG (pv 0) (aG (br fZ (pv 1) aS) aN)))⟩
    (.cons ⟨c8 5 eM.nd (br n8 (bJ k b m g.kp l (aG (pv 0) (aG (br n8 aS (br mY (pv 1) (pv 4))) aN))) (pv 4))⟩
    (.cons ⟨c8 6 eM.nd (br n8 (bJ k b m g.kp l (aG (pv 0) (aG (br n8 aS (br mY (pv 1) (pv 4))) aN))) (pv 4))⟩
    (.one ⟨cA (iM (cH.go (.cons ⟨pv 5⟩ (.cons ⟨pv 6⟩ (.cons ⟨br n8 aS (pv 4)⟩ (.cons ⟨br n8 aS (pv 4)⟩ .nil rfl) rfl) rfl) rfl)))⟩))))) dI⟩,?_⟩
  refine aX ⟨_,⟨c8 5 eM.nd (bJ k b m g.kp l (aG (pv 0) (aG (pv 3) aN)))⟩,?_⟩;refine aX ⟨_,⟨c8 6 eM.nd (bJ k b m g.kp l (aG (pv 0) (aG (pv 3) aN)))⟩,?_⟩;refine aX ⟨_,⟨c8 7 eM.nd (br fZ aS (bJ k b m g.kp l (aG (pv 0) (aG (cQ (GV rfl) (by rfl) B.min WY (aG (pv 2) (aG (br mY (pv 3) (pv 5)) aN))) aN))))⟩,?_⟩;refine aX ⟨_,⟨c8 8 eM.nd (br fZ aS (bJ k b m g.kp l (aG (pv 0) (aG (cQ (GV rfl) (by rfl) B.min WY (aG (pv 2) (aG (br mY (pv 3) (pv 6)) aN))) aN))))⟩,?_⟩;refine gG ⟨_,⟨cA (iM (cH.go (.cons ⟨pv 5⟩ (.cons ⟨pv 6⟩ (.cons ⟨pv 7⟩ (.cons ⟨pv 8⟩ .nil rfl) rfl) rfl) rfl)))⟩,?_⟩;obtain⟨X,p2⟩:=qA a;refine⟨_,rfl,_,_,rfl,rfl,⟨yf,by lia,by decide⟩,?_⟩;refine⟨_,rfl,p,2,rfl,hp,by decide,by decide,λd H1 hd b1 W=>⟨rfl,_,rfl,?_⟩⟩;refine cM (λhc=>?_) (λhc=>?_)
  ·refine⟨_,rfl,_,rfl,_,_,rfl,rfl,p,n+1,rfl,W,by lia,by lia,λz H2 v S R=>?_⟩;have M:z<=n:=by exact qQ v
   obtain⟨s1,s2⟩:=qA (Zw M a);obtain⟨m1,m2⟩:=qA (Zw (Nat.sub_le n z) a);have em:(1:Int)*2^((n:Int)-(z:Int)).toNat=((2^(n-z):Nat):Int):=by
    rw[<- uF (n-z)];congr 3;lia
   have ez:=uF z;have k_:2^(n-z)*2^z=2^n:=by rw[<- VW];congr 1;lia
   refine⟨_,rfl,_,rfl,_,rfl,_,_,rfl,rfl,_,_,rfl,rfl,⟨M5 v,M3 a,by decide⟩,p,2^(n-z),Yo (λx=>[V.ref p,V.int x]) em,R,m2,qZ m1,λi H3 J O I=>?_⟩;refine⟨_,rfl,_,_,rfl,rfl,⟨by lia,CO v a,by lia⟩,?_⟩;refine⟨_,rfl,_,rfl,_,rfl,_,_,rfl,rfl,_,_,rfl,rfl,⟨M5 v,M3 a,by decide⟩,p,2^(n-z),Yo (λx=>[V.ref p,V.int x]) em,I,m2,qZ m1,λj H4 hj D L=>?_⟩;refine⟨_,rfl,_,_,rfl,rfl,⟨by lia,CO v a,by lia⟩,?_⟩;refine⟨_,rfl,_,rfl,_,rfl,_,_,rfl,rfl,⟨yf,CO v a,by decide⟩,_,rfl,_,_,rfl,rfl,⟨yf,CO v a,by decide⟩,(by show 4<=sizeLine;decide),λt y=>?_⟩;have rN:∀i,i<2^(n-z)->i*2^z+2^z<=2^n:=λi J=>by
    rw[<- k_,<- Y3];exact YO _ J
   refine q _ t [i*2^z,j*2^z,2^z,2^z] ((((b1.trans S).trans O).trans D).trans (cz.of (bf y))) (L.same (bf y)) ?_ ⟨_,_,_,_,rfl,s2,s2,rN i J,rN j hj⟩ ⟨_,_,_,_,rfl,.inr ⟨z,i,j,rfl,rfl,rfl,rfl⟩⟩;rw[bg];show some (HO.tup [V.int ((i:Int)*2^((z:Int)).toNat),V.int ((j:Int)*2^((z:Int)).toNat),V.int (1*2^((z:Int)).toNat),V.int (1*2^((z:Int)).toNat)])=some (HO.tup [V.int ((i*2^z:Nat):Int),V.int ((j*2^z:Nat):Int),V.int ((2^z:Nat):Int),V.int ((2^z:Nat):Int)]);rw[ez];simp only[ZY];push_cast
   rfl
  ·have es:=uF n;have U:[V.ref p,V.int ((1:Int)*2^((n:Int)).toNat)]=[V.ref p,V.int ((2^n:Nat):Int)]:=by rw[es]
   refine⟨_,rfl,_,rfl,p,2^n,U,W,p2,qZ X,λr H2 Z S R=>?_⟩;refine⟨_,rfl,_,rfl,p,2^n,U,R,p2,qZ X,λc H3 Y O I=>?_⟩;have u:∀r:Nat,r<2^n->[V.ref p,V.int (if(1:Int)*2^((n:Int)).toNat-(r:Int)<9 then(1:Int)*2^((n:Int)).toNat-(r:Int)else 9)]=[V.ref p,V.int ((min 9 (2^n-r):Nat):Int)]:=λr b=>by
    rw[es];congr 3;split<;>lia
   refine⟨_,rfl,_,rfl,_,rfl,_,rfl,_,_,rfl,rfl,_,_,rfl,p,min 9 (2^n-r),u r Z,I,NA Z,Lr,λh H4 T D L=>?_⟩;refine⟨_,_,rfl,rfl,?_⟩;refine⟨_,rfl,_,rfl,_,rfl,_,rfl,_,_,rfl,rfl,_,_,rfl,p,min 9 (2^n-c),u c Y,L,NA Y,Lr,λw' H5 hw b5 w4=>?_⟩;refine⟨_,_,rfl,rfl,?_⟩;refine⟨_,rfl,_,rfl,_,rfl,_,rfl,(by show 4<=sizeLine;decide),λt y=>?_⟩;refine q _ t [r,c,1+h,1+w'] (((((b1.trans S).trans O).trans D).trans b5).trans (cz.of (bf y))) (w4.same (bf y)) ?_ ⟨_,_,_,_,rfl,iO,iO,Nc T,Nc hw⟩ ⟨_,_,_,_,rfl,.inl ⟨Nx T,Nx hw⟩⟩;rw[bg]
   rfl
end Pr
namespace Qf
open Tr
def jz(r c s:Nat)(b:Row):Bool:=decide (b.getD 0 0<r+s/\r<b.getD 0 0+b.getD 2 0/\c<b.getD 1 0+b.getD 3 0/\b.getD 1 0<c+s)
def hasB(r c s:Nat)(b:Row):Bool:=decide (b.getD 0 0<=r/\r+s<=b.getD 0 0+b.getD 2 0/\b.getD 1 0<=c/\c+s<=b.getD 1 0+b.getD 3 0)
def mk(a b c d:Tr):Tr:=if a=z/\b=z/\c=z/\d=z then z else if a=o/\b=o/\c=o/\d=o then o else .nd a b c d
def met(a:List Row)(r c s:Nat):List Row:=a.filter (jz r c s)
def bt:Nat->List Row->Nat->Nat->Tr
 |0,a,r,c=>if met a r c 1=[]then z else if(met a r c 1).any (hasB r c 1)then o else z
 |k+1,a,r,c=>if met a r c (2^(k+1))=[]then z else if(met a r c (2^(k+1))).any (hasB r c (2^(k+1)))then o else
   mk (bt k (met a r c (2^(k+1))) r c) (bt k (met a r c (2^(k+1))) r (c+2^k)) (bt k (met a r c (2^(k+1))) (r+2^k) c) (bt k (met a r c (2^(k+1))) (r+2^k) (c+2^k))
theorem xI4{a b c d:Tr}(f:Red a)(hb:Red b)(hc:Red c)(g:Red d):Red (mk a b c d):=by
 unfold mk;split
 ·trivial
 ·split
  ·trivial
  ·exact⟨by assumption,by assumption,f,hb,hc,g⟩
theorem Aj:∀(k:Nat)(a:List Row)(r c:Nat),Red (bt k a r c)
 |0,a,r,c=>by
  unfold bt;split
  ·trivial
  ·split<;>trivial
 |k+1,a,r,c=>by
  unfold bt;split
  ·trivial
  ·split
   ·trivial
   ·exact xI4 (Aj k _ _ _) (Aj k _ _ _) (Aj k _ _ _) (Aj k _ _ _)
theorem xI5{a b c d:Tr}{k:Nat}(g:dep a<=k)(hb:dep b<=k)(hc:dep c<=k)(h:dep d<=k):dep (mk a b c d)<=k+1:=by
 unfold mk;split
 ·show 0<=_;exact qV
 ·split
  ·show 0<=_;exact qV
  ·show 1+mx [dep a,dep b,dep c,dep d]<=k+1;have:=E6 (l:=[dep a,dep b,dep c,dep d]) (b:=k) (by
    intro x f;have:x=dep a\/x=dep b\/x=dep c\/x=dep d:=by simpa using f
    rcases this with rfl|rfl|rfl|rfl<;>assumption)
   lia
theorem x5:∀(k:Nat)(a:List Row)(r c:Nat),dep (bt k a r c)<=k
 |0,a,r,c=>by
  unfold bt;split
  ·exact Zb 0
  ·split<;>exact Zb 0
 |k+1,a,r,c=>by
  unfold bt;split
  ·exact Zt _
  ·split
   ·exact Zt _
   ·exact xI5 (x5 k _ _ _) (x5 k _ _ _) (x5 k _ _ _) (x5 k _ _ _)
def fk:Tr->Nat
 |.nd a b c d=>1+fk a+fk b+fk c+fk d
 |_=>0
theorem xq:∀(t:Tr)(e:List Tr),(post t e).length<=e.length+fk t
 |.z,e=>Zb _
 |.o,e=>Zb _
 |.nd a b c d,e=>by
  unfold post;split
  ·exact Yk _ _
  ·have h1:=xq a e;have h2:=xq b (post a e);have f:=xq c (post b (post a e));have g:=xq d (post c (post b (post a e)));rw[Zn];show _+1<=e.length+(1+fk a+fk b+fk c+fk d);lia
theorem Du(a b c d:Tr):fk (mk a b c d)<=1+fk a+fk b+fk c+fk d:=by
 unfold mk;split
 ·exact Zt _
 ·split
  ·exact Zt _
  ·exact Zb _
def cnt(b:Row):Nat->Nat->Nat->Nat
 |0,_,_=>0
 |k+1,r,c=>if jz r c (2^(k+1)) b=true/\hasB r c (2^(k+1)) b=false then 1+cnt b k r c+cnt b k r (c+2^k)+cnt b k (r+2^k) c+cnt b k (r+2^k) (c+2^k)else 0
def fq(a:List Row)(k r c:Nat):Nat:=(a.map λb=>cnt b k r c).sum
theorem qO7{p:Row->Bool}(a:List Row)(k r c:Nat):fq (a.filter p) k r c<=fq a k r c:=by
 induction a with
 |nil=>exact Zb _
 |cons b bs d=>
  unfold fq at d ⊢;rw[Y1];split
  ·simp only[ZG,Xw];exact ix d
  ·simp only[ZG,Xw];lia
theorem qX6{a:List Row}{k r c:Nat}(d:∀b∈a,jz r c (2^(k+1)) b=true/\hasB r c (2^(k+1)) b=false):
  fq a (k+1) r c=a.length+fq a k r c+fq a k r (c+2^k)+fq a k (r+2^k) c+fq a k (r+2^k) (c+2^k):=by
 induction a with
 |nil=>rfl
 |cons b bs f=>
  have h1:=f λx g=>d x (Zk _ g);have e:cnt b (k+1) r c=1+cnt b k r c+cnt b k r (c+2^k)+cnt b k (r+2^k) c+cnt b k (r+2^k) (c+2^k):=by
   show(if _ then _ else _)=_;rw[Zr (d b Zu)]
  unfold fq at h1 ⊢;simp only[ZG,Xw,Zz,e,h1];lia
theorem Ai:∀(k:Nat)(a:List Row)(r c:Nat),fk (bt k a r c)<=fq a k r c
 |0,a,r,c=>by
  unfold bt;split
  ·exact Zt _
  ·split<;>exact Zt _
 |k+1,a,r,c=>by
  unfold bt;split
  ·exact Zt _
  ·rename_i d;split
   ·exact Zt _
   ·rename_i f;refine Zw (Du _ _ _ _) ?_;have h1:=Ai k (met a r c (2^(k+1))) r c;have h2:=Ai k (met a r c (2^(k+1))) r (c+2^k);have i:=Ai k (met a r c (2^(k+1))) (r+2^k) c;have l:=Ai k (met a r c (2^(k+1))) (r+2^k) (c+2^k);have g:fq (met a r c (2^(k+1))) (k+1) r c<=fq a (k+1) r c:=qO7 _ _ _ _;have h:∀b∈met a r c (2^(k+1)),jz r c (2^(k+1)) b=true/\hasB r c (2^(k+1)) b=false:=λb hb=>by
     refine⟨(Y9.mp hb).2,?_⟩;cases hh:hasB r c (2^(k+1)) b with
     |false=>rfl
     |true=>exact absurd (XI.mpr ⟨b,hb,hh⟩) f
    rw[qX6 h]at g;have j:0<(met a r c (2^(k+1))).length:=XA.mpr d;lia
def sz:Nat->Nat
 |0=>0
 |k+1=>4*sz k+1
theorem xQ:∀(k:Nat)(a:List Row)(r c:Nat),fk (bt k a r c)<=sz k
 |0,a,r,c=>by
  unfold bt;split
  ·exact Zt _
  ·split<;>exact Zt _
 |k+1,a,r,c=>by
  unfold bt;split
  ·exact Zt _
  ·split
   ·exact Zt _
   ·refine Zw (Du _ _ _ _) ?_;have h1:=xQ k (met a r c (2^(k+1))) r c;have h2:=xQ k (met a r c (2^(k+1))) r (c+2^k);have b:=xQ k (met a r c (2^(k+1))) (r+2^k) c;have d:=xQ k (met a r c (2^(k+1))) (r+2^k) (c+2^k);show _<=4*sz k+1;lia
def eh(a h j:Nat):Nat->Nat->Nat
 |0,x=>0
 |k+1,x=>if j=k+1 then(if a<x+2^(k+1)/\x<a+h then 1 else 0)else eh a h j k x+eh a h j k (x+2^k)
def lK(a h c w:Nat):Nat->Nat->Nat->Nat->Nat
 |0,_,_,_=>0
 |j+1,k,x,y=>lK a h c w j k x y+eh a h (j+1) k x*eh c w (j+1) k y
theorem Pz(a h c w:Nat):∀(j k x y:Nat),j<=k->lK a h c w j (k+1) x y=lK a h c w j k x y+lK a h c w j k x (y+2^k)+lK a h c w j k (x+2^k) y+lK a h c w j k (x+2^k) (y+2^k)
 |0,k,x,y,_=>rfl
 |j+1,k,x,y,d=>by
  have f:=Pz a h c w j k x y (gQ d);have b:∀a h x,eh a h (j+1) (k+1) x=eh a h (j+1) k x+eh a h (j+1) k (x+2^k):=λa h x=>by
   show(if j+1=k+1 then _ else _)=_;rw[Zl (by lia)]
  show lK a h c w j (k+1) x y+eh a h (j+1) (k+1) x*eh c w (j+1) (k+1) y=_;rw[f,b,b];show _=(lK a h c w j k x y+eh a h (j+1) k x*eh c w (j+1) k y)+(lK a h c w j k x (y+2^k)+eh a h (j+1) k x*eh c w (j+1) k (y+2^k))+(lK a h c w j k (x+2^k) y+eh a h (j+1) k (x+2^k)*eh c w (j+1) k y)+(lK a h c w j k (x+2^k) (y+2^k)+eh a h (j+1) k (x+2^k)*eh c w (j+1) k (y+2^k));generalize eh a h (j+1) k x=p,eh a h (j+1) k (x+2^k)=p',eh c w (j+1) k y=q,eh c w (j+1) k (y+2^k)=g;rw[VB,XM,XM];lia
theorem zJ(a c h w:Nat):∀(k x y:Nat),cnt [a,c,h,w] k x y<=lK a h c w k k x y
 |0,x,y=>Zb _
 |k+1,x,y=>by
  show(if jz x y (2^(k+1)) [a,c,h,w]=true/\_ then _ else _)<=lK a h c w k (k+1) x y+eh a h (k+1) (k+1) x*eh c w (k+1) (k+1) y;split
  ·rename_i d;have m:a<x+2^(k+1)/\x<a+h/\y<c+w/\c<y+2^(k+1):=ZB d.1;have b:eh a h (k+1) (k+1) x=1:=by
    show(if k+1=k+1 then(if _ then 1 else 0)else _)=1;rw[Zr rfl,Zr ⟨m.1,m.2.1⟩]
   have f:eh c w (k+1) (k+1) y=1:=by
    show(if k+1=k+1 then(if _ then 1 else 0)else _)=1;rw[Zr rfl,Zr ⟨m.2.2.2,m.2.2.1⟩]
   rw[Pz a h c w k k x y (Zb _),b,f];have h1:=zJ a c h w k x y;have h2:=zJ a c h w k x (y+2^k);have g:=zJ a c h w k (x+2^k) y;have i:=zJ a c h w k (x+2^k) (y+2^k);lia
  ·exact Zt _
theorem mm{l1 d u p t A:Nat}(h1:l1<=min (u+p) t-max u A)(h2:d<=min (u+p+p) t-max (u+p) A):l1+d<=min (u+(p+p)) t-max u A:=by
 rw[<- Nat.add_assoc];by_cases a:t<=u+p
 ·rw[Nat.min_eq_right a]at h1;rw[Nat.min_eq_right (Zw a (Yk _ _))]at h2 ⊢;have:=Nat.le_max_left (u+p) A;lia
 ·rw[VT (Nat.le_of_not_le a)]at h1;by_cases b:A<=u+p
  ·rw[Nat.max_eq_left b]at h2;lia
  ·have c:=Nat.le_of_not_le b;rw[Nat.max_eq_right c]at h2;rw[Nat.max_eq_right (Zw (Yk _ _) c)]at h1 ⊢;lia
theorem HI(a h j:Nat)(b:1<=h):∀(i u:Nat),eh a h (j+1) (j+1+i) (u*2^(j+1))<=min (u+2^i) ((a+h-1)/2^(j+1)+1)-max u (a/2^(j+1))
 |0,u=>by
  have c:0<2^(j+1):=VD (by decide);show(if j+1=j+1 then(if _ then 1 else 0)else _)<=_;rw[Zr rfl];split
  ·rename_i m;have h1:a/2^(j+1)<=u:=by
    have:a/2^(j+1)<u+1:=(Nat.div_lt_iff_lt_mul c).mpr (by rw[Y3];exact m.1);exact qQ this
   have h2:u<=(a+h-1)/2^(j+1):=(Nat.le_div_iff_mul_le c).mpr (by lia);rw[Nat.pow_zero];lia
  ·exact Zt _
 |i+1,u=>by
  have e:eh a h (j+1) (j+1+(i+1)) (u*2^(j+1))=eh a h (j+1) (j+1+i) (u*2^(j+1))+eh a h (j+1) (j+1+i) (u*2^(j+1)+2^(j+1+i)):=by
   show(if j+1=j+1+i+1 then _ else _)=_;rw[Zl (by lia)]
   rfl
  have d:u*2^(j+1)+2^(j+1+i)=(u+2^i)*2^(j+1):=by rw[VB,VW 2 (j+1) i,XO (2^i)]
  have h1:=HI a h j b i u;have h2:=HI a h j b i (u+2^i);have f:2^(i+1)=2^i+2^i:=by rw[YS];lia
  rw[e,d,f];exact mm h1 h2
def lim:Nat->Nat
 |1=>6
 |2=>4
 |3=>3
 |_=>2
theorem Qb{a h k j:Nat}(c:1<=h)(g:h<=9)(d:j+1<=k):eh a h (j+1) k 0<=lim (j+1):=by
 obtain⟨i,rfl⟩:∃i,k=j+1+i:=⟨k-(j+1),u4 d⟩;have h1:=HI a h j c i 0;rw[Nat.zero_mul]at h1;have f:0<2^(j+1):=VD (by decide);have h2:(a+h-1)/2^(j+1)<=a/2^(j+1)+8/2^(j+1)+1:=by
  have:=Nat.add_div (a:=a) (b:=8) f;have l:(a+h-1)/2^(j+1)<=(a+8)/2^(j+1):=Nat.div_le_div_right (by lia);split at this<;>lia
 have m:8/2^(j+1)+2<=lim (j+1):=by
  match j with
  |0=>decide
  |1=>decide
  |2=>decide
  |j+3=>
   have:2^(j+3+1)>=16:=by
    have:=Xq (n:=2) (by decide) (show 4<=j+3+1 by lia);simpa using this
   rw[Nat.div_eq_of_lt (by lia)];exact Zb 2
 lia
def rh:Nat->Nat
 |0=>0
 |j+1=>rh j+lim (j+1)*lim (j+1)
theorem ON{a h c w k:Nat}(h1:1<=h)(h2:h<=9)(f:1<=w)(d:w<=9):∀j,j<=k->lK a h c w j k 0 0<=rh j
 |0,_=>Zb _
 |j+1,b=>Nat.add_le_add (ON h1 h2 f d j (gQ b)) (VX (Qb h1 h2 b) (Qb f d b))
theorem Py:∀{j k:Nat},j<=k->rh j<=rh k
 |j,0,h=>by rw[show j=0 from LJ h];exact Zb _
 |j,k+1,h=>by
  by_cases e:j=k+1
  ·rw[e];exact Zb _
  ·exact Zw (Py (show j<=k from LL h e)) (Yk _ _)
theorem Ad(s i j:Nat):∀(k u v:Nat),cnt [i*2^s,j*2^s,2^s,2^s] k (u*2^k) (v*2^k)<=k
 |0,u,v=>Zb _
 |k+1,u,v=>by
  show(if jz (u*2^(k+1)) (v*2^(k+1)) (2^(k+1)) [i*2^s,j*2^s,2^s,2^s]=true/\hasB (u*2^(k+1)) (v*2^(k+1)) (2^(k+1)) [i*2^s,j*2^s,2^s,2^s]=false then _ else _)<=_;split
  ·rename_i p;have m:i*2^s<u*2^(k+1)+2^(k+1)/\u*2^(k+1)<i*2^s+2^s/\v*2^(k+1)<j*2^s+2^s/\j*2^s<v*2^(k+1)+2^(k+1):=ZB p.1;have C:¬(i*2^s<=u*2^(k+1)/\u*2^(k+1)+2^(k+1)<=i*2^s+2^s/\j*2^s<=v*2^(k+1)/\v*2^(k+1)+2^(k+1)<=j*2^s+2^s):=Yx p.2;have K:∀{x y m:Nat},0<m->x*m<y*m+m->x*m<=y*m:=λ{x y m} p h=>by
    have:x<y+1:=Vw (a:=m) (by rw[Y3];exact h);exact YO _ (qQ this)
   have G:s<=k:=by
    by_cases z:s<=k
    ·exact z
    ·exfalso;apply C;obtain⟨d,rfl⟩:∃d,s=k+1+d:=⟨s-(k+1),Nl z⟩;have D:0<2^(k+1):=VD (by decide);have w:2^(k+1+d)=2^d*2^(k+1):=by rw[VW,XO]
     have e:∀i,i*2^(k+1+d)=i*2^d*2^(k+1):=λi=>by rw[w,Xd]
     have H:∀i,i*2^(k+1+d)+2^(k+1+d)=(i*2^d+2^d)*2^(k+1):=λi=>by rw[VB,<- w,<- e]
     have g:∀u i,i*2^(k+1+d)<u*2^(k+1)+2^(k+1)->i*2^(k+1+d)<=u*2^(k+1):=λu i h=>by
      rw[e]at h ⊢;exact K D h
     have t:∀u i,u*2^(k+1)<i*2^(k+1+d)+2^(k+1+d)->u*2^(k+1)+2^(k+1)<=i*2^(k+1+d)+2^(k+1+d):=λu i h=>by
      rw[H]at h ⊢;rw[<- Y3];exact YO _ (Vw h)
     exact⟨g u i m.1,t u i m.2.1,g v j m.2.2.2,t v j m.2.2.1⟩
   obtain⟨d,rfl⟩:∃d,k=s+d:=⟨k-s,u4 G⟩;have I:2^(s+d)=2^d*2^s:=by rw[VW,XO]
   have q:∀u,u*2^(s+d+1)=(2*u)*2^(s+d):=λu=>by rw[YS,XO (2^(s+d)) 2,<- Xd,XO u 2]
   have A:∀u,u*2^(s+d+1)+2^(s+d)=(2*u+1)*2^(s+d):=λu=>by rw[q];exact(Y3 _ _).symm
   have b:∀u i,i*2^s+2^s<=(2*u+1)*2^(s+d)\/(2*u+1)*2^(s+d)<=i*2^s:=λu i=>by
    rw[I,<- Xd,<- Y3];rcases VR i ((2*u+1)*2^d)with z|z
    ·exact .inl (YO _ z)
    ·exact .inr (YO _ z)
   have q0:∀x y,¬(x<i*2^s+2^s)\/¬(i*2^s<x+2^(s+d))\/¬(y<j*2^s+2^s)\/¬(j*2^s<y+2^(s+d))->cnt [i*2^s,j*2^s,2^s,2^s] (s+d) x y=0:=λx y r=>by
    cases hsd:s+d with
    |zero=>rfl
    |succ n=>
     rw[hsd]at r;show(if jz x y (2^(n+1)) [i*2^s,j*2^s,2^s,2^s]=true/\_ then _ else _)=0;rw[Zl];rintro⟨h1,_⟩;have m:i*2^s<x+2^(n+1)/\x<i*2^s+2^s/\y<j*2^s+2^s/\j*2^s<y+2^(n+1):=ZB h1;rcases r with z|z|z|z
     ·exact z m.2.1
     ·exact z m.1
     ·exact z m.2.2.1
     ·exact z m.2.2.2
   have L:=Ad s i j (s+d) (2*u) (2*v);have N:=Ad s i j (s+d) (2*u) (2*v+1);have O:=Ad s i j (s+d) (2*u+1) (2*v);have M:=Ad s i j (s+d) (2*u+1) (2*v+1);rw[A,A,q,q];have l:∀u:Nat,(2*u)*2^(s+d)+2^(s+d)=(2*u+1)*2^(s+d):=λu=>(Y3 _ _).symm;rcases b u i with f|f
   ·have B:=q0 ((2*u+1)*2^(s+d)) ((2*v)*2^(s+d)) (.inl (eS f));have J:=q0 ((2*u+1)*2^(s+d)) ((2*v+1)*2^(s+d)) (.inl (eS f));rcases b v j with c|c
    ·have E:=q0 ((2*u)*2^(s+d)) ((2*v+1)*2^(s+d)) (.inr (.inr (.inl (eS c))));lia
    ·have F:=q0 ((2*u)*2^(s+d)) ((2*v)*2^(s+d)) (.inr (.inr (.inr (by rw[l];exact eS c))));lia
   ·have F:=q0 ((2*u)*2^(s+d)) ((2*v)*2^(s+d)) (.inr (.inl (by rw[l];exact eS f)));have E:=q0 ((2*u)*2^(s+d)) ((2*v+1)*2^(s+d)) (.inr (.inl (by rw[l];exact eS f)));rcases b v j with c|c
    ·have J:=q0 ((2*u+1)*2^(s+d)) ((2*v+1)*2^(s+d)) (.inr (.inr (.inl (eS c))));lia
    ·have B:=q0 ((2*u+1)*2^(s+d)) ((2*v)*2^(s+d)) (.inr (.inr (.inr (by rw[l];exact eS c))));lia
  ·exact Zt _
theorem q74{n:Nat}{bs:List Row}(m:n<=12)(h:MN n bs):fk (bt n bs 0 0)<=485:=by
 rcases h.2 with⟨B,_⟩|⟨C,p⟩
 ·refine Zw (xQ n bs 0 0) ?_
  match n,B with
  |0,_|1,_|2,_|3,_=>decide
 ·refine Zw (Ai n bs 0 0) ?_;have a:∀b∈bs,cnt b n 0 0<=97:=λb hb=>by
   obtain⟨r,c,g,w,rfl,h1,t,_⟩:=h.1 b hb;obtain⟨D,F,y,E,e,A⟩:=p _ hb;simp only[YX,V0]at e;obtain⟨rfl,rfl,rfl,rfl⟩:=e;rcases A with⟨u,v⟩|⟨s,i,j,rfl,rfl,rfl,rfl⟩
   ·refine Zw (zJ r c g w n 0 0) (Zw (ON h1 u t v n (Zb _)) (Zw (Py m) (by decide)))
   ·have:=Ad s i j n 0 0;rw[Nat.zero_mul]at this;lia
  unfold fq;have d:∀l:List Row,(∀b∈l,cnt b n 0 0<=97)->(l.map λb=>cnt b n 0 0).sum<=l.length*97:=λl f=>by
   induction l with
   |nil=>exact Zt _
   |cons b l k=>
    have h1:=f b Zu;have h2:=k λx q=>f x (Zk _ q);rw[ZG,Xw,Zz,Y3];lia
  have:=d bs a;lia
theorem kp0{b c f d:Tr}{L a:List Tr}(k:a=post d (post f (post c (post b L))))(z:[0,0,0,0]=[name a b,name a c,name a f,name a d].map λx:Nat=>(x:Int)):a=L/\mk b c f d=.z/\name a b=0:=by
 simp only[ZG,Vk,YX,V0]at z;have g:=sQ (L:=a) (t:=b) (by lia);have i:=sQ (L:=a) (t:=c) (by lia);have j:=sQ (L:=a) (t:=f) (by lia);have h:=sQ (L:=a) (t:=d) (by lia);subst g i j h;exact⟨k,rfl,rfl⟩
theorem kp1{b c f d:Tr}{L a:List Tr}(k:a=post d (post f (post c (post b L))))(z:[1,1,1,1]=[name a b,name a c,name a f,name a d].map λx:Nat=>(x:Int)):a=L/\mk b c f d=.o/\name a b=1:=by
 simp only[ZG,Vk,YX,V0]at z;have g:=sO (L:=a) (t:=b) (by lia);have i:=sO (L:=a) (t:=c) (by lia);have j:=sO (L:=a) (t:=f) (by lia);have h:=sO (L:=a) (t:=d) (by lia);subst g i j h;exact⟨k,rfl,rfl⟩
theorem kpn{c b f d:Tr}{a:List Tr}(hc:¬(decide ([0,0,0,0]=[name a c,name a b,name a f,name a d].map λx:Nat=>(x:Int))||decide ([1,1,1,1]=[name a c,name a b,name a f,name a d].map λx:Nat=>(x:Int)))=true):mk c b f d=.nd c b f d:=by
 unfold mk;rw[Zl,Zl]
 ·rintro⟨rfl,rfl,rfl,rfl⟩;exact hc (by rw[VU];exact .inr (Zh rfl))
 ·rintro⟨rfl,rfl,rfl,rfl⟩;exact hc (by rw[VU];exact .inl (Zh rfl))
theorem kpi{b a c d:Tr}{L g:List Tr}(q:Ord L)(k:g=post d (post c (post a (post b L))))(l:Tr.nd b a c d∈g):Tr.nd b a c d∈L/\g=L:=by
 have j:Tr.nd b a c d∈L:=by
  by_cases h:Tr.nd b a c d∈L
  ·exact h
  ·exact absurd (k▸l) (Tr.hX h)
 obtain⟨i,n,p⟩:=ZQ.mp j;have f:=λs m=>(Tr.dF q (i:=i) (t:=.nd b a c d) (by rw[Ze n,p]) (s:=s) m).1;exact⟨j,by rw[k,zK (f b (by simp[Tr.kids])),zK (f a (by simp[Tr.kids])),zK (f c (by simp[Tr.kids])),zK (f d (by simp[Tr.kids]))]⟩
theorem kpx{a b c d:Tr}{L f:List Tr}(g:f=post d (post c (post b (post a L))))(h:Tr.nd a b c d∉f):post (.nd a b c d) L=f++[.nd a b c d]:=by
 have i:Tr.nd a b c d∉L:=λz=>h (by
  rw[g];obtain⟨n,h1⟩:=Tr.b_ a L;obtain⟨m,h2⟩:=Tr.b_ b (Tr.post a L);obtain⟨l,j⟩:=Tr.b_ c (Tr.post b (Tr.post a L));obtain⟨p,k⟩:=Tr.b_ d (Tr.post c (Tr.post b (Tr.post a L)));rw[k,j,h2,h1];simp[z])
 rw[g];show(if Tr.nd a b c d∈L then L else _)=_;rw[Zl i]
end Qf
namespace Pr
open PySem L2 Qf
theorem xI6{f d h g:Tr}{c:List Tr}(j:Tr.Ord c)(l:∀s∈Tr.kids (.nd f d h g),Tr.In c s)(m:¬[Tr.name c f,Tr.name c d,Tr.name c h,Tr.name c g]∈Tr.rowsOf c):
  putK (tK (Tr.rowsOf c)) (eU [Tr.name c f,Tr.name c d,Tr.name c h,Tr.name c g]) (.int (((tK (Tr.rowsOf c)).length:Int)+2))=tK (Tr.rowsOf (c++[.nd f d h g])):=by
 have i:=PY j l;rw[show(Tr.kids (.nd f d h g)).map (Tr.name c)=[Tr.name c f,Tr.name c d,Tr.name c h,Tr.name c g]from rfl]at i;have n:(tK (Tr.rowsOf c)).length=c.length:=by unfold tK;rw[C5,Tr.bb]
 have h1:=U8 (key:=eU) (k:=2) (λa b=>HL) m;rw[i,n];unfold tK;rw[<- h1,Tr.bb];congr 2;lia
structure dM(p D:af)(H:Hp)(ok:Row->Prop)(i:Nat)(xs:List V)(H2:Hp):Prop where
 but:cz p H H2
 x_:aU H2 p
 at_:H2 D=some (.lst xs)
 len:xs.length<=i
 aM:∃(cs:List af)(bs:List Row),xs=cs.map V.ref/\cs.length=bs.length/\(∀b∈bs,ok b)/\∀(j:Nat) c b,cs[j]?=some c->bs[j]?=some b->H2 c=some (.tup (vN b))
theorem dM.start{p D:af}{H:Hp}{ok:Row->Prop}(d:aU H p)(a:H D=none):dM p D H ok 0 [] (upd H D (.lst [])):=
 ⟨cz.of (bf a),d.same (bf a),bg,Zb _,[],[],rfl,rfl,λb hb=>(nomatch hb),λj c b e=>by simp at e⟩
theorem dM.kept{p D:af}{H d a:Hp}{ok:Row->Prop}{i:Nat}{xs:List V}(g:dM p D H ok i xs d)(l:p≠D)(b:cz p d a)(f:aU a p):dM p D H ok (i+1) xs a:=by
 obtain⟨A,n,t,q,h,bs,e,v,k,u⟩:=g;refine⟨A.trans b,f,b _ _ t (Xz l),tj q,h,bs,e,v,k,λj c r s m=>?_⟩;have:=u j c r s m;refine b _ _ this λz=>?_;obtain⟨x,y,w,_⟩:=n;rw[z,w]at this;cases this
theorem dM.more{p D t:af}{H C d:Hp}{ok:Row->Prop}{i:Nat}{xs:List V}{r:Row}(g:dM p D H ok i xs C)(L:H D=none)(E:p≠D)(b:cz p C d)(B:aU d p)(F:d t=some (.tup (vN r)))(O:ok r):
  d D=some (.lst xs)/\dM p D H ok (i+1) (xs++[.ref t]) (upd d D (.lst (xs++[.ref t]))):=by
 have k:=g.kept E b B;obtain⟨P,Q,G,R,f,bs,rfl,s,M,v⟩:=k;have N:=g.len;refine⟨G,λc o e n=>?_,?_,bg,by rw[Zn];show(f.map V.ref).length+1<=_;exact A3 N,f++[t],bs++[r],U7 f t,by rw[Zn,Zn,s];rfl,?_,?_⟩
 ·rw[cK (dv e L)];exact P c o e n
 ·obtain⟨x,y,e,I⟩:=B;exact⟨x,y,by rw[cK E];exact e,I⟩
 ·intro z l;rcases ZX.mp l with l|l
  ·exact M z l
  ·have:z=r:=by simpa using l
   rw[this];exact O
 ·intro j c q a h;have w:∀{c:af}{u:List V},d c=some (.tup u)->c≠D:=λ{c u} e z=>by rw[z,G]at e;cases e
  by_cases m:j<f.length
  ·rw[Zp m]at a;rw[Zp (m_ m s)]at h;have:=v j c q a h;rw[cK (w this)];exact this
  ·rw[Zx (iw m)]at a;rw[Zx (LD s m)]at h;have A:j-f.length=0:=by
    have:=(cF a).1;simp at this;exact this
   rw[A]at a;rw[<- s,A]at h;have J:c=t:=by simpa using a.symm
   have K:q=r:=by simpa using h.symm
   rw[J,K,cK (w F)];exact F
theorem dM.rows{p D:af}{H c:Hp}{ok:Row->Prop}{i:Nat}{xs:List V}(g:dM p D H ok i xs c):∃bs:List Row,ba c D bs/\(∀b∈bs,ok b)/\bs.length<=i:=by
 obtain⟨_,_,h,d,f,bs,rfl,a,j,k⟩:=g;exact⟨bs,⟨f,h,a,k⟩,j,by rw[Zf]at d;exact oz a d⟩
abbrev LZ:List ar:=["_law_pot_here","_law_n","_law_side"]
theorem ip:aI LZ ["_law_pot_here","_law_n"] (bF Aq):=dz
inductive nL(vs:List V)(H:Hp)(Q:VK):Prop
 |mk(p:af)(n:Nat)(e0:vs=[.ref p,.int (n:Nat)])(e1:aU H p)(e2:n<4)(e3:∀(H':Hp)(l:af)(bs:List Row),cz p H H'->aU H' p->H l=none->ba H' l bs->(∀b∈bs,lS n b)->bs.length<=64->Q (.ref l) H')
def Qa:Sp:=λa H Q _=>nL a H Q
theorem U5{f v:af}{W u:ak}(F:aT K "_law_cells" "_law_cells" Aq f W)(B:ee mg)(hD:mg "_law_digit"=some (.ref v))(U:aT K "_law_digit" "_law_digit" qx v u)(bD:Binds K u ["_law_pot_here","_law_many_here"] []):
  aE P w K mg base aR 2 f W ["_law_pot_here","_law_n"] Qa:=by
 have Z:aE P w K mg base aR 1 v u ["_law_pot_here","_law_many_here"] sG:=xB U;refine F.ok ip (λvs H Q E h=>?_) (λbw A I s H vs Q E hr h=>?_)
 ·obtain⟨p,n,rfl,_⟩:=h
  rfl
 ·obtain⟨p,n,rfl,L,hn,q⟩:=h;refine aX ⟨_,⟨c8 2 ip.nd (br n8 aS (pv 1))⟩,?_⟩;refine gG ⟨_,⟨cA (PD LZ (bF Aq) rfl rfl rfl ip.nd (sT (by rfl) B.range (aG (br pR (pv 2) (pv 2)) aN))
   (λcl C fp aH aJ=>dG sZ (bJ Z hr hD U.kp bD (aG (pv 1) (aG aS aN))) aS (cU _))
   (λcl C fp aH aJ=>cg.go ⟨iM (cH.go (.cons ⟨br sM (pv 0) (pv 3)⟩ (.cons ⟨br sv (pv 0) (pv 3)⟩ (.cons ⟨aS⟩ (.cons ⟨aS⟩ .nil rfl) rfl) rfl) rfl))⟩))⟩,?_⟩
  obtain⟨p1,j⟩:=qA (show n<=12 by lia);have S:2^n<=8:=by
   have:=Xq (n:=2) (by decide) (show n<=3 by lia);simpa using this
  have k:=uF n;refine⟨_,rfl,_,_,rfl,rfl,⟨yf,by lia,by decide⟩,?_⟩;have l:(2^n*2^n:Nat)<=64:=by
   have:=VX S S;lia
  have G:((1:Int)*2^((n:Int)).toNat)*(1*2^((n:Int)).toNat)=((2^n*2^n:Nat):Int):=by rw[k];push_cast;rfl
  have x:(((1:Int)*2^((n:Int)).toNat)*(1*2^((n:Int)).toNat)).toNat=2^n*2^n:=by rw[G,ZY]
  refine⟨_,rfl,_,rfl,_,_,rfl,rfl,.inl ⟨by lia,by lia⟩,_,rfl,by lia,by lia,λD c=>?_⟩;have O:p≠D:=by obtain⟨a,b,e,_⟩:=L;exact dv e c
  refine q72 (dM p D H (lS n)) (by rw[x];exact xH (by lia)) (dM.start L c) (λi Y y g=>⟨g.at_,g.len⟩) ?_ ?_
  ·intro i Y y M g os ho Q1 Q2 q1 q2;rw[x]at M;obtain⟨o1,rfl⟩:=L2.AI ho
   ·
    refine⟨_,rfl,p,2,rfl,g.x_,by decide,by decide,λd X hd T J=>⟨rfl,_,rfl,?_⟩⟩;refine cM (λ_=>?_) (λ_=>q1 X (g.kept O T J));refine⟨_,rfl,_,rfl,_,_,rfl,rfl,⟨M_ j k,by lia⟩,_,rfl,_,rfl,_,_,rfl,rfl,(by show(0:Int)<1*2^((n:Int)).toNat;exact M_ j k),(by show 4<=sizeLine;decide),λt R=>?_⟩;have vW:lS n [i/2^n,i%2^n,1,1]:=by
     refine⟨_,_,_,_,rfl,Zb _,Zb _,?_,?_⟩
     ·exact(Nat.div_lt_iff_lt_mul j).mpr M
     ·exact W4 _ j
    have e4:HO.tup [V.int ((0+(i:Int))/(1*2^((n:Int)).toNat)),V.int ((0+(i:Int))%(1*2^((n:Int)).toNat)),V.int 1,V.int 1]=HO.tup (vN [i/2^n,i%2^n,1,1]):=by
     rw[k,WS];show HO.tup [V.int ((i:Int)/((2^n:Nat):Int)),V.int ((i:Int)%((2^n:Nat):Int)),V.int 1,V.int 1]=HO.tup [V.int ((i/2^n:Nat):Int),V.int ((i%2^n:Nat):Int),V.int 1,V.int 1];rw[VJ,VL]
    show Q2 (.ref t) (upd X t (HO.tup [V.int ((0+(i:Int))/(1*2^((n:Int)).toNat)),V.int ((0+(i:Int))%(1*2^((n:Int)).toNat)),V.int 1,V.int 1]));rw[e4];have m:=g.more (t:=t) (r:=[i/2^n,i%2^n,1,1]) c O (T.trans (cz.of (bf R))) (J.same (bf R)) bg vW;exact q2 _ _ m.1 m.2
  ·intro Y y g;obtain⟨bs,h1,h2,N⟩:=g.rows;exact q y D bs g.but g.x_ c h1 h2 (by rw[x]at N;exact oK N l)
abbrev LY:List ar:=["_law_pot_here","_law_n"]
theorem lP:aI LY ["_law_pot_here","_law_n"] (bF Ap):=dz
inductive nM(vs:List V)(H:Hp)(Q:VK):Prop
 |mk(p:af)(n:Nat)(e0:vs=[.ref p,.int (n:Nat)])(e1:aU H p)(e2:n<=12)(e3:∀(H':Hp)(l:af)(bs:List Row),cz p H H'->aU H' p->H l=none->ba H' l bs->MN n bs->Q (.ref l) H')
def Hk:Sp:=λa H Q _=>nM a H Q
theorem U4{f N O Y:af}{fd M X U:ak}(F:aT K "_law_boxes" "_law_boxes" Ap f fd)(B:ee mg)(I:mg "_law_digit"=some (.ref N))(x:aT K "_law_digit" "_law_digit" qx N M)(y:Binds K M ["_law_pot_here","_law_many_here"] [])
  (hC:mg "_law_cells"=some (.ref O)) (FC:aT K "_law_cells" "_law_cells" Aq O X) (bC:Binds K X ["_law_pot_here","_law_n"] [])
  (hB:mg "_law_box"=some (.ref Y)) (FB:aT K "_law_box" "_law_box" rl Y U) (bB:Binds K U ["_law_pot_here","_law_n","_law_most"] []):
  aE P w K mg base aR 3 f fd ["_law_pot_here","_law_n"] Hk:=by
 have Z:aE P w K mg base aR 1 N M ["_law_pot_here","_law_many_here"] sG:=xB x;have GC:aE P w K mg base aR 2 O X ["_law_pot_here","_law_n"] Qa:=U5 FC B I x y;have GB:aE P w K mg base aR 2 Y U ["_law_pot_here","_law_n","_law_most"] E4:=xI3 FB B I x y;refine F.ok lP (λvs H Q E h=>?_) (λbw A R s H vs Q E T h=>?_)
 ·obtain⟨p,n,rfl,_⟩:=h
  rfl
 ·obtain⟨p,n,rfl,hp,hn,q⟩:=h;have jG:aZ 1 _:=T.mono (by decide);refine aX ⟨_,⟨dH (PW.pt (Ms (dG lU (pv 1) aS (cU _)) (Of (dG sZ (bJ Z jG I x.kp y (aG (pv 0) (aG aS aN))) aS (cU _)))))
   (cD (cA (bJ GC T hC FC.kp bC (aG (pv 0) (aG (pv 1) aN))))) dI⟩,?_⟩
  refine gG ⟨_,⟨cA (og LY (bF Ap) rfl rfl rfl lP.nd (sT (by rfl) B.range (aG (bJ Z jG I x.kp y (aG (pv 0) (aG aS aN))) aN))
   (λcl C fp aH aJ=>bJ GB T hB FB.kp bB (aG (pv 1) (aG (pv 2) (aG aS aN)))))⟩,?_⟩
  have c:∀k,cz p H k->aU k p->CJ (MW (n5 (AG sG [] E0 (n5 (km 0) (n5 (tC (.int 6)) iR))) iR)) (AG E4 [] E0 (n5 (km 1) (n5 (km 2) (n5 (tC (.int 9)) iR)))) [some (.ref p),some (.int (n:Nat))] k Q:=λk j u=>by
   refine⟨_,rfl,p,6,rfl,u,by decide,by decide,λd G hd L J=>⟨_,rfl,by lia,by lia,λD v=>?_⟩⟩;have m9:p≠D:=by obtain⟨a,b,e,_⟩:=J;exact dv e v
   have S:H D=none:=by
    cases e:H D with
    |none=>rfl
    |some o=>rw[(j.trans L) _ _ e (Xz m9)]at v;cases v
   refine C4 (dM p D G (λb=>lS n b/\E5 b)) (by rw[ZY];exact xH (by lia)) (dM.start J v) (λi xs G g=>⟨g.at_,g.len⟩) ?_ ?_
   ·intro i xs H3 hi g Q2 q2;refine⟨_,rfl,_,rfl,p,n,rfl,g.x_,hn,λH4 t b b4 kU ht h1 h2=>?_⟩;have m:=g.more (t:=t) (r:=b) v m9 b4 kU ht ⟨h1,h2⟩;exact q2 _ _ m.1 m.2
   ·intro xs H3 g;obtain⟨bs,h1,h2,h3⟩:=g.rows;rw[ZY]at h3;exact q H3 D bs ((j.trans L).trans g.but) g.x_ S h1 ⟨λb hb=>(h2 b hb).1,.inr ⟨by lia,λb hb=>(h2 b hb).2⟩⟩
  refine⟨_,rfl,_,_,rfl,rfl,_,rfl,?_⟩;refine cM (λhc=>?_) (λhc=>?_)
  ·have n4:n<4:=by have:=ZB hc;lia
   refine⟨_,rfl,p,2,rfl,hp,by decide,by decide,λd k hd j u=>⟨rfl,_,rfl,?_⟩⟩;refine cM (λ_=>?_) (λ_=>c k j u);refine⟨_,rfl,_,rfl,p,n,rfl,u,n4,λG l bs L J V hR hb j9=>q G l bs (j.trans L) J ?_ hR ⟨hb,.inl ⟨n4,j9⟩⟩⟩;cases e:H l with
   |none=>rfl
   |some o=>
    have W:l≠p:=by obtain⟨a,b,e2,_⟩:=u;exact(dv e2 V).symm
    rw[j _ _ e W]at V;cases V
  ·exact bY (c H (cz.refl p H) hp)
end Pr
namespace Qf
open Tr
theorem OM{m:Row->Bool}:∀(bs:List Nat)(a:List Row),bs.length=a.length ->
  ((List.range bs.length).filter (λi=>m (a.getD i []))).map (λi=>bs.getD i 0)=((bs.zip a).filter (λq=>m q.2)).map Prod.fst
 |[],[],_=>rfl
 |b::bs,r::a,h=>by
  have c:=OM (m:=m) bs a (by simpa using h);rw[Zz,List.range_succ_eq_map,Y1,XT,Y1,List.filter_map];have f:((λi=>m ((r::a).getD i []))∘Nat.succ)=λi=>m (a.getD i []):=by funext i;rfl
  have d:((λi=>(b::bs).getD i 0)∘Nat.succ)=λi=>bs.getD i 0:=by funext i;rfl
  rw[f];show List.map _ (if m r=true then _ else _)=List.map _ (if m r=true then _ else _);split
  ·rw[ZG,YL,d,c,ZG];rfl
  ·rw[YL,d,c]
theorem HH{m:Row->Bool}:∀(bs:List Nat)(a:List Row),bs.length=a.length->((bs.zip a).filter (λq=>m q.2)).map Prod.snd=a.filter m
 |[],[],_=>rfl
 |b::bs,r::a,h=>by
  have c:=HH (m:=m) bs a (by simpa using h);rw[XT,Y1,Y1];show List.map _ (if m r=true then _ else _)=_;split
  ·rw[ZG,c]
  ·exact c
end Qf
namespace Pr
open PySem L2 Qf
theorem ba.filter{H d:Hp}{p D:af}{a:List Row}{bs:List af}(m:Row->Bool)(g:bs.length=a.length)(u:∀(i:Nat) b r,bs[i]?=some b->a[i]?=some r->H b=some (.tup (vN r)))(s:aF H d)
  (k:d D=some (.lst (((List.range bs.length).filter (λi=>m (a.getD i []))).map (λi=>V.ref (bs.getD i 0))))):ba d D (a.filter m):=by
 have e:((List.range bs.length).filter (λi=>m (a.getD i []))).map (λi=>V.ref (bs.getD i 0))=(((bs.zip a).filter (λq=>m q.2)).map Prod.fst).map V.ref:=by
  rw[<- OM bs a g,YL];rfl
 rw[e]at k;refine⟨_,k,by rw[<- HH bs a g,Zf,Zf],λi b r l c=>?_⟩;rw[<- HH bs a g]at c;rw[Zg]at l c;obtain⟨q,n,rfl⟩:=Zo.mp l;rw[n]at c;have v:q.2=r:=by simpa using c
 have t:=(Y9.mp (Zy n)).1;obtain⟨j,h,w⟩:=ZQ.mp t;rw[List.length_zip]at h;have f:(bs.zip a)[j]?=some q:=by rw[Ze (by rw[List.length_zip];exact h),w]
 rw[Vx]at f;rw[<- v];exact s _ _ (u j q.1 q.2 f.1 f.2)
abbrev g8:List ar:=["_law_box_here","_law_row","_law_column","_law_side"]
theorem TY:aI g8 g8 (bF sr):=dz
theorem xO0:aI g8 g8 (bF i8):=dz
inductive nI(m:Nat->Nat->Nat->Row->Bool)(vs:List V)(H:Hp)(Q:VK):Prop
 |mk(b:af)(bx:Row)(r c s:Nat)(e0:vs=[.ref b,.int (r:Nat),.int (c:Nat),.int (s:Nat)])(e1:H b=some (.tup (vN bx)))(e2:bx.length=4)(e3:Q (.bl (m r c s bx)) H)
def xp(m:Nat->Nat->Nat->Row->Bool):Sp:=λa H Q _=>nI m a H Q
theorem OL{f:af}{j:ak}(F:aT K "_law_meets" "_law_meets" sr f j):aE P w K mg base aR 1 f j g8 (xp jz):=by
 refine F.ok TY (λl H Q E h=>?_) (λp A i s H l Q E t h=>?_)
 ·obtain⟨b,bx,r,c,s,rfl,_⟩:=h
  rfl
 ·obtain⟨b,bx,r,c,s,rfl,hb,n,q⟩:=h;obtain⟨x,y,g,d,rfl⟩:=xt n;refine aX ⟨_,⟨dH (iq (dG mX (br fZ (pv 1) (pv 3)) (de fY (pv 0) aS) (cU _))
   (iX (dG mX (br fZ (de fY (pv 0) aS) (de fY (pv 0) aS)) (pv 1) (cU _)))).pt (cD (cA iK)) dI⟩,?_⟩
  refine gG ⟨_,⟨cA (mB (j_ lU (pv 2) (br fZ (de fY (pv 0) aS) (de fY (pv 0) aS)) (cU _)) (mZ (j_ lU (de fY (pv 0) aS) (br fZ (pv 2) (pv 3)) (cU _))))⟩,?_⟩;have m:jz r c s [x,y,g,d]=decide (x<r+s/\r<x+g/\c<y+d/\y<c+s):=rfl;rw[m]at q;refine⟨_,rfl,_,rfl,_,_,rfl,rfl,_,rfl,b,_,0,.int (x:Nat),rfl,rfl,bh.of hb,rfl,_,_,rfl,rfl,_,rfl,?_⟩;refine cM (λa=>?_) (λa=>?_)
  ·have:=ZB a;rw[Zi (by lia)]at q;exact bQ q
  ·have h1:=Yx (Yu.mpr a);refine⟨_,rfl,b,_,0,.int (x:Nat),rfl,rfl,bh.of hb,rfl,_,rfl,b,_,2,.int (g:Nat),rfl,rfl,bh.of hb,rfl,_,_,rfl,rfl,_,rfl,_,_,rfl,rfl,_,rfl,?_⟩;refine cM (λa=>?_) (λa=>?_)
   ·have:=ZB a;rw[Zi (by lia)]at q;exact q
   ·have h2:=Yx (Yu.mpr a);refine⟨_,rfl,_,rfl,b,_,1,.int (y:Nat),rfl,rfl,bh.of hb,rfl,_,rfl,b,_,3,.int (d:Nat),rfl,rfl,bh.of hb,rfl,_,_,rfl,rfl,_,_,rfl,rfl,_,rfl,?_⟩;refine cM (λa=>?_) (λa=>?_)
    ·have k:=ZB a;refine⟨_,rfl,b,_,1,.int (y:Nat),rfl,rfl,bh.of hb,rfl,_,rfl,_,rfl,_,_,rfl,rfl,_,_,rfl,rfl,?_⟩;have e:decide ((y:Int)<(c:Int)+(s:Int))=decide (x<r+s/\r<x+g/\c<y+d/\y<c+s):=by
      congr 1;exact propext ⟨λz=>⟨by lia,by lia,by lia,by lia⟩,λz=>by lia⟩
     show Q (.bl (decide ((y:Int)<(c:Int)+(s:Int)))) H;rw[e];exact q
    ·have k:=Yx (Yu.mpr a);rw[Zi (by lia)]at q;exact q
theorem LX{f:af}{j:ak}(F:aT K "_law_has" "_law_has" i8 f j):aE P w K mg base aR 1 f j g8 (xp hasB):=by
 refine F.ok xO0 (λl H Q E h=>?_) (λp A i s H l Q E t h=>?_)
 ·obtain⟨b,bx,r,c,s,rfl,_⟩:=h
  rfl
 ·obtain⟨b,bx,r,c,s,rfl,hb,n,q⟩:=h;obtain⟨x,y,g,d,rfl⟩:=xt n;refine aX ⟨_,⟨dH (iq (dG lU (pv 1) (de fY (pv 0) aS) (cU _))
   (iX (dG lU (br fZ (de fY (pv 0) aS) (de fY (pv 0) aS)) (br fZ (pv 1) (pv 3)) (cU _)))).pt (cD (cA iK)) dI⟩,?_⟩
  refine gG ⟨_,⟨cA (mB (j_ mX (de fY (pv 0) aS) (pv 2) (cU _)) (mZ (j_ mX (br fZ (pv 2) (pv 3)) (br fZ (de fY (pv 0) aS) (de fY (pv 0) aS)) (cU _))))⟩,?_⟩;have m:hasB r c s [x,y,g,d]=decide (x<=r/\r+s<=x+g/\y<=c/\c+s<=y+d):=rfl;rw[m]at q;refine⟨_,rfl,_,rfl,b,_,0,.int (x:Nat),rfl,rfl,bh.of hb,rfl,_,_,rfl,rfl,_,rfl,?_⟩;refine cM (λa=>?_) (λa=>?_)
  ·have:=ZB a;rw[Zi (by lia)]at q;exact bQ q
  ·have h1:=Yx (Yu.mpr a);refine⟨_,rfl,b,_,0,.int (x:Nat),rfl,rfl,bh.of hb,rfl,_,rfl,b,_,2,.int (g:Nat),rfl,rfl,bh.of hb,rfl,_,_,rfl,rfl,_,rfl,_,rfl,_,_,rfl,rfl,_,_,rfl,rfl,_,rfl,?_⟩;refine cM (λa=>?_) (λa=>?_)
   ·have:=ZB a;rw[Zi (by lia)]at q;exact q
   ·have h2:=Yx (Yu.mpr a);refine⟨_,rfl,b,_,1,.int (y:Nat),rfl,rfl,bh.of hb,rfl,_,rfl,_,_,rfl,rfl,_,rfl,?_⟩;refine cM (λa=>?_) (λa=>?_)
    ·have k:=ZB a;refine⟨_,rfl,_,rfl,_,_,rfl,rfl,_,rfl,b,_,1,.int (y:Nat),rfl,rfl,bh.of hb,rfl,_,rfl,b,_,3,.int (d:Nat),rfl,rfl,bh.of hb,rfl,_,_,rfl,rfl,_,_,rfl,rfl,?_⟩;have e:decide ((c:Int)+(s:Int)<=(y:Int)+(d:Int))=decide (x<=r/\r+s<=x+g/\y<=c/\c+s<=y+d):=by
      congr 1;exact propext ⟨λz=>⟨by lia,by lia,by lia,by lia⟩,λz=>by lia⟩
     show Q (.bl (decide ((c:Int)+(s:Int)<=(y:Int)+(d:Int)))) H;rw[e];exact q
    ·have k:=Yx (Yu.mpr a);rw[Zi (by lia)]at q;exact q
end Pr
namespace Qf
open Tr
def qt(k:Nat)(m:List Row)(r c i:Nat):Tr:=bt k m (r+2^k*(i/2)) (c+2^k*(i%2))
def qL(k:Nat)(m:List Row)(r c:Nat)(L:List Tr):Nat->List Tr
 |0=>L
 |i+1=>post (qt k m r c i) (qL k m r c L i)
theorem Ah{k:Nat}{m:List Row}{r c:Nat}{L:List Tr}(h:Ord L):∀i,Ord (qL k m r c L i)
 |0=>h
 |i+1=>(bU _ _ (Ah h i)).1
theorem xP{k:Nat}{m:List Row}{r c:Nat}{L:List Tr}(h:Ord L){j:Nat}:∀i,j<i->In (qL k m r c L i) (qt k m r c j)
 |i+1,a=>by
  by_cases e:j=i
  ·rw[e];exact(bU _ _ (Ah h i)).2
  ·exact(xP h i (oG a e)).post _
theorem TX{k:Nat}{m:List Row}{r c:Nat}{L:List Tr}(h:Ord L){i:Nat}{t:Tr}(a:In (qL k m r c L i) t):name (qL k m r c L (i+1)) t=name (qL k m r c L i) t:=by
 obtain⟨s,e⟩:=b_ (qt k m r c i) (qL k m r c L i);show name (post _ _) t=_;rw[e];exact eR a (Ah h i)
theorem HZ{k:Nat}{m:List Row}{r c:Nat}{L:List Tr}:∀i,(qL k m r c L i).length<=L.length+i*sz k
 |0=>by show L.length<=_;exact iO
 |i+1=>by
  have h1:=HZ (k:=k) (m:=m) (r:=r) (c:=c) (L:=L) i;have h2:=xq (qt k m r c i) (qL k m r c L i);have a:=xQ k m (r+2^k*(i/2)) (c+2^k*(i%2));show(post _ _).length<=_;rw[Y3];unfold qt at h2;unfold qt;lia
def names(k:Nat)(m:List Row)(r c:Nat)(L:List Tr)(i:Nat):List Nat:=(List.range i).map λj=>name (qL k m r c L i) (qt k m r c j)
theorem qX9{k:Nat}{m:List Row}{r c:Nat}{L:List Tr}(h:Ord L)(i:Nat):names k m r c L (i+1)=names k m r c L i++[name (post (qt k m r c i) (qL k m r c L i)) (qt k m r c i)]:=by
 unfold names;rw[Xk,ZS];congr 1;exact XB λj a=>TX h (xP h i (Yv.mp a))
theorem xO1(k:Nat)(a:List Row)(r c:Nat)(h1:met a r c (2^(k+1))≠[])(h2:(met a r c (2^(k+1))).any (hasB r c (2^(k+1)))=false):
  bt (k+1) a r c=mk (qt k (met a r c (2^(k+1))) r c 0) (qt k (met a r c (2^(k+1))) r c 1) (qt k (met a r c (2^(k+1))) r c 2) (qt k (met a r c (2^(k+1))) r c 3):=by
 unfold bt;rw[Zl h1,Zl (by rw[h2];decide)];unfold qt;simp
theorem DF{a:List Row}{r c s:Nat}:(met a r c s).length<=a.length:=List.length_filter_le _ _
theorem P_{a:List Row}{r c:Nat}(h:met a r c 1≠[]):(met a r c 1).any (hasB r c 1)=true:=by
 obtain⟨b,hb⟩:=List.exists_mem_of_ne_nil _ h;refine XI.mpr ⟨b,hb,?_⟩;have m:b.getD 0 0<r+1/\r<b.getD 0 0+b.getD 2 0/\c<b.getD 1 0+b.getD 3 0/\b.getD 1 0<c+1:=ZB (Y9.mp hb).2;exact Zh ⟨by lia,by lia,by lia,by lia⟩
theorem E3:∀{k n:Nat},k<=n->sz k<=sz n
 |k,0,h=>by rw[show k=0 from LJ h];exact Zb _
 |k,n+1,h=>by
  by_cases e:k=n+1
  ·rw[e];exact Zb _
  ·have:=E3 (show k<=n from LL h e);show _<=4*sz n+1;lia
end Qf
namespace L2
open PySem
theorem Px{H:Hp}{n:Nat}{te:TE}{σ:St}{Fin:Hp->Prop}{D:af}(j:Nat->List V->Hp->Prop)(hsz:n<sizeLine)(i0:j 0 [] (upd H D (.lst [])))(u:∀i a c,j i a c->c D=some (.lst a)/\a.length<=i)
  (step:∀i a c,i<n->j i a c->∀r:VK,(∀v f,f D=some (.lst a)->j (i+1) (a++[v]) (upd f D (.lst (a++[v])))->r v f)->te (some (.int (0+(i:Int)))::σ) c r)
  (fin:∀a c,j n a c->Fin c):
  ∃W:Nat->Nat->List V->Hp->Prop,(∃m,W 0 m [] (upd H D (.lst []))) /\
   ∀i m a c,W i m a c->c D=some (.lst a)/\a.length<sizeLine/\(((lA 0 n).stop i c/\Fin c)\/((lA 0 n).go i c/\∀y f,(lA 0 n).lF i c y f->∀l:St,l.length=1 ->
    fu 0 y (l++σ) f λp C=>xW p C λb q=>if b=true then te p q λv k=>k D=some (.lst a)/\∃d,d<m/\W (i+1) d (a++[v]) (upd k D (.lst (a++[v])))else ∃d,d<m/\W (i+1) d a q)):=by
 obtain⟨W,s,w⟩:=C4 (te:=te) (σ:=σ) j hsz i0 u step fin;refine⟨W,s,λi m a c h=>?_⟩;obtain⟨h1,h2,A⟩:=w i m a c h;refine⟨h1,h2,A.imp id λ⟨g,y⟩=>⟨g,λx f B l t=>?_⟩⟩;obtain⟨o,rfl⟩:=L2.AI t
 ·
  show(if(true:Bool)=true then te (some x::σ) f (λv k=>k D=some (.lst a)/\∃d,d<m/\W (i+1) d (a++[v]) (upd k D (.lst (a++[v]))))else ∃d,d<m/\W (i+1) d a f);rw[Zr rfl];exact y x f B
end L2
namespace Qf
theorem TV:∀{k:Nat}{a:List Row}{r c:Nat},met a r c (2^k)=[]->bt k a r c=.z
 |0,_,_,_,h=>Zr h
 |_+1,_,_,_,h=>Zr h
theorem TU:∀{k:Nat}{a:List Row}{r c:Nat},met a r c (2^k)≠[]->(met a r c (2^k)).any (hasB r c (2^k))=true->bt k a r c=.o
 |0,_,_,_,h,g=>(Zl h).trans (Zr g)
 |_+1,_,_,_,h,g=>(Zl h).trans (Zr g)
end Qf
namespace Pr
open PySem L2 Qf
abbrev sV:List ar:=["_law_rows","_law_boxes_here","_law_row","_law_column","_law_side"]
abbrev qK:List ar:=["_law_rows","_law_boxes_here","_law_row","_law_column","_law_side","_law_met","_law_half","_law_quarters"]
theorem g6:aI qK sV (bF sI):=dz
inductive ub(k:Nat)(vs:List V)(H:Hp)(Q:VK):Prop
 |mk(e bp:af)(aD:List Row)(r c:Nat)(L:List Tr)(e0:vs=[.ref e,.ref bp,.int (r:Nat),.int (c:Nat),.int ((2^k:Nat):Int)])(e1:ba H bp aD)(e2:(∀b∈aD,b.length=4))(e3:aD.length<=1150)(e4:bp≠e)(e5:Tr.Ord L)(e6:H e=some (.dT (tK (Tr.rowsOf L))))(e7:L.length+sz k<=6000000)(e8:∀H',cz e H H'->H' e=some (.dT (tK (Tr.rowsOf (Tr.post (bt k aD r c) L))))->Q (.int (Tr.name (Tr.post (bt k aD r c) L) (bt k aD r c):Nat)) H')
def CH(k:Nat):Sp:=λa H Q _=>ub k a H Q
theorem P9{f fM fH:af}{fd f_ kg:ak}(F:aT K "_law_number" "_law_number" sI f fd)(B:ee mg)(hN:mg "_law_number"=some (.ref f))(bN:Binds K fd sV [])
  (hM:mg "_law_meets"=some (.ref fM)) (FM:aT K "_law_meets" "_law_meets" sr fM f_) (bM:Binds K f_ g8 [])
  (hH:mg "_law_has"=some (.ref fH)) (FH:aT K "_law_has" "_law_has" i8 fH kg) (bH:Binds K kg g8 []){m:Nat}(hk:m<=12){sp':Sp}(GI:aE P w K mg base aR (m+1) f fd sV sp') (kA:∀j,m=j+1->sp'=CH j):aE P w K mg base aR (m+2) f fd sV (CH m):=by
 have GM:aE P w K mg base aR 1 fM f_ g8 (xp jz):=OL FM;have GH:aE P w K mg base aR 1 fH kg g8 (xp hasB):=LX FH;refine F.ok g6 (λvs H Q E h=>?_) (λbw A outer s H vs Q E Y h=>?_)
 ·obtain⟨e,bp,n,r,c,L,rfl,_⟩:=h
  rfl
 ·obtain⟨e,bp,n,r,c,L,rfl,hB,h4,kG,wB,J,he,hLs,q⟩:=h;have jG:aZ 1 _:=Y.mono uX;have hu:A.units+3+1<cLine:=by
   have h2:A.units+3+16*(m+1)+200<cLine:=Y.un;lia
  refine aX ⟨_,⟨c8 5 g6.nd (PD qK (bF sI) rfl rfl rfl g6.nd (zR (pv 1))
   (λcl C fp aH aJ=>gP (bJ GM jG hM FM.kp bM (aG (pv 0) (aG (pv 3) (aG (pv 4) (aG (pv 5) aN)))))) (λcl C fp aH aJ=>pv 0))⟩,?_⟩
  refine aX ⟨_,⟨dH (PW.pt (iq (dG (Ar Y) (pv 5) (g_ aN) (cU _)) (iX (gP (cQ (Gy rfl) (by rfl) B.any WZ (aG (og qK (bF sI) rfl rfl rfl g6.nd (zR (pv 5))
   (λcl C fp aH aJ=>bJ GH jG hH FH.kp bH (aG (pv 0) (aG (pv 3) (aG (pv 4) (aG (pv 5) aN)))))) aN))))))
   (cD (cA (oh q01 (by rfl) B.int WV (aG (j_ (Ig Y) (pv 5) (g_ aN) (cU _)) aN)))) dI⟩,?_⟩
  refine aX ⟨_,⟨c8 6 g6.nd (br sM (pv 4) aS)⟩,?_⟩;refine aX ⟨_,⟨Qj (i0:=7) qK (bF sI) rfl rfl rfl g6.nd rfl rfl (sT (by rfl) B.range (aG aS aN)) (λcl C fp aH aJ=>cg.go ⟨bJ GI Y hN F.kp bN (cH.go (.cons ⟨pv 1⟩ (.cons ⟨pv 6⟩
   (.cons ⟨br fZ (pv 3) (br pR (pv 7) (br sM (pv 0) aS))⟩ (.cons ⟨br fZ (pv 4) (br pR (pv 7) (br sv (pv 0) aS))⟩ (.cons ⟨pv 7⟩ .nil rfl) rfl) rfl) rfl) rfl))⟩)⟩,?_⟩
  refine aX ⟨_,⟨dH (dG (xH8 Y) (pv 7) (cg.go ⟨iM (cH.go (.cons ⟨g_ (cH.go (.cons fQ (.cons fQ (.cons fQ (.cons fQ .nil rfl) rfl) rfl) rfl))⟩ (.cons ⟨g_ (cH.go (.cons fQ (.cons fQ (.cons fQ (.cons fQ .nil rfl) rfl) rfl) rfl))⟩ .nil rfl) rfl))⟩) (by first|rfl|decide|with_unfolding_all rfl))
   (cD (cA (de m7 (pv 7) aS))) dI⟩,?_⟩
  refine aX ⟨_,⟨dH (Hc (q16 hu (oh (tV K rfl) (by rfl) B.tuple ZZ (aG (pv 7) aN)) (pv 0)))
   (cD (Qu hu (pv 0) (oh (tV K rfl) (by rfl) B.tuple ZZ (aG (pv 7) aN)) (br fZ (cQ q66 (by rfl) B.len Ye (aG (pv 0) aN)) aS) (by rfl))) dI⟩,?_⟩
  refine gG ⟨_,⟨cA (Uj hu (pv 0) (oh (tV K rfl) (by rfl) B.tuple ZZ (aG (pv 7) aN)) (λ_ _=>rfl))⟩,?_⟩;obtain⟨bs,hb,j9,jF⟩:=id hB;have jL:(bs.map V.ref).length=bs.length:=Zf ..;refine⟨_,rfl,bp,rfl,⟨_,cu.of hb⟩,λD hD=>Dp hD (λi=>jz r c (2^m) (n.getD i [])) (λi=>.ref (bs.getD i 0)) (C7 (K:=K) hb) (by rw[jL];exact xJ (by lia)) ?_ ?_⟩
  ·intro j x X hj N s2 os ho Q1 Q2 q1 q2;rw[Zg]at N;obtain⟨b,vX,rfl⟩:=Zo.mp N;have kM:j<n.length:=by rw[jL]at hj;exact m_ hj j9
   have hg:n[j]?=some (n.getD j []):=by rw[ZF,Ze kM];rfl
   have eb:bs.getD j 0=b:=by rw[ZF,vX];rfl
   rw[eb]at q2;obtain⟨o1,rfl⟩:=L2.AI ho
   ·
    refine⟨_,rfl,_,rfl,_,rfl,_,rfl,b,n.getD j [],r,c,2^m,rfl,s2 _ _ (jF j b _ vX hg),h4 _ (Zy hg),_,rfl,?_⟩;refine cM (λR=>⟨_,rfl,q2 R X (aF.refl _)⟩) (λR=>q1 (Yu.mpr R) X (aF.refl _))
  ·intro X s2 k8;rw[jL]at k8;have vY:ba X D (met n r c (2^m)):=ba.filter (p:=bp) (jz r c (2^m)) j9 jF s2 k8;have vJ:(met n r c (2^m)).length<=1150:=Zw DF kG;have wK:∀b∈met n r c (2^m),b.length=4:=λb hb=>h4 b (Y9.mp hb).1;have vO:=s2 _ _ he;have QK:D≠e:=(dv he hD).symm;refine⟨_,rfl,(by show 0<=sizeLine;decide),λl hl=>?_⟩;refine⟨_,_,xM (vY.same (bf hl)),.lst bg .nil,uK _,rfl,xO _,_,rfl,?_⟩;rw[zL];have S3:aF H (upd X l (.lst [])):=s2.trans (bf hl);have kR:=vY.same (bf (o:=.lst []) hl);have BN:=cT (u:=.lst []) vO hl;generalize upd X l (.lst [])=H3 at S3 kR BN;cases mM:met n r c (2^m)with
   |nil=>
    have hT:bt m n r c=.z:=TV mM;rw[hT]at q;rw[mM]at kR;refine bQ (bQ ?_);refine⟨_,rfl,(by show 0<=sizeLine;decide),λl2 T=>?_⟩;refine⟨_,_,xM (kR.same (bf T)),.lst bg .nil,uK _,rfl,xO _,.inr ⟨_,rfl,?_⟩⟩;exact q _ (cz.of (S3.trans (bf T))) (cT BN T)
   |cons b0 ml=>
    have Z:met n r c (2^m)≠[]:=by rw[mM];exact λz=>nomatch z
    rw[<- mM];clear mM;have wA:(met n r c (2^m)).isEmpty=false:=by
     cases hq:met n r c (2^m)with
     |nil=>exact absurd hq Z
     |cons _ _=>rfl
    rw[wA];refine bY ?_;obtain⟨ms,wJ,oX,ja⟩:=id kR;have jW:(ms.map V.ref).length=(met n r c (2^m)).length:=by rw[Zf,oX]
    refine⟨_,rfl,D,rfl,⟨_,cu.of wJ⟩,λD2 J7=>sR J7 (λi y _=>y=.bl (hasB r c (2^m) ((met n r c (2^m)).getD i []))) (C7 (K:=K) wJ) (by rw[jW];exact xJ (A6 vJ)) (λ_ _ _ _ _ _ h=>h) ?_ ?_⟩
    ·intro j x H4 hj N s4 Q' hq;rw[Zg]at N;obtain⟨b,vX,rfl⟩:=Zo.mp N;have kM:j<(met n r c (2^m)).length:=by rw[jW]at hj;exact hj
     have hg:(met n r c (2^m))[j]?=some ((met n r c (2^m)).getD j []):=by rw[ZF,Ze kM];rfl
     exact⟨_,rfl,_,rfl,_,rfl,_,rfl,b,_,r,c,2^m,rfl,s4 _ _ (ja j b _ vX hg),wK _ (Zy hg),hq _ _ (aF.refl _) rfl⟩
    ·intro ys H4 s4 jR jY k9;have ey:ys=((met n r c (2^m)).map (hasB r c (2^m))).map V.bl:=by
      refine qD (by rw[jY,jW,Zf,Zf]) λj x N=>?_;have kM:j<(met n r c (2^m)).length:=by
       have:=(cF N).1;rw[jY,jW]at this;exact this
      rw[k9 j x N,Zg,Zg,Ze kM,ZF,Ze kM]
      rfl
     subst ey;refine⟨D2,_,rfl,jR,_,rfl,?_⟩;have pD:((met n r c (2^m)).map (hasB r c (2^m))).any id=(met n r c (2^m)).any (hasB r c (2^m)):=by rw[List.any_map];rfl
     rw[pD];have S4:=S3.trans s4;have wD:=kR.same s4;have Ef:=s4 _ _ BN;cases hh:(met n r c (2^m)).any (hasB r c (2^m))with
     |true=>
      have hT:bt m n r c=.o:=TU Z hh;rw[hT]at q;refine bQ ?_;refine⟨_,rfl,(by show 0<=sizeLine;decide),λl2 T=>?_⟩;refine⟨_,_,xM (wD.same (bf T)),.lst bg .nil,uK _,rfl,xO _,.inr ⟨_,rfl,?_⟩⟩;rw[zL,wA];exact q _ (cz.of (S4.trans (bf T))) (cT Ef T)
     |false=>
      obtain⟨k,rfl⟩:∃k,m=k+1:=by
       rcases m with _|k
       ·simp only[Nat.pow_zero]at Z hh;rw[P_ Z]at hh;cases hh
       ·exact⟨k,rfl⟩
      cases kA k rfl;refine bY ?_;have hT:=xO1 k n r c Z hh;obtain⟨p1,p2⟩:=qA (show k<=12 from gQ hk);obtain⟨p3,p4⟩:=qA hk;have pB:(((2^(k+1):Nat):Int))/2=((2^k:Nat):Int):=by
       rw[YS];exact LA
      clear wA wJ oX ja jW jR jY k9 pD vY kR k8 S3 s4 jL;generalize met n r c (2^(k+1))=m at hT wD vJ wK Z hh;refine⟨_,rfl,_,_,rfl,rfl,⟨by decide,by decide⟩,?_⟩;refine⟨_,rfl,by decide,by decide,λI vZ=>?_⟩;have uR:I≠e:=(dv Ef vZ).symm;refine Px (λi xs G=>cz e H4 G/\G I=some (.lst xs)/\xs=vN (names k m r c L i)/\G e=some (.dT (tK (Tr.rowsOf (qL k m r c L i))))) (by decide) ⟨cz.of (bf vZ),bg,rfl,cT Ef vZ⟩ (λi xs G h=>⟨h.2.1,by rw[h.2.2.1,mz];simp[names]⟩) ?_ ?_
      ·rintro i xs G hi ⟨b5,O,rfl,yw⟩ Q2 q2;have tT:[V.ref e,V.ref D,V.int ((r:Int)+((2^(k+1):Nat):Int)/2*((0+(i:Int))/2)),V.int ((c:Int)+((2^(k+1):Nat):Int)/2*((0+(i:Int))%2)),V.int (((2^(k+1):Nat):Int)/2)]=[V.ref e,V.ref D,V.int ((r+2^k*(i/2):Nat):Int),V.int ((c+2^k*(i%2):Nat):Int),V.int ((2^k:Nat):Int)]:=by
        rw[pB,WS,Ve,Vf,VJ,Ve,Vf,VL]
        rfl
       refine⟨_,rfl,_,rfl,_,rfl,_,rfl,_,rfl,_,_,rfl,rfl,⟨by decide,by decide⟩,_,_,rfl,rfl,.inl ⟨by lia,by lia⟩,_,_,rfl,rfl,_,rfl,_,rfl,_,rfl,_,_,rfl,rfl,(by show(0:Int)<2;decide),_,_,rfl,rfl,.inl ⟨by lia,by lia⟩,_,_,rfl,rfl,_,rfl,
        e,D,m,r+2^k*(i/2),c+2^k*(i%2),qL k m r c L i,tT,wD.but b5 QK Ef (λu z=>by cases z),wK,vJ,QK,Ah J i,yw,?_,λM b6 yv=>?_⟩
       ·have h1:=HZ (k:=k) (m:=m) (r:=r) (c:=c) (L:=L) i;have h2:sz (k+1)=4*sz k+1:=rfl;have h3:i*sz k<=3*sz k:=YO _ (by lia);lia
       ·refine q2 _ _ (b6 _ _ O uR) ⟨?_,bg,?_,?_⟩
        ·intro b o z nb;rw[cK (dv z vZ)];exact b6 _ _ (b5 _ _ z nb) nb
        ·rw[qX9 J];unfold vN;rw[ZS]
         rfl
        ·rw[cK (Xz uR)];exact yv
      ·rintro xs G ⟨b5,O,rfl,yw⟩;have O:G I=some (.lst (vN (names k m r c L 4))):=O;have yw:G e=some (.dT (tK (Tr.rowsOf (qL k m r c L 4)))):=yw;have O4:=Ah (k:=k) (m:=m) (r:=r) (c:=c) J 4;have IT:=xP (k:=k) (m:=m) (r:=r) (c:=c) J (j:=0) 4 (by decide);have U:=xP (k:=k) (m:=m) (r:=r) (c:=c) J (j:=1) 4 (by decide);have IS:=xP (k:=k) (m:=m) (r:=r) (c:=c) J (j:=2) 4 (by decide);have IQ:=xP (k:=k) (m:=m) (r:=r) (c:=c) J (j:=3) 4 (by decide);have vK:=HZ (k:=k) (m:=m) (r:=r) (c:=c) (L:=L) 4;have hs4:sz (k+1)=4*sz k+1:=rfl;have W:qL k m r c L 4=Tr.post (qt k m r c 3) (Tr.post (qt k m r c 2) (Tr.post (qt k m r c 1) (Tr.post (qt k m r c 0) L))):=rfl;have en:names k m r c L 4=[Tr.name (qL k m r c L 4) (qt k m r c 0),Tr.name (qL k m r c L 4) (qt k m r c 1),Tr.name (qL k m r c L 4) (qt k m r c 2),Tr.name (qL k m r c L 4) (qt k m r c 3)]:=rfl;rw[en]at O;rw[hT]at q;generalize qL k m r c L 4=g at yw O4 IT U IS IQ vK W O;generalize qt k m r c 0=t0,qt k m r c 1=t1,qt k m r c 2=t2,qt k m r c 3=v at IT U IS IQ W O q;have B5:cz e H G:=(cz.of S4).trans b5;refine⟨_,rfl,(by show 4<=sizeLine;decide),λa ha=>⟨(by show 4<=sizeLine;decide),λb l5=>⟨(by show 2<=sizeLine;decide),λt ht=>?_⟩⟩⟩;have S6:aF G (upd (upd (upd G a (.lst [.int 0,.int 0,.int 0,.int 0])) b (.lst [.int 1,.int 1,.int 1,.int 1])) t (.tup [.ref a,.ref b])):=((bf ha).trans (bf l5)).trans (bf ht);have da:aY (upd (upd (upd G a (.lst [.int 0,.int 0,.int 0,.int 0])) b (.lst [.int 1,.int 1,.int 1,.int 1])) t (.tup [.ref a,.ref b])) (.ref a) (dL [0,0,0,0]):=.lst (cT (cT bg l5) ht) (aO.ints [0,0,0,0]);have db:aY (upd (upd (upd G a (.lst [.int 0,.int 0,.int 0,.int 0])) b (.lst [.int 1,.int 1,.int 1,.int 1])) t (.tup [.ref a,.ref b])) (.ref b) (dL [1,1,1,1]):=.lst (cT bg ht) (aO.ints [1,1,1,1]);have vP:=S6 _ _ O;have yv:=S6 _ _ yw;have QX:upd (upd (upd G a (.lst [.int 0,.int 0,.int 0,.int 0])) b (.lst [.int 1,.int 1,.int 1,.int 1])) t (.tup [.ref a,.ref b]) t=some (.tup [.ref a,.ref b]):=bg;generalize upd (upd (upd G a (.lst [.int 0,.int 0,.int 0,.int 0])) b (.lst [.int 1,.int 1,.int 1,.int 1])) t (.tup [.ref a,.ref b])=M at S6 da db vP yv QX ⊢;refine⟨t,[.ref a,.ref b],[dL [0,0,0,0],dL [1,1,1,1]],dL ([Tr.name g t0,Tr.name g t1,Tr.name g t2,Tr.name g v].map λx:Nat=>(x:Int)),rfl,QX,.cons da (.cons db .nil),.lst (vP.trans (Yo (λz=>some (HO.lst z)) (qw _))) (aO.ints _),Dy _,(by simp[PyData.canLayAll0,Dy]),Zw (OO _) (by decide),?_⟩;rw[XX,XX,List.any_nil,Ic,Ic,Bool.or_false];have B6:cz e H M:=B5.trans (cz.of S6);refine⟨_,rfl,?_⟩;have hk:∀s∈Tr.kids (.nd t0 t1 t2 v),Tr.In g s:=λs hs=>by
        have:s=t0\/s=t1\/s=t2\/s=v:=by simpa[Tr.kids]using hs
        rcases this with rfl|rfl|rfl|rfl<;>assumption
       refine cM (λR=>?_) (λR=>?_)
       ·rcases VU _ _▸R with z|z
        ·obtain⟨eL,em,e0⟩:=kp0 W (ZB z);rw[em]at q;have q':=q M B6 (show M e=some (.dT (tK (Tr.rowsOf L)))from eL▸yv);exact⟨_,rfl,I,_,0,.int (Tr.name g t0:Nat),rfl,rfl,cu.of vP,rfl,by rw[e0];exact q'⟩
        ·obtain⟨eL,em,e0⟩:=kp1 W (ZB z);rw[em]at q;have q':=q M B6 (show M e=some (.dT (tK (Tr.rowsOf L)))from eL▸yv);exact⟨_,rfl,I,_,0,.int (Tr.name g t0:Nat),rfl,rfl,cu.of vP,rfl,by rw[e0];exact q'⟩
       ·have vE:=kpn R;rw[vE]at q;have tw:(Tr.kids (.nd t0 t1 t2 v)).map (Tr.name g)=[Tr.name g t0,Tr.name g t1,Tr.name g t2,Tr.name g v]:=rfl;have kK:=T1 O4 hk;rw[tw]at kK;refine⟨_,rfl,I,_,rfl,.inl ⟨cu.of vP,λu hu=>?_⟩⟩;have S7:=bf (o:=.tup (vN [Tr.name g t0,Tr.name g t1,Tr.name g t2,Tr.name g v])) hu;have yu:=S7 _ _ yv;have QV:upd M u (.tup (vN [Tr.name g t0,Tr.name g t1,Tr.name g t2,Tr.name g v])) u=some (.tup ((eU [Tr.name g t0,Tr.name g t1,Tr.name g t2,Tr.name g v]).map kV)):=by rw[bg,uA]
        have wP:=S7 _ _ vP;have B7:=B6.trans (cz.of (e:=e) S7);generalize upd M u (.tup (vN [Tr.name g t0,Tr.name g t1,Tr.name g t2,Tr.name g v]))=H7 at S7 yu QV wP B7 ⊢;refine⟨_,rfl,e,_,rfl,dN.t yu QV,_,rfl,?_⟩;rw[L6];by_cases hm:[Tr.name g t0,Tr.name g t1,Tr.name g t2,Tr.name g v]∈Tr.rowsOf g
        ·rw[Zr hm];refine bY ?_;have wR:=kK.mp hm;obtain⟨wC,eL⟩:=kpi J W wR;rw[zK (.inr (.inr wC))]at q;rw[<- eL]at q wC;refine⟨_,rfl,_,rfl,I,_,rfl,.inl ⟨cu.of wP,λu2 S=>⟨e,_,rfl,L5 O4 wC (cT yu S) bg,?_⟩⟩⟩;exact q _ (B7.trans (cz.of (bf S))) (cT yu S)
        ·rw[Zl hm];refine bQ ?_;have wR:Tr.nd t0 t1 t2 v∉g:=λz=>hm (kK.mpr z);have ep:=kpx W wR;have O5:=(Tr.bU (.nd t0 t1 t2 v) L J).1;rw[ep]at q O5;have er:=PY O4 hk;rw[tw]at er;have jA:(tK (Tr.rowsOf g)).length=g.length:=by unfold tK;rw[C5,Tr.bb]
         refine⟨_,rfl,e,_,rfl,yu,_,_,rfl,rfl,_,rfl,_,rfl,I,_,rfl,.inl ⟨cu.of wP,λu2 S=>?_⟩⟩;have he8:=cT (u:=.tup (vN [Tr.name g t0,Tr.name g t1,Tr.name g t2,Tr.name g v])) yu S;refine⟨e,_,rfl,iJ.t he8 (by rw[bg,uA]) (by rw[jA];exact Y0 (show g.length<=6000000 by lia) (by decide)),?_⟩;have KD:=xI6 O4 hk hm;rw[KD];have Rq:upd (upd H7 u2 (.tup (vN [Tr.name g t0,Tr.name g t1,Tr.name g t2,Tr.name g v]))) e (.dT (tK (Tr.rowsOf (g++[.nd t0 t1 t2 v])))) I=some (.lst (vN [Tr.name g t0,Tr.name g t1,Tr.name g t2,Tr.name g v])):=by
          rw[cK uR];exact cT wP S
         have JM:upd (upd H7 u2 (.tup (vN [Tr.name g t0,Tr.name g t1,Tr.name g t2,Tr.name g v]))) e (.dT (tK (Tr.rowsOf (g++[.nd t0 t1 t2 v])))) e=some (.dT (tK (Tr.rowsOf (g++[.nd t0 t1 t2 v])))):=bg;have B8:cz e H (upd (upd H7 u2 (.tup (vN [Tr.name g t0,Tr.name g t1,Tr.name g t2,Tr.name g v]))) e (.dT (tK (Tr.rowsOf (g++[.nd t0 t1 t2 v]))))):=(B7.trans (cz.of (bf S))).trans cz.upd;generalize upd (upd H7 u2 (.tup (vN [Tr.name g t0,Tr.name g t1,Tr.name g t2,Tr.name g v]))) e (.dT (tK (Tr.rowsOf (g++[.nd t0 t1 t2 v]))))=H8 at Rq JM B8 ⊢;have Em:∀s,Tr.In g s->Tr.name (g++[.nd t0 t1 t2 v]) s=Tr.name g s:=λs hs=>Tr.eR hs O4;refine⟨_,rfl,_,rfl,I,_,rfl,.inl ⟨cu.of Rq,λu3 Jb=>⟨e,_,rfl,L5 (a:=t0) (b:=t1) (c:=t2) (d:=v) O5 (by simp) (cT JM Jb) (by rw[bg,Em t0 IT,Em t1 U,Em t2 IS,Em v IQ]),?_⟩⟩⟩;exact q _ (B8.trans (cz.of (bf Jb))) (cT JM Jb)
theorem LW{f q p:af}{a s r:ak}(F:aT K "_law_number" "_law_number" sI f a)(B:ee mg)(b:mg "_law_number"=some (.ref f))(g:Binds K a sV [])
  (d:mg "_law_meets"=some (.ref q)) (i:aT K "_law_meets" "_law_meets" sr q s) (l:Binds K s g8 [])
  (c:mg "_law_has"=some (.ref p)) (n:aT K "_law_has" "_law_has" i8 p r) (m:Binds K r g8 []):∀k,k<=12->aE P w K mg base aR (k+2) f a sV (CH k)
 |0,h=>P9 F B b g d i l c n m h (sp':=λ_ _ _ _=>False) ⟨λ_ _ _ _ h=>h.elim,λ_ _ _ _ _ _ _ _ _ _ _ _ _ h=>h.elim⟩ (λj e=>nomatch e)
 |k+1,h=>P9 F B b g d i l c n m h (LW F B b g d i l c n m k (gQ h)) (λj e=>by cases e;rfl)
def mS(n:Nat)(a:List Row):Nat:=Tr.name (Tr.post (bt n a 0 0) []) (bt n a 0 0)
def mq(n:Nat)(a:List Row):List Row:=Tr.rowsOf (Tr.post (bt n a 0 0) [])
theorem TR{n:Nat}{a:List Row}(b:n<=12):Canon n (mS n a) (mq n a):=qX3 b (Aj n a 0 0) (x5 n a 0 0)
theorem KY{n:Nat}{a:List Row}:T (mq n a) (mS n a)=bt n a 0 0:=by
 obtain⟨c,b⟩:=Tr.bU (bt n a 0 0) [] Tr.eO;exact uC c _ b
abbrev IC:List ar:=["_law_n","_law_boxes_here","_law_rows","_law_top"]
theorem nS:aI IC ["_law_n","_law_boxes_here"] (bF Ao):=dz
end Pr
namespace Qf
open Tr
theorem P8{rows:List Row}(ok:fh rows){q:Nat}(b:q<rows.length+2):(T rows q=z<->q=0)/\(T rows q=o<->q=1):=by
 by_cases a:q<2
 ·match q,a with
  |0,_=>rw[n6];exact⟨⟨λ_=>rfl,λ_=>rfl⟩,⟨λh=>(nomatch h),λh=>(nomatch h)⟩⟩
  |1,_=>rw[nZ];exact⟨⟨λh=>(nomatch h),λh=>(nomatch h)⟩,⟨λ_=>rfl,λ_=>rfl⟩⟩
 ·obtain⟨j,f,d,i,g,rfl,c⟩:=sj ok b a;rw[lT ok c];exact⟨⟨λh=>(nomatch h),λh=>by lia⟩,⟨λh=>(nomatch h),λh=>by lia⟩⟩
theorem q80{n top:Nat}{rows:List Row}(c:Canon n top rows):dep (T rows top)<=n:=by
 obtain⟨f,b⟩:=qX2 c;obtain⟨a,d⟩:=bU (T rows top) [] eO;have h:=xr a _ d;rw[<- f,<- b]at h;rw[<- h];exact c.deep
def qr(i:Nat):Tr->Tr
 |.nd a b c d=>[a,b,c,d].getD i .z
 |t=>t
theorem Cq{rows:List Row}(ok:fh rows){p i:Nat}{r:Row}{x:Nat}(g:rows[p]?=some r)(h:i<4)(f:r[i]?=some x):T rows x=qr i (T rows (p+2)):=by
 obtain⟨a,b,c,d,rfl⟩:=xt (ok p r g).1;rw[lT ok g]
 match i,h with
 |0,_=>cases f;rfl
 |1,_=>cases f;rfl
 |2,_=>cases f;rfl
 |3,_=>cases f;rfl
theorem LV{i k:Nat}(g:i<4):∀(t:Tr),dep t<=k+1->dep (qr i t)<=k
 |.z,_=>Zt _
 |.o,_=>Zt _
 |.nd a b c d,h=>by
  have f:mx [dep a,dep b,dep c,dep d]<=k:=by
   have:1+mx [dep a,dep b,dep c,dep d]<=k+1:=h;lia
  have m:∀x∈[dep a,dep b,dep c,dep d],x<=k:=λx j=>Zw (Az j) f
  match i,g with
  |0,_=>exact m (dep a) (by simp)
  |1,_=>exact m (dep b) (by simp)
  |2,_=>exact m (dep c) (by simp)
  |3,_=>exact m (dep d) (by simp)
theorem Ck:∀{t:Tr},dep t<=0->t=.z\/t=.o
 |.z,_=>.inl rfl
 |.o,_=>.inr rfl
 |.nd a b c d,h=>by
  have:1+mx [dep a,dep b,dep c,dep d]<=0:=h;lia
end Qf
namespace L2
open PySem PySem.Spec PyProof.Rows PySem.W
def xZ:av->Bool
 |.Starred _ _=>true
 |_=>false
theorem U3{e:av}(h:xZ e=false)(es:List av)(env:Env):starEach (e::es) env=(false,eval e env)::starEach es env:=by
 cases e<;>first|rfl|(exfalso;cases h)
theorem Il{X:Cx}{e:av}{es:List av}{te:TE}{t:TA}(a:PE X e te)(b:PA X es t)(h:xZ e=false:=by rfl):PA X (e::es) (n5 te t):=aG a b (U3 h es X.env)
inductive tP(X:Cx):List av->List TE->Prop where
 |nil:tP X [] []
 |cons {e:av}{es:List av}{te:TE}{ts:List TE}(h:PE X e te) (r:tP X es ts) (n:xZ e=false:=by rfl):tP X (e::es) (te::ts)
def eD:List TE->TA
 |[]=>iR
 |t::a=>n5 t (eD a)
theorem tP.pa{X:Cx}{es:List av}{a:List TE}(h:tP X es a):PA X es (eD a):=by
 induction h with
 |nil=>exact aN
 |cons h r n b=>exact Il h b n
theorem TQ{X:Cx}{e:av}{te:TE}{a:aC}(b:cg X e te):yK X (.Return (some e) a) (tX te):=⟨cA b.go⟩
end L2
namespace L2
open PySem PySem.Spec PyProof.Rows
section
variable{X:Cx}
theorem qK1(a:List Int):∀n,n<=a.length->preSum (λi=>a.getD i 0) n=(a.take n).sum:=by
 intro n
 induction n with
 |zero=>intro _;simp[preSum]
 |succ n c=>
  intro h;have b:n<a.length:=h;rw[preSum,c (Yt b),Xn b,List.sum_append];simp[List.getD,b]
inductive jk(xs:List V)(H:Hp)(Q:VK):Prop
 |mk(p:af)(ns:List Int)(aV:xs=[.ref p])(c7:H p=some (.lst (ns.map V.int)))(cq:Q (.int ns.sum) H)
theorem Pw(hc:X.calm=true):ft X (.builtin "sum") jk:=by
 intro J s K H O N Q I r h;obtain⟨p,a,rfl,C,q⟩:=h;obtain⟨u,rfl,F⟩:=gO r;cases F;obtain⟨z,c,n,j,d⟩:=I.aQ p _ C;have f:s.heap.IsList p c.toArray:=⟨_,d,rfl,_,rfl⟩;have m:c.length=a.length:=by have:=j.length;simpa using this.symm
 have y:p≠s.heap.objs.size:=ZC (Zj d);refine call_sum_walkAnyB (Xl f ?_);refine⟨s.heap.objs.size,_,_,_,_,_,_,λi=>a.getD i 0,rfl,(Walks.list (A:=X.A.in1) (I.ok.hd hc) s.heap.objs.size p y c.toArray).toS,⟨⟨_,Zm _ rfl,rfl,rfl⟩,f.at λo e=>Zd _ e⟩,?_,?_,?_⟩
 ·intro b hb;rw[YT];rcases ZD.mp hb with rfl|hb
  ·exact YE _
  ·have:b=p:=by simpa using hb
   subst this;exact Yc (Zj d)
 ·intro i v B;have l:c[i]?=some v:=by simpa using B
  have g:i<a.length:=by rw[<- m];exact(cF l).1
  obtain⟨M,k,t,E⟩:=j.get (x:=V.int (a[i])) (i:=i) (by simp[g]);rw[l]at k;cases k;exact .inl ⟨t,by rw[E];simp[List.getD,g]⟩
 ·intro L w D;have G:c.toArray.size=a.length:=by simpa using m
  refine⟨.int a.sum,H,Gz I D λb o e hb=>?_,⟨w,?_⟩,q⟩
  ·have:b=s.heap.objs.size:=by simpa using hb
   exact Yn _ (by rw[this]at e;exact Zj e)
  ·rw[G,qK1 a _ (Zb _),XG]
end
end L2
namespace Qf
open Tr
def bV:Tr->Nat
 |.nd a b c d=>bV a+bV b+bV c+bV d
 |_=>1
def jg(rows:List Row)(i:Nat):List Nat:=1::1::(List.range i).map λp=>bV (T rows (p+2))
theorem OJ(rows:List Row)(i:Nat):(jg rows i).length=i+2:=by simp[jg]
theorem DE{rows:List Row}{i x:Nat}(h:x<i+2):(jg rows i)[x]?=some (bV (T rows x)):=by
 match x,h with
 |0,_=>rw[n6];rfl
 |1,_=>rw[nZ];rfl
 |x+2,h=>
  show((List.range i).map λp=>bV (T rows (p+2)))[x]?=_;rw[Zg,Wr (oJ h)]
  rfl
theorem Pu{rows:List Row}(ok:fh rows){i:Nat}{r:Row}(h:rows[i]?=some r):jg rows (i+1)=jg rows i++[(r.map λx=>bV (T rows x)).sum]:=by
 obtain⟨a,b,c,d,rfl⟩:=xt (ok i r h).1;unfold jg;rw[Xk,ZS];show 1::1::(_++[bV (T rows (i+2))])=_;rw[lT ok h];show 1::1::(_++[bV (T rows a)+bV (T rows b)+bV (T rows c)+bV (T rows d)])=_;have:([a,b,c,d].map λx=>bV (T rows x)).sum=bV (T rows a)+bV (T rows b)+bV (T rows c)+bV (T rows d):=by simp;lia
 rw[this]
 rfl
theorem P7(l:List Nat):(l.map λn:Nat=>(n:Int)).sum=((l.sum:Nat):Int):=by
 induction l with
 |nil=>rfl
 |cons a l b=>rw[ZG,Xw,Xw,b];lia
end Qf
namespace Pr
open PySem L2 Qf
abbrev QL:List ar:=["top","rows","counts","row"]
theorem qm:aI QL ["top","rows"] (bF xu):=dz
inductive zo(vs:List V)(H:Hp)(Q:VK):Prop
 |mk(p:af)(x:Nat)(rows:List Row)(e0:vs=[.int (x:Nat),.ref p])(e1:cC H p rows)(e2:fh rows)(e3:rows.length<=1150)(e4:x<rows.length+2)(e5:∀H',aF H H'->Q (.int (bV (T rows x):Nat)) H')
def uh:Sp:=λa H Q _=>zo a H Q
theorem xO2{f:af}{S:ak}(F:aT K "count_leaves" "count_leaves" xu f S)(wG:mg "sum"=none):aE P w K mg base aR 1 f S ["top","rows"] uh:=by
 refine F.ok qm (λvs H Q E h=>?_) (λbw A I s H vs Q E hr h=>?_)
 ·obtain⟨p,x,rows,rfl,_⟩:=h
  rfl
 ·obtain⟨p,x,rows,rfl,hR,ok,hn,k,q⟩:=h;refine⟨_,fv (c8 2 qm.nd (g_ (aG aS (aG aS aN))))
   (fv (sC YW rfl (sD (pv 1)) (gh 3 qm.nd)
    (cD (iY (qG Z7 Yr Ys sS (pv 2) (aG (cQ (Pw rfl) (by rfl) wG W0
     (aG (og QL (bF xu) rfl rfl rfl qm.nd (sD (pv 3)) (λcl C fp aH aJ=>de (yh K rfl) (pv 3) (pv 0))) aN)) aN)))))
   (cD (cA (de (yh K rfl) (pv 2) (pv 0))))),?_⟩
  refine⟨(by show 2<=sizeLine;decide),λD J=>?_⟩;obtain⟨bs,O,j9,jF⟩:=id hR;have Y:=cT (u:=.lst [.int 1,.int 1]) O J;have R:(bs.map V.ref).length=rows.length:=by rw[Zf];exact j9
  refine⟨_,rfl,p,rfl,⟨_,bh.of Y⟩,DM (K:=K) (a:=p) (xs:=bs.map V.ref) (λi l c=>aF H c/\c D=some (.lst (vN (jg rows i)))/\∃G,l=[some (.int (x:Nat)),some (.ref p),some (.ref D),G])
   ⟨bf J,bg,none,rfl⟩ (λi l c _ ⟨g,_⟩=>bh.of (g _ _ O)) ?_ ?_⟩
  ·rintro i y l c L ⟨g,d,G,rfl⟩;have hi:i<rows.length:=by rw[<- R];exact(cF L).1
   rw[Zg]at L;obtain⟨b,hb,rfl⟩:=Zo.mp L;have B:rows[i]?=some rows[i]:=by simp[hi]
   have N:=g _ _ (jF i b rows[i] hb B);have M:=ok i _ B;generalize rows[i]=r at B N M;refine⟨_,rfl,.inl ⟨rfl,_,cu.of d⟩,_,rfl,b,rfl,⟨_,bh.of N⟩,λD2 k8=>sR k8 (λj z _=>∃x,r[j]?=some x/\z=.int (bV (T rows x):Nat)) (xE (K:=K) N) (by rw[mz,M.1];decide) (λ_ _ _ _ _ _ h=>h) ?_ ?_⟩
   ·intro j x H3 hj k t Q' hq;obtain⟨m,v,rfl⟩:=x6 k;have jA:=M.2 m (Zy v);exact⟨_,rfl,_,rfl,D,_,(m:Int),.int (bV (T rows m):Nat),rfl,rfl,cu.of (t _ _ d),uD (DE jA),hq _ _ (aF.refl _) ⟨m,v,rfl⟩⟩
   ·intro U H3 t W jY X;have ey:U=(r.map λx=>bV (T rows x)).map (λn:Nat=>V.int (n:Int)):=by
     refine qD (by rw[jY,mz,Zf,Zf]) λj x k=>?_;obtain⟨m,v,rfl⟩:=X j x k;rw[Zg,Zg,v];rfl
    have e2:U=((r.map λx=>bV (T rows x)).map (λn:Nat=>(n:Int))).map V.int:=ey.trans (qw _);refine⟨D2,(r.map λx=>bV (T rows x)).map (λn:Nat=>(n:Int)),rfl,e2▸W,?_⟩;rw[P7];have jR:=t _ _ d;refine⟨D,_,_,rfl,rfl,jR,?_,?_⟩
    ·rw[mz,OJ];exact xJ (by lia)
    ·have Z:∀b o,H b=some o->b≠D:=λb o e=>dv e J;refine⟨λb o e=>by rw[cK (Z b o e)];exact t _ _ (g _ _ e),?_,_,rfl⟩;rw[bg,Pu ok B];unfold vN;rw[ZS]
     rfl
  ·rintro l c ⟨g,d,G,rfl⟩;rw[R]at d;exact⟨_,rfl,_,rfl,D,_,(x:Int),.int (bV (T rows x):Nat),rfl,rfl,cu.of d,uD (DE k),q c g⟩
theorem zu:aI ["shape","most"] ["shape","most"] (bF x8):=dz
inductive y8(vs:List V)(H:Hp)(Q:VK):Prop
 |mk(t:af)(n tp m:Nat)(rows:List Row)(e0:vs=[.ref t,.int (m:Nat)])(e1:m6 H t n tp rows)(e2:bV (T rows tp)<=m)(e3:∀H',aF H H'->Q .cb H')
def y9:Sp:=λa H Q _=>y8 a H Q
theorem xO3{f b:af}{j d:ak}(F:aT K "want_leaves" "want_leaves" x8 f j)(D:mg "count_leaves"=some (.ref b))(x:aT K "count_leaves" "count_leaves" xu b d)(r:Binds K d ["top","rows"] [])(y:aE P w K mg base aR 1 b d ["top","rows"] uh):
  aE P w K mg base aR 2 f j ["shape","most"] y9:=by
 refine F.ok zu (λl H Q E h=>?_) (λI A c s H l Q E u h=>?_)
 ·obtain⟨t,n,a,m,rows,rfl,_⟩:=h
  rfl
 ·obtain⟨t,n,a,m,rows,rfl,C,J,q⟩:=h;obtain⟨⟨p,i,k⟩,g,v⟩:=id C;refine gG ⟨_,⟨dH (dG xX (cg.go ⟨bJ y u D x.kp r (cH.go (.cons ⟨de fY (pv 0) aS⟩ (.cons ⟨de fY (pv 0) aS⟩ .nil rfl) rfl))⟩) (pv 1) (cU _)) xI dI⟩,?_⟩;refine⟨_,rfl,t,_,1,.int (a:Nat),rfl,rfl,bh.of i,rfl,_,rfl,t,_,2,.ref p,rfl,rfl,bh.of i,rfl,p,a,rows,rfl,k,g.mn,v,g.oQ,λG B=>?_⟩;refine⟨_,rfl,_,_,rfl,rfl,_,rfl,?_⟩;exact xL9 (show ¬((m:Int)<(bV (T rows a):Nat)) by lia) (q G B)
theorem zv:aI ["shape"] ["shape"] (bF zO):=dz
inductive zl(vs:List V)(H:Hp)(Q:VK):Prop
 |mk(t:af)(n tp:Nat)(rows:List Row)(e0:vs=[.ref t])(e1:m6 H t n tp rows)(e2:bV (T rows tp)<=2000)(e3:∀H',aF H H'->Q .cb H')
def zm:Sp:=λa H Q _=>zl a H Q
theorem xO4{f a:af}{i c:ak}(F:aT K "want_coarse" "want_coarse" zO f i)(d:∃t,mg "MOST_LEAVES"=some (.int 2000 t))(x:mg "want_leaves"=some (.ref a))(p:aT K "want_leaves" "want_leaves" x8 a c)(k:Binds K c ["shape","most"] [])(r:aE P w K mg base aR 2 a c ["shape","most"] y9):
  aE P w K mg base aR 3 f i ["shape"] zm:=by
 obtain⟨tm,d⟩:=d;refine F.ok zv (λj H Q E h=>?_) (λy A b s H j Q E m h=>?_)
 ·obtain⟨t,n,g,rows,rfl,_⟩:=h
  rfl
 ·obtain⟨t,n,g,rows,rfl,u,l,q⟩:=h;refine⟨_,cD (iY (bJ r m x p.kp k (aG (pv 0) (aG (gf (v:=.int 2000) (by rfl) d ⟨_,rfl⟩) aN)))),?_⟩;exact⟨_,rfl,t,n,g,2000,rows,rfl,u,l,q⟩
end Pr
namespace Qf
open Tr
def bX:Tr->List (List Nat×Bool)
 |.z=>[([],false)]
 |.o=>[([],true)]
 |.nd a b c d=>(bX a).map (λe=>(0::e.1,e.2))++(bX b).map (λe=>(1::e.1,e.2))++(bX c).map (λe=>(2::e.1,e.2))++(bX d).map (λe=>(3::e.1,e.2))
def bu(a:List Nat)(L:List (List Nat×Bool)):List (List Nat×Bool):=L.map λe=>(a++e.1,e.2)
theorem pS:∀t:Tr,(bX t).length=bV t
 |.z=>rfl
 |.o=>rfl
 |.nd a b c d=>by
  show(_++_++_++_:List _).length=bV a+bV b+bV c+bV d;simp only[Zn,Zf];rw[pS a,pS b,pS c,pS d]
theorem DD(f:List Nat)(a b c d:Tr):bu f (bX (.nd a b c d))=bu (f++[0]) (bX a)++bu (f++[1]) (bX b)++bu (f++[2]) (bX c)++bu (f++[3]) (bX d):=by
 show List.map _ (_++_++_++_)=_;unfold bu;simp only[ZS,YL,Function.comp_def,Z4,List.singleton_append]
theorem HG(a:List Nat)(L:List (List Nat×Bool)):(bu a L).length=L.length:=by unfold bu;rw[Zf]
def cP:Tr->List Nat->Tr×List Nat
 |.nd a b c d,x::f=>((cP (qr x (.nd a b c d)) f).1,x::(cP (qr x (.nd a b c d)) f).2)
 |t,_=>(t,[])
theorem DC(t:Tr):cP t []=(t,[]):=by cases t<;>rfl
theorem Gu{t:Tr}(h:t=.z\/t=.o)(a:List Nat):cP t a=(t,[]):=by rcases h with rfl|rfl<;>cases a<;>rfl
theorem Hj:∀(t:Tr)(l m:List Nat),((cP t l).2=l/\cP t (l++m)=((cP (cP t l).1 m).1,l++(cP (cP t l).1 m).2))\/(((cP t l).1=.z\/(cP t l).1=.o)/\cP t (l++m)=cP t l)
 |t,[],m=>by
  left;rw[DC];exact⟨rfl,by simp⟩
 |.z,x::l,m=>.inr ⟨.inl rfl,rfl⟩
 |.o,x::l,m=>.inr ⟨.inr rfl,rfl⟩
 |.nd a b c d,x::l,m=>by
  rcases Hj (qr x (.nd a b c d)) l m with⟨h1,h2⟩|⟨h1,h2⟩
  ·left;refine⟨?_,?_⟩
   ·show x::(cP (qr x (.nd a b c d)) l).2=x::l;rw[h1]
   ·show((cP (qr x (.nd a b c d)) (l++m)).1,x::(cP (qr x (.nd a b c d)) (l++m)).2)=_;rw[h2]
    rfl
  ·right;refine⟨h1,?_⟩;show((cP (qr x (.nd a b c d)) (l++m)).1,x::(cP (qr x (.nd a b c d)) (l++m)).2)=_;rw[h2]
   rfl
theorem P6:∀(t:Tr)(l:List Nat),(cP t l).2 <+: l
 |.z,l=>by cases l<;>exact VV
 |.o,l=>by cases l<;>exact VV
 |.nd a b c d,[]=>VV
 |.nd a b c d,x::l=>(List.prefix_cons_inj x).mpr (P6 _ l)
end Qf
namespace Pr
open PySem L2 Qf
def txt(a:List Nat):ar:=⟨(a.map (48+·)).toArray⟩
theorem xo(a:List Nat):(txt a).length=a.length:=by simp[txt,Str.length]
theorem OI{d:Nat}(h:d<4):((toString (d:Int):String):ar)=⟨#[48+d]⟩:=by
 match d,h with
 |0,_|1,_|2,_|3,_=>decide +kernel
theorem TN{a:List Nat}{i d:Nat}(h:a[i]?=some d):a.take (i+1)=a.take i++[d]:=by rw[List.take_succ,h];rfl
end Pr
namespace Qf
open Tr L2
def hJ(b:Bool):Tr:=if b then .o else .z
theorem kx{a b c d:Tr}{e:List Nat×Bool}:e∈bX (.nd a b c d)<->∃x l,x<4/\e.1=x::l/\(l,e.2)∈bX (qr x (.nd a b c d)):=by
 have key:∀(x:Nat)(t:Tr),e∈(bX t).map (λe=>(x::e.1,e.2))<->∃l,e.1=x::l/\(l,e.2)∈bX t:=λx t=>by
  rw[Yi];constructor
  ·rintro⟨f,g,rfl⟩;exact⟨f.1,rfl,g⟩
  ·rintro⟨l,h1,h2⟩;exact⟨_,h2,Prod.ext h1.symm rfl⟩
 show e∈_++_++_++_<->_;simp only[ZX,key];constructor
 ·rintro(((⟨l,h⟩|⟨l,h⟩)|⟨l,h⟩)|⟨l,h⟩)
  ·exact⟨0,l,by decide,h⟩
  ·exact⟨1,l,by decide,h⟩
  ·exact⟨2,l,by decide,h⟩
  ·exact⟨3,l,by decide,h⟩
 ·rintro⟨x,l,i,h⟩
  match x,i with
  |0,_=>exact .inl (.inl (.inl ⟨l,h⟩))
  |1,_=>exact .inl (.inl (.inr ⟨l,h⟩))
  |2,_=>exact .inl (.inr ⟨l,h⟩)
  |3,_=>exact .inr ⟨l,h⟩
theorem xI7{x m:Nat}{a b c d:Tr}(f:x<4)(h:dep (.nd a b c d)<=m+1):dep (qr x (.nd a b c d))<=m:=LV f _ h
theorem Dt:∀(m:Nat)(t:Tr)(e:List Nat×Bool),dep t<=m->e∈bX t->(∀d∈e.1,d<4)/\e.1.length<=m
 |m,.z,e,_,h=>by
  have:e=([],false):=by simpa[bX]using h
  subst this;exact⟨λd h=>(nomatch h),Zt _⟩
 |m,.o,e,_,h=>by
  have:e=([],true):=by simpa[bX]using h
  subst this;exact⟨λd h=>(nomatch h),Zt _⟩
 |0,.nd a b c d,e,f,h=>by rcases Ck f with z|z<;>cases z
 |m+1,.nd a b c d,e,f,h=>by
  obtain⟨x,l,g,h1,h2⟩:=kx.mp h;obtain⟨i,k⟩:=Dt m _ _ (xI7 g f) h2;rw[h1];refine⟨λq j=>?_,by rw[Zz];exact Nat.succ_le_succ k⟩;rcases ZD.mp j with rfl|z
  ·exact g
  ·exact i q z
theorem zI:∀t:Tr,((bX t).map (·.1)).Pairwise (·<·)
 |.z=>WJ _ _
 |.o=>WJ _ _
 |.nd a b c d=>by
  have one:∀(x:Nat)(t:Tr),((bX t).map (·.1)).Pairwise (·<·)->(((bX t).map (λe=>(x::e.1,e.2))).map (·.1)).Pairwise (·<·):=λx t h=>by
   rw[YL,List.pairwise_map]at *;exact h.imp λ{u v} z=>by
    show x::u.1<x::v.1;rw[ZV];exact .inr ⟨rfl,z⟩
  have i:∀{x y:Nat}{s t:Tr}{u v:List Nat},x<y->u∈((bX s).map (λe=>(x::e.1,e.2))).map (·.1)->v∈((bX t).map (λe=>(y::e.1,e.2))).map (·.1)->u<v:=λ{x y s t u v} h g j=>by
   rw[YL]at g j;obtain⟨e,_,rfl⟩:=Yi.mp g;obtain⟨f,_,rfl⟩:=Yi.mp j;show x::e.1<y::f.1;rw[ZV];exact .inl h
  show((_++_++_++_:List _).map _).Pairwise _;rw[ZS,ZS,ZS];refine YQ.mpr ⟨YQ.mpr ⟨YQ.mpr ⟨one 0 a (zI a),one 1 b (zI b),λu g v j=>i (by decide) g j⟩,one 2 c (zI c),λu g v j=>?_⟩,one 3 d (zI d),λu g v j=>?_⟩
  ·rcases ZX.mp g with g|g
   ·exact i (by decide) g j
   ·exact i (by decide) g j
  ·rcases ZX.mp g with g|g
   ·rcases ZX.mp g with g|g
    ·exact i (by decide) g j
    ·exact i (by decide) g j
   ·exact i (by decide) g j
end Qf
namespace Qf
open Tr
def rt:Nat->List Row->Nat->Nat->Tr
 |0,a,r,c=>if met a r c 1=[]then z else if(met a r c 1).any (hasB r c 1)then o else z
 |k+1,a,r,c=>if met a r c (2^(k+1))=[]then z else if(met a r c (2^(k+1))).any (hasB r c (2^(k+1)))then o else
   .nd (rt k (met a r c (2^(k+1))) r c) (rt k (met a r c (2^(k+1))) r (c+2^k)) (rt k (met a r c (2^(k+1))) (r+2^k) c) (rt k (met a r c (2^(k+1))) (r+2^k) (c+2^k))
def bI:Tr->Tr
 |.z=>.z
 |.o=>.o
 |.nd a b c d=>mk (bI a) (bI b) (bI c) (bI d)
theorem Ag:∀(k:Nat)(a:List Row)(r c:Nat),bI (rt k a r c)=bt k a r c
 |0,a,r,c=>by
  unfold rt bt;split
  ·rfl
  ·split<;>rfl
 |k+1,a,r,c=>by
  unfold rt bt;split
  ·rfl
  ·split
   ·rfl
   ·show mk (bI _) (bI _) (bI _) (bI _)=_;rw[Ag k,Ag k,Ag k,Ag k]
theorem LU:∀(k:Nat)(a:List Row)(r c:Nat),dep (rt k a r c)<=k
 |0,a,r,c=>by
  unfold rt;split
  ·exact Zb 0
  ·split<;>exact Zb 0
 |k+1,a,r,c=>by
  unfold rt;split
  ·exact Zt _
  ·split
   ·exact Zt _
   ·show 1+mx [dep _,dep _,dep _,dep _]<=k+1;have:=E6 (l:=[dep (rt k (met a r c (2^(k+1))) r c),dep (rt k (met a r c (2^(k+1))) r (c+2^k)),dep (rt k (met a r c (2^(k+1))) (r+2^k) c),dep (rt k (met a r c (2^(k+1))) (r+2^k) (c+2^k))]) (b:=k) (by
     intro x d;simp only[ZD,W5,or_false]at d;rcases d with rfl|rfl|rfl|rfl<;>exact LU k _ _ _)
    lia
theorem uz:∀(k:Nat)(a:List Row)(r c:Nat),bV (rt k a r c)<=4^k
 |0,a,r,c=>by
  unfold rt;split
  ·exact Zb 1
  ·split<;>exact Zb 1
 |k+1,a,r,c=>by
  have d:0<4^k:=VD (by decide);rw[YS];unfold rt;split
  ·show 1<=_;lia
  ·split
   ·show 1<=_;lia
   ·have h1:=uz k (met a r c (2^(k+1))) r c;have h2:=uz k (met a r c (2^(k+1))) r (c+2^k);have b:=uz k (met a r c (2^(k+1))) (r+2^k) c;have f:=uz k (met a r c (2^(k+1))) (r+2^k) (c+2^k);show bV _+bV _+bV _+bV _<=_;lia
abbrev Lf:=List Nat×Bool
def iN(u:Tr)(F:List Lf)(e:Lf):List Lf:=if F.getLast?=some ((cP u e.1).2,e.2)then F else F++[((cP u e.1).2,e.2)]
theorem Pt{U:Tr}{q:List Nat}{b:Bool}:∀{L:List Lf}{F:List Lf},(∀e∈L,(cP U e.1).2=q/\e.2=b)->F.getLast?=some (q,b)->L.foldl (iN U) F=F
 |[],F,_,_=>rfl
 |e::L,F,h,a=>by
  obtain⟨h1,h2⟩:=h e Zu;have:iN U F e=F:=by unfold iN;rw[h1,h2,Zr a]
  rw[Z3,this];exact Pt (λe c=>h e (Zk _ c)) a
theorem HF{U:Tr}{q:List Nat}{b:Bool}{L:List Lf}{F:List Lf}(h:∀e∈L,(cP U e.1).2=q/\e.2=b)(c:L≠[])(a:F.getLast?≠some (q,b)):L.foldl (iN U) F=F++[(q,b)]:=by
 cases L with
 |nil=>exact absurd rfl c
 |cons e L=>
  obtain⟨h1,h2⟩:=h e Zu;have:iN U F e=F++[(q,b)]:=by unfold iN;rw[h1,h2,Zl a]
  rw[Z3,this];exact Pt (λe d=>h e (Zk _ d)) (by simp)
theorem HY:∀t:Tr,bX t≠[]
 |.z=>by simp[bX]
 |.o=>by simp[bX]
 |.nd a b c d=>λh=>by
  have:=HY a;simp[bX]at h;exact this h.1
theorem U2{b:Bool}{p q r s:Tr}(h:mk p q r s=hJ b):p=hJ b/\q=hJ b/\r=hJ b/\s=hJ b:=by
 unfold mk at h;split at h
 ·rename_i e;cases b with
  |false=>exact e
  |true=>cases h
 ·split at h
  ·rename_i e;cases b with
   |false=>cases h
   |true=>exact e
  ·cases b<;>cases h
theorem Aa{b:Bool}:∀{t:Tr},bI t=hJ b->∀e∈bX t,e.2=b
 |.z,h,e,g=>by
  cases b with
  |false=>simp[bX]at g;rw[g]
  |true=>cases h
 |.o,h,e,g=>by
  cases b with
  |false=>cases h
  |true=>simp[bX]at g;rw[g]
 |.nd a p c d,h,e,g=>by
  obtain⟨h1,h2,k,m⟩:=U2 (show mk (bI a) (bI p) (bI c) (bI d)=hJ b from h);obtain⟨x,l,j,_,f⟩:=kx.mp g;have i:bI (qr x (.nd a p c d))=hJ b:=by
   match x,j with
   |0,_=>exact h1
   |1,_=>exact h2
   |2,_=>exact k
   |3,_=>exact m
  match x,j,f,i with
  |0,_,f,i=>exact Aa h1 (l,e.2) f
  |1,_,f,i=>exact Aa h2 (l,e.2) f
  |2,_,f,i=>exact Aa k (l,e.2) f
  |3,_,f,i=>exact Aa m (l,e.2) f
theorem OH(p q r s:Tr):(∃b,mk p q r s=hJ b)\/mk p q r s=.nd p q r s:=by
 unfold mk;split
 ·exact .inl ⟨false,rfl⟩
 ·split
  ·exact .inl ⟨true,rfl⟩
  ·exact .inr rfl
theorem xn(b:Bool)(s:List Nat):cP (hJ b) s=(hJ b,[]):=by cases b;exact Gu (.inl rfl) s;exact Gu (.inr rfl) s
theorem UZ{p l:List Nat}{k:Nat}(h:p++[k] <+: l):p <+: l:=(List.prefix_append p [k]).trans h
theorem HE{p:List Nat}{k j:Nat}(b:k≠j){F:List Lf}{t:Tr}(e:Lf)(h:(F++bu (p++[k]) (bX t)).getLast?=some e):¬p++[j] <+: e.1:=by
 have a:bu (p++[k]) (bX t)≠[]:=λz=>HY t (by unfold bu at z;exact Vj.mp z);have c:e∈bu (p++[k]) (bX t):=by
  rw[List.getLast?_append,Va a]at h;have:(bu (p++[k]) (bX t)).getLast a=e:=by simpa using h
  rw[<- this];exact List.getLast_mem a
 unfold bu at c;obtain⟨x,_,rfl⟩:=Yi.mp c;rintro⟨s,d⟩;have f:p++([j]++s)=p++([k]++x.1):=by simpa[Z4]using d
 have:=List.append_cancel_left f;simp at this;exact b this.1.symm
theorem zU:∀(t U:Tr)(p:List Nat)(F:List Lf),(∀s,(cP U (p++s)).2=p++(cP (bI t) s).2)->(∀e,F.getLast?=some e->¬p <+: e.1)->(bu p (bX t)).foldl (iN U) F=F++bu p (bX (bI t))
 |.z,U,p,F,f,i=>by
  refine HF (q:=p++[]) (b:=false) (λe g=>?_) (by simp[bu,bX]) (λz=>i _ z (by simp));have:e=(p++[],false):=by simpa[bu,bX]using g
  rw[this];exact⟨(f []).trans (by rw[show bI .z=hJ false from rfl,xn]),rfl⟩
 |.o,U,p,F,f,i=>by
  refine HF (q:=p++[]) (b:=true) (λe g=>?_) (by simp[bu,bX]) (λz=>i _ z (by simp));have:e=(p++[],true):=by simpa[bu,bX]using g
  rw[this];exact⟨(f []).trans (by rw[show bI .o=hJ true from rfl,xn]),rfl⟩
 |.nd a b c d,U,p,F,f,i=>by
  rcases OH (bI a) (bI b) (bI c) (bI d)with⟨v,h⟩|h
  ·have l:bI (.nd a b c d)=hJ v:=h;rw[l]at f ⊢;have n:=Aa l;have m:bu p (bX (hJ v))=[(p++[],v)]:=by cases v<;>rfl
   rw[m];refine HF (q:=p++[]) (b:=v) (λe g=>?_) (λz=>HY (.nd a b c d) (by unfold bu at z;exact Vj.mp z)) (λz=>i _ z (by simp));unfold bu at g;obtain⟨x,r,rfl⟩:=Yi.mp g;exact⟨by rw[f,xn],n x r⟩
  ·have l:bI (.nd a b c d)=.nd (bI a) (bI b) (bI c) (bI d):=h;rw[l]at f ⊢;have j:∀(k:Nat)(t:Tr),qr k (.nd (bI a) (bI b) (bI c) (bI d))=bI t->∀s,(cP U (p++[k]++s)).2=p++[k]++(cP (bI t) s).2:=λk t e s=>by
    rw[Z4,f,show cP (.nd (bI a) (bI b) (bI c) (bI d)) ([k]++s)=((cP (qr k (.nd (bI a) (bI b) (bI c) (bI d))) s).1,k::(cP (qr k (.nd (bI a) (bI b) (bI c) (bI d))) s).2)from rfl,e];simp
   rw[DD,DD,Xo,Xo,Xo];rw[zU a U (p++[0]) F (j 0 a rfl) (λe g z=>i e g (UZ z))];rw[zU b U (p++[1]) _ (j 1 b rfl) (HE (by decide))];rw[zU c U (p++[2]) _ (j 2 c rfl) (HE (by decide))];rw[zU d U (p++[3]) _ (j 3 d rfl) (HE (by decide))];simp only[Z4]
theorem Dh(L:List Lf):bu [] L=L:=by unfold bu;simp
theorem UY(t:Tr):(bX t).foldl (iN (bI t)) []=bX (bI t):=by
 have:=zU t (bI t) [] [] (λs=>by simp) (λe a=>by simp at a);rw[Dh,Dh]at this;simpa using this
theorem z_:∀(t:Tr)(e:Lf),e∈bX t->∃b,(cP (bI t) e.1).1=hJ b
 |.z,e,_=>⟨false,by rw[show bI .z=hJ false from rfl,xn]⟩
 |.o,e,_=>⟨true,by rw[show bI .o=hJ true from rfl,xn]⟩
 |.nd a b c d,e,i=>by
  rcases OH (bI a) (bI b) (bI c) (bI d)with⟨v,h⟩|h
  ·exact⟨v,by rw[show bI (.nd a b c d)=hJ v from h,xn]⟩
  ·obtain⟨x,l,j,g,f⟩:=kx.mp i;rw[show bI (.nd a b c d)=.nd (bI a) (bI b) (bI c) (bI d)from h,g];show ∃v,(cP (qr x (.nd (bI a) (bI b) (bI c) (bI d))) l).1=hJ v
   match x,j,f with
   |0,_,f=>exact z_ a _ f
   |1,_,f=>exact z_ b _ f
   |2,_,f=>exact z_ c _ f
   |3,_,f=>exact z_ d _ f
def Cell(b:Row):Prop:=∃r c,b=[r,c,1,1]
theorem HX{r c s:Nat}:∀{B:List Row},(∀b∈B,Cell b)->(met B r c s).length+(met B r (c+s) s).length+(met B (r+s) c s).length+(met B (r+s) (c+s) s).length<=B.length
 |[],_=>Zb _
 |b::B,h=>by
  have g:=HX (r:=r) (c:=c) (s:=s) λx f=>h x (Zk _ f);obtain⟨x,y,rfl⟩:=h b Zu;have one:∀(r c:Nat),(met ([x,y,1,1]::B) r c s).length=(met B r c s).length+(if x<r+s/\r<x+1/\c<y+1/\y<c+s then 1 else 0):=λr c=>by
   unfold met;rw[Y1];have e:jz r c s [x,y,1,1]=decide (x<r+s/\r<x+1/\c<y+1/\y<c+s):=rfl;rw[e];by_cases d:x<r+s/\r<x+1/\c<y+1/\y<c+s
   ·rw[Zh d,Zr rfl,Zr d];rfl
   ·rw[Zi d,Zl (by decide),Zl d];rfl
  rw[one,one,one,one,Zz];have:(if x<r+s/\r<x+1/\c<y+1/\y<c+s then 1 else 0)+(if x<r+s/\r<x+1/\c+s<y+1/\y<c+s+s then 1 else 0)+(if x<r+s+s/\r+s<x+1/\c<y+1/\y<c+s then 1 else 0)+(if x<r+s+s/\r+s<x+1/\c+s<y+1/\y<c+s+s then 1 else 0)<=1:=by
   by_cases a:x<r+s<;>by_cases b:y<c+s
   all_goals (repeat' split)<;>lia
  lia
theorem Pq{B:List Row}{r c s:Nat}(h:∀b∈B,Cell b):∀b∈met B r c s,Cell b:=λb hb=>h b (Y9.mp hb).1
theorem xG:∀(m:Nat)(B:List Row)(r c:Nat),(∀b∈B,Cell b)->fk (bt m B r c)<=m*(met B r c (2^m)).length
 |0,B,r,c,_=>by
  unfold bt;split
  ·exact Zt _
  ·split<;>exact Zt _
 |m+1,B,r,c,h=>by
  unfold bt;split
  ·exact Zt _
  ·rename_i d;split
   ·exact Zt _
   ·refine Zw (Du _ _ _ _) ?_;have a:=Pq (r:=r) (c:=c) (s:=2^(m+1)) h;generalize met B r c (2^(m+1))=M at d a ⊢;have h1:=xG m M r c a;have h2:=xG m M r (c+2^m) a;have g:=xG m M (r+2^m) c a;have j:=xG m M (r+2^m) (c+2^m) a;have i:0<M.length:=XA.mpr d;have f:=Nat.mul_le_mul_left m (HX (r:=r) (c:=c) (s:=2^m) a);simp only[XM]at f;rw[Y3];lia
theorem zZ(m:Nat):∀(k:Nat)(B:List Row)(r c:Nat),(∀b∈B,Cell b)->fk (bt (m+k) B r c)<=sz k+m*(met B r c (2^(m+k))).length
 |0,B,r,c,h=>by
  have:=xG m B r c h;show _<=0+_;rw[Xr];exact this
 |k+1,B,r,c,h=>by
  show fk (bt (m+k+1) B r c)<=(4*sz k+1)+m*(met B r c (2^(m+k+1))).length;unfold bt;split
  ·exact Zt _
  ·split
   ·exact Zt _
   ·refine Zw (Du _ _ _ _) ?_;have a:=Pq (r:=r) (c:=c) (s:=2^(m+k+1)) h;generalize met B r c (2^(m+k+1))=M at a ⊢;have h1:=zZ m k M r c a;have h2:=zZ m k M r (c+2^(m+k)) a;have f:=zZ m k M (r+2^(m+k)) c a;have g:=zZ m k M (r+2^(m+k)) (c+2^(m+k)) a;have d:=Nat.mul_le_mul_left m (HX (r:=r) (c:=c) (s:=2^(m+k)) a);simp only[XM]at d;lia
theorem Gs{n:Nat}{B:List Row}(f:n<=12)(h:∀b∈B,Cell b)(c:B.length<=120):fk (bt n B 0 0)<=1045:=by
 by_cases d:n<=8
 ·have:=xG n B 0 0 h;have a:(met B 0 0 (2^n)).length<=120:=Zw DF c;have:=VX d a;lia
 ·obtain⟨k,rfl⟩:∃k,n=8+k:=⟨n-8,by lia⟩;have:=zZ 8 k B 0 0 h;have a:(met B 0 0 (2^(8+k))).length<=120:=Zw DF c;have g:sz k<=85:=Zw (E3 (show k<=4 by lia)) (by decide);lia
end Qf
namespace L2
open PySem
theorem LS{f:St->Hp->Prop}{σ σ':St}{H:Hp}(e:σ=σ')(h:f σ' H):f σ H:=by rw[e];exact h
theorem opq{tb:TS}{k:Ends}{σ:St}{H:Hp}(h:∀a:Ends,(∀σ H,k.nx σ H->a.nx σ H)->tb a σ H):tb k σ H:=h k λ_ _ z=>z
inductive Ex2(z:Option V->Option V->St)(σ:St):Prop
 |mk(a b:Option V)(e:σ=z a b)
end L2
namespace L2
open PySem PySem.Spec PyProof.Rows
section
variable{X:Cx}{elts:List av}{x1:Nat}{fz:aC}
inductive lr(x:V)(lo:Option Int)(hi:Option Int)(H:Hp)(Q:VK):Prop
 |mk(z:ar)(j:Int)(aV:x=.str z)(c7:lo=none)(cq:hi=some j)(aP:z.length<=sizeLine)(pV:Q (.str (Txt.slice z none (some j))) H)
theorem OG:Ex X lr:=by
 intro n s y H x v p A B r w Q I d a g b h;obtain⟨z,j,rfl,rfl,rfl,c,q⟩:=h;obtain⟨t,rfl⟩:=d;cases g;cases b with
 |int i f=>
  refine⟨"str",_,F.slot_str_getitem.lookup,typeIs_str _ _ _,wpAny_getItem_str_slice (l:=none) (u:=some (j,f)) (st:=none) a rfl (post_val_or_str ⟨Zw (Txt.slice_le z _ _) c,λm k=>?_⟩)⟩;exact⟨.str _,H,I.tok _,⟨_,rfl⟩,q⟩
end
end L2
namespace Sp
open PySem PySem.StrLaws Builtin.Str
def qI(l:List Nat):ar:=⟨l.toArray⟩
theorem TM(l:List Nat):(qI l).cps.toList=l:=by simp[qI]
end Sp
namespace Pr
open PySem L2 Qf Sp
theorem xI8(a:List Nat):txt a=qI (a.map (48+·)):=rfl
theorem UX(l:List Nat):(qI l).length=l.length:=by simp[qI,Str.length]
theorem UW(l:List Nat){j:Nat}(h:j<=l.length):Txt.slice (qI l) none (some (j:Int))=qI (l.take j):=by
 have h:=PyProof.Rows.slice_closes_toL (x:=qI l) (j:=(j:Int)) (by lia) (by rw[UX];lia);rw[eq_of_beq h,TM];unfold qI;congr 2
theorem Pp(a:List Nat){j:Nat}(h:j<=a.length):Txt.slice (txt a) none (some (j:Int))=txt (a.take j):=by
 rw[xI8,UW _ (by rw[Zf];exact h),<- List.map_take]
 rfl
theorem P5(a b:List Nat):txt a++txt b=txt (a++b):=by
 show(⟨(txt a).cps++(txt b).cps⟩:ar)=_;simp[txt]
theorem TL{a b:List Nat}(h:txt a=txt b):a=b:=by
 have h2:(txt a).cps.toList=(txt b).cps.toList:=by rw[h]
 simp only[txt]at h2;have:∀(l m:List Nat),l.map (48+·)=m.map (48+·)->l=m:=λl=>by
  induction l with
  |nil=>intro m e;cases m with
   |nil=>rfl
   |cons _ _=>simp at e
  |cons x l c=>intro m e;cases m with
   |nil=>simp at e
   |cons y m=>
    simp only[ZG,YX]at e;rw[c m e.2,show x=y by lia]
 exact this a b h2
theorem TK{a:List Nat}(h:∀d∈a,d<4):(txt a).cps.all (·<128)=true:=by
 simp only[txt,List.all_toArray,Vp,Z8];intro d b;have:=h d b;simp only[Function.comp_apply,Wc];lia
theorem UU{t:Tr}{a:List Nat}{i:Nat}(h:(cP t (a.take i)).2=a.take i)(c:(cP t (a.take i)).1=.z\/(cP t (a.take i)).1=.o):cP t a=((cP t (a.take i)).1,a.take i):=by
 have e:a=a.take i++a.drop i:=(YG i a).symm;have b:cP t a=cP t (a.take i++a.drop i):=by rw[<- e]
 rw[b];rcases Hj t (a.take i) (a.drop i)with⟨_,h2⟩|⟨_,h2⟩
 ·rw[h2,Gu c];simp
 ·rw[h2];exact Prod.ext rfl h
theorem UT{t:Tr}{f:List Nat}{i d:Nat}{a b c e:Tr}(j:f[i]?=some d)(h:(cP t (f.take i)).2=f.take i)(g:(cP t (f.take i)).1=.nd a b c e):(cP t (f.take (i+1))).1=qr d (.nd a b c e)/\(cP t (f.take (i+1))).2=f.take (i+1):=by
 rw[TN j];rcases Hj t (f.take i) [d]with⟨_,h2⟩|⟨z,_⟩
 ·rw[h2,g];show(cP (qr d (.nd a b c e)) []).1=_/\_++d::(cP (qr d (.nd a b c e)) []).2=_;rw[DC];exact⟨rfl,rfl⟩
 ·rw[g]at z;rcases z with z|z<;>cases z
end Pr
namespace L2
open PySem PySem.Spec PyProof.Rows
theorem q86{K:PySem.W.Frag}{a:af}{xs:List V}{g:TG}{tb:TS}{D:Ends}{σ:St}{H:Hp}(Pv:Nat->St->Hp->Prop)(u:∀i σ h,Pv i σ h->h a=some (.tup xs))(h0:Pv 0 σ H)
  (hs:∀i x σ H p,xs[i]?=some x->Pv i σ H->H p=none->g (.ref p) σ (upd H p (.tup [.int i,x])) λk h=>tb {D with nx:=Pv (i+1),ct:=Pv (i+1),bk:=D.nx} k h) (r:∀σ H,Pv xs.length σ H->D.nx σ H):
  ∃W:Nat->Nat->St->Hp->Prop,(∃m,W 0 m σ H)/\∀i m σ H,W i m σ H ->
   ((yP K a).stop i H/\D.nx σ H)\/((yP K a).go i H/\∃N:St->Hp->Prop,(∀f d,N f d->∃n,n<m/\W (i+1) n f d)/\∀x d,(yP K a).lF i H x d->g x σ d λk h=>tb {D with nx:=N,ct:=N,bk:=D.nx} k h):=by
 refine⟨λi m σ H=>m=xs.length-i/\i<=xs.length/\Pv i σ H,⟨xs.length,by simp,Zt _,h0⟩,?_⟩;rintro i m σ H ⟨rfl,q,p⟩;have l:bh K H a xs:=bh.of (u i σ H p);by_cases j:i<xs.length
 ·refine .inr ⟨⟨xs,xs[i],l,by simp[j]⟩,Pv (i+1),λf d w=>⟨xs.length-(i+1),q9 j,rfl,j,w⟩,λx d y=>?_⟩;obtain⟨b,c,A,t,s,v⟩:=y;subst s v;exact hs i c σ _ b (t xs l) p A
 ·have e:i=xs.length:=by exact oM q j
  subst e;exact .inl ⟨⟨xs,l,Zb _⟩,r σ H p⟩
end L2
namespace Pr
open PySem L2 Qf
theorem Ds{f:St->Hp->Prop}{σ σ':St}{H:Hp}(e:σ=σ')(h:f σ' H):f σ H:=by rw[e];exact h
def fy(H:Hp)(a:af)(L:List (List Nat×Bool)):Prop:=∃bs:List af,H a=some (.lst (bs.map V.ref))/\bs.length=L.length/\∀(i:Nat) b e,bs[i]?=some b->L[i]?=some e->H b=some (.tup [.str (txt e.1),.bl e.2])
theorem fy.same{H a:Hp}{c:af}{L:List (List Nat×Bool)}(h:fy H c L)(s:aF H a):fy a c L:=by
 obtain⟨bs,d,h1,h2⟩:=h;exact⟨bs,s _ _ d,h1,λi b e f g=>s _ _ (h2 i b e f g)⟩
theorem fy.push{H:Hp}{d k:af}{L:List (List Nat×Bool)}{e:List Nat×Bool}{bs:List af}(h0:H d=some (.lst (bs.map V.ref)))(h1:bs.length=L.length)(h2:∀(i:Nat) b e,bs[i]?=some b->L[i]?=some e->H b=some (.tup [.str (txt e.1),.bl e.2]))(j:H k=none):
  fy (upd (upd H k (.tup [.str (txt e.1),.bl e.2])) d (.lst (bs.map V.ref++[.ref k]))) d (L++[e]):=by
 have h:d≠k:=dv h0 j;refine⟨bs++[k],by rw[bg,ZS];rfl,by rw[Zn,Zn,h1];rfl,λi b x c a=>?_⟩;by_cases g:i<bs.length
 ·rw[Zp g]at c;rw[Zp (m_ g h1)]at a;have z:=h2 i b x c a;rw[cK (λw=>by rw[w,h0]at z;cases z),cK (dv z j)];exact z
 ·have f:=(cF c).1;rw[Zn]at f;have n:i=bs.length:=by simp at f;exact AZ f g
  subst n;rw[h1]at a;have l:b=k:=by simpa using c.symm
  have m:x=e:=by simpa using a.symm
  subst l;subst m;rw[cK h.symm,bg]
abbrev nGL:List ar:=["rows","number","address","leaves","at","quarter"]
abbrev oy:List ar:=["rows","number","address","leaves"]
theorem qj:aI nGL oy (bF C6):=dz
inductive zi(d:Nat)(vs:List V)(H:Hp)(Q:VK):Prop
 |mk(rp lp:af)(x:Nat)(ad:List Nat)(L:List (List Nat×Bool))(rows:List Row)(e0:vs=[.ref rp,.int (x:Nat),.str (txt ad),.ref lp])(e1:cC H rp rows)(e2:fh rows)(e3:x<rows.length+2)(e4:Tr.dep (T rows x)<=d)(e5:fy H lp L)(e6:ad.length+d<=100)(e7:L.length+bV (T rows x)<=100000)(e8:∀(H':Hp),cz lp H H'->fy H' lp (L++bu ad (bX (T rows x)))->Q .cb H')
def ue(d:Nat):Sp:=λa H Q _=>zi d a H Q
theorem xO5{f:af}{fd:ak}(F:aT K "gather_leaves" "gather_leaves" C6 f fd)(Tc:pX mg)(kE:mg "str"=none)(JL:mg "enumerate"=none)(W:∃t,mg "FULL"=some (.int 1 t))(hG:mg "gather_leaves"=some (.ref f))(bG:Binds K fd oy []):∀d,aE P w K mg base aR (d+1) f fd oy (ue d):=by
 obtain⟨tf,JJ⟩:=Tc.first;obtain⟨tu,W⟩:=W;have l:∀{x c k:Nat}{a:List Nat}{L:List (List Nat×Bool)}{rows:List Row}{H:Hp}{Q:VK}{bs:List af},x<2->H k=none->H c=some (.lst (bs.map V.ref))->bs.length=L.length->(∀(i:Nat) b e,bs[i]?=some b->L[i]?=some e->H b=some (.tup [.str (txt e.1),.bl e.2])) ->
   (∀(H':Hp),cz c H H'->fy H' c (L++bu a (bX (T rows x)))->Q .cb H')->Q .cb (upd (upd H k (.tup [.str (txt a),.bl (decide (V.int (x:Nat)=V.int 1))])) c (.lst (bs.map V.ref++[.ref k]))):=λ{x c k a L rows H Q bs} O I g h1 h2 q=>by
  refine q _ (λb o e ne=>by rw[cK ne,cK (dv e I)];exact e) ?_;have e:bu a (bX (T rows x))=[(a,decide (V.int (x:Nat)=V.int 1))]:=by
   have:x=0\/x=1:=by lia
   rcases this with rfl|rfl
   ·rw[n6];show[(a++[],false)]=_;rw[YK];rfl
   ·rw[nZ];show[(a++[],true)]=_;rw[YK];rfl
  rw[e];exact fy.push (e:=(a,decide (V.int (x:Nat)=V.int 1))) g h1 h2 I
 intro d
 induction d with
 |zero=>
  refine F.ok qj (λvs H Q E h=>?_) (λbw A M s H vs Q E hr h=>?_)
  ·obtain⟨N,c,x,a,L,rows,rfl,_⟩:=h
   rfl
  ·obtain⟨N,c,x,a,L,rows,rfl,hR,ok,G,hd,X,BV,hL,q⟩:=h;have O:x<2:=by
    rcases Ck hd with z|z
    ·have:=(P8 ok G).1.mp z;lia
    ·have:=(P8 ok G).2.mp z;lia
   obtain⟨bs,g,h1,h2⟩:=X;refine aX ⟨_,⟨dH (dG lU (pv 1) (gf (v:=.int 2) (by rfl) JJ ⟨_,rfl⟩) (cU _)) (l9.go (.cons ⟨iY (qG Z7 Yr Ys sS (pv 3) (aG (cg.go ⟨iM (aG (pv 2) (aG (j_ sZ (pv 1) (gf (v:=.int 1) (by rfl) W ⟨_,rfl⟩) (cU _)) aN))⟩) aN))⟩ (.one ⟨DN⟩))) dI⟩,?_⟩;refine⟨_,xI,?_⟩;refine⟨_,rfl,_,_,rfl,rfl,_,rfl,?_⟩;refine Fc (show(x:Int)<2 from Ll O) ?_;refine⟨_,rfl,.inl ⟨rfl,_,cu.of g⟩,_,rfl,_,rfl,rfl,(by show 2<=sizeLine;decide),λk I=>⟨c,_,_,rfl,rfl,cT g I,?_,l O I g h1 h2 q⟩⟩;rw[Zf,h1];exact pQ (Nt hL)
 |succ d ih=>
  refine F.ok qj (λvs H Q E h=>?_) (λbw A M s H vs Q E hr h=>?_)
  ·obtain⟨N,c,x,a,L,rows,rfl,_⟩:=h
   rfl
  ·obtain⟨N,c,x,a,L,rows,rfl,hR,ok,G,hd,X,BV,hL,q⟩:=h;obtain⟨bs,g,h1,h2⟩:=id X;refine aX ⟨_,⟨dH (dG lU (pv 1) (gf (v:=.int 2) (by rfl) JJ ⟨_,rfl⟩) (cU _)) (l9.go (.cons ⟨iY (qG Z7 Yr Ys sS (pv 3) (aG (cg.go ⟨iM (aG (pv 2) (aG (j_ sZ (pv 1) (gf (v:=.int 1) (by rfl) W ⟨_,rfl⟩) (cU _)) aN))⟩) aN))⟩ (.one ⟨DN⟩))) dI⟩,?_⟩;refine gG ⟨_,⟨sC YW rfl (HQ (by rfl) JL (aG (cg.go ⟨de fY (pv 0) (br mY (pv 1) (gf (v:=.int 2) (by rfl) JJ ⟨_,rfl⟩))⟩) aN)) (sE rfl (ir (gh 4 qj.nd) (ir (gh 5 qj.nd) sN)))
    (l9.go (.one ⟨iY (bJ ih hr hG F.kp bG (cH.go (.cons ⟨pv 0⟩ (.cons ⟨pv 5⟩ (.cons ⟨br G5 (pv 2) (cg.go ⟨oh N8 (by rfl) kE PyProof.Rows.boot_str (aG (pv 4) aN)⟩)⟩ (.cons ⟨pv 3⟩ .nil rfl) rfl) rfl) rfl)))⟩))⟩,?_⟩
   refine⟨_,rfl,_,_,rfl,rfl,_,rfl,?_⟩;refine cM (λhc=>?_) (λhc=>?_)
   ·have O:x<2:=by have:=ZB hc;lia
    refine⟨_,rfl,.inl ⟨rfl,_,cu.of g⟩,_,rfl,_,rfl,rfl,(by show 2<=sizeLine;decide),λk I=>⟨c,_,_,rfl,rfl,cT g I,?_,l O I g h1 h2 q⟩⟩;rw[Zf,h1];exact pQ (Nt hL)
   ·have O:¬x<2:=λz=>hc (Zh (by lia));obtain⟨j,B,r,C,D,rfl,S⟩:=sj ok G O;have eT:T rows (j+2)=.nd (T rows B) (T rows r) (T rows C) (T rows D):=lT ok S;obtain⟨rs,Jh,kG,jF⟩:=id hR;have Jp:=(cF S).1;have wQ:rs[j]?=some (rs[j]'(va kG G)):=Ze (va kG G);have yk:=jF j _ _ wQ S;generalize rs[j]'(va kG G)=ra at wQ yk
    let pt:Nat->List (List Nat×Bool):=λk=>bu (a++[k]) (bX (T rows ([B,r,C,D].getD k 0)))
    have eP:bu a (bX (T rows (j+2)))=(List.range 4).flatMap pt:=by
     rw[eT,DD];show _=pt 0++(pt 1++(pt 2++(pt 3++[])));rw[YK,Z4,Z4]
     rfl
    have hle:∀i,i<=4->((List.range i).flatMap pt).length+(if i<4 then bV (T rows ([B,r,C,D].getD i 0))else 0)<=bV (T rows (j+2)):=λi hi=>by
     have U:∀k,(pt k).length=bV (T rows ([B,r,C,D].getD k 0)):=λk=>by rw[HG,pS]
     have en:bV (T rows (j+2))=bV (T rows B)+bV (T rows r)+bV (T rows C)+bV (T rows D):=by rw[eT];rfl
     have q0:=U 0;have q1:=U 1;have q2:=U 2;have q3:=U 3;simp only[List.getD_cons_zero,List.getD_cons_succ]at q0 q1 q2 q3
     match i,hi with
     |0,_=>show 0+bV (T rows B)<=_;lia
     |1,_=>show(pt 0++[]).length+bV (T rows r)<=_;rw[Zn];simp only[XV];lia
     |2,_=>show(pt 0++(pt 1++[])).length+bV (T rows C)<=_;simp only[Zn,XV];lia
     |3,_=>show(pt 0++(pt 1++(pt 2++[]))).length+bV (T rows D)<=_;simp only[Zn,XV];lia
     |4,_=>show(pt 0++(pt 1++(pt 2++(pt 3++[])))).length+0<=_;simp only[Zn,XV];lia
    rw[eP]at q;refine⟨_,rfl,_,rfl,_,_,rfl,rfl,N,_,((j:Nat):Int),.ref ra,rfl,Yo V.int (by lia),bh.of Jh,n9 (by rw[Zg,wQ];rfl),ra,rfl,⟨_,bh.of yk⟩,q86 (K:=K) (xs:=vN [B,r,C,D]) (λi Y n=>cz c H n/\fy n c (L++(List.range i).flatMap pt)/\Ex2 (λv4 v5=>[some (.ref N),some (.int ((j+2:Nat):Int)),some (.str (txt a)),some (.ref c),v4,v5]) Y)
     (λi Y n ⟨R,_⟩=>R.cR g (λu z=>nomatch z) _ _ yk) ⟨cz.refl _ _,by simpa using X,none,none,rfl⟩ ?_ ?_⟩
    ·rintro i y Y n p hy ⟨R,jO,v4,v5,rfl⟩ Jq;obtain⟨m,Z,rfl⟩:=x6 hy;have J:i<4:=(cF Z).1;have T2:lq H n:=R.cR g (λu z=>nomatch z);have em:[B,r,C,D].getD i 0=m:=by rw[ZF,Z];rfl
     have JC:=hle i (A7 J);rw[Zr J,em]at JC;have s3:=bf (o:=.tup [V.int (i:Nat),V.int (m:Nat)]) Jq;have yn:=jO.same s3;have B3:cz c H (upd n p (.tup [V.int (i:Nat),V.int (m:Nat)])):=R.trans (cz.of s3);have QU:upd n p (.tup [V.int (i:Nat),V.int (m:Nat)]) p=some (.tup [V.int (i:Nat),V.int (m:Nat)]):=bg;generalize upd n p (.tup [V.int (i:Nat),V.int (m:Nat)])=H3 at s3 yn B3 QU ⊢;have T3:lq H H3:=B3.cR g (λu z=>nomatch z);have hkl:m<rows.length+2:=by
      have:=(ok j _ S).2 m (Zy Z);exact ng this G
     have hTk:=Cq ok S J Z;refine⟨p,_,rfl,bh.of QU,rfl,_,_,rfl,_,_,rfl,rfl,?_⟩;refine Ds (σ':=[some (.ref N),some (.int ((j+2:Nat):Int)),some (.str (txt a)),some (.ref c),some (.int (i:Nat)),some (.int (m:Nat))]) rfl ?_;refine opq λkf hkf=>?_;refine⟨_,rfl,_,rfl,_,rfl,_,rfl,(i:Int),rfl,?_,_,_,rfl,rfl,?_,_,rfl,?_⟩
     ·match i,J with
      |0,_|1,_|2,_|3,_=>decide +kernel
     ·rw[OI J,xo];show a.length+1<=sizeLine;exact Yt (xH (by lia))
     ·rw[OI J];refine⟨N,c,m,a++[i],L++(List.range i).flatMap pt,rows,?_,hR.mono T3,ok,hkl,?_,yn,?_,?_,λH4 B4 vK=>?_⟩
      ·rw[<- P5];rfl
      ·rw[hTk];exact LV J _ hd
      ·rw[Zn];show a.length+1+d<=100;exact LC BV
      ·rw[Zn];lia
      ·refine hkf _ _ ⟨B3.trans B4,?_,_,_,rfl⟩;rw[Xk,List.flatMap_append,<- Z4];have e1:([i]:List Nat).flatMap pt=bu (a++[i]) (bX (T rows m)):=by
        show pt i++[]=_;rw[YK];show bu (a++[i]) (bX (T rows ([B,r,C,D].getD i 0)))=_;rw[em]
       rw[e1];exact vK
    ·rintro Y n ⟨R,jO,v4,v5,rfl⟩;exact q n R jO
end Pr
namespace cS
open PySem
def gW(xs:Array Nat):Prop:=∀i j (a:i<xs.size) (b:j<xs.size),i<j->xs[i]<xs[j]
theorem HD{xs:Array Nat}(d:gW xs)(j:Nat):∀(f b a:Nat),a-b<=f->b<=a->a<=xs.size->(∀k (h:k<xs.size),k<b->xs[k]<j)->(∀k (h:k<xs.size),a<=k->j<=xs[k]) ->
  SetTable.below.go xs j f b a<=xs.size/\(∀k (h:k<xs.size),k<SetTable.below.go xs j f b a->xs[k]<j)/\(∀k (h:k<xs.size),SetTable.below.go xs j f b a<=k->j<=xs[k])
 |0,b,a,q,p,g,h1,h2=>by
  have e:b=a:=by lia
  subst e;exact⟨g,h1,h2⟩
 |f+1,b,a,q,p,g,h1,h2=>by
  unfold SetTable.below.go;by_cases m:b<a
  ·rw[Zr m];have c:(b+a)/2<xs.size:=by lia
   have r:xs.getD ((b+a)/2) j=xs[(b+a)/2]:=by simp[Array.getD,c]
   simp only;rw[r];by_cases l:xs[(b+a)/2]<j
   ·rw[Zr l];refine HD d j f _ a (by lia) (by lia) g (λk h n=>?_) h2;by_cases i:k=(b+a)/2
    ·subst i;exact l
    ·exact Xm (d k _ h c (oG n i)) l
   ·rw[Zl l];refine HD d j f b _ (by lia) (by lia) (A7 c) h1 (λk h n=>?_);by_cases i:k=(b+a)/2
    ·subst i;lia
    ·have:=d _ k c h (by lia);lia
  ·rw[Zl m];have e:b=a:=by exact oM p m
   subst e;exact⟨g,h1,h2⟩
theorem C3{xs:Array Nat}(b:gW xs)(j:Nat):SetTable.below xs j<=xs.size/\(∀k (h:k<xs.size),k<SetTable.below xs j->xs[k]<j)/\(∀k (h:k<xs.size),SetTable.below xs j<=k->j<=xs[k]):=
 HD b j xs.size 0 xs.size Ly (Zt _) (Zb _) (λk h a=>absurd a (Yp _)) (λk h a=>absurd h (eS a))
theorem US{xs:Array Nat}(d:gW xs){i j:Nat}(h:xs[i]?=some j):SetTable.below xs j=i:=by
 obtain⟨c,e⟩:=ZK.mp h;obtain⟨f,h1,h2⟩:=C3 d j;rcases WQ (SetTable.below xs j) i with z|z|z
 ·have a:=h2 (SetTable.below xs j) (ng z c) (Zb _);have b:=d _ i (ng z c) c z;lia
 ·exact z
 ·have:=h1 i c z;lia
theorem zH{t:aw}(a:gW t.place){i j:Nat}(h:t.place[i]?=some j):t.slot j=.live i:=by
 unfold SetTable.slot;simp only;rw[US a h,Zr (by rw[h];simp)]
theorem oj{α:Type}(xs:Array α)(p:Nat)(d:p<=xs.size)(x:α)(k:Nat):(SetTable.insertAt xs p x)[k]?=if k<p then xs[k]? else if k=p then some x else xs[k-1]?:=by
 unfold SetTable.insertAt;have a:(xs.extract 0 p).size=p:=by simp;lia
 have b:((xs.extract 0 p).push x).size=p+1:=by rw[Array.size_push,a]
 rw[Array.getElem?_append,b];by_cases h1:k<p
 ·rw[Zr (mI h1),Zr h1,Vh,a,Zl (by lia),Array.getElem?_extract];simp only[Xr];rw[Zr (by lia)]
 ·rw[Zl h1];by_cases h2:k=p
  ·rw[Zr h2,Zr (by lia),Vh,a,Zr h2]
  ·rw[Zl h2,Zl (by lia),Array.getElem?_extract];have:p+(k-(p+1))=k-1:=by lia
   rw[this];by_cases c:k-1<xs.size
   ·rw[Zr (by lia)]
   ·rw[Zl (by lia),XS (iw c)]
theorem P4{xs:Array Nat}(h:∀i j x y:Nat,i<j->xs[i]?=some x->xs[j]?=some y->x<y):gW xs:=λi j c a b=>h i j _ _ b (ZN c) (ZN a)
theorem gW.at{xs:Array Nat}(h:gW xs){i j x y:Nat}(c:i<j)(b:xs[i]?=some x)(a:xs[j]?=some y):x<y:=by
 obtain⟨h1,rfl⟩:=ZK.mp b;obtain⟨h2,rfl⟩:=ZK.mp a;exact h i j h1 h2 c
theorem UR{xs:Array Nat}(f:gW xs){j:Nat}(r:∀i:Nat,xs[i]?≠some j):gW (SetTable.insertAt xs (SetTable.below xs j) j):=by
 obtain⟨u,h1,h2⟩:=C3 f j;have w:∀k x:Nat,k<SetTable.below xs j->xs[k]?=some x->x<j:=λk x g e=>by
  obtain⟨h,rfl⟩:=ZK.mp e;exact h1 k h g
 have t:∀k x:Nat,SetTable.below xs j<=k->xs[k]?=some x->j<x:=λk x g e=>by
  obtain⟨h,v⟩:=ZK.mp e;have:=h2 k h g;rw[v]at this;have A:x≠j:=λz=>r k (by rw[e,z]);lia
 generalize SetTable.below xs j=p at *;refine P4 λa b x y s d c=>?_;rw[oj _ _ u]at d c;by_cases l:a<p
 ·rw[Zr l]at d;by_cases n:b<p
  ·rw[Zr n]at c;exact f.at s d c
  ·rw[Zl n]at c;by_cases q:b=p
   ·rw[Zr q]at c;cases c;exact w a x l d
   ·rw[Zl q]at c;exact f.at (by lia) d c
 ·rw[Zl l]at d;rw[Zl (by lia),Zl (by lia)]at c;by_cases m:a=p
  ·rw[Zr m]at d;cases d;exact t _ y (by lia) c
  ·rw[Zl m]at d;exact f.at (by lia) d c
theorem zT{t t':aw}(h:t.mask=t'.mask):∀(m:Nat)(p:SetTable.Probe),cG t m p=cG t' m p
 |0,p=>rfl
 |m+1,p=>by
  have e:t.advance p=t'.advance p:=by unfold SetTable.advance;rw[h]
  show cG t m (t.advance p)=cG t' m (t'.advance p);rw[e];exact zT h m _
theorem Dn{t t':aw}(h:t.mask=t'.mask)(x:Int):t.probeStart x=t'.probeStart x:=by unfold SetTable.probeStart;rw[h]
def Way(t:aw)(x:Int)(j:Nat):Prop:=∃m,m<10*SetTable.turns t.mask/\(cG t m (t.probeStart x)).j=j/\∀a,a<m->∃i:Nat,t.place[i]?=some (cG t a (t.probeStart x)).j
theorem Way.more{t t':aw}{x:Int}{j:Nat}(w:Way t x j)(a:t.mask=t'.mask)(f:∀k:Nat,(∃i:Nat,t.place[i]?=some k)->∃i:Nat,t'.place[i]?=some k):Way t' x j:=by
 obtain⟨m,h1,h2,c⟩:=w;refine⟨m,by rw[<- a];exact h1,?_,λb d=>?_⟩
 ·rw[<- Dn a,<- zT a];exact h2
 ·rw[<- Dn a,<- zT a];exact f _ (c b d)
structure Good(t:aw)(hs:Array Int):Prop where
 gr:cw t hs.size
 ri:gW t.place
 wy:∀(i j:Nat)(x:Int),t.place[i]?=some j->hs[i]?=some x->Way t x j
theorem Good.put{t:aw}{hs:Array Int}(g:Good t hs)(p:t.tooFull=false){j:Nat}{x:Int}(m:∀i:Nat,t.place[i]?≠some j)(w:Way t x j):Good (t.put j).1 (SetTable.insertAt hs (t.put j).2 x):=by
 have e:(t.put j).1={t with place:=SetTable.insertAt t.place (SetTable.below t.place j) j}:=by
  unfold SetTable.put;simp only;rw[g.gr.du,HS];simp[g.gr.du]
 have q:(t.put j).2=SetTable.below t.place j:=rfl;have d:=(C3 g.ri j).1;have n:t.place.size=hs.size:=g.gr.pl;have f:∀k:Nat,(∃i:Nat,t.place[i]?=some k)->∃i:Nat,(t.put j).1.place[i]?=some k:=λk ⟨i,c⟩=>by
  rw[e];by_cases h:i<SetTable.below t.place j
  ·exact⟨i,by rw[oj _ _ d,Zr h];exact c⟩
  ·exact⟨i+1,by rw[oj _ _ d,Zl (by lia),Zl (by lia)];exact c⟩
 have l:t.mask=(t.put j).1.mask:=by rw[e]
 refine⟨by rw[Ha];exact g.gr.put p j,by rw[e];exact UR g.ri m,λi k y c a=>?_⟩;rw[q,oj _ _ (by lia)]at a;rw[e]at c;have b:(SetTable.insertAt t.place (SetTable.below t.place j) j)[i]?=some k:=c;rw[oj _ _ d]at b;by_cases h1:i<SetTable.below t.place j
 ·rw[Zr h1]at b a;exact(g.wy i k y b a).more l f
 ·rw[Zl h1]at b a;by_cases h2:i=SetTable.below t.place j
  ·rw[Zr h2]at b a;cases b;cases a;exact w.more l f
  ·rw[Zl h2]at b a;exact(g.wy (i-1) k y b a).more l f
def tm(mask:Nat):aw:={mask:=mask,place:=#[],dummies:=#[],finger:=0,led:=false,moves:=0,plain:=true}
theorem HW{mask i k:Nat}(b:i<=mask)(a:k<=SetTable.runEnd mask i-i):i+k<=mask:=by
 unfold SetTable.runEnd at a;split at a<;>lia
theorem HC{mask:Nat}{owner:Array (Option Nat)}:∀(f i p:Nat)(b:SetTable.Probe)(j:Nat),i<=mask->Head (tm mask) i p none b->SetTable.layClean.free mask owner f i p=some j ->
  ∃m,m<10*f/\(cG (tm mask) m b).j=j/\j<=mask/\(owner.getD j (some 0)).isNone=true/\∀a,a<m->(cG (tm mask) a b).j<=mask/\(owner.getD (cG (tm mask) a b).j (some 0)).isNone=false
 |0,i,p,b,j,_,_,h=>by cases h
 |f+1,i,p,b,j,r,g,h=>by
  unfold SetTable.layClean.free at h;have D:=PM mask i;have t:∀k,k<=SetTable.runEnd mask i-i->(cG (tm mask) k b).j=i+k:=λk c=>by
   rw[DK (tm mask) k b (by rw[g.e];exact c),g.e]
  have C:i<=SetTable.runEnd mask i:=by unfold SetTable.runEnd;split<;>lia
  cases e:(List.range (SetTable.runEnd mask i+1-i)).find? λk=>(owner.getD (i+k) (some 0)).isNone with
  |some k=>
   rw[e]at h;have q:i+k=j:=ZE h;obtain⟨h1,h2,s⟩:=List.find?_range_eq_some.mp e;have c:k<=SetTable.runEnd mask i-i:=by have:=Yv.mp h2;lia
   refine⟨k,by lia,by rw[t k c];exact q,by rw[<- q];exact HW r c,by rw[<- q];exact h1,λa n=>?_⟩;rw[t a (Fh n c)];refine⟨HW r (Fh n c),?_⟩;have:=s a n;simpa using this
  |none=>
   rw[e]at h;simp only at h;have w:∀k,k<=SetTable.runEnd mask i-i->(owner.getD (i+k) (some 0)).isNone=false:=λk c=>by
    have A:∀x∈List.range (SetTable.runEnd mask i+1-i),¬(owner.getD (i+x) (some 0)).isNone=true:=by simpa using e
    have:=A k (Yv.mpr (by lia));exact Yu.mpr this
   have v:Head (tm mask) (SetTable.leap mask i p).1 (SetTable.leap mask i p).2 none (cG (tm mask) ((SetTable.runEnd mask i-i)+1) b):=by
    refine⟨?_⟩;rw[sL,DK (tm mask) _ b (by rw[g.e];exact Zb _)];show(tm mask).advance _=_;rw[g.e];unfold SetTable.advance;rw[Zl (by show ¬(SetTable.runEnd mask i-i)-(SetTable.runEnd mask i-i)>0;exact Lw)]
    rfl
   have y:(SetTable.leap mask i p).1<=mask:=by
    have:=W4 (i*5+1+p/32) (Vn mask);exact X9 this
   obtain⟨m,h1,h2,s,B,u⟩:=HC f _ _ _ j y v h;refine⟨(SetTable.runEnd mask i-i)+1+m,by lia,by rw[sL];exact h2,s,B,λa n=>?_⟩;by_cases l:a<=SetTable.runEnd mask i-i
   ·rw[t a l];exact⟨HW r l,w a l⟩
   ·obtain⟨d,rfl⟩:∃d,a=(SetTable.runEnd mask i-i)+1+d:=⟨a-((SetTable.runEnd mask i-i)+1),Nl l⟩;rw[sL];exact u d (by lia)
def wW(mask:Nat)(owner:Array (Option Nat))(x:Int)(j:Nat):Prop:=∃m,m<10*SetTable.turns mask/\(cG (tm mask) m ((tm mask).probeStart x)).j=j/\∀a,a<m->∃v:Nat,owner[(cG (tm mask) a ((tm mask).probeStart x)).j]?=some (some v)
structure ic(mask:Nat)(owner:Array (Option Nat))(hs:List Int)(K:Nat):Prop where
 sz:owner.size=mask+1
 wy:∀j k:Nat,owner[j]?=some (some k)->k<K/\∀x,hs[k]?=some x->wW mask owner x j
theorem qY0{mask K:Nat}{owner:Array (Option Nat)}{hs:List Int}(g:ic mask owner hs K){x:Int}(B:hs[K]?=some x){j:Nat}
  (h:SetTable.layClean.free mask owner (SetTable.turns mask) (SetTable.bits x%(mask+1)) (SetTable.bits x)=some j):ic mask (owner.setIfInBounds j (some K)) hs (K+1):=by
 obtain⟨m,h1,h2,w,D,u⟩:=HC (mask:=mask) (owner:=owner) (SetTable.turns mask) _ _ ((tm mask).probeStart x) j (X9 (W4 _ (Vn _))) ⟨rfl⟩ h;have q:j<owner.size:=by rw[g.sz];exact uW w
 have C:∀k:Nat,k<=mask->(owner.getD k (some 0)).isNone=false->∃v:Nat,owner[k]?=some (some v):=λk f l=>by
  have s:k<owner.size:=by rw[g.sz];exact uW f
  have e:owner.getD k (some 0)=owner[k]:=by simp[Array.getD,s]
  rw[e]at l;cases ho:owner[k]with
  |none=>rw[ho]at l;cases l
  |some v=>exact⟨v,by rw[ZN s,ho]⟩
 have keep:∀k v:Nat,owner[k]?=some (some v)->∃A:Nat,(owner.setIfInBounds j (some K))[k]?=some (some A):=λk v f=>by
  rw[Yq];by_cases e:j=k
  ·rw[Zr e,Zr q];exact⟨K,rfl⟩
  ·rw[Zl e];exact⟨v,f⟩
 have r:∀y k,wW mask owner y k->wW mask (owner.setIfInBounds j (some K)) y k:=λy k ⟨a,b,c,d⟩=>⟨a,b,c,λp n=>by
  obtain⟨v,t⟩:=d p n;exact keep _ v t⟩
 refine⟨by rw[Ww];exact g.sz,λk v f=>?_⟩;rw[Yq]at f;by_cases e:j=k
 ·rw[Zr e,Zr q]at f;have ev:v=K:=by
   have:=ZE (ZE f);exact this.symm
  subst ev;refine⟨YE _,λy i=>?_⟩;rw[B]at i;cases i;rw[<- e];refine r x j ⟨m,h1,h2,λp n=>?_⟩;obtain⟨a,b⟩:=u p n;exact C _ a b
 ·rw[Zl e]at f;obtain⟨a,b⟩:=g.wy k v f;exact⟨mI a,λy i=>r y k (b y i)⟩
theorem Po{mask:Nat}(all:List Int):∀(m:List Int)(b d:Array (Option Nat))(K f:Nat),ic mask b all K->(∀i x,m[i]?=some x->all[K+i]?=some x) ->
  (m.foldl (λ(c:Option (Array (Option Nat)×Nat)) (h:Int)=>do
   let (b,k) <- c
   let j <- SetTable.layClean.free mask b (SetTable.turns mask) (SetTable.bits h%(mask+1)) (SetTable.bits h)
   pure (b.setIfInBounds j (some k),k+1)) (some (b,K)))=some (d,f)->ic mask d all f
 |[],b,d,K,f,g,_,e=>by
  have:=ZE e;cases this;exact g
 |h::m,b,d,K,f,g,n,e=>by
  rw[Z3]at e;have q:=n 0 h rfl;rw[Vm]at q;cases hf:SetTable.layClean.free mask b (SetTable.turns mask) (SetTable.bits h%(mask+1)) (SetTable.bits h)with
  |none=>
   exfalso;have p:(m.foldl (λ(c:Option (Array (Option Nat)×Nat)) (h:Int)=>do
    let (b,k) <- c
    let j <- SetTable.layClean.free mask b (SetTable.turns mask) (SetTable.bits h%(mask+1)) (SetTable.bits h)
    pure (b.setIfInBounds j (some k),k+1)) none)=some (d,f):=by
    rw[<- e];congr 1;show none=(SetTable.layClean.free mask b (SetTable.turns mask) (SetTable.bits h%(mask+1)) (SetTable.bits h)).bind _;rw[hf]
    rfl
   have r:∀l:List Int,(l.foldl (λ(c:Option (Array (Option Nat)×Nat)) (h:Int)=>do
    let (b,k) <- c
    let j <- SetTable.layClean.free mask b (SetTable.turns mask) (SetTable.bits h%(mask+1)) (SetTable.bits h)
    pure (b.setIfInBounds j (some k),k+1)) none)=none:=λl=>by
    induction l with
    |nil=>rfl
    |cons a l s=>rw[Z3];exact s
   rw[r]at p;cases p
  |some j=>
   refine Po all m (b.setIfInBounds j (some K)) d (K+1) f (qY0 g q hf) (λi x t=>?_) ?_
   ·have:=n (i+1) x (by simpa using t);rw[show K+1+i=K+(i+1)from mH];exact this
   ·rw[<- e];congr 1;show some _=(SetTable.layClean.free mask b (SetTable.turns mask) (SetTable.bits h%(mask+1)) (SetTable.bits h)).bind _;rw[hf]
    rfl
theorem UQ{mask:Nat}{hs:Array Int}{owner:Array (Option Nat)}(h:SetTable.layClean mask hs=some owner):ic mask owner hs.toList hs.size:=by
 unfold SetTable.layClean at h;rw[<- Vs]at h;obtain⟨⟨o,d⟩,e,rfl⟩:=Zo.mp h;have s:ic mask (Array.replicate (mask+1) none) hs.toList 0:=⟨by simp,λj k f=>by
  rw[Array.getElem?_replicate]at f;split at f<;>cases f⟩
 have g:=Po hs.toList hs.toList _ o 0 d s (λi x t=>by rw[Xr];exact t) e;refine⟨g.sz,λj k f=>?_⟩;obtain⟨a,b⟩:=g.wy j k f;have cnt:∀(l:List Int)(o m:Array (Option Nat))(K d:Nat),(l.foldl (λ(c:Option (Array (Option Nat)×Nat)) (h:Int)=>do
   let (owner,k) <- c
   let j <- SetTable.layClean.free mask owner (SetTable.turns mask) (SetTable.bits h%(mask+1)) (SetTable.bits h)
   pure (owner.setIfInBounds j (some k),k+1)) (some (o,K)))=some (m,d)->d=K+l.length:=λl=>by
  induction l with
  |nil=>intro o m K d e;have:=ZE e;cases this;rfl
  |cons x l p=>
   intro o m K d e;rw[Z3]at e;cases hf:SetTable.layClean.free mask o (SetTable.turns mask) (SetTable.bits x%(mask+1)) (SetTable.bits x)with
   |none=>
    exfalso;have r:∀l:List Int,(l.foldl (λ(c:Option (Array (Option Nat)×Nat)) (h:Int)=>do
     let (owner,k) <- c
     let j <- SetTable.layClean.free mask owner (SetTable.turns mask) (SetTable.bits h%(mask+1)) (SetTable.bits h)
     pure (owner.setIfInBounds j (some k),k+1)) none)=none:=λl=>by
     induction l with
     |nil=>rfl
     |cons a l p=>rw[Z3];exact p
    have u:(SetTable.layClean.free mask o (SetTable.turns mask) (SetTable.bits x%(mask+1)) (SetTable.bits x)).bind (λj=>some (o.setIfInBounds j (some K),K+1))=none:=by rw[hf];rfl
    have n:(l.foldl (λ(c:Option (Array (Option Nat)×Nat)) (h:Int)=>do
     let (owner,k) <- c
     let j <- SetTable.layClean.free mask owner (SetTable.turns mask) (SetTable.bits h%(mask+1)) (SetTable.bits h)
     pure (owner.setIfInBounds j (some k),k+1)) ((SetTable.layClean.free mask o (SetTable.turns mask) (SetTable.bits x%(mask+1)) (SetTable.bits x)).bind (λj=>some (o.setIfInBounds j (some K),K+1))))=some (m,d):=e
    rw[u,r]at n;cases n
   |some j=>
    have n:(l.foldl (λ(c:Option (Array (Option Nat)×Nat)) (h:Int)=>do
     let (owner,k) <- c
     let j <- SetTable.layClean.free mask owner (SetTable.turns mask) (SetTable.bits h%(mask+1)) (SetTable.bits h)
     pure (owner.setIfInBounds j (some k),k+1)) ((SetTable.layClean.free mask o (SetTable.turns mask) (SetTable.bits x%(mask+1)) (SetTable.bits x)).bind (λj=>some (o.setIfInBounds j (some K),K+1))))=some (m,d):=e
    rw[hf]at n;have:=p _ _ _ _ n;rw[this,Zz];exact mH
 have q:=cnt _ _ _ _ _ e;rw[Xr,ZP]at q;exact⟨m_ a q,b⟩
theorem Hi(owner:Array (Option Nat)):∀(n:Nat),(∀i j k:Nat,((List.range n).filterMap λj=>(owner.getD j none).map (λv=>(j,v)))[i]?=some (j,k)->j<n/\owner[j]?=some (some k)) /\
  (∀(i a:Nat)(p g:Nat×Nat),i<a->((List.range n).filterMap λj=>(owner.getD j none).map (λv=>(j,v)))[i]?=some p->((List.range n).filterMap λj=>(owner.getD j none).map (λv=>(j,v)))[a]?=some g->p.1<g.1) /\
  (∀j k:Nat,j<n->owner[j]?=some (some k)->∃i:Nat,((List.range n).filterMap λj=>(owner.getD j none).map (λv=>(j,v)))[i]?=some (j,k))
 |0=>⟨λi j k h=>by simp at h,λi a p g _ h=>by simp at h,λj k h=>absurd h (Yp _)⟩
 |n+1=>by
  obtain⟨h1,h2,s⟩:=Hi owner n;rw[Xk,List.filterMap_append];generalize A:((List.range n).filterMap λj=>(owner.getD j none).map (λv=>(j,v)))=L at h1 h2 s;have w:∀v,owner.getD n none=some v->owner[n]?=some (some v):=λv q=>by
   by_cases d:n<owner.size
   ·have e:owner.getD n none=owner[n]:=by simp[Array.getD,d]
    rw[ZN d,<- e,q]
   ·have e:owner.getD n none=none:=by simp[Array.getD,d]
    rw[e]at q;cases q
  cases ho:owner.getD n none with
  |none=>
   have e:[n].filterMap (λj=>(owner.getD j none).map (λv=>(j,v)))=[]:=by
    rw[ZT,ho];rfl
   rw[e,YK];refine⟨λi j k h=>⟨Yc (h1 i j k h).1,(h1 i j k h).2⟩,h2,λj k m b=>?_⟩;by_cases l:j=n
   ·subst l;have d:=(ZK.mp b).1;have e:owner.getD j none=owner[j]:=by simp[Array.getD,d]
    rw[ZN d]at b;rw[e,ZE b]at ho;cases ho
   ·exact s j k (oG m l) b
  |some v=>
   have e:[n].filterMap (λj=>(owner.getD j none).map (λv=>(j,v)))=[(n,v)]:=by
    rw[ZT,ho];rfl
   rw[e];have t:∀(i:Nat) p,L[i]?=some p->p.1<n:=λi p h=>(h1 i p.1 p.2 h).1;refine⟨λi j k h=>?_,λi a p g r h c=>?_,λj k m b=>?_⟩
   ·by_cases f:i<L.length
    ·rw[Zp f]at h;exact⟨Yc (h1 i j k h).1,(h1 i j k h).2⟩
    ·rw[Zx (iw f)]at h;have:i-L.length=0:=by
      have:=(cF h).1;simp at this;exact this
     rw[this]at h;have h:=ZE h;cases h;exact⟨YE _,w v ho⟩
   ·have u:=(cF c).1;rw[Zn]at u;have u:a<L.length+1:=u;rw[Zp (by lia)]at h;by_cases x:a<L.length
    ·rw[Zp x]at c;exact h2 i a p g r h c
    ·rw[Zx (iw x)]at c;have y:a-L.length=0:=by lia
     rw[y]at c;have c:=ZE c;rw[<- c];exact t i p h
   ·by_cases l:j=n
    ·subst l;have:=w v ho;rw[this]at b;cases b;exact⟨L.length,by rw[Zx (Zb _),Vo];rfl⟩
    ·obtain⟨i,f⟩:=s j k (oG m l) b;exact⟨i,by rw[Zp (cF f).1];exact f⟩
theorem zG{α:Type}{es:Array α}{b:Array Nat}(h:∀v∈b,v<es.size){i k:Nat}(e:b[i]?=some k):(b.filterMap (es[·]?))[i]?=es[k]?:=by
 have key:∀(l:List Nat),(∀v∈l,v<es.size)->∀i k:Nat,l[i]?=some k->(l.filterMap (es[·]?))[i]?=es[k]?:=λl=>by
  induction l with
  |nil=>intro _ i k e;simp at e
  |cons a l g=>
   intro d i k e;have f:=d a Zu;rw[ZT,show es[a]?=some es[a] by simp[f]];simp only;cases i with
   |zero=>
    have:a=k:=by simpa using e
    subst this;simp[f]
   |succ i=>
    rw[List.getElem?_cons_succ]at e ⊢;exact g (λv c=>d v (Zk _ c)) i k e
 have:=key b.toList (λv c=>h v (by simpa using c)) i k (by rw[Z5];exact e);rw[<- Z5,Array.toList_filterMap];exact this
theorem q89{mask finger moves:Nat}{led plain:Bool}{hs:Array Int}{t:aw}{c:Array Nat}(e:SetTable.laid mask finger moves led plain hs=some (t,c))(M:cw t hs.size)(w:∀v∈c,v<hs.size)(N:c.size=hs.size):
  Good t (c.filterMap (hs[·]?)):=by
 unfold SetTable.laid at e;cases hl:SetTable.layClean mask hs with
 |none=>rw[hl]at e;cases e
 |some d=>
  rw[hl]at e;have e:=ZE e;have g:=UQ hl;obtain⟨h1,h2,A⟩:=Hi d (mask+1);have q:t={mask:=mask,place:=((((List.range (mask+1)).filterMap λj=>(d.getD j none).map (λv=>(j,v))).map (·.1)).toArray),dummies:=#[],finger:=finger,led:=led,moves:=moves,plain:=plain}:=(Prod.mk.inj e).1.symm;have s:c=((((List.range (mask+1)).filterMap λj=>(d.getD j none).map (λv=>(j,v))).map (·.2)).toArray):=(Prod.mk.inj e).2.symm;generalize ((List.range (mask+1)).filterMap λj=>(d.getD j none).map (λv=>(j,v)))=L at h1 h2 A q s;have n:∀i j:Nat,t.place[i]?=some j<->∃k,L[i]?=some (j,k):=λi j=>by
   rw[q];show((L.map (·.1)).toArray)[i]?=some j<->_;rw[W1,Zg];constructor
   ·intro h;obtain⟨p,H,rfl⟩:=Zo.mp h;exact⟨p.2,H⟩
   ·rintro⟨k,h⟩;rw[h];rfl
  have C:t.mask=mask:=by rw[q]
  refine⟨?_,P4 λa b x y F T Q=>?_,λi j x I D=>?_⟩
  ·rw[Ac w,N];exact M
  ·obtain⟨k,l⟩:=(n a x).mp T;obtain⟨U,E⟩:=(n b y).mp Q;exact h2 a b _ _ F l E
  ·obtain⟨k,l⟩:=(n i j).mp I;have K:c[i]?=some k:=by
    rw[s,W1,Zg,l];rfl
   rw[zG w K]at D;obtain⟨_,b⟩:=g.wy j k (h1 i j k l).2;obtain⟨m,O,J,R⟩:=b x (by rw[Z5];exact D);have f:(tm mask).mask=t.mask:=C.symm;refine⟨m,by rw[C];exact O,?_,λB P=>?_⟩
   ·rw[<- Dn f,<- zT f];exact J
   ·obtain⟨v,r⟩:=R B P;rw[<- Dn f,<- zT f];have G:(cG (tm mask) B ((tm mask).probeStart x)).j<mask+1:=by
     have:=(ZK.mp r).1;rw[g.sz]at this;exact this
    obtain⟨u,S⟩:=A _ v G r;exact⟨u,(n u _).mpr ⟨v,S⟩⟩
end cS
namespace cS
open PySem PySem.Spec PyProof.Rows
theorem LR{t:aw}(y:t.dummies=#[])(f:Nat->Int)(h:Int)(st:SetTable.Probe):∀(q m M:Nat),M-m<q->m<=M->st.dummy=none->t.slot (cG t M st).j=.empty ->
  (∃n j,m<=n/\n<=M/\SetTable.probe.go t f h q (cG t m st)=some (.empty j none)/\(cG t n st).j=j/\t.slot j=.empty/\∀p,m<=p->p<n->∃i:Nat,t.place[i]?=some (cG t p st).j/\f i≠h) \/
  (∃n j i,m<=n/\n<M/\SetTable.probe.go t f h q (cG t m st)=some (.candidate j i (cG t (n+1) st))/\(cG t n st).j=j/\t.slot j=.live i/\t.place[i]?=some j/\f i=h/\∀p,m<=p->p<n->∃i:Nat,t.place[i]?=some (cG t p st).j/\f i≠h)
 |0,m,M,h1,_,_,_=>absurd h1 (Yp _)
 |q+1,m,M,h1,h2,w,s=>by
  unfold SetTable.probe.go;have D:(cG t m st).dummy=none:=by rw[PL];exact w
  have x:t.advance (cG t m st)=cG t (m+1) st:=by rw[sL];rfl
  rcases Qr y (cG t m st).j with e|⟨i,e,A⟩
  ·rw[e];exact .inl ⟨m,_,Zb _,h2,by rw[D],rfl,e,λp a b=>absurd a (by lia)⟩
  ·rw[e];have v:m<M:=by
    rcases VR m M with z|z
    ·exact z
    ·have:m=M:=by lia
     subst this;rw[e]at s;cases s
   by_cases r:f i==h
   ·refine .inr ⟨m,_,i,Zb _,v,?_,rfl,e,A,by simpa using r,λp a b=>absurd a (by lia)⟩;simp only;rw[Zr r,x]
   ·simp only;rw[Zl r,x];have ext:∀n,(∀p,m+1<=p->p<n->∃i:Nat,t.place[i]?=some (cG t p st).j/\f i≠h)->∀p,m<=p->p<n->∃i:Nat,t.place[i]?=some (cG t p st).j/\f i≠h:=λn B p a b=>by
     by_cases z:p=m
     ·subst z;exact⟨i,A,by simpa using r⟩
     ·exact B p (by lia) b
    rcases LR y f h st q (m+1) M (by lia) v w s with⟨n,j,a,b,c,d,u,g⟩|⟨n,j,C,a,b,c,d,u,g,k,l⟩
    ·exact .inl ⟨n,j,by lia,b,c,d,u,ext n g⟩
    ·exact .inr ⟨n,j,C,by lia,b,c,d,u,g,k,ext n l⟩
theorem Pn{t:aw}{f:Nat->Int}{h:Int}{st:SetTable.Probe}{u:Option SetTable.Met}{r M:Nat}(B:t.probe f h (cG t r st)=u)(C:t.dummies=#[])(F:M<10*SetTable.turns t.mask)(h2:r<=M)(E:st.dummy=none)(D:t.slot (cG t M st).j=.empty)
  {es:Array (Int×aa)}(s:∀(i:Nat) e,es[i]?=some e->f i=e.1) (G:t.place.size=es.size):
  (∃m j,r<=m/\m<=M/\u=some (.empty j none)/\(cG t m st).j=j/\t.slot j=.empty/\∀n,r<=n->n<m->∃i:Nat,t.place[i]?=some (cG t n st).j/\∀e,es[i]?=some e->e.1≠h) \/
  (∃m j i,r<=m/\m<M/\u=some (.candidate j i (cG t (m+1) st))/\(cG t m st).j=j/\t.slot j=.live i/\t.place[i]?=some j/\(∀e,es[i]?=some e->e.1=h)/\∀n,r<=n->n<m->∃i:Nat,t.place[i]?=some (cG t n st).j/\∀e,es[i]?=some e->e.1≠h):=by
 subst B;rcases LR C f h st (10*SetTable.turns t.mask) r M (by lia) h2 E D with⟨m,j,a,b,c,d,v,g⟩|⟨m,j,A,a,b,c,d,v,g,k,l⟩
 ·exact .inl ⟨m,j,a,b,c,d,v,λn x y=>let ⟨i,p,q⟩:=g n x y;⟨i,p,λe z w=>q (by rw[s i e z];exact w)⟩⟩
 ·exact .inr ⟨m,j,A,a,b,c,d,v,g,λe z=>by rw[<- s A e z];exact k,λn x y=>let ⟨i,p,q⟩:=l n x y;⟨i,p,λe z w=>q (by rw[s i e z];exact w)⟩⟩
section
variable{K:Type}[DecidableEq K]{knd:KeyKind prog w K}{A:aq}{E:aa->ae->Prop}{s:ae}
theorem xI9{t:aw}{es:Array (Int×aa)}{c:List K}{h:ao}(G:Good t (es.map (·.1)))(H:∀(i:Nat) e,es[i]?=some e->∃a r,e.2=.ref a/\IsTupleKey knd h r a/\e.1=tupleKeyHash knd r){k j:Nat}(p:(cG t k (t.probeStart (tupleKeyHash knd c))).j=j)(d:t.slot j=.empty)
  (N:∀B,B<k->∃i:Nat,t.place[i]?=some (cG t B (t.probeStart (tupleKeyHash knd c))).j/\∀e a,es[i]?=some e->e.2=.ref a->¬IsTupleKey knd h c a):
  ∀(i:Nat) e a,es[i]?=some e->e.2=.ref a->¬IsTupleKey knd h c a:=by
 intro i e a f q y;have g:cw t es.size:=by have:=G.gr;rw[Yz]at this;exact this
 obtain⟨Q,J,v,C,D⟩:=H i e f;rw[q]at v;cases v;have O:J=c:=C.inj y;subst O;have F:i<t.place.size:=by rw[g.pl];exact(ZK.mp f).1
 have n:t.place[i]?=some t.place[i]:=ZN F;obtain⟨m,P,l,x⟩:=G.wy i _ e.1 n (by rw[Xg,f];rfl);rw[D]at l x;rcases WQ m k with z|z|z
 ·obtain⟨I,b,L⟩:=N m z;rw[l]at b;have M:=zH G.ri b;have u:=zH G.ri n;rw[M]at u;cases u;exact L e a f q y
 ·subst z;rw[l]at p;rw[<- p,zH G.ri n]at d;cases d
 ·obtain⟨I,b⟩:=x k z;rw[p]at b;rw[zH G.ri b]at d;cases d
theorem TJ{a b:af}{o:az}{es:Array (Int×aa)}{ep:Nat}{t:aw}{h:List K}{Q:SetFound->ae->Prop}(hu:A.units<cLine)
  (D:s.heap.get? a=some o) (C:o.data=.set es ep t) (G:Good t (es.map (·.1))) (V:IsTupleKey knd s.heap h b)
  (x:∀(i:Nat) e,es[i]?=some e->∃k u,e.2=.ref k/\IsTupleKey knd s.heap u k/\e.1=tupleKeyHash knd u)
  (there:(∃(i:Nat)(e:Int×aa)(k:af),es[i]?=some e/\e.2=.ref k/\IsTupleKey knd s.heap h k)->Q (.there none) s)
  (free:∀j,(∀(i:Nat) e k,es[i]?=some e->e.2=.ref k->¬IsTupleKey knd s.heap h k)->Way t (tupleKeyHash knd h) j->(∀i:Nat,t.place[i]?≠some j)->Q (.free j false) s)
  {M:Nat}(hM:M<10*SetTable.turns t.mask) (Z:t.slot (cG t M (t.probeStart (tupleKeyHash knd h))).j=.empty):
  ∀(d q f:Nat)(X:Option SetTable.Probe),M-q<=d->q<=M->d<f->X.getD (t.probeStart (tupleKeyHash knd h))=cG t q (t.probeStart (tupleKeyHash knd h)) ->
   (∀l,l<q->∃i:Nat,t.place[i]?=some (cG t l (t.probeStart (tupleKeyHash knd h))).j/\∀e k,es[i]?=some e->e.2=.ref k->¬IsTupleKey knd s.heap h k) ->
   ah (ai prog w) A (setSearchFrom a (.ref b) (tupleKeyHash knd h) true f X) Q E s:=by
 have g:cw t es.size:=by have:=G.gr;rw[Yz]at this;exact this
 intro d
 induction d using Nat.strongRecOn with
 |_ d ih=>
  intro q f X h1 h2 h3 kE Y;cases f with
  |zero=>exact absurd h3 (Yp _)
  |succ f=>
   unfold setSearchFrom;refine Za (YU D C g.fits ?_);dsimp only;rw[g.way];simp only[Zs,ZU];rw[kE];split
   rotate_left
   ·rename_i N;exact Or.elim (Pn rfl g.du hM h2 rfl Z (es:=es) (λi e H=>by show(es[i]?.map (·.1)).getD 0=e.1;rw[H];rfl) g.pl) (λ⟨_,_,_,_,e,_⟩=>(N _ e).elim) (λ⟨_,_,_,_,_,e,_⟩=>(N _ e).elim)
   rename_i met N;rcases Pn N g.du hM h2 rfl Z (es:=es) (λi e H=>by show(es[i]?.map (·.1)).getD 0=e.1;rw[H];rfl) g.pl with⟨m1,j,a1,a2,a3,a4,a5,a6⟩|⟨m1,j,i,a1,a2,a3,a4,a5,a6,a7,a8⟩
   ·cases a3;dsimp only;refine Zc ?_;have nj:∀i:Nat,t.place[i]?≠some j:=λi z=>by rw[zH G.ri z]at a5;cases a5
    have all:∀l,l<m1->∃i:Nat,t.place[i]?=some (cG t l (t.probeStart (tupleKeyHash knd h))).j/\∀e k,es[i]?=some e->e.2=.ref k->¬IsTupleKey knd s.heap h k:=λl P=>by
     by_cases z:l<q
     ·exact Y l z
     ·obtain⟨B,W,T⟩:=a6 l (by lia) P;refine⟨B,W,λe c p r J=>T e p ?_⟩;obtain⟨c',kc,I,R,S⟩:=x B e p;rw[r]at I;cases I;rw[S,R.inj J]
    exact free j (xI9 G x a4 a5 all) ⟨m1,by lia,a4,λl P=>let ⟨i,O,_⟩:=all l P;⟨i,O⟩⟩ nj
   ·cases a3;dsimp only;have O:i<es.size:=by
     have:=(ZK.mp a6).1;rw[g.pl]at this;exact this
    obtain⟨k,u,e2,L,e3⟩:=x i es[i] (ZN O);have v:es[i]?=some (es[i].1,.ref k):=by
     rw[<- e2];simp[O]
    have sm:t.sameMemory t.moves t.mask=some true:=by
     unfold SetTable.sameMemory;rw[Zr (by simp)]
    have seen:∀y∈(es.filter (·.1==tupleKeyHash knd h)).toList.map (·.2),∃b cW,y=.ref b/\IsTupleKey knd s.heap cW b:=λy hy=>by
     obtain⟨e,U,rfl⟩:=Yi.mp hy;have:e∈es:=(Array.mem_filter.mp (show e∈es.filter (·.1==tupleKeyHash knd h) by simpa using U)).1;obtain⟨n,hn,en⟩:=Array.mem_iff_getElem.mp this;obtain⟨SQ,oO,p,r,_⟩:=x n e (by rw[ZN hn,en]);exact⟨SQ,oO,p,r⟩
    have nx:u≠h->ah (ai prog w) A (setSearchFrom a (.ref b) (tupleKeyHash knd h) true f (some (cG t (m1+1) (t.probeStart (tupleKeyHash knd h))))) Q E s:=λm=>by
     refine ih (d-1) (by lia) (m1+1) f _ (by lia) (by lia) (by lia) rfl λl P=>?_;by_cases z:l<q
     ·exact Y l z
     ·by_cases z2:l=m1
      ·subst z2;refine⟨i,by rw[a4];exact a6,λe c p r J=>m ?_⟩;rw[v]at p;cases p;cases r;exact L.inj J
      ·obtain⟨B,W,T⟩:=a8 l (by lia) (by lia);refine⟨B,W,λe c p r J=>T e p ?_⟩;obtain⟨c',kc,I,R,S⟩:=x B e p;rw[r]at I;cases I;rw[S,R.inj J]
    have F:u=h->Q (.there none) s:=λH=>there ⟨i,_,k,v,rfl,by rw[<- H];exact L⟩;cases hl:t.led with
    |false=>
     simp only[WN,YR];refine Za (xG5 V ?_ seen);simp only[Zs,ZU];rw[v];dsimp only;refine Za (Yg (wpAny_eqBool_tuple hu L V ?_));by_cases m:u=h
     ·rw[Zh m];refine Za (YU D C g.fits ?_);dsimp only;simp only[Bool.and_self,YR];exact Zc (F m)
     ·rw[Zi m];refine Za (YU D C g.fits ?_);dsimp only;simp only[VY,Zs,ZU];rw[sm];dsimp only;simp only[YR];rw[a5];dsimp only;rw[v];dsimp only;refine Za (wpAny_isSame_ref_self ?_);refine Za (Zc ?_);simp only[YR];exact nx m
    |true=>
     simp only[YJ,Zs,ZU];rw[v];dsimp only;refine Za (Yg (wpAny_eqBool_tuple hu L V ?_));by_cases m:u=h
     ·rw[Zh m];refine Za (YU D C g.fits ?_);dsimp only;simp only[Bool.and_self,YR];exact Zc (F m)
     ·rw[Zi m];refine Za (YU D C g.fits ?_);dsimp only;simp only[VY,Zs,ZU];rw[sm];dsimp only;simp only[YR];rw[a5];dsimp only;rw[v];dsimp only;refine Za (wpAny_isSame_ref_self ?_);refine Za (Zc ?_);simp only[YR];exact nx m
end
end cS
namespace cS
open PySem
theorem OF{mask:Nat}(P:Array (Option Nat)->Nat->Prop)(step:∀o K x j,P o K->SetTable.layClean.free mask o (SetTable.turns mask) (SetTable.bits x%(mask+1)) (SetTable.bits x)=some j->P (o.setIfInBounds j (some K)) (K+1)):
  ∀(f:List Int)(o g:Array (Option Nat))(K d:Nat),P o K ->
  (f.foldl (λ(c:Option (Array (Option Nat)×Nat)) (h:Int)=>do
   let (owner,k) <- c
   let j <- SetTable.layClean.free mask owner (SetTable.turns mask) (SetTable.bits h%(mask+1)) (SetTable.bits h)
   pure (owner.setIfInBounds j (some k),k+1)) (some (o,K)))=some (g,d)->P g d/\d=K+f.length
 |[],o,g,K,d,p,e=>by
  have:=ZE e;cases this;exact⟨p,rfl⟩
 |x::f,o,g,K,d,p,e=>by
  rw[Z3]at e;have i:(f.foldl (λ(c:Option (Array (Option Nat)×Nat)) (h:Int)=>do
     let (owner,k) <- c
     let j <- SetTable.layClean.free mask owner (SetTable.turns mask) (SetTable.bits h%(mask+1)) (SetTable.bits h)
     pure (owner.setIfInBounds j (some k),k+1)) ((SetTable.layClean.free mask o (SetTable.turns mask) (SetTable.bits x%(mask+1)) (SetTable.bits x)).bind (λj=>some (o.setIfInBounds j (some K),K+1))))=some (g,d):=e
  cases hf:SetTable.layClean.free mask o (SetTable.turns mask) (SetTable.bits x%(mask+1)) (SetTable.bits x)with
  |none=>
   exfalso;have m:∀l:List Int,(l.foldl (λ(c:Option (Array (Option Nat)×Nat)) (h:Int)=>do
     let (owner,k) <- c
     let j <- SetTable.layClean.free mask owner (SetTable.turns mask) (SetTable.bits h%(mask+1)) (SetTable.bits h)
     pure (owner.setIfInBounds j (some k),k+1)) none)=none:=λl=>by
    induction l with
    |nil=>rfl
    |cons a l n=>rw[Z3];exact n
   rw[hf]at i;have q:=m f;rw[show(none:Option Nat).bind (λj=>some (o.setIfInBounds j (some K),K+1))=none from rfl,q]at i;cases i
  |some j=>
   rw[hf]at i;obtain⟨a,b⟩:=OF P step f (o.setIfInBounds j (some K)) g (K+1) d (step o K x j p hf) i;exact⟨a,by rw[b,Zz];lia⟩
theorem q90{mask:Nat}{hs:Array Int}{owner:Array (Option Nat)}(h:SetTable.layClean mask hs=some owner):owner.size=mask+1/\∀k,k<hs.size->∃j:Nat,owner[j]?=some (some k):=by
 unfold SetTable.layClean at h;rw[<- Vs]at h;obtain⟨⟨o,n⟩,e,rfl⟩:=Zo.mp h;obtain⟨⟨a,b⟩,c⟩:=OF (λo K=>o.size=mask+1/\∀k,k<K->∃j:Nat,o[j]?=some (some k)) (λo K x j p r=>by
  obtain⟨q,s⟩:=p;obtain⟨m,h1,h2,v,i,u⟩:=HC (mask:=mask) (owner:=o) (SetTable.turns mask) _ _ ((tm mask).probeStart x) j (X9 (W4 _ (Vn _))) ⟨rfl⟩ r;have f:j<o.size:=by lia
  have t:o.getD j (some 0)=o[j]:=by simp[Array.getD,f]
  rw[t]at i;refine⟨by rw[Ww];exact q,λk d=>?_⟩;by_cases z:k=K
  ·exact⟨j,by rw[Yq,Zr rfl,Zr f,z]⟩
  ·obtain⟨l,g⟩:=s k (by lia);refine⟨l,?_⟩;rw[Yq];by_cases y:j=l
   ·subst y;rw[ZN f]at g;rw[ZE g]at i;cases i
   ·rw[Zl y];exact g) hs.toList _ o 0 n ⟨by simp,λk d=>absurd d (Yp _)⟩ e
 refine⟨a,λk d=>b k ?_⟩;rw[c,Xr,ZP];exact d
theorem qY1{mask finger moves:Nat}{led plain:Bool}{hs:Array Int}{t:aw}{a:Array Nat}(e:SetTable.laid mask finger moves led plain hs=some (t,a)):∀k,k<hs.size->∃i:Nat,a[i]?=some k:=by
 unfold SetTable.laid at e;cases hl:SetTable.layClean mask hs with
 |none=>rw[hl]at e;cases e
 |some b=>
  rw[hl]at e;have e:=ZE e;obtain⟨sz,f⟩:=q90 hl;obtain⟨h1,h2,g⟩:=Hi b (mask+1);have l:a=((((List.range (mask+1)).filterMap λj=>(b.getD j none).map (λv=>(j,v))).map (·.2)).toArray):=(Prod.mk.inj e).2.symm;intro k d;obtain⟨j,c⟩:=f k d;have m:=(ZK.mp c).1;obtain⟨i,h⟩:=g j k (by lia) c;exact⟨i,by rw[l,W1,Zg,h];rfl⟩
end cS
namespace cS
open PySem PySem.Spec PyProof.Rows
section
variable{K:Type}[DecidableEq K]{knd:KeyKind prog w K}{A:aq}{E:aa->ae->Prop}{s:ae}
structure dZ(knd:KeyKind prog w K)(h:ao)(a:af)(Ks:List (List K)):Prop where
 ex:∃o es ep t,h.get? a=some o/\o.ExactSet/\o.data=.set es ep t/\Good t (es.map (·.1))/\t.tooFull=false/\t.mask<=8*Ks.length+8/\es.size=Ks.length/\Ks.Nodup /\
  (∀(i:Nat) e,es[i]?=some e->∃b ks,e.2=.ref b/\ks∈Ks/\IsTupleKey knd h ks b/\e.1=tupleKeyHash knd ks)/\∀ks∈Ks,∃(i:Nat)(e:Int×aa)(b:af),es[i]?=some e/\e.2=.ref b/\IsTupleKey knd h ks b
theorem qy4{α:Type}{xs:Array α}{p:Nat}(b:p<=xs.size){x e:α}{i:Nat}(h:(SetTable.insertAt xs p x)[i]?=some e):e=x\/∃a:Nat,xs[a]?=some e:=by
 rw[oj _ _ b]at h;split at h
 ·exact .inr ⟨_,h⟩
 ·split at h
  ·exact .inl (ZE h).symm
  ·exact .inr ⟨_,h⟩
theorem qy5{α:Type}{xs:Array α}{p:Nat}(a:p<=xs.size){x e:α}{i:Nat}(h:xs[i]?=some e):∃b:Nat,(SetTable.insertAt xs p x)[b]?=some e:=by
 by_cases z:i<p
 ·exact⟨i,by rw[oj _ _ a,Zr z];exact h⟩
 ·exact⟨i+1,by rw[oj _ _ a,Zl (by lia),Zl (by lia)];exact h⟩
theorem qL0{α b:Type}(f:α->b)(xs:Array α)(p:Nat)(a:p<=xs.size)(x:α):(SetTable.insertAt xs p x).map f=SetTable.insertAt (xs.map f) p (f x):=by
 apply Array.ext_getElem?
 intro i;rw[Xg,oj _ _ a,oj _ _ (by rw[Yz];exact a)];split
 ·rw[Xg]
 ·split
  ·rfl
  ·rw[Xg]
theorem Good.plain{t:aw}{hs:Array Int}(g:Good t hs)(b:Bool):Good {t with plain:=b} hs:=⟨⟨g.gr.pl,g.gr.du,g.gr.ma,g.gr.le⟩,g.ri,λi j x h1 h2=>by
 obtain⟨m,d,a,f⟩:=g.wy i j x h1 h2;have e:t.mask=({t with plain:=b}:aw).mask:=rfl;exact Way.more (t:=t) ⟨m,d,a,f⟩ e λk c=>c⟩
theorem UP{a b:af}{f:List K}{C:List (List K)}{Q:Bool->ae->Prop}(hu:A.units<cLine)(S:dZ knd s.heap a C)(Z:IsTupleKey knd s.heap f b)(hHb:∀o r m,s.heap.get? b=some o->o.data=.seq r m->∀v∈r.toList,Hb v)
  (hsz:C.length<1200) (old:f∈C->Q false s) (q:f∉C->∀h',Heap.SameBut a s.heap h'->dZ knd h' a (f::C)->Q true {s with heap:=h'}):
  ah (ai prog w) A (setAddHashed a (.ref b) (tupleKeyHash knd f)) Q E s:=by
 obtain⟨o,h,ep,t,M,kN,F,G,hf,vE,Bt,kJ,kW,yA⟩:=S.ex;have g:cw t h.size:=by have:=G.gr;rw[Yz]at this;exact this
 unfold setAddHashed setAddHashedIn;refine Yg (Za (YU M F g.fits ?_));dsimp only;have hby:byScan (.ref b) h=false:=rfl;rw[hby];simp only[Zs,ZU];obtain⟨m,hm,Bs⟩:=g.meets (tupleKeyHash knd f);have yp:m<100000:=by
  unfold SetTable.turns at hm;lia
 refine Za (TJ hu M F G Z (λi e D=>?_) (λjU=>?_) (λj wI Ja hnj=>?_) hm Bs m 0 100000 none (by lia) (Zt _) yp rfl λm' dW=>absurd dW (Yp _))
 ·obtain⟨l,u,T,e2,U,e4⟩:=kW i e D;exact⟨l,u,T,U,e4⟩
 ·dsimp only;refine Zc (old ?_);obtain⟨i,e,l,J,N,L⟩:=jU;obtain⟨SQ,u,T,e2,U,e4⟩:=kW i e J;rw[N]at T;cases T;rw[L.inj U];exact e2
 have mL:f∉C:=λz=>by
  obtain⟨i,e,l,J,N,L⟩:=yA f z;exact wI i e l J N L
 replace q:=q mL
 dsimp only;refine Za (YU M F g.fits ?_);dsimp only;have P:=G.put hf hnj Ja;have R:(t.put j).2<=h.size:=by
  have:=(C3 G.ri j).1;rw[g.pl]at this;exact this
 have ep1:(SetTable.insertAt h (t.put j).2 (tupleKeyHash knd f,Value.ref b)).map (·.1)=SetTable.insertAt (h.map (·.1)) (t.put j).2 (tupleKeyHash knd f):=qL0 _ _ _ R _;rw[<- ep1]at P;have vt:(t.put j).1.mask=t.mask:=rfl;generalize hp:t.put j=tp at P R vt;obtain⟨V,p⟩:=tp;dsimp only at P R vt ⊢;have vq:V.mask=t.mask:=vt;have Rw:b≠a:=GF Z M F;have AV:∀{h1:ao},Heap.SameBut a s.heap h1->∀(i:Nat) e,(SetTable.insertAt h p (tupleKeyHash knd f,Value.ref b))[i]?=some e->∃l u,e.2=.ref l/\u∈f::C/\IsTupleKey knd h1 u l/\e.1=tupleKeyHash knd u:=λ{h1} hs i e D=>by
  rcases qy4 R D with rfl|⟨Y,D⟩
  ·exact⟨b,f,rfl,Zu,Dm Z Rw hs,rfl⟩
  ·obtain⟨l,u,T,e2,U,e4⟩:=kW Y e D;exact⟨l,u,T,Zk _ e2,Dm U (GF U M F) hs,e4⟩
 have Cn:∀{h1:ao},Heap.SameBut a s.heap h1->∀u∈f::C,∃(i:Nat)(e:Int×aa)(l:af),(SetTable.insertAt h p (tupleKeyHash knd f,Value.ref b))[i]?=some e/\e.2=.ref l/\IsTupleKey knd h1 u l:=λ{h1} hs u X=>by
  rcases ZD.mp X with rfl|X
  ·exact⟨p,_,b,by rw[oj _ _ R,Zl (Yn _),Zr rfl],rfl,Dm Z Rw hs⟩
  ·obtain⟨i,e,l,J,N,L⟩:=yA u X;obtain⟨Y,dw⟩:=qy5 R (x:=(tupleKeyHash knd f,Value.ref b)) J;exact⟨Y,e,l,dw,N,Dm L (GF L M F) hs⟩
 have QH:(f::C).Nodup:=YB.mpr ⟨mL,kJ⟩;have H:(SetTable.insertAt h p (tupleKeyHash knd f,Value.ref b)).size=h.size+1:=Ha _ _ _;have Ge:h.size+1=(f::C).length:=by rw[Zz,Bt]
 have I:h.size+1<=sizeLine:=by rw[We];lia
 have y:∀B:aw,Good B ((SetTable.insertAt h p (tupleKeyHash knd f,Value.ref b)).map (·.1))->B.mask=t.mask->ah (ai prog w) A (do
   storeSet a (SetTable.insertAt h p (tupleKeyHash knd f,Value.ref b)) B
   if(!false&&B.tooFull)=true then do
     setRelay a (SetTable.grown (h.size+1))
     pure true
    else pure true) Q E s:=λB G2 D_=>by
  have g2:cw B (h.size+1):=by have:=G2.gr;rw[Yz,H]at this;exact this
  refine Za (wpAny_storeSet_of M F ?_ (by rw[H];exact I));have DZ:=Qp (es':=SetTable.insertAt h p (tupleKeyHash knd f,Value.ref b)) (t':=B) M F;have DV:=Xc s.heap a (Obj.putSet (SetTable.insertAt h p (tupleKeyHash knd f,Value.ref b)) B);cases ht:B.tooFull with
  |false=>
   simp only[VY,Zs,ZU];refine Zc (q _ DV ⟨_,_,_,B,DZ,kN,rfl,G2,ht,by rw[Zz];lia,by rw[H];exact Ge,QH,AV DV,Cn DV⟩)
  |true=>
   simp only[WN,Bool.and_self,YR];refine Za ?_;unfold setRelay;refine Za (YU DZ rfl (by rw[H];exact g2.fits) ?_);dsimp only;have O:SetTable.grown (h.size+1)=(h.size+1)*4:=by
    unfold SetTable.grown;rw[Zl (by lia)]
   obtain⟨k,ek,_,_,Ed⟩:=N6 (n:=SetTable.grown (h.size+1)) (by rw[O];lia);rw[Zl (by rw[ek,We];rw[O]at Ed;lia)];obtain⟨t3,d,er,g3,hw1,hw2,_,eo,ev⟩:=qN7 (t:=B) (hs:=(SetTable.insertAt h p (tupleKeyHash knd f,Value.ref b)).map (·.1)) (wanted:=SetTable.grown (h.size+1)) (by rw[O];lia) (by rw[Yz,H,O];lia);have G3:=q89 er g3 ev eo;have Sz:=qY1 er;rw[Yz]at g3 eo ev Sz;rw[er];have KC:(d.filterMap ((SetTable.insertAt h p (tupleKeyHash knd f,Value.ref b))[·]?)).size=h.size+1:=by rw[Ac ev,eo,H]
   refine Za ?_;show ah _ _ (if((d.filterMap ((SetTable.insertAt h p (tupleKeyHash knd f,Value.ref b))[·]?)).size != (SetTable.insertAt h p (tupleKeyHash knd f,Value.ref b)).size)=true then _ else _) _ _ _;rw[Zl (by rw[KC,H];simp)];refine Zc ?_;dsimp only;refine wpAny_storeSet_of DZ rfl ?_ (by rw[KC];exact I);have ho2:=Qp (es':=d.filterMap ((SetTable.insertAt h p (tupleKeyHash knd f,Value.ref b))[·]?)) (t':=t3) DZ rfl;have Jf:=DV.trans (Xc _ a (Obj.putSet (d.filterMap ((SetTable.insertAt h p (tupleKeyHash knd f,Value.ref b))[·]?)) t3));have W:(d.filterMap ((SetTable.insertAt h p (tupleKeyHash knd f,Value.ref b))[·]?)).map (·.1)=d.filterMap (((SetTable.insertAt h p (tupleKeyHash knd f,Value.ref b)).map (·.1))[·]?):=by
    apply Array.ext_getElem?
    intro i;rw[Xg];by_cases hi:i<d.size
    ·have ei:d[i]?=some d[i]:=ZN hi;rw[zG ev ei,zG (by rw[Yz];exact ev) ei,Xg]
    ·rw[XS (by rw[Ac ev];lia),XS (by rw[Ac (by rw[Yz];exact ev)];lia)]
     rfl
   refine Zc (q _ Jf ⟨_,_,_,t3,ho2,kN,rfl,by rw[W];exact G3,?_,?_,by rw[KC];exact Ge,QH,λi e D=>?_,λu X=>?_⟩)
   ·unfold SetTable.tooFull;rw[g3.fill,H];rw[O]at hw1;exact Zi (by lia)
   ·rw[O]at hw2;rw[<- Ge];lia
   ·have hi:i<d.size:=by
     have:=(ZK.mp D).1;rw[Ac ev]at this;exact this
    rw[zG ev (ZN hi)]at D;exact AV Jf _ e D
   ·obtain⟨i,e,l,J,N,L⟩:=Cn Jf u X;obtain⟨Y,dw⟩:=Sz i (ZK.mp J).1;exact⟨Y,e,l,by rw[zG ev dw];exact J,N,L⟩
 cases jH:V.plain with
 |false=>
  simp only[Zs,ZU];refine Za (Zc ?_);simp only[YR];exact y V P vq
 |true=>
  simp only[YR];obtain⟨ob,r,nn,Ry,kQ,Rx,_⟩:=id Z;refine Za (qH6 Ry kQ Rx (hHb _ _ _ Ry Rx) λc=>?_);cases c with
  |true=>
   simp only[YR];exact y V P vq
  |false=>
   simp only[Zs,ZU];exact y {V with plain:=false} (P.plain false) vq
theorem dZ.at{h h':ao}{a:af}{g:List (List K)}(S:dZ knd h a g)(k:∀b o,h.get? b=some o->h'.get? b=some o\/b≠a/\¬∃c,IsTupleKey knd h c b):dZ knd h' a g:=by
 obtain⟨o,O,N,t,v,C,x,G,y,P,m,L,p,F⟩:=S.ex;have j:∀c b,IsTupleKey knd h c b->IsTupleKey knd h' c b:=λc b f=>by
  obtain⟨l,d,H,u,r⟩:=id f;rcases k b l u with z|z
  ·exact⟨l,d,H,z,r⟩
  ·exact absurd ⟨c,f⟩ z.2
 refine⟨o,O,N,t,?_,C,x,G,y,P,m,L,λi e B=>?_,λc Q=>?_⟩
 ·rcases k a o v with z|z
  ·exact z
  ·exact absurd rfl z.1
 ·obtain⟨b,c,I,D,f,q⟩:=p i e B;exact⟨b,c,I,D,j _ _ f,q⟩
 ·obtain⟨i,e,b,J,n,M⟩:=F c Q;exact⟨i,e,b,J,n,j _ _ M⟩
end
section
variable{K:Type}[DecidableEq K]{knd:KeyKind prog w K}
variable{R:Result->ae->Prop}{I:af}{fp wr:List af}{G:Array GenState->Array GenState->Prop}{n:Nat}{P:Nat->aa->Prop}{St:Nat->ae->Prop}
def seen(val:Nat->List K):Nat->List (List K)
 |0=>[]
 |i+1=>if val i∈seen val i then seen val i else val i::seen val i
theorem seen_length(val:Nat->List K):∀i,(seen val i).length<=i
 |0=>Zb _
 |i+1=>by
  have:=seen_length val i;unfold seen;split
  ·lia
  ·rw[Zz];lia
theorem P2(val:Nat->List K):∀i j,j<i->val j∈seen val i
 |0,j,h=>absurd h (Yp _)
 |i+1,j,h=>by
  unfold seen;by_cases e:j=i
  ·subst e;split
   ·assumption
   ·exact Zu
  ·have:=P2 val i j (by lia);split
   ·exact this
   ·exact Zk _ this
theorem OE(val:Nat->List K):∀i c,c∈seen val i->∃j,j<i/\c=val j
 |0,c,h=>by cases h
 |i+1,c,h=>by
  unfold seen at h;have d:c∈seen val i->∃j,j<i+1/\c=val j:=λz=>let ⟨j,a,b⟩:=OE val i c z;⟨j,by lia,b⟩;split at h
  ·exact d h
  ·rcases ZD.mp h with rfl|h
   ·exact⟨i,YE _,rfl⟩
   ·exact d h
theorem gZ(val:Nat->List K):∀i,(seen val i).length=i<->∀a b,a<b->b<i->val a≠val b
 |0=>⟨λ_ a b _ h=>absurd h (Yp _),λ_=>rfl⟩
 |i+1=>by
  have d:=gZ val i;have l:=seen_length val i;unfold seen;by_cases h:val i∈seen val i
  ·rw[Zr h];refine⟨λe=>by lia,λe=>?_⟩;obtain⟨j,f,g⟩:=OE val i _ h;exact absurd g.symm (e j i f (YE _))
  ·rw[Zl h,Zz];refine⟨λe a b c hb=>?_,λe=>?_⟩
   ·by_cases k:b=i
    ·subst k;intro z;exact h (by rw[<- z];exact P2 val b a c)
    ·exact d.mp (by lia) a b c (by lia)
   ·have:=d.mpr λa b c hb=>e a b c (by lia);lia
theorem qY2(W:WalksS prog w A.in1 I fp wr G n P St)(S:af)(T:S∉fp)(val:Nat->List K)(hn:n<=1200)(N:A.in1.units<cLine)
  (nt:∀i s,St i s->xN3 knd wr s.heap):
  ∀(k i:Nat)(s:ae),n-i=k->i<=n->St i s->E7 knd S wr P val s.heap->dZ knd s.heap S (seen val i) ->
   (∀a,Moved (S::wr) G s a->dZ knd a.heap S (seen val n)->R (.ok (.ret .none)) a) ->
   codeAny (ai prog w) A (.builtin "set.update.loop" ⟨[.ref S,.ref I],[]⟩) R s:=by
 have B:S∉wr:=λz=>T (W.sub _ z);have D:∀b∈wr,b∈S::wr:=λb hb=>Zk _ hb;have f:∀{i:Nat}{s a:ae}{r:List (List K)},St i s->Moved wr G s a->dZ knd s.heap S r->dZ knd a.heap S r:=λ{i s a r} l d Z=>Z.at λb o e=>by
  by_cases hb:b∈wr
  ·exact .inr ⟨λz=>B (by rw[<- z];exact hb),nt i s l b hb⟩
  ·exact .inl (d.heap b o hb e)
 intro k
 induction k with
 |zero=>
  intro i s hk Y l p H q;have C:i=n:=by lia
  subst C;refine Xb Ws ?_;rw[Xp YF _];show ah _ A.in1 (pyNext (.ref I) >>= _) _ _ s;refine Za (W.done s _ _ l λa d=>?_);show ah _ A.in1 (ret Value.none) _ _ a;exact Zc (q a (d.mono D) (f l d H))
 |succ k M=>
  intro i s hk Y l p H q;have t:i<n:=by lia
  refine Xb Ws ?_;rw[Xp YF _];show ah _ A.in1 (pyNext (.ref I) >>= _) _ _ s;refine Za (W.item i s _ _ t l λv a V O d=>?_);obtain⟨b,rfl,hbS,JT,hb⟩:=p i v V;have x:fX knd a.heap (val i) b:=hb.at λo e=>d.heap b o JT e;have Q:dZ knd a.heap S (seen val i):=f l d H;have ln:=seen_length val i;show ah _ A.in1 (holding [Value.ref b] (setAdd S (.ref b)) >>= _) _ _ a;refine Za (Yg ?_);unfold setAdd;refine Yg ?_;refine Za (wpAny_pyHash_tuple N x.key ?_);refine UP (s:={a with toks:=a.toks+((val i).length+1)}) N Q x.key x.hb (by lia) (λC=>?_) λX U J S2=>?_
  ·have g:E7 knd S wr P val a.heap:=λj u L=>by
    obtain⟨c,rfl,h1,h2,y⟩:=p j u L;exact⟨c,rfl,h1,h2,y.at λo e=>d.heap c o h2 e⟩
   refine Zc ⟨VG YF _,M (i+1) _ (by lia) t (W.frame _ a _ _ O (Yk _ _) λc m o e=>e) g ?_ λF E h=>?_⟩
   ·show dZ knd a.heap S (if val i∈seen val i then seen val i else val i::seen val i);rw[Zr C];exact Q
   ·exact q F (Moved.trans W.gtrans ((d.mono D).then_heap (Yk _ _) λc o m e=>e) E) h
  ·have g:E7 knd S wr P val U:=λj u L=>by
    obtain⟨c,rfl,h1,h2,y⟩:=p j u L;exact⟨c,rfl,h1,h2,(y.at λo e=>d.heap c o h2 e).at λo e=>(J.2 c h1).trans e⟩
   refine Zc ⟨VG YF _,M (i+1) _ (by lia) t (W.frame _ a _ _ O (Yk _ _) λc m o e=>?_) g ?_ λF E h=>?_⟩
   ·rw[J.2 c (λz:c=S=>T (by rw[<- z];exact m))];exact e
   ·show dZ knd U S (if val i∈seen val i then seen val i else val i::seen val i);rw[Zl X];exact S2
   ·refine q F (Moved.trans W.gtrans ((d.mono D).then_heap (Yk _ _) λc o m e=>?_) E) h;rw[J.2 c (λz:c=S=>m (by rw[z];exact Zu))];exact e
end
section
variable{K:Type}[DecidableEq K]{knd:KeyKind prog w K}{A:aq}{E:aa->ae->Prop}{s:ae}
theorem qY3{h:ao}{a:af}{led:Bool}(e:h.get? a=some (gj led)):dZ knd h a []:=
 ⟨_,#[],0,.fresh 0 0 led,e,⟨rfl,rfl,rfl⟩,rfl,⟨⟨(by rw[Yz];rfl),rfl,⟨3,rfl,by decide⟩,(by rw[Yz];exact Zt _)⟩,λi j c=>absurd c (Yp _),λi j x h=>by have:(#[]:Array Nat)[i]?=some j:=h;simp at this⟩,by rfl,(by show 7<=8*0+8;decide),rfl,Vr,λi e b=>by simp at b,λd h=>nomatch h⟩
theorem fV{l:af}{items:Array aa}{val:Nat->List K}{Q:aa->ae->Prop}(V:A.handled=none)(hu:A.units+8<cLine)(hl:s.heap.IsTuple l items)
  (X:∀(i:Nat)(v:aa),items[i]?=some v->∃b,v=.ref b/\fX knd s.heap (val i) b) (hb:items.size<=1200)
  (h:∀(d:ao)(p:Nat),dZ knd d s.heap.objs.size (seen val items.size)->(∀b o,b<s.heap.objs.size->s.heap.get? b=some o->d.get? b=some o)->Q (.ref s.heap.objs.size) {s with heap:=d,toks:=p}):
  ah (ai prog w) A (call (.type "set") [.ref l]) Q E s:=by
 obtain⟨c,tl,P⟩:=F.called_set.mro;have QN:=F.called_set.made;have B:=F.called_set.sub;refine wpAny_call (codeAny_of_tree ?_);show ah _ _ (callAny (.type "set") _) _ _ _;refine Zc ⟨Code.quiet_builtin _ (by decide +kernel),Xb F.entry_type_call ?_⟩;rw[Around.under_plain (weight_type_call_type "set" [.ref l] []) rfl];have f1:=F.called_set.notType;have f2:=F.called_set.canCreate;have f3:=F.typeCall_set_1 (.ref l)
 repeat (any_goals first|assumption|wp_step)
 refine WL (code_set_new_1 (.ref l) (E:=E) (Q₁:=λj N=>∃a:Bool,j=.ref s.heap.objs.size/\N={s with heap:=s.heap.push (gj a)}) λa=>⟨a,rfl,rfl⟩) λr N t=>?_;cases r with
 |error e=>exact t
 |ok fl=>
  cases fl with
  |ret j=>
   obtain⟨a,rfl,rfl⟩:=t;have J:(s.heap.push (gj a)).get? s.heap.objs.size=some (gj a):=Zm _ rfl;have hT:Shared.TypeIs {s with heap:=s.heap.push (gj a)} (.ref s.heap.objs.size) "set":=⟨_,J,rfl⟩;have i1:=F.called_set.init.lookup;have i2:=F.called_set.init.bind (.ref s.heap.objs.size)
   repeat (any_goals first|assumption|wp_step)
   refine WL (W9 (R:=wants (λr C=>r=.none/\∃d p,C={s with heap:=d,toks:=p}/\dZ knd d s.heap.objs.size (seen val items.size) /\
     (∀b o,b<s.heap.objs.size->s.heap.get? b=some o->d.get? b=some o)) E) F.called_set.init.plain F.entry_set_init (check_set_init_1 hT ?_)) λGj C u=>?_
   ·obtain⟨ol,M,L,O,I⟩:=id hl;obtain⟨T,AM,QB,uO⟩:=ol;simp only at L I;subst L;subst I;have Ju:(s.heap.push (gj a)).get? l=some {cls:=.type "tuple",dict:=AM,data:=.seq items O,slots:=uO}:=Zd _ M;have fI:=F.sub_tuple_set;have bZ:=F.sub_tuple_frozenset;have ned:(Value.type "tuple"== Value.type "dict")=false:=by decide
    have S:(s.heap.push (gj a)).IsTuple l items:=⟨_,Ju,rfl,O,rfl⟩;unfold Builtin.«set.__init__» noKeywords Builtin.Frozenset.updateFrom;generalize x:pyIter=PI
    wp_walk
    subst x;refine WD S ?_;refine Za (wpAny_runValue ?_);have G:l<s.heap.objs.size:=Zj M;have f:(s.heap.push (gj a)).objs.size=s.heap.objs.size+1:=YT _ _;have JA:l≠(s.heap.push (gj a)).objs.size:=by rw[f];exact ZC (Yc G)
    have Ei:s.heap.objs.size∉[(s.heap.push (gj a)).objs.size,l]:=by
     rw[f];simp only[ZD,W5,or_false,not_or];exact⟨ZC (YE _),Wm G⟩
    refine qY2 (knd:=knd) ((Walks.tuple (by simp[V]) _ l JA items).toS) s.heap.objs.size Ei val hb (by show A.units+1+1+1<cLine;lia) (λi H st b JT=>?_) (items.size-0) 0 _ (by lia) (Zt _)
     ⟨⟨_,Zm _ rfl,rfl,rfl⟩,S.push _⟩ (λi v W=>?_) (qY3 (Zd _ J)) λH n g=>?_
    ·rintro⟨ks,o',U,n',q,m,e3,_⟩;have:b=(s.heap.push (gj a)).objs.size:=by simpa using JT
     subst this;obtain⟨oi,x1,x2,x3⟩:=st.1;rw[x1]at q;cases q;rw[x2]at m;injection m with m
     exact absurd m (by decide)
    ·obtain⟨b,rfl,D⟩:=X i v W;have k:b<s.heap.objs.size:=by obtain⟨o',_,_,q,_⟩:=D;exact Zj q
     refine⟨b,rfl,ZC k,(by rw[f];simp only[ZD,W5,or_false];exact ZC (Yc k)),D.at λo e=>Zd _ (Zd _ e)⟩
    ·obtain⟨d,g',d',y,hV⟩:=H;have eg:g'=s.gens:=n.gens;have Z:d'=s.drawn:=n.drawn;have eo:hV=s.os:=n.os;subst eg;subst Z;subst eo;show ah _ _ _ _ _ _;refine Zc ?_;show ah _ _ (ret Value.none) _ _ _;refine Zc ⟨rfl,d,y,rfl,g,λb o k e=>?_⟩;exact n.heap b o (by rw[f];simp only[ZD,W5,or_false,not_or];exact⟨ZC k,ZC (Yc k)⟩) (Zd _ (Zd _ e))
   ·cases Gj with
    |error e=>exact u
    |ok Cg=>
     cases Cg with
     |ret r=>
      obtain⟨rfl,d,p,rfl,g,Y⟩:=u
      repeat (any_goals first|assumption|wp_step)
      exact h _ _ g Y
     |_=>exact u.elim
  |_=>exact t.elim
end
end cS
namespace L2
open PySem PySem.Spec PyProof.Rows
section
variable{X:Cx}
inductive iF(xs:List V)(H:Hp)(Q:VK):Prop
 |mk(p:af)(bs:List af)(rows:List (List Key))(aV:xs=[.ref p])(c7:H p=some (.tup (bs.map V.ref)))(cq:bs.length=rows.length)(aP:(∀(i:Nat) b ks,bs[i]?=some b->rows[i]?=some ks->H b=some (.tup (ks.map kV))))(pV:rows.length<=1200)(wq:∀r n,H r=none->n<=rows.length->(n=rows.length<->rows.Nodup)->Q (.ref r) (upd H r (.ext (rS r n))))
theorem qY4(hc:X.calm=true){k:Nat}(hr:aZ k X.A):ft X (.type "set") iF:=by
 intro j8 s σ H xs us Q I Z h;obtain⟨p,bs,rows,rfl,S,D,jF,w,q⟩:=h;obtain⟨u,rfl,ru⟩:=gO Z;cases ru;obtain⟨_,d,N,IL⟩:=I.aQ p _ S;have y:d.length=bs.length:=by have:=N.length;simpa using this.symm
 have un:=hr.units;have f:∀(i:Nat)(v:aa),d[i]?=some v->∃b,bs[i]?=some b/\v=.ref b:=λi v m=>by
  have c:i<bs.length:=by rw[<- y];exact(cF m).1
  obtain⟨w',n,B⟩:=N.get (i:=i) (x:=V.ref bs[i]) (by simp[c]);rw[m]at n;cases n;exact⟨bs[i],by simp[c],B⟩
 refine cS.fV (knd:=iZ X.prog X.w) (items:=d.toArray) (val:=λi=>rows.getD i []) (I.ok.hd hc) (by lia) (show s.heap.IsTuple p d.toArray from IL) (λi v m=>?_) (by rw[ZJ,y,D];exact w) λh' R C W=>?_
 ·obtain⟨b,hb,rfl⟩:=f i v (by simpa using m);have c:i<rows.length:=by rw[<- D];exact(cF hb).1
  have e:rows.getD i []=rows[i]:=by simp[List.getD,c]
  show ∃F,Value.ref b=.ref F/\cS.fX _ s.heap (rows.getD i []) F;rw[e];exact⟨b,rfl,Uh I.aQ (jF i b rows[i] hb (by simp[c]))⟩
 ·obtain⟨o,O,ep,t,J,kN,Y,G,hf,_,E,_⟩:=C.ex;have g:cS.cw t O.size:=by have:=G.gr;rw[Yz]at this;exact this
  have hz:d.toArray.size=rows.length:=by rw[ZJ,y,D]
  rw[hz]at E;refine⟨.ref s.heap.objs.size,_,I.laid (a:=s.heap.objs.size) (o:=.ext (rS s.heap.objs.size (cS.seen (λi=>rows.getD i []) rows.length).length)) (t':=R) (λb o e=>W b o (Zj e) e) (Zb _) ⟨⟨o,O,ep,t,J,kN,Y,g.fits,E⟩,⟨o,J⟩,λh1 h2 P k=>?_⟩,rfl,q _ _ (I.aQ.fresh (Zb _)) (cS.seen_length _ _) ((cS.gZ _ _).trans ?_)⟩
  ·obtain⟨L,A,T,t',U,r⟩:=P;exact⟨L,A,T,t',k L U,r⟩
  ·constructor
   ·intro h;rw[List.nodup_iff_pairwise_ne,YY];intro i j c l M z;refine h i j M l ?_;show rows.getD i []=rows.getD j [];simp[List.getD,c,l,z]
   ·intro h i j M l z;have c:i<rows.length:=by lia
    have K:rows.getD i []=rows.getD j []:=z;have n:rows.getD i []=rows[i]:=by simp[List.getD,c]
    have B:rows.getD j []=rows[j]:=by simp[List.getD,l]
    rw[n,B]at K;have:=(List.getElem_inj h).mp K;lia
end
end L2
namespace Pr
open PySem L2 Qf
theorem gm{rows:List Row}:(rows.map eU).Nodup<->rows.Nodup:=by
 refine⟨λh=>?_,P1⟩;rw[dD]at h ⊢;intro i j b a z;refine h i j b (by rw[Zf];exact a) ?_;rw[Zg,Zg,z]
def GX:Sp:=λc H Q _=>∃(t:af)(n a:Nat)(rows:List Row),c=[.ref t]/\uB H t n a rows/\n<=12/\fh rows/\rows.length<=1150/\a<rows.length+2/\∀b,aF H b->Q (.bl (decide (dp rows a<=n))) b
theorem qP1{f u i g c:af}{L l x d b:ak}(F:aT K "is_telling" "is_telling" xD f L)(B:ee mg)
  (hS:mg "is_size"=some (.ref u)) (FS:aT K "is_size" "is_size" xT u l) (bS:Binds K l ["thing"] []) (GS:aE P w K mg base aR 2 u l ["thing"] L_)
  (X:mg "are_rows"=some (.ref i)) (FR:aT K "are_rows" "are_rows" sX i x) (N:Binds K x ["thing"] []) (GR:aE P w K mg base aR 4 i x ["thing"] L7)
  (hN:mg "is_number"=some (.ref g)) (FN:aT K "is_number" "is_number" sJ g d) (Y:Binds K d ["thing","many"] []) (U:aE P w K mg base aR 2 g d ["thing","many"] HN)
  (Z:mg "depths_of"=some (.ref c)) (J:aT K "depths_of" "depths_of" xU c b) (R:Binds K b ["rows"] []):aE P w K mg base aR 5 f L ["thing"] GX:=by
 have O:aE P w K mg base aR 1 c b ["rows"] Ib:=Qe J B;refine F.ok ck (λvs H Q E h=>?_) (λbw A j s H vs Q E m h=>?_)
 ·obtain⟨t,n,a,rows,rfl,_⟩:=h
  rfl
 ·obtain⟨t,n,a,rows,rfl,⟨p,k,r⟩,T,ok,I,G,q⟩:=h;have jG:aZ 1 _:=m.mono (by decide);have C:aZ 2 _:=m.mono (by decide);refine⟨_,fv (dH (iq (kq (gP (cQ mD (by rfl) B.lY ZI (aG (pv 0) (aG (n_ (v:=.ty "tuple") (by rfl) B.tuple ZZ rfl) aN)))))
    (iX (dG sY (cQ mE (by rfl) B.len Ye (aG (pv 0) aN)) aS (cU _)))).pt (cD (cA iK)) dI)
   (fv (uE (pv 0) (sE rfl (ir (gh 1 ck.nd) (ir (gh 2 ck.nd) (ir (gh 3 ck.nd) sN)))))
   (fv (dH (iq (kq (gP (bJ GS C hS FS.kp bS (aG (pv 1) aN))))
    (iq (kq (gP (bJ GR m X FR.kp N (aG (pv 3) aN))))
    (iX (kq (gP (bJ U C hN FN.kp Y (aG (pv 2) (aG (cQ mE (by rfl) B.len Ye (aG (pv 3) aN)) aN)))))))).pt (cD (cA iK)) dI)
   (cD (cA (j_ mX (de m7 (bJ O jG Z J.kp R (aG (pv 3) aN)) (pv 2)) (pv 1) (cU _)))))),?_⟩
  refine⟨_,rfl,_,_,_,_,true,rfl,rfl,.inl (.tup k),rfl,_,rfl,bY ⟨_,rfl,t,_,rfl,.inr (bh.of k),rfl,_,rfl,bY ?_⟩⟩;refine⟨_,rfl,t,_,rfl,bh.of k,rfl,_,_,rfl,_,_,rfl,_,_,rfl,rfl,?_⟩;refine⟨_,rfl,n,rfl,T,_,rfl,bY ⟨_,rfl,p,rows,rfl,r,ok,I,λH2 y=>⟨_,rfl,bY ?_⟩⟩⟩;obtain⟨bs,W,j9,jF⟩:=id r;refine⟨_,rfl,_,rfl,p,_,rfl,.inr (bh.of (y _ _ W)),a,rows.length,by rw[Zf,j9];rfl,G,_,rfl,bY ?_⟩;refine⟨_,rfl,p,rows,rfl,r.same y,ok,I,λM D s3 S=>?_⟩;refine⟨_,rfl,D,_,(a:Int),.int (dp rows a:Nat),rfl,rfl,cu.of S,uD (L9 G),_,rfl,_,_,rfl,rfl,?_⟩;show Q (V.bl (decide ((dp rows a:Int)<=(n:Int)))) M;have e:decide ((dp rows a:Int)<=(n:Int))=decide (dp rows a<=n):=by
   by_cases z:dp rows a<=n
   ·rw[Zh z,Zh (by lia)]
   ·rw[Zi z,Zi (by lia)]
  rw[e];exact q M (y.trans s3)
def HB:Sp:=λc H Q _=>∃(t:af)(n a:Nat)(rows:List Row),c=[.ref t]/\uB H t n a rows/\n<=12/\fh rows/\rows.length<=1150/\a<rows.length+2/\∀(b:Bool) H',(b=true<->Canon n a rows)->aF H H'->Q (.bl b) H'
theorem q92{f fT fP U:af}{fd iA S Kz:ak}(F:aT K "is_shape" "is_shape" x9 f fd)(B:ee mg)(T:pX mg)
  (hT:mg "is_telling"=some (.ref fT)) (FT:aT K "is_telling" "is_telling" xD fT iA) (bT:Binds K iA ["thing"] []) (GT:aE P w K mg base aR 5 fT iA ["thing"] GX)
  (hP:mg "is_plain"=some (.ref fP)) (FP:aT K "is_plain" "is_plain" Dx fP S) (bP:Binds K S ["row"] [])
  (hA:mg "places_as_ended"=some (.ref U)) (FA:aT K "places_as_ended" "places_as_ended" DI U Kz) (bA:Binds K Kz ["rows","top"] []) (GA:∀d,aE P w K mg base aR (d+2) U Kz ["rows","top"] (HM d)):aE P w K mg base aR 15 f fd ["thing"] HB:=by
 have GP:aE P w K mg base aR 2 fP S ["row"] Qh:=V7 FP T;refine F.ok eJ (λvs H Q E h=>?_) (λbw A outer s H vs Q E G h=>?_)
 ·obtain⟨t,n,k,rows,rfl,_⟩:=h
  rfl
 ·obtain⟨t,n,k,rows,rfl,tG,hn,ok,hl,kS,q⟩:=h;obtain⟨p,ht,jS⟩:=id tG;obtain⟨bs,M,j9,jF⟩:=id jS;have v0:aZ 2 _:=G.mono (by decide);have Jj:aZ 5 _:=G.mono (by decide);have hrA:aZ (n+2) _:=G.mono (by lia);refine⟨_,fv (dH (kq (gP (bJ GT Jj hT FT.kp bT (aG (pv 0) aN)))) (cD (cA iK)) dI)
   (fv (uE (zY Mk (pv 0) (zP aS) zQ) (sE rfl (ir (gh 1 eJ.nd) (ir (gh 2 eJ.nd) sN))))
   (fv (dH (PW.pt (iq (gP (cQ (Gy rfl) (by rfl) B.any WZ (aG (og ["thing","top","rows"] (bF x9) rfl rfl rfl eJ.nd (Ij K rfl (pv 2)) (λcl C fp aH aJ=>bJ GP v0 hP FP.kp bP (aG (pv 0) aN))) aN)))
    (iX (dG lU (cQ qO0 (by rfl) B.len Ye (aG (oh (qY4 rfl G) (by rfl) B.set PyProof.Rows.boot_set (aG (pv 2) aN)) aN)) (cQ mE (by rfl) B.len Ye (aG (pv 2) aN)) (cU _))))) (cD (cA iK)) dI)
   (cD (cA (j_ (Ar G) (bJ (GA n) hrA hA FA.kp bA (aG (pv 2) (aG (pv 1) aN)))
    (oh (qW5 rfl) (by rfl) B.list PyProof.Rows.boot_list (aG (oh qI2 (by rfl) B.range PyProof.Rows.boot_range (aG (cQ mE (by rfl) B.len Ye (aG (pv 2) aN)) aN)) aN)) (cU _)))))),?_⟩
  refine⟨_,rfl,t,n,k,rows,rfl,tG,hn,ok,hl,kS,λH1 s1=>?_⟩;have no:∀{L},¬Canon n k rows->aF H L->Q (.bl false) L:=λ{L} nc s'=>q false L ⟨λz=>(by cases z),λz=>(nc z).elim⟩ s';by_cases y:dp rows k<=n
  rotate_left
  ·rw[Zi y];exact⟨_,rfl,bQ (no (λc=>y c.deep) s1)⟩
  rw[Zh y];refine⟨_,rfl,bY ?_⟩;have Bq:=s1 _ _ ht;refine⟨_,rfl,_,rfl,t,_,rfl,bh.of Bq,(λz=>absurd (show HT.cI 3 0 (some 1)=0 from z.1) (by decide)),λu hu=>?_⟩;refine⟨u,_,rfl,bh.of bg,rfl,_,_,rfl,_,_,rfl,rfl,?_⟩;have sA:aF H (upd H1 u (.tup [.int (k:Nat),.ref p])):=s1.trans (bf hu);refine(λ(go:∀H2,aF H H2->_)=>go _ sA) ?_;intro H2 Z;have jP:=Z _ _ M;have a:(bs.map V.ref).length=rows.length:=by rw[Zf];exact j9
  refine⟨_,rfl,p,rfl,⟨_,bh.of jP⟩,λD hD=>sR hD (λj z _=>∀r,rows[j]?=some r->z=.bl (decide (jy r))) (xE (K:=K) jP) (by rw[a];exact xJ (by lia)) (λ_ _ _ _ _ _ h=>h) ?_ ?_⟩
  ·intro j x H3 hj v Y Q' hq;have kM:j<rows.length:=by rw[<- a];exact hj
   rw[Zg]at v;obtain⟨b,hb,rfl⟩:=Zo.mp v;have I:rows[j]?=some rows[j]:=by simp[kM]
   refine⟨_,rfl,b,rows[j],rfl,Y _ _ (Z _ _ (jF j b _ hb I)),(ok j _ I).1,λH4 J=>hq _ _ J λr O=>?_⟩;rw[I]at O;cases O
   rfl
  ·intro ys H3 Y kY jY k9;have e:ys=(rows.map λr=>decide (jy r)).map V.bl:=by
    refine qD (by rw[jY,a];simp) λi x v=>?_;have W:=(cF v).1;rw[jY,a]at W;have I:rows[i]?=some rows[i]:=by simp[W]
    rw[k9 i x v _ I];simp[W]
   have N:aF H H3:=Z.trans Y;refine⟨D,rows.map λr=>decide (jy r),rfl,by rw[<- e];exact kY,_,rfl,?_⟩;by_cases jH:∃r∈rows,jy r
   ·have na:(rows.map λr=>decide (jy r)).any id=true:=by
     obtain⟨r,h1,h2⟩:=jH;rw[XI];exact⟨_,Yi.mpr ⟨r,h1,rfl⟩,Zh h2⟩
    rw[na];obtain⟨r,h1,h2⟩:=jH;exact bQ (no (λc=>c.lH r h1 h2) N)
   have By:∀r∈rows,¬jy r:=λr h1 h2=>jH ⟨r,h1,h2⟩;have na:(rows.map λr=>decide (jy r)).any id=false:=by
    rw[Vz];intro x v;obtain⟨r,h1,rfl⟩:=Yi.mp v;rw[Zi (By r h1)];decide
   rw[na];refine bY ?_;have vH:=N _ _ M;refine⟨_,rfl,p,bs,rows.map eU,rfl,vH,by rw[Zf];exact j9,λi b ks e1 e2=>?_,by rw[Zf];lia,λr m O hm1 D_=>?_⟩
   ·rw[Zg]at e2;obtain⟨r0,X,rfl⟩:=Zo.mp e2;rw[uA];exact N _ _ (jF i b r0 e1 X)
   ·rw[Zf]at hm1 D_;have J:aF H (upd H3 r (.ext (rS r m))):=N.trans (bf O);have kU:=J _ _ M;refine⟨r,_,rfl,bg,by lia,_,rfl,p,_,rfl,.inr (bh.of kU),_,_,rfl,rfl,_,rfl,?_⟩;by_cases R:rows.Nodup
    rotate_left
    ·have nl:decide ((m:Int)<((bs.map V.ref).length:Int))=true:=Zh (by
      have:m≠rows.length:=λz=>R (gm.mp (D_.mp z));rw[a];lia)
     rw[nl];exact bQ (no (λc=>R c.unlike) J)
    have nl:decide ((m:Int)<((bs.map V.ref).length:Int))=false:=Zi (by
     have:=D_.mpr (P1 R);rw[a];lia)
    rw[nl];refine bY ?_;refine(λ(go:∀H5,aF H H5->_)=>go _ J) ?_;intro H5 s5;refine⟨_,rfl,_,rfl,p,k,rows,rfl,(jS.same s5).zs,ok,by lia,kS,y,λH6 D6 s6 vP=>?_⟩;have hp6:=s6 _ _ (s5 _ _ M);refine⟨_,rfl,p,_,rfl,.inr (bh.of hp6),_,rfl,λg hg=>⟨g,rows.length,rfl,by rw[bg,a],by lia,λl mO=>?_⟩⟩;have wP:=cT (u:=.lst ((List.range rows.length).map λ(i:Nat)=>V.int (i:Int))) (cT (u:=.sf 0 ((bs.map V.ref).length:Int)) vP hg) mO;rw[qw]at wP;have e9:((List.range rows.length).map λ(i:Nat)=>V.int (i:Int))=((List.range rows.length).map λn:Nat=>(n:Int)).map V.int:=qw _;refine⟨dL ((dm rows n [] k).map λn:Nat=>(n:Int)),dL ((List.range rows.length).map λn:Nat=>(n:Int)),.lst wP (aO.ints _),.lst bg (e9▸aO.ints _),Dy _,Dy _,?_,?_⟩
    ·exact Zw (OO _) (by decide)
    ·rw[Ic];refine q _ _ ⟨λz=>⟨hn,ok,kS,y,By,R,DG (ZB z)⟩,λc=>Zh (by rw[c.ends])⟩ (s5.trans (s6.trans ((bf hg).trans (bf mO))))
end Pr
namespace L2
open PySem PySem.Spec PyProof.Rows
mutual
inductive bo(H:Hp):V->PyData->Prop
 |cb:bo H .cb .none
 |bl (b:Bool):bo H (.bl b) (.bool b)
 |int (i:Int):bo H (.int i) (.int i)
 |str (x:ar):bo H (.str x) (.str x)
 |lst {a:af}{xs:List V}{ds:List PyData}(h:H a=some (.lst xs)) (r:bj H xs ds):bo H (.ref a) (.list ds)
 |tup {a:af}{xs:List V}{ds:List PyData}(h:H a=some (.tup xs)) (r:bj H xs ds):bo H (.ref a) (.tuple ds)
 |KN {a:af}{kv} (h:H a=some (.dK kv)):bo H (.ref a) (.dict [])
inductive bj(H:Hp):List V->List PyData->Prop
 |nil:bj H [] []
 |cons {x:V}{xs:List V}{d:PyData}{ds:List PyData}(h:bo H x d) (r:bj H xs ds):bj H (x::xs) (d::ds)
end
section
variable{H:Hp}
mutual
theorem bo.same{a:Hp}(s:∀b o,H b=some o->a b=some o):∀{x:V}{d:PyData},bo H x d->bo a x d
 |_,_,.cb=>.cb
 |_,_,.bl b=>.bl b
 |_,_,.int i=>.int i
 |_,_,.str x=>.str x
 |_,_,.lst e r=>.lst (s _ _ e) (bj.same s r)
 |_,_,.tup e r=>.tup (s _ _ e) (bj.same s r)
 |_,_,.KN e=>.KN (s _ _ e)
theorem bj.same{a:Hp}(s:∀b o,H b=some o->a b=some o):∀{d:List V}{c:List PyData},bj H d c->bj a d c
 |_,_,.nil=>.nil
 |_,_,.cons h r=>.cons (bo.same s h) (bj.same s r)
end
mutual
theorem bo.of:∀{x:V}{d:PyData},aY H x d->bo H x d
 |_,_,.cb=>.cb
 |_,_,.bl b=>.bl b
 |_,_,.int i=>.int i
 |_,_,.str x=>.str x
 |_,_,.lst e r=>.lst e (bj.of r)
 |_,_,.tup e r=>.tup e (bj.of r)
theorem bj.of:∀{a:List V}{b:List PyData},aO H a b->bj H a b
 |_,_,.nil=>.nil
 |_,_,.cons h r=>.cons (bo.of h) (bj.of r)
end
theorem bj.get:∀{b:List V}{a:List PyData}{i:Nat}{x:V},bj H b a->b[i]?=some x->∃d,a[i]?=some d/\bo H x d
 |_,_,_,_,.nil,e=>by simp at e
 |_,_,0,_,.cons h r,e=>by simp at e;subst e;exact⟨_,rfl,h⟩
 |_,_,i+1,x,.cons h r,e=>by
  obtain⟨d,c,f⟩:=bj.get (i:=i) (x:=x) r (by simpa using e);exact⟨d,by simpa using c,f⟩
theorem bj.length:∀{a:List V}{b:List PyData},bj H a b->a.length=b.length
 |_,_,.nil=>rfl
 |_,_,.cons h r=>by rw[Zz,Zz,bj.length r]
def CQ:PyData->aa
 |.none=>.type "NoneType"
 |.bool _=>.type "bool"
 |.int _=>.type "int"
 |.str _=>.type "str"
 |.list _=>.type "list"
 |.tuple _=>.type "tuple"
 |.dict _=>.type "dict"
theorem bo.ty{K:PySem.W.Frag}:∀{x:V}{d:PyData},bo H x d->eZ K H x (CQ d)
 |_,_,.cb=>.cb
 |_,_,.bl b=>.bl b
 |_,_,.int i=>.int i
 |_,_,.str x=>.str x
 |_,_,.lst e _=>.lst e
 |_,_,.tup e _=>.tup e
 |_,_,.KN e=>.dK e
def IM:PyData->Bool
 |.int _=>true
 |_=>false
def vf:PyData->Bool
 |.int _=>true
 |.bool _=>true
 |_=>false
def QR:PyData->Bool
 |.bool _=>true
 |_=>false
def IL:PyData->Bool
 |.tuple _=>true
 |_=>false
theorem TH{K:PySem.W.Frag}(d:PyData):PySem.W.kitOne K (CQ d) (.type "int")=some (vf d):=by cases d<;>rfl
theorem UO{K:PySem.W.Frag}(d:PyData):PySem.W.kitOne K (CQ d) (.type "bool")=some (QR d):=by cases d<;>rfl
theorem Gr{K:PySem.W.Frag}(d:PyData):PySem.W.kitOne K (CQ d) (.type "tuple")=some (IL d):=by cases d<;>rfl
def g9(a:Nat):PyData->Bool
 |.int i=>decide (0<=i/\i<=(a:Int))
 |_=>false
def gN(a:Nat):PyData->Bool
 |.tuple b=>b.length==4&&b.all (g9 (a+1))
 |_=>false
def Ax:PyData->Bool
 |.tuple a=>a.zipIdx.all λp=>gN p.2 p.1
 |_=>false
end
end L2
namespace Pr
open PySem L2 Qf
def HA:Sp:=λa H Q _=>∃(v:V)(d:PyData),a=[v]/\bo H v d/\Q (.bl (IM d)) H
theorem Pm{f:af}{c:ak}(F:aT K "is_whole" "is_whole" su f c)(B:ee mg):aE P w K mg base aR 1 f c ["thing"] HA:=by
 refine F.ok Qi (λj H Q E h=>?_) (λm A b s H j Q E l h=>?_)
 ·obtain⟨v,d,rfl,_⟩:=h
  rfl
 ·obtain⟨v,d,rfl,i,q⟩:=h;refine⟨_,cD (cA (mB (cQ mD (by rfl) B.lY ZI (aG (pv 0) (aG (n_ (v:=.ty "int") (by rfl) B.int WV rfl) aN)))
   (mZ (Mr (cQ mD (by rfl) B.lY ZI (aG (pv 0) (aG (n_ (v:=.ty "bool") (by rfl) B.bool PyProof.Rows.boot_bool rfl) aN))))))),?_⟩
  refine⟨_,rfl,_,_,_,_,_,rfl,rfl,.inl i.ty,TH d,_,rfl,?_⟩;by_cases a:vf d=true
  ·rw[a];refine bQ ⟨_,rfl,_,_,_,_,_,rfl,rfl,.inl i.ty,UO d,_,rfl,?_⟩;have e:IM d=!QR d:=by cases d<;>first|rfl|cases a
   rw[e]at q;exact q
  ·have g:vf d=false:=by simpa using a
   have k:IM d=false:=by cases d<;>first|rfl|cases g
   rw[g];rw[k]at q;exact bY q
def Hh:Sp:=λa H Q _=>∃(v:V)(d:PyData),a=[v]/\bo H v d/\Q (.bl (g9 12 d)) H
theorem UN{f a:af}{k g:ak}(F:aT K "is_size" "is_size" xT f k)(B:ee mg)(T:pX mg)(l:mg "is_whole"=some (.ref a))(i:aT K "is_whole" "is_whole" su a g)(p:Binds K g ["thing"] []):aE P w K mg base aR 2 f k ["thing"] Hh:=by
 have u:aE P w K mg base aR 1 a g ["thing"] HA:=Pm i B;obtain⟨C,m⟩:=T.great;refine F.ok Ma (λr H Q E h=>?_) (λx A b s H r Q E t h=>?_)
 ·obtain⟨v,d,rfl,_⟩:=h
  rfl
 ·obtain⟨v,d,rfl,j,q⟩:=h;refine⟨_,cD (cA (mB (bJ u t l i.kp p (aG (pv 0) aN)) (mZ (Dd mX mX aS (pv 0) (gf (v:=.int 12) (by rfl) m ⟨_,rfl⟩))))),?_⟩;refine⟨_,rfl,v,d,rfl,j,_,rfl,?_⟩;cases j with
  |int n=>
   refine bQ ⟨_,rfl,_,_,rfl,rfl,_,rfl,?_⟩;refine cM (λh1=>⟨_,_,rfl,rfl,?_⟩) (λh1=>?_)
   ·have c:=ZB h1;have e:decide ((n:Int)<=12)=g9 12 (.int n):=by
     show _=decide (0<=n/\n<=((12:Nat):Int));by_cases z:n<=12
     ·rw[Zh z,Zh ⟨c,z⟩]
     ·rw[Zi z,Zi λy=>z y.2]
    show Q (V.bl (decide ((n:Int)<=12))) H;rw[e];exact q
   ·have c:¬(0:Int)<=n:=λz=>h1 (Zh z);have e:g9 12 (.int n)=false:=Zi λy=>c y.1;rw[e]at q;exact q
  |_=>exact bY q
def Dg:Sp:=λa H Q _=>∃(v:V)(d:PyData)(m:Nat),a=[v,.int (m:Nat)]/\bo H v d/\Q (.bl (g9 (m+1) d)) H
theorem qY5{f a:af}{k g:ak}(F:aT K "is_number" "is_number" sJ f k)(B:ee mg)(T:pX mg)(l:mg "is_whole"=some (.ref a))(i:aT K "is_whole" "is_whole" su a g)(r:Binds K g ["thing"] []):aE P w K mg base aR 2 f k ["thing","many"] Dg:=by
 have x:aE P w K mg base aR 1 a g ["thing"] HA:=Pm i B;obtain⟨D,p⟩:=T.first;refine F.ok OR (λt H Q E h=>?_) (λC A b s H t Q E u h=>?_)
 ·obtain⟨v,d,m,rfl,_⟩:=h
  rfl
 ·obtain⟨v,d,m,rfl,j,q⟩:=h;refine⟨_,cD (cA (mB (bJ x u l i.kp r (aG (pv 0) aN)) (mZ (Dd mX lU aS (pv 0) (br fZ (pv 1) (gf (v:=.int 2) (by rfl) p ⟨_,rfl⟩)))))),?_⟩;refine⟨_,rfl,v,d,rfl,j,_,rfl,?_⟩;cases j with
  |int n=>
   refine bQ ⟨_,rfl,_,_,rfl,rfl,_,rfl,?_⟩;refine cM (λh1=>⟨_,rfl,_,_,rfl,rfl,_,_,rfl,rfl,?_⟩) (λh1=>?_)
   ·have c:=ZB h1;have e:decide ((n:Int)<(m:Int)+2)=g9 (m+1) (.int n):=by
     show _=decide (0<=n/\n<=((m+1:Nat):Int));by_cases z:n<(m:Int)+2
     ·rw[Zh z,Zh ⟨c,by lia⟩]
     ·rw[Zi z,Zi λy=>z (by have:=y.2;lia)]
    show Q (V.bl (decide ((n:Int)<(m:Int)+2))) H;rw[e];exact q
   ·have c:¬(0:Int)<=n:=λz=>h1 (Zh z);have e:g9 (m+1) (.int n)=false:=Zi λy=>c y.1;rw[e]at q;exact q
  |_=>exact bY q
theorem Hz{m:Nat}{d:PyData}(h:g9 m d=true):∃x:Nat,d=.int (x:Nat)/\x<=m:=by
 cases d with
 |int i=>
  have h:decide (0<=i/\i<=(m:Int))=true:=h;obtain⟨h1,h2⟩:=ZB h;exact⟨i.toNat,by rw[Int.toNat_of_nonneg h1],by lia⟩
 |_=>cases h
theorem Pl{m:Nat}:∀{a:List PyData},a.all (g9 m)=true->∃r:Row,a=(r.map λx:Nat=>(x:Int)).map PyData.int/\∀x∈r,x<=m
 |[],_=>⟨[],rfl,λx c=>nomatch c⟩
 |d::a,h=>by
  rw[List.all_cons,YC]at h;obtain⟨x,rfl,c⟩:=Hz h.1;obtain⟨r,rfl,f⟩:=Pl h.2;exact⟨x::r,rfl,λy b=>by
   rcases ZD.mp b with rfl|b
   ·exact c
   ·exact f y b⟩
def dR(r:Row):PyData:=dT (r.map λx:Nat=>(x:Int))
theorem xJ0{i:Nat}{d:PyData}(h:gN i d=true):∃r:Row,d=dR r/\Ay i r:=by
 cases d with
 |tuple a=>
  have h:(a.length==4&&a.all (g9 (i+1)))=true:=h;rw[YC]at h;obtain⟨r,rfl,b⟩:=Pl h.2;have c:r.length=4:=by simpa using h.1
  exact⟨r,rfl,c,λx f=>by have:=b x f;lia⟩
 |_=>cases h
theorem NX:∀{a:List PyData}{k:Nat},(a.zipIdx k).all (λp=>gN p.2 p.1)=true->∃rows:List Row,a=rows.map dR/\∀i r,rows[i]?=some r->Ay (k+i) r
 |[],k,_=>⟨[],rfl,λi r h=>by simp at h⟩
 |d::a,k,h=>by
  rw[List.zipIdx_cons,List.all_cons,YC]at h;obtain⟨r,rfl,f⟩:=xJ0 h.1;obtain⟨rows,rfl,b⟩:=NX h.2;refine⟨r::rows,rfl,λi q c=>?_⟩;cases i with
  |zero=>
   cases c;exact f
  |succ i=>
   have:=b i q c;rw[show k+(i+1)=k+1+i by lia];exact this
theorem TF{d:PyData}(h:Ax d=true):∃rows:List Row,d=.tuple (rows.map dR)/\fh rows:=by
 cases d with
 |tuple c=>
  obtain⟨rows,rfl,a⟩:=NX (k:=0) h;exact⟨rows,rfl,λi r b=>by have:=a i r b;rwa [Xr]at this⟩
 |_=>cases h
theorem Pk{H:Hp}:∀{a:List V}{r:Row},bj H a ((r.map λx:Nat=>(x:Int)).map PyData.int)->a=vN r
 |_,[],.nil=>rfl
 |_,x::r,.cons h t=>by
  cases h;rw[Pk t]
  rfl
theorem TC{H:Hp}{v:V}{r:Row}(h:bo H v (dR r)):∃b,v=.ref b/\H b=some (.tup (vN r)):=by
 cases h with
 |tup e t=>exact⟨_,rfl,by rw[e,Pk t]⟩
theorem Pj{H:Hp}:∀{f:List V}{rows:List Row},bj H f (rows.map dR)->∃bs:List af,f=bs.map V.ref/\bs.length=rows.length/\∀(i:Nat) b r,bs[i]?=some b->rows[i]?=some r->H b=some (.tup (vN r))
 |_,[],.nil=>⟨[],rfl,rfl,λi b r e=>by simp at e⟩
 |_,r::rows,.cons h t=>by
  obtain⟨b,rfl,hb⟩:=TC h;obtain⟨bs,rfl,j,g⟩:=Pj t;refine⟨b::bs,rfl,by rw[Zz,Zz,j],λi c q a d=>?_⟩;cases i with
  |zero=>
   cases a;cases d;exact hb
  |succ i=>exact g i c q a d
theorem OD{H:Hp}{v:V}{rows:List Row}(h:bo H v (.tuple (rows.map dR))):∃p,v=.ref p/\cC H p rows:=by
 cases h with
 |tup e t=>
  obtain⟨bs,rfl,h1,h2⟩:=Pj t;exact⟨_,rfl,bs,e,h1,h2⟩
def HV:Sp:=λb H Q _=>∃(v:V)(d:PyData)(i:Nat),b=[v,.int (i:Nat)]/\bo H v d/\∀a,aF H a->Q (.bl (gN i d)) a
theorem TB{f l:af}{I k:ak}(F:aT K "is_row" "is_row" iV f I)(B:ee mg)(U:mg "is_number"=some (.ref l))(Z:aT K "is_number" "is_number" sJ l k)(O:Binds K k ["thing","many"] [])(N:aE P w K mg base aR 2 l k ["thing","many"] Dg):aE P w K mg base aR 3 f I ["thing","before"] HV:=by
 refine F.ok lM (λS H Q E h=>?_) (λbw A m s H S Q E T h=>?_)
 ·obtain⟨v,d,i,rfl,_⟩:=h
  rfl
 ·obtain⟨v,d,i,rfl,G,q⟩:=h;refine⟨_,fv (dH (iq (kq (gP (cQ mD (by rfl) B.lY ZI (aG (pv 0) (aG (n_ (v:=.ty "tuple") (by rfl) B.tuple ZZ rfl) aN)))))
    (iX (dG sY (cQ mE (by rfl) B.len Ye (aG (pv 0) aN)) aS (cU _)))).pt (cD (cA iK)) dI)
   (cD (cA (cQ (Dl rfl) (by rfl) B.all X7 (aG (og ["thing","before"] (bF iV) rfl rfl rfl lM.nd (Ij K rfl (pv 0)) (λcl C fp aH aJ=>bJ N T U Z.kp O (aG (pv 0) (aG (pv 2) aN)))) aN)))),?_⟩
  refine⟨_,rfl,_,_,_,_,_,rfl,rfl,.inl G.ty,Gr d,_,rfl,?_⟩;cases G with
  |@tup b y a hb r=>
   refine bY ⟨_,rfl,b,_,rfl,.inr (bh.of hb),rfl,_,rfl,?_⟩;have u:=r.length;by_cases g:y.length=4
   ·refine E9 (by rw[g];rfl) ?_;refine⟨_,rfl,b,rfl,⟨_,bh.of hb⟩,λD R=>sR R (λj z _=>∃d,a[j]?=some d/\z=.bl (g9 (i+1) d)) (xE (K:=K) hb) (by rw[g];decide) (λ_ _ _ _ _ _ h=>h) ?_ ?_⟩
    ·intro j x J hj t p Q' Y;obtain⟨d,c,n⟩:=r.get t;exact⟨_,rfl,_,rfl,x,d,i,rfl,n.same p,Y _ _ (aF.refl _) ⟨d,c,rfl⟩⟩
    ·intro W J p L jY M;have e:W=(a.map (g9 (i+1))).map V.bl:=by
      refine qD (by rw[jY,u];simp) λj x t=>?_;obtain⟨d,c,rfl⟩:=M j x t;rw[Zg,Zg,c];rfl
     refine⟨D,a.map (g9 (i+1)),rfl,by rw[<- e];exact L,?_⟩;have X:(a.map (g9 (i+1))).all id=gN i (.tuple a):=by
      show _=(a.length==4&&a.all (g9 (i+1)));rw[<- u,g,Vp]
      rfl
     rw[X];exact q J p
   ·have c:(decide (V.int ((y.length:Nat):Int)=V.int 4))=false:=Zi λz=>g (by have:=V.int.inj z;lia);rw[c];refine bQ ?_;have n:gN i (.tuple a)=false:=by
     show(a.length==4&&a.all (g9 (i+1)))=false;rw[<- u,show(y.length==4)=false by rw[Wq];exact g]
     rfl
    have:=q H (aF.refl _);rw[n]at this;exact this
  |_=>exact bQ (q H (aF.refl _))
def Hg:Sp:=λc H Q _=>∃(v:V)(d:PyData),c=[v]/\bo H v d/\(∀b,d=.tuple b->b.length<=1150)/\∀a,aF H a->Q (.bl (Ax d)) a
theorem UM{f g:af}{J m:ak}(F:aT K "are_rows" "are_rows" sX f J)(B:ee mg)(M:mg "is_row"=some (.ref g))(X:aT K "is_row" "is_row" iV g m)(L:Binds K m ["thing","before"] [])(GR:aE P w K mg base aR 3 g m ["thing","before"] HV):aE P w K mg base aR 4 f J ["thing"] Hg:=by
 refine F.ok ik (λW H Q E h=>?_) (λbw A k s H W Q E hr h=>?_)
 ·obtain⟨v,d,rfl,_⟩:=h
  rfl
 ·obtain⟨v,d,rfl,G,l,q⟩:=h;refine⟨_,cD (cA (mB (cQ mD (by rfl) B.lY ZI (aG (pv 0) (aG (n_ (v:=.ty "tuple") (by rfl) B.tuple ZZ rfl) aN)))
   (mZ (cQ (Dl rfl) (by rfl) B.all X7 (aG (OY ["thing"] (bF sX) rfl rfl rfl ik.nd (HQ (by rfl) B.enum (aG (pv 0) aN)) (λcl C fp aH aJ=>bJ GR hr M X.kp L (aG (pv 1) (aG (pv 0) aN)))) aN))))),?_⟩
  refine⟨_,rfl,_,_,_,_,_,rfl,rfl,.inl G.ty,Gr d,_,rfl,?_⟩;cases G with
  |@tup p xs a u r=>
   refine bQ ?_;have I:=r.length;have h9:=l a rfl;refine⟨_,rfl,p,rfl,⟨_,bh.of u⟩,λD S=>Dp S (λ_=>true) (λj=>.bl (gN j (a.getD j .none))) (PB (K:=K) u) (by rw[I];exact xJ (by lia)) ?_ ?_⟩
   ·rintro i x c hi ⟨t,y,rfl,hy,U⟩ n os O Q1 Q2 q1 N;obtain⟨o1,o2,rfl⟩:=L2.Io O
    ·
     obtain⟨d,Y,T⟩:=r.get hy;refine⟨t,_,rfl,bh.of U,rfl,_,_,rfl,_,_,rfl,rfl,?_⟩;refine bQ (B:=Q1 c) ?_;refine⟨_,rfl,_,rfl,y,d,i,rfl,T.same n,λH3 V=>?_⟩;have:=N rfl H3 V;have e3:a.getD i .none=d:=by rw[ZF,Y];rfl
     rw[e3]at this;exact this
   ·intro c n Z;refine⟨D,(List.range a.length).map λj=>gN j (a.getD j .none),rfl,?_,?_⟩
    ·rw[Z,I,List.filter_eq_self.mpr (λ_ _=>rfl),YL]
     rfl
    ·have ea:((List.range a.length).map λj=>gN j (a.getD j .none)).all id=Ax (.tuple a):=by
      show _=a.zipIdx.all λp=>gN p.2 p.1;have R:a.zipIdx=(List.range a.length).map λj=>(a.getD j .none,j):=by
       apply Wb;intro j;rw[List.getElem?_zipIdx,Zg];by_cases b:j<a.length
       ·rw[Wr b,Ze b];simp[List.getD,b]
       ·rw[YI (by lia),YI (by rw[WP];lia)]
        rfl
      rw[R,Vp,Vp]
      rfl
     rw[ea];exact q c n
  |_=>exact bY (q H (aF.refl _))
theorem xO6{P:ag}{w:aj}{K:PySem.W.Frag}{mg:ar->Option aa}{base:ao}{CX:kl}{k:Nat}{f:af}{g:ak}{ps:List ar}{sp sp':Sp}(F:aE P w K mg base CX k f g ps sp)(G:aE P w K mg base CX k f g ps sp'):
  aE P w K mg base CX k f g ps (λc H Q E=>sp c H Q E\/sp' c H Q E):=
 ⟨λc H Q E h=>h.elim (F.len c H Q E) (G.len c H Q E),λA a s H d i c Q E l j b v h=>h.elim (F.run A a s H d i c Q E l j b v) (G.run A a s H d i c Q E l j b v)⟩
def K3(d:PyData)(n a:Nat)(rows:List Row):Prop:=d=mw n a rows/\n<=12/\fh rows/\a<rows.length+2
theorem E2{H:Hp}{xs:List V}{c:List PyData}(r:bj H xs c)(h:0<xs.length):∃x d g f,xs=x::g/\c=d::f/\bo H x d/\bj H g f:=by
 cases r with
 |nil=>exact absurd h (Yn _)
 |cons a b=>exact⟨_,_,_,_,rfl,rfl,a,b⟩
theorem xO7{H:Hp}{xs:List V}{a:List PyData}(h:xs.length=3)(r:bj H xs a):∃d g c f b i,xs=[d,g,c]/\a=[f,b,i]/\bo H d f/\bo H g b/\bo H c i:=by
 obtain⟨d,f,xs,a,rfl,rfl,j,r⟩:=E2 r (by rw[h];decide);have h:xs.length+1=3:=h;obtain⟨g,b,xs,a,rfl,rfl,l,r⟩:=E2 r (by lia);have h:xs.length+1+1=3:=h;obtain⟨c,i,xs,a,rfl,rfl,k,r⟩:=E2 r (by lia);have h:xs.length+1+1+1=3:=h;cases r with
 |nil=>exact⟨d,g,c,f,b,i,rfl,rfl,j,l,k⟩
 |cons _ _=>exact absurd h (by simp)
theorem xJ1{a b:Row}(h:dR a=dR b):a=b:=by
 have h1:(a.map λx:Nat=>(x:Int)).map PyData.int=(b.map λx:Nat=>(x:Int)).map PyData.int:=PyData.tuple.inj h;exact DG ((Vu (λ_ _ z=>PyData.int.inj z)).mp h1)
theorem q95{n c f g:Nat}{rows a:List Row}(h:mw n f rows=mw c g a):n=c/\f=g/\rows=a:=by
 have h1:=PyData.tuple.inj h;injection h1 with d h2
 injection h2 with i h3
 injection h3 with b _
 have d:=PyData.int.inj d;have i:=PyData.int.inj i;have b:rows.map dR=a.map dR:=PyData.tuple.inj b;exact⟨by lia,by lia,(Vu (λ_ _ z=>xJ1 z)).mp b⟩
theorem UL{H:Hp}{v:V}{n a:Nat}{rows:List Row}(h:bo H v (mw n a rows)):∃t,v=.ref t/\uB H t n a rows:=by
 cases h with
 |@tup t d _ e r=>
  cases r with
  |cons c r=>
   cases c;cases r with
   |cons h1 r=>
    cases h1;cases r with
    |cons h2 r=>
     cases r;obtain⟨p,rfl,b⟩:=OD (rows:=rows) h2;exact⟨t,rfl,p,e,b⟩
def rU(d:PyData):Prop:=∀b c a,d=.tuple [b,c,.tuple a]->a.length<=1150
def Hy:Sp:=λb H Q _=>∃(v:V)(d:PyData),b=[v]/\bo H v d/\rU d/\(∀n c rows,¬K3 d n c rows)/\∀a,aF H a->Q (.bl false) a
theorem q96{f J x u i:af}{X D I m g:ak}(F:aT K "is_telling" "is_telling" xD f X)(B:ee mg)
  (hS:mg "is_size"=some (.ref J)) (FS:aT K "is_size" "is_size" xT J D) (bS:Binds K D ["thing"] []) (GS:aE P w K mg base aR 2 J D ["thing"] Hh)
  (hR:mg "are_rows"=some (.ref x)) (FR:aT K "are_rows" "are_rows" sX x I) (Z:Binds K I ["thing"] []) (GR:aE P w K mg base aR 4 x I ["thing"] Hg)
  (hN:mg "is_number"=some (.ref u)) (FN:aT K "is_number" "is_number" sJ u m) (bN:Binds K m ["thing","many"] []) (GN:aE P w K mg base aR 2 u m ["thing","many"] Dg)
  (hD:mg "depths_of"=some (.ref i)) (W:aT K "depths_of" "depths_of" xU i g) (bD:Binds K g ["rows"] []):aE P w K mg base aR 5 f X ["thing"] Hy:=by
 have GD:aE P w K mg base aR 1 i g ["rows"] Ib:=Qe W B;refine F.ok ck (λvs H Q E h=>?_) (λbw A C s H vs Q E G h=>?_)
 ·obtain⟨v,d,rfl,_⟩:=h
  rfl
 ·obtain⟨v,d,rfl,O,rN,no,q⟩:=h;have jG:aZ 1 _:=G.mono (by decide);have S:aZ 2 _:=G.mono (by decide);refine⟨_,fv (dH (iq (kq (gP (cQ mD (by rfl) B.lY ZI (aG (pv 0) (aG (n_ (v:=.ty "tuple") (by rfl) B.tuple ZZ rfl) aN)))))
    (iX (dG sY (cQ mE (by rfl) B.len Ye (aG (pv 0) aN)) aS (cU _)))).pt (cD (cA iK)) dI)
   (fv (uE (pv 0) (sE rfl (ir (gh 1 ck.nd) (ir (gh 2 ck.nd) (ir (gh 3 ck.nd) sN)))))
   (fv (dH (iq (kq (gP (bJ GS S hS FS.kp bS (aG (pv 1) aN))))
    (iq (kq (gP (bJ GR G hR FR.kp Z (aG (pv 3) aN))))
    (iX (kq (gP (bJ GN S hN FN.kp bN (aG (pv 2) (aG (cQ mE (by rfl) B.len Ye (aG (pv 3) aN)) aN)))))))).pt (cD (cA iK)) dI)
   (cD (cA (j_ mX (de m7 (bJ GD jG hD W.kp bD (aG (pv 3) aN)) (pv 2)) (pv 1) (cU _)))))),?_⟩
  refine⟨_,rfl,_,_,_,_,_,rfl,rfl,.inl O.ty,Gr d,_,rfl,?_⟩;cases O with
  |@tup t Y M R r=>
   refine bY ⟨_,rfl,t,_,rfl,.inr (bh.of R),rfl,_,rfl,?_⟩;have hl:=r.length;by_cases y:Y.length=3
   rotate_left
   ·have e1:(decide (V.int ((Y.length:Nat):Int)=V.int 3))=false:=Zi λz=>y (by have:=V.int.inj z;lia);rw[e1];exact bQ (q H (aF.refl _))
   refine E9 (by rw[y];rfl) ?_;obtain⟨x0,x1,x2,c,a,L,rfl,rfl,r0,r1,U⟩:=xO7 y r;refine⟨_,rfl,t,_,rfl,bh.of R,rfl,_,_,rfl,_,_,rfl,_,_,rfl,rfl,?_⟩;refine⟨_,rfl,x0,c,rfl,r0,_,rfl,?_⟩;by_cases j:g9 12 c=true
   rotate_left
   ·rw[show g9 12 c=false by simpa using j];exact bQ (q H (aF.refl _))
   rw[j];refine bY ⟨_,rfl,x2,L,rfl,U,λM e=>rN c a M (by rw[e]),λN b=>⟨_,rfl,?_⟩⟩;by_cases l:Ax L=true
   rotate_left
   ·rw[show Ax L=false by simpa using l];exact bQ (q N b)
   rw[l];obtain⟨rows,rfl,ok⟩:=TF l;obtain⟨p,rfl,k⟩:=OD (U.same b);obtain⟨bs,hp,j9,_⟩:=id k;refine bY ⟨_,rfl,_,rfl,p,_,rfl,.inr (bh.of hp),x1,a,rows.length,by rw[Zf,j9];rfl,r1.same b,_,rfl,?_⟩;by_cases T:g9 (rows.length+1) a=true
   rotate_left
   ·rw[show g9 (rows.length+1) a=false by simpa using T];exact bQ (q N b)
   exfalso;obtain⟨n,rfl,hn⟩:=Hz j;obtain⟨tp,rfl,kS⟩:=Hz T;exact no n tp rows ⟨rfl,hn,ok,by lia⟩
  |_=>exact bQ (q H (aF.refl _))
theorem UK{n a:Nat}{rows:List Row}(h:rU (mw n a rows)):rows.length<=1150:=by
 have:=h (.int (n:Nat)) (.int (a:Nat)) (rows.map dR) rfl
 rwa [Zf]at this
def Ph:Sp:=λb H Q _=>∃(v:V)(d:PyData),b=[v]/\bo H v d/\rU d/\(∀n c rows,¬K3 d n c rows)/\∀a,aF H a->Q (.bl false) a
theorem qY6{f c:af}{g b:ak}(F:aT K "is_shape" "is_shape" x9 f g)
  (n:mg "is_telling"=some (.ref c)) (j:aT K "is_telling" "is_telling" xD c b) (i:Binds K b ["thing"] []) (k:aE P w K mg base aR 5 c b ["thing"] Hy):aE P w K mg base aR 15 f g ["thing"] Ph:=by
 refine F.ok eJ (λp H Q E h=>?_) (λB A a s H p Q E r h=>?_)
 ·obtain⟨v,d,rfl,_⟩:=h
  rfl
 ·obtain⟨v,d,rfl,l,u,m,q⟩:=h;have t:aZ 5 _:=r.mono (by decide);refine aX ⟨_,⟨dH (kq (gP (bJ k t n j.kp i (aG (pv 0) aN)))) (cD (cA iK)) dI⟩,?_⟩;exact⟨_,xI,_,rfl,v,d,rfl,l,u,m,λy x=>⟨_,rfl,bQ (q y x)⟩⟩
def Hx:Sp:=λc H Q _=>∃(v:V)(d:PyData),c=[v]/\bo H v d/\rU d/\∀(b:Bool) H',(b=true<->∃n a rows,d=mw n a rows/\Canon n a rows)->aF H H'->Q (.bl b) H'
theorem q97{f:af}{k:ak}(x:aE P w K mg base aR 15 f k ["thing"] HB)(u:aE P w K mg base aR 15 f k ["thing"] Ph):aE P w K mg base aR 15 f k ["thing"] Hx:=by
 refine(xO6 x u).imp λB H Q E h=>?_;obtain⟨v,d,rfl,l,m,q⟩:=h;by_cases i:∃n a rows,K3 d n a rows
 ·obtain⟨n,a,rows,rfl,p,ok,r⟩:=i;obtain⟨t,rfl,s⟩:=UL l;refine .inl ⟨t,n,a,rows,rfl,s,p,ok,UK m,r,λb g hb j=>q b g (hb.trans ⟨λc=>⟨n,a,rows,rfl,c⟩,λz=>?_⟩) j⟩;obtain⟨C,y,A,e,c⟩:=z;obtain⟨rfl,rfl,rfl⟩:=q95 e;exact c
 ·refine .inr ⟨v,d,rfl,l,m,λn a rows z=>i ⟨n,a,rows,z⟩,λg j=>q false g ⟨λz=>(by cases z),λz=>?_⟩ j⟩;obtain⟨n,a,rows,e,c⟩:=z;exact(i ⟨n,a,rows,e,c.size,c.mn,c.oQ⟩).elim
end Pr
namespace L2
open PySem PySem.Spec PyProof.Rows
theorem aT.DO{P:ag}{w:aj}{K:PySem.W.Frag}{mg:ar->Option aa}{base:ao}{x b:ar}{st:aB}{f:af}{g:ak}{N ps:List ar}{k:Nat}{sp:Sp}(F:aT K x b st f g)(S:aI N ps (bF st))(len:∀c H Q E,sp c H Q E->c.length=ps.length)
  (n:∀(d:aa)(A:aq)(a:List Env)(s:ae)(H:Hp)(c:List V)(Q:VK)(E:XK),aZ k (A.deeper (envOfC b (bF st) s.heap.objs.size f d))->sp c H Q E ->
   ∃t,gI (gU (jv P w) P w K mg base N b (bF st) f d A a s H E) (m8 st) t/\t {nx:=λ_ h=>Q .cb h,rt:=Q} (start N c) H):aE P w K mg base (jv P w) (k+1) f g ps sp:=by
 obtain⟨y,B,kV,j,v,r,d,u,q,rfl,p,l⟩:=F.ex;exact MV p l S len λA a s H c Q E m i=>n d A a s H c Q E m i
end L2
namespace Pr
open PySem L2 Qf
def mU(d:PyData):Prop:=∃n a rows,d=mw n a rows/\Canon n a rows
def Hw(C:af):Sp:=λb H Q E=>∃(v:V)(d:PyData),b=[v]/\bo H v d/\rU d/\(mU d->∀a,aF H a->Q .cb a)/\(¬mU d->∀a,aF H a->E (.ref C) none a)
theorem q98{f g C:af}{k c:ak}(F:aT K "want_shape" "want_shape" Dw f k)(B:mg "NoShape"=some (.ref C))(D:PySem.W.excIn K C Es "ValueError.__new__"=true)
  (y:mg "is_shape"=some (.ref g)) (v:aT K "is_shape" "is_shape" x9 g c) (p:Binds K c ["thing"] []) (q:aE P w K mg base aR 15 g c ["thing"] Hx):
  aE P w K mg base (jv P w) 16 f k ["shape"] (Hw C):=by
 refine F.DO T4 (λn H Q E h=>?_) (λG A a s H n Q E r h=>?_)
 ·obtain⟨x,d,rfl,_⟩:=h
  rfl
 ·obtain⟨x,d,rfl,t,l,u,m⟩:=h;refine⟨_,cD (dH (kq (gP (bJ q r y v.kp p (aG (pv 0) aN)))) (cD (OW (by rfl) B D rfl Qo (aG mC aN))) dI),?_⟩;refine⟨_,rfl,x,d,rfl,t,l,λb i hb j=>⟨_,rfl,?_⟩⟩;cases b with
  |true=>exact bY (u (hb.mp rfl) i j)
  |false=>exact bQ ⟨by decide,m (λz=>Bool.noConfusion (hb.mpr z)) i j⟩
end Pr
namespace L2
open PySem PySem.Spec PyProof.Rows
inductive FZ(a b:ar)(x:V)(H:Hp)(Q:VK):Prop
 |mk(i:Int)(e0:x=.int i)(e1:i.natAbs.log2<1920)(e2:(Str.empty++a++(toString i:String)++b:ar).length<=sizeLine)(e3:Q (.str (Str.empty++a++(toString i:String)++b)) H)
def tFm(a:ar)(te:TE)(b:ar):TE:=λd H Q=>te d H λx c=>FZ a b x c Q
theorem Tz{X:Cx}{a b:ar}{e:av}{te:TE}{g k:Nat}{n A j c:aC}(u:PE X e te)(r:(Str.empty++a).length<=sizeLine:=by decide):
  PE X (.JoinedStr [.Constant (.str a) g n,.FormattedValue e (-1) none A,.Constant (.str b) k j] c) (tFm a te b):=by
 intro f s w H Q I h;refine wpAny_JoinedStr ?_;have go:∀{x y:ar},(x++y).length<=sizeLine->x.length<=sizeLine:=λ{x y} h=>by
  rw[strLen_append]at h;exact Zw (Yk _ _) h
 refine Vq ?_;refine⟨a,_,rfl,r,?_⟩;refine wpAny_FormattedValue_plain (bz (u f _ w H _ (I.tok _) h) λv D ⟨x,C,p,m,B⟩=>?_);obtain⟨i,rfl,l,d,q⟩:=B;obtain⟨t,rfl⟩:=m;refine wpAny_formatField_int l ⟨_,_,rfl,go d,?_⟩;refine Vq ⟨b,_,rfl,d,d,?_⟩;exact⟨.str _,C,p.tok _,⟨_,rfl⟩,q⟩
end L2
namespace Pr
open PySem L2 Qf
theorem q99:(Str.empty++("the shape has more than ":ar)++(toString (2000:Int):String)++(" leaves":ar):ar).length<=sizeLine:=by decide +kernel
structure Kq(K:PySem.W.Frag)(mg:ar->Option aa)(c:Nat->af)(FE oA oC oF:af):Prop where
 n0:mg "NoShape"=some (.ref (c 0))
 n1:mg "TooMany"=some (.ref (c 1))
 fe:mg "FloorError"=some (.ref FE)
 a0:mg "NoAddress"=some (.ref oA)
 a1:mg "NoCell"=some (.ref oC)
 a2:mg "NoFloor"=some (.ref oF)
 v:mg "ValueError"=none
 ec:∀i,i<2->dk K (c i)
 kv:∀i,i<2->PySem.W.kitOne K (.ref (c i)) (.type "ValueError")=some true
 any:∀i,i<2->PySem.W.kitAny K (.ref (c i)) [.ref oA,.ref oC,.ref oF]=some false
 kit:∀i j,i<2->j<2->PySem.W.kitOne K (.ref (c i)) (.ref (c j))=some (decide (i=j))
 ex:∀i,i<2->PySem.W.excIn K (c i) Es "ValueError.__new__"=true
 fm:∀i,i<2->PySem.W.exmOne K (.ref (c i)) (.ref FE)=some true
section
variable{c:Nat->af}{FE oA oC oF:af}
inductive t8(CM:af)(vs:List V)(H:Hp)(E:XK):Prop
 |mk(t:af)(n tp:Nat)(rows:List Row)(e0:vs=[.ref t,.int 2000])(e1:m6 H t n tp rows)(e2:2000<bV (T rows tp))(q:∀H',aF H H'->E (.ref CM) none H')
def MM(b:af):Sp:=λa H Q E=>t8 b a H E
theorem xJ3{f b:af}{k g:ak}(F:aT K "want_leaves" "want_leaves" x8 f k)(X:Kq K mg c FE oA oC oF)(D:mg "count_leaves"=some (.ref b))(x:aT K "count_leaves" "count_leaves" xu b g)(r:Binds K g ["top","rows"] [])(y:aE P w K mg base aR 1 b g ["top","rows"] uh):
  aE P w K mg base (jv P w) 2 f k ["shape","most"] (MM (c 1)):=by
 refine F.DO zu (λm H Q E h=>?_) (λG A d s H m Q E u h=>?_)
 ·obtain⟨t,n,a,rows,rfl,_⟩:=h
  rfl
 ·obtain⟨t,n,a,rows,rfl,C,I,q⟩:=h;obtain⟨⟨p,j,l⟩,i,v⟩:=id C;refine gG ⟨_,⟨dH (dG xX (cg.go ⟨bJ y u D x.kp r (cH.go (.cons ⟨de fY (pv 0) aS⟩ (.cons ⟨de fY (pv 0) aS⟩ .nil rfl) rfl))⟩) (pv 1) (cU _)) (cD (OW (by rfl) X.n1 (X.ex 1 (by decide)) rfl Qo (aG (Tz (pv 1)) aN))) dI⟩,?_⟩;refine⟨_,rfl,t,_,1,.int (a:Nat),rfl,rfl,bh.of j,rfl,_,rfl,t,_,2,.ref p,rfl,rfl,bh.of j,rfl,p,a,rows,rfl,l,i.mn,v,i.oQ,λJ B=>?_⟩;refine⟨_,rfl,_,_,rfl,rfl,_,rfl,?_⟩;refine Fc (show((2000:Int)<(bV (T rows a):Nat)) by lia) ?_;exact⟨_,rfl,⟨2000,rfl,by decide,q99,by decide +kernel,q _ B⟩⟩
inductive ug(CM:af)(vs:List V)(H:Hp)(E:XK):Prop
 |mk(t:af)(n tp:Nat)(rows:List Row)(e0:vs=[.ref t])(e1:m6 H t n tp rows)(e2:2000<bV (T rows tp))(q:∀H',aF H H'->E (.ref CM) none H')
def ML(b:af):Sp:=λa H Q E=>ug b a H E
theorem xJ5{f a:af}{j d:ak}(F:aT K "want_coarse" "want_coarse" zO f j)(g:∃t,mg "MOST_LEAVES"=some (.int 2000 t))(y:mg "want_leaves"=some (.ref a))(r:aT K "want_leaves" "want_leaves" x8 a d)(l:Binds K d ["shape","most"] [])(u:aE P w K mg base (jv P w) 2 a d ["shape","most"] (MM (c 1))):
  aE P w K mg base (jv P w) 3 f j ["shape"] (ML (c 1)):=by
 obtain⟨tm,g⟩:=g;refine F.DO zv (λk H Q E h=>?_) (λB A b s H k Q E p h=>?_)
 ·obtain⟨t,n,i,rows,rfl,_⟩:=h
  rfl
 ·obtain⟨t,n,i,rows,rfl,x,m,q⟩:=h;refine⟨_,cD (iY (uI u p (by rfl) y r.kp l .nil Ho (aG (pv 0) (aG (gf (v:=.int 2000) (by rfl) g ⟨_,rfl⟩) aN)))),?_⟩;exact⟨_,rfl,t,n,i,rows,rfl,x,m,q⟩
theorem Pg{H:Hp}{t:af}{n d:Nat}{rows:List Row}(h:m6 H t n d rows):bo H (.ref t) (mw n d rows)/\rU (mw n d rows)/\mU (mw n d rows):=by
 obtain⟨i,f,g⟩:=h;refine⟨.of (q71 i),λa b j e=>?_,n,d,rows,rfl,f⟩;unfold mw at e;injection e with e
 injection e with _ e
 injection e with _ e
 injection e with e _
 injection e with e
 rw[<- e,Zf];exact g
abbrev nLO:List ar:=["shape","top","rows","leaves"]
theorem qi:aI nLO ["shape"] (bF Dj):=dz
theorem LQ:("":ar)=txt []:=by decide +kernel
theorem Tx{H:Hp}{l:af}(h:H l=some (.lst [])):fy H l []:=⟨[],h,rfl,λi b e h=>by simp at h⟩
inductive zg(c:Nat->af)(vs:List V)(H:Hp)(Q:VK)(E:XK):Prop
 |good (t:af) (n tp:Nat) (rows:List Row) (e0:vs=[.ref t]) (e1:m6 H t n tp rows) (e2:bV (T rows tp)<=2000) (q:∀H' lp,aF H H'->H lp=none->fy H' lp (bX (T rows tp))->Q (.ref lp) H')
 |shape (v:V) (d:PyData) (e0:vs=[v]) (e1:bo H v d) (bn:rU d) (h:¬mU d) (q:∀H',aF H H'->E (.ref (c 0)) none H')
 |many (t:af) (n tp:Nat) (rows:List Row) (e0:vs=[.ref t]) (e1:m6 H t n tp rows) (e2:2000<bV (T rows tp)) (q:∀H',aF H H'->E (.ref (c 1)) none H')
def ud(c:Nat->af):Sp:=λa H Q E=>zg c a H Q E
theorem xO8{f D k B:af}{fd O p y:ak}(F:aT K "leaves_of" "leaves_of" Dj f fd)(hW:mg "want_shape"=some (.ref D))(FW:aT K "want_shape" "want_shape" Dw D O)(bW:Binds K O ["shape"] [])(GW:aE P w K mg base (jv P w) 16 D O ["shape"] (Hw (c 0)))
  (hC:mg "want_coarse"=some (.ref k)) (FC:aT K "want_coarse" "want_coarse" zO k p) (bC:Binds K p ["shape"] []) (GC:aE P w K mg base aR 3 k p ["shape"] zm) (U:aE P w K mg base (jv P w) 3 k p ["shape"] (ML (c 1)))
  (hG:mg "gather_leaves"=some (.ref B)) (FG:aT K "gather_leaves" "gather_leaves" C6 B y) (bG:Binds K y oy []) (GG:aE P w K mg base aR 13 B y oy (ue 12)):aE P w K mg base (jv P w) 17 f fd ["shape"] (ud c):=by
 refine F.DO qi (λvs H Q E h=>?_) (λbw A I s H vs Q E R h=>?_)
 ·cases h with
  |good t n i rows a g M q=>subst a;rfl
  |shape v d a g W h q=>subst a;rfl
  |many t n i rows a g M q=>subst a;rfl
 ·have Z:aZ 3 _:=R.mono (by decide);have Jm:aZ 13 _:=R.mono (by decide);refine aX ⟨_,⟨iY (uI GW R (by rfl) hW FW.kp bW .nil Ho (aG (pv 0) aN))⟩,?_⟩;cases h with
  |shape v d a g W h q=>
   subst a;exact⟨_,xI,_,rfl,v,d,rfl,g,W,λz=>absurd z h,λ_=>q⟩
  |many t n i rows a g M q=>
   subst a;obtain⟨L,V,G⟩:=Pg g;refine aX ⟨_,⟨iY (uI U Z (by rfl) hC FC.kp bC .nil Ho (aG (pv 0) aN))⟩,?_⟩;exact⟨_,xI,_,rfl,_,_,rfl,L,V,λ_ H1 j=>⟨_,rfl,t,n,i,rows,rfl,uG g j,M,λC r=>q C (j.trans r)⟩,λz=>absurd G z⟩
  |good t n i rows a hS hm q=>
   subst a;obtain⟨L,V,G⟩:=Pg hS;refine aX ⟨_,⟨iY (bJ GC Z hC FC.kp bC (aG (pv 0) aN))⟩,?_⟩;refine aX ⟨_,⟨uE (zY Mk (pv 0) (zP aS) zQ) (sE rfl (ir (gh 1 qi.nd) (ir (gh 2 qi.nd) sN)))⟩,?_⟩;refine aX ⟨_,⟨c8 3 qi.nd (g_ aN)⟩,?_⟩;refine aX ⟨_,⟨iY (bJ GG Jm hG FG.kp bG (aG (pv 2) (aG (pv 1) (aG mC (aG (pv 3) aN)))))⟩,?_⟩;refine gG ⟨_,⟨cA (pv 3)⟩,?_⟩;refine⟨_,rfl,_,_,rfl,L,V,λ_ H1 j=>?_,λz=>absurd G z⟩;have Y:=uG hS j;refine⟨_,rfl,t,n,i,rows,rfl,Y,hm,λC r=>?_⟩;have J:=uG Y r;obtain⟨⟨rp,ht,hR⟩,m,DW⟩:=id J;have NS:=j.trans r;refine⟨_,rfl,_,rfl,t,_,rfl,bh.of ht,(λz=>absurd (show HT.cI 3 0 (some 1)=0 from z.1) (by decide)),λu hu=>?_⟩;refine⟨u,_,rfl,bh.of bg,rfl,_,_,rfl,_,_,rfl,rfl,?_⟩;refine(λ(go:∀x,aF C x->_)=>go _ (bf hu)) ?_;intro x N;refine⟨(by show 0<=sizeLine;decide),λl T=>?_⟩;have S:=bf (o:=.lst []) T;have X:upd x l (.lst []) l=some (.lst []):=bg;have Rc:H l=none:=by
    cases e:H l with
    |none=>rfl
    |some o=>rw[N _ _ (NS _ _ e)]at T;cases T
   generalize upd x l (.lst [])=H4 at S X ⊢;refine⟨_,rfl,_,rfl,_,rfl,rp,l,i,[],[],rows,?_,hR.mono (N.trans S).cR,m.mn,m.oQ,Zw (q80 m) m.size,Tx X,by decide,?_,λH5 b5 Rf=>?_⟩
   ·rw[<- LQ];rfl
   ·show 0+_<=_;lia
   ·rw[Dh]at Rf;refine⟨_,rfl,q H5 l (λb o e=>b5 b o (S _ _ (N _ _ (NS _ _ e))) (dv e Rc)) Rc Rf⟩
end
end Pr
namespace L2
open PySem
def Yl(b:Hp)(σ:St)(R:Hp->V->Prop)(te:TE):Prop:=∀H,aF b H->∀Q:VK,(∀v a,aF H a->R a v->Q v a)->te σ H Q
def Ew(a:Hp)(σ:St)(R:Hp->V->Prop):List TE->Prop
 |[]=>True
 |t::b=>Yl a σ R t/\Ew a σ R b
theorem Fx{f:Hp}{σ:St}{R:Hp->V->Prop}(mono:∀H a v,aF H a->R H v->R a v):∀{c:List TE}{H:Hp},aF f H->Ew f σ R c->∀Q:List V->Hp->Prop,(∀b a,aF H a->b.length=c.length->(∀v∈b,R a v)->Q b a)->eD c σ H Q
 |[],H,s,_,Q,h=>h [] H (aF.refl _) rfl λv j=>nomatch j
 |t::c,H,s,y,Q,h=>y.1 H s _ λv p i k=>Fx mono (s.trans i) y.2 _ λb n g l m=>h _ _ (i.trans g) (by rw[Zz,Zz,l]) λx d=>by
   rcases ZD.mp d with rfl|d
   ·exact mono _ _ _ g k
   ·exact m x d
end L2
namespace L2
open PySem PySem.Spec PyProof.Rows
noncomputable def era(p:af->Prop)(H:Hp):Hp:=open Classical in λa=>if p a then none else H a
theorem cf{p:af->Prop}{a:af}{H:Hp}{o:HO}:era p H a=some o<->¬p a/\H a=some o:=by
 unfold era;by_cases h:p a
 ·rw[Zr h];exact⟨(λz=>nomatch z),λz=>absurd h z.1⟩
 ·rw[Zl h];exact⟨λz=>⟨h,z⟩,λz=>z.2⟩
theorem Tw{p:af->Prop}{H:Hp}:aF (era p H) H:=λb o e=>(cf.mp e).2
theorem MG{p q:af->Prop}{H c:Hp}(k:∀a,q a->p a)(s:∀b o,H b=some o->¬p b->c b=some o):aF (era p H) (era q c):=λb o e=>cf.mpr ⟨λz=>(cf.mp e).1 (k b z),s _ _ (cf.mp e).2 (cf.mp e).1⟩
theorem zS{p:af->Prop}{H a:Hp}(s:aF H a):aF (era p H) (era p a):=MG (λ_ z=>z) λb o e _=>s _ _ e
def fb(p:af->Prop)(H:Hp):Prop:=∀a,p a->∃l,H a=some (.lst l)
def Yd(p:af->Prop)(b:Hp)(σ:St)(te:TE)(d:PyData):Prop:=∀H,aF b H->∀Q:VK,(∀v a,aF H a->bo (era p a) v d->Q v a)->te σ H Q
inductive yJ(p:af->Prop)(H0:Hp)(σ:St):List TE->List PyData->Prop
 |nil:yJ p H0 σ [] []
 |cons {t:TE}{ts:List TE}{d:PyData}{ds:List PyData}(h:Yd p H0 σ t d) (r:yJ p H0 σ ts ds):yJ p H0 σ (t::ts) (d::ds)
section
variable{p:af->Prop}{H0:Hp}{σ:St}
theorem MF{g:List TE}{d:List PyData}(y:yJ p H0 σ g d):∀{H:Hp},aF H0 H->∀Q:List V->Hp->Prop,(∀b a,aF H a->bj (era p a) b d->Q b a)->eD g σ H Q:=by
 induction y with
 |nil=>exact λs Q h=>h [] _ (aF.refl _) .nil
 |cons y r i=>exact λs Q h=>y _ s _ λv m f k=>i (s.trans f) _ λb l c j=>h _ _ (f.trans c) (.cons (k.same (zS c)) j)
theorem ME{H:Hp}{b:af}{o:HO}(a:fb p H0)(s:aF H0 H)(hb:H b=none):era p (upd H b o) b=some o:=cf.mpr ⟨(λz=>by obtain⟨l,e⟩:=a b z;rw[s _ _ e]at hb;cases hb),bg⟩
theorem dr(i:Int):Yd p H0 σ (tC (.int i)) (.int i):=λH s Q q=>q _ _ (aF.refl _) (.int i)
theorem xJ6(x:ar):Yd p H0 σ (tC (.str x)) (.str x):=λH s Q q=>q _ _ (aF.refl _) (.str x)
theorem EZ(b:Bool):Yd p H0 σ (tC (.bl b)) (.bool b):=λH s Q q=>q _ _ (aF.refl _) (.bl b)
theorem xJ7:Yd p H0 σ (tC .cb) .none:=λH s Q q=>q _ _ (aF.refl _) .cb
def Hs(p:af->Prop)(R:PyData->Prop):Hp->V->Prop:=λH v=>∃d,bo (era p H) v d/\R d
theorem zF{R:PyData->Prop}:∀H a v,aF H a->Hs p R H v->Hs p R a v:=λH a v s ⟨d,h,r⟩=>⟨d,h.same (zS s),r⟩
theorem jx{R:PyData->Prop}{te:TE}{d:PyData}(y:Yd p H0 σ te d)(r:R d):Yl H0 σ (Hs p R) te:=λH s Q q=>y H s Q λv a b h=>q v a b ⟨d,h,r⟩
theorem pP(g:fb p H0){f:List TE}{a:List PyData}(y:yJ p H0 σ f a)(h:a.length<=sizeLine):Yd p H0 σ (kn (eD f)) (.tuple a):=λH s Q q=>MF y s _ λi j c d=>⟨by rw[d.length];exact h,λb hb=>q _ _ (c.trans (bf hb)) (.tup (ME g (s.trans c) hb) (d.same (zS (bf hb))))⟩
theorem Fw(g:fb p H0){f:List TE}{a:List PyData}(y:yJ p H0 σ f a)(h:a.length<=sizeLine):Yd p H0 σ (nA (eD f)) (.list a):=λH s Q q=>MF y s _ λi j c d=>⟨by rw[d.length];exact h,λb hb=>q _ _ (c.trans (bf hb)) (.lst (ME g (s.trans c) hb) (d.same (zS (bf hb))))⟩
theorem CG(c:fb p H0){ta:TE}{a:PyData}(b:Yd p H0 σ ta a):Yd p H0 σ (kn (eD [ta])) (.tuple [a]):=pP c (.cons b .nil) (by show 1<=sizeLine;decide)
theorem xO9(f:fb p H0){ta tb:TE}{a b:PyData}(c:Yd p H0 σ ta a)(d:Yd p H0 σ tb b):Yd p H0 σ (kn (eD [ta,tb])) (.tuple [a,b]):=pP f (.cons c (.cons d .nil)) (by show 2<=sizeLine;decide)
theorem qF(h:fb p H0){ta tb d:TE}{a b c:PyData}(f:Yd p H0 σ ta a)(i:Yd p H0 σ tb b)(g:Yd p H0 σ d c):Yd p H0 σ (kn (eD [ta,tb,d])) (.tuple [a,b,c]):=pP h (.cons f (.cons i (.cons g .nil))) (by show 3<=sizeLine;decide)
theorem CF(k:fb p H0){ta tb f g:TE}{a b c d:PyData}(h:Yd p H0 σ ta a)(l:Yd p H0 σ tb b)(j:Yd p H0 σ f c)(i:Yd p H0 σ g d):Yd p H0 σ (kn (eD [ta,tb,f,g])) (.tuple [a,b,c,d]):=pP k (.cons h (.cons l (.cons j (.cons i .nil)))) (by show 4<=sizeLine;decide)
structure md(p:af->Prop)(R:PyData->Prop)(H0:Hp)(k:Nat)(D:af)(H:Hp):Prop where
 ex:∃xs H1,aF H0 H1/\H1 D=none/\aF H1 H/\H D=some (.lst xs)/\xs.length=k/\∀x∈xs,Hs p R H1 x
theorem md.same{R:PyData->Prop}{k:Nat}{D:af}{H:Hp}(b:md p R H0 k D H):aF H0 H:=by
 obtain⟨c,a,s,_,t,_⟩:=b;exact s.trans t
theorem UJ{R:PyData->Prop}{k m:Nat}{D E:af}{i c:Hp}{a:List V}(b:md p R H0 k D i)(g:aF i c)(t:a.length=m)(u:∀v∈a,Hs p R c v)(f:c E=none):
  ∃d,upd c E (.lst a) D=some (.lst d)/\d.length=k/\∀G,upd c E (.lst a) G=none->md p R H0 (k+m) G (upd (upd c E (.lst a)) G (.lst (d++a))):=by
 obtain⟨d,A,s,y,l,q,j,w⟩:=b;refine⟨d,cT (g _ _ q) f,j,λG n=>⟨d++a,upd c E (.lst a),((s.trans l).trans g).trans (bf f),n,bf n,bg,by rw[Zn,j,t],λx r=>?_⟩⟩;rcases ZX.mp r with h|h
 ·exact zF _ _ _ ((l.trans g).trans (bf f)) (w x h)
 ·exact zF _ _ _ (bf f) (u x h)
theorem Tv{R:PyData->Prop}{a:List TE}(y:Ew H0 σ (Hs p R) a)(j:a.length<=100)(Q:VK)(q:∀D b,md p R H0 a.length D b->Q (.ref D) b):nA (eD a) σ H0 Q:=
 Fx zF (aF.refl _) y _ λf h g d i=>⟨by rw[d];exact Yt (xH (by lia)),λD c=>q D _ ⟨f,h,g,c,bf c,bg,d,i⟩⟩
theorem Tu{R:PyData->Prop}{a:List TE}{i k:Nat}{D:af}{c:Hp}(b:md p R H0 k D c)(e:σ[i]?=some (some (.ref D)))(y:Ew c σ (Hs p R) a)(u:k+a.length<=100)(Q:VK)(q:∀D f,md p R H0 (k+a.length) D f->Q (.ref D) f):
  rZ zD (km i) (nA (eD a)) σ c Q:=by
 refine⟨_,e,Fx zF (aF.refl _) y _ λl v j d s=>⟨by rw[d];exact Yt (xH (by lia)),λE h=>?_⟩⟩;obtain⟨g,t,m,n⟩:=UJ b j d s h;exact⟨D,E,g,l,rfl,rfl,t,bg,by rw[m,d];exact Yt (xH (by lia)),λG r=>q G _ (n G r)⟩
theorem OC{te:TE}{i:Nat}{rest:TS}{k:Ends}{H:Hp}(h:te σ H λv a=>rest k (σ.set i (some v)) a):nz (iS te (fu i)) rest k σ H:=h
theorem xJ8(h:fb p H0){R:PyData->Prop}{k:Nat}{D:af}{c:Hp}(b:md p R H0 k D c):fb (λa=>p a\/a=D) c:=by
 obtain⟨q,n,f,j,d,g,m,i⟩:=b;intro a z;rcases z with z|rfl
 ·obtain⟨l,e⟩:=h a z;exact⟨l,(f.trans d) _ _ e⟩
 ·exact⟨_,g⟩
theorem Tt{R:PyData->Prop}{k:Nat}{D:af}{l c:Hp}{v:V}{d:PyData}(b:md p R H0 k D l)(g:aF l c)(d3:bo (era (λa=>p a\/a=D) c) v d)(r:R d):∃f,c D=some (.lst f)/\f.length=k/\md p R H0 (k+1) D (upd c D (.lst (f++[v]))):=by
 obtain⟨f,w,q,s,n,u,j,m⟩:=b;have i:aF w (era (λa=>a=D) c):=λa o e=>cf.mpr ⟨(λz=>by rw[z,s]at e;cases e),(n.trans g) _ _ e⟩;refine⟨f,g _ _ u,j,⟨f++[v],era (λa=>a=D) c,q.trans i,?_,λa o e=>?_,bg,by rw[Zn,j];rfl,λx t=>?_⟩⟩
 ·cases e:era (λa=>a=D) c D with
  |none=>rfl
  |some o=>exact absurd rfl (cf.mp e).1
 ·rw[cK (cf.mp e).1];exact(cf.mp e).2
 ·rcases ZX.mp t with h|h
  ·exact zF _ _ _ i (m x h)
  ·have:x=v:=by simpa using h
   subst this;exact⟨d,d3.same λa o e=>cf.mpr ⟨λz=>(cf.mp e).1 (.inl z),cf.mpr ⟨λz=>(cf.mp e).1 (.inr z),(cf.mp e).2⟩⟩,r⟩
theorem UI{R:PyData->Prop}{k i:Nat}{f D:af}{H g:Hp}{o:HO}(b:md (λa=>a=f) R H0 k D H)(h:H0 f=some o)(but:∀b o,H b=some o->b≠f->g b=some o)(t:i<k):∃c x d,g D=some (.lst c)/\c[i]?=some x/\bo (era (λa=>a=f) g) x d/\R d:=by
 obtain⟨c,v,r,j,q,m,u,s⟩:=b;have n:D≠f:=λz=>by rw[z,r _ _ h]at j;cases j
 have l:i<c.length:=by lia
 obtain⟨d,h1,h2⟩:=s c[i] (XH l);exact⟨c,c[i],d,but _ _ m n,by simp[l],h1.same ((zS q).trans (MG (λ_ z=>z) but)),h2⟩
end
mutual
inductive lE(X:Cx):av->TE->Prop
 |e {e:av}{te:TE}(h:cg X e te):lE X e te
 |cb {j:Nat}{pos:aC}:lE X (.Constant .none j pos) (tC .cb)
 |bl {b:Bool}{j:Nat}{pos:aC}:lE X (.Constant (.bool b) j pos) (tC (.bl b))
 |int {i:Int}{j:Nat}{pos:aC}:lE X (.Constant (.int i) j pos) (tC (.int i))
 |str {x:ar}{j:Nat}{pos:aC}:lE X (.Constant (.str x) j pos) (tC (.str x))
 |tup {es:List av}{ts:List TE}{x1:Nat}{pos:aC}(h:lD X es ts) (n:es.all (λe=>(xZ e).not)=true:=by rfl):lE X (.Tuple es x1 pos) (kn (eD ts))
 |lst {es:List av}{ts:List TE}{pos:aC}(h:lD X es ts) (n:es.all (λe=>(xZ e).not)=true:=by rfl):lE X (.List es pos) (nA (eD ts))
inductive lD(X:Cx):List av->List TE->Prop
 |nil:lD X [] []
 |cons {e:av}{te:TE}{es:List av}{ts:List TE}(h:lE X e te) (r:lD X es ts):lD X (e::es) (te::ts)
end
mutual
theorem lE.go{X:Cx}:∀{e:av}{a:TE},lE X e a->PE X e a
 |_,_,.e h=>h.go
 |_,_,.cb=>xE9
 |_,_,.bl=>iK
 |_,_,.int=>aS
 |_,_,.str=>mC
 |_,_,.tup h n=>iM (@tP.pa _ _ _ (h.go n))
 |_,_,.lst h n=>g_ (@tP.pa _ _ _ (h.go n))
theorem lD.go{X:Cx}:∀{a:List av}{b:List TE},lD X a b->a.all (λe=>(xZ e).not)=true->tP X a b
 |_,_,.nil,_=>.nil
 |_,_,.cons h r,n=>.cons h.go (r.go (Wi.mp n).2) (by have:=(Wi.mp n).1;simpa using this)
end
theorem lE.Kj{X:Cx}{e:av}{te:TE}(h:lE X e te):cg X e te:=⟨h.go⟩
section
variable{X:Cx}{pos:aC}
theorem xJ9{a b:av}{ta tb:TE}{op:Operator}{r:R2}(h:fi X (binaryOp op) r)(c:cg X a ta)(hb:cg X b tb):cg X (a.BinOp op b pos) (rZ r ta tb):=⟨br h c.go hb.go⟩
theorem xK0{a b:av}{ta tb:TE}{r:R2}(h:mT X r)(c:cg X a ta)(hb:cg X b tb)(hs:Hr b):cg X (.Subscript a b pos) (rZ r ta tb):=⟨E_ h c.go hb.go hs⟩
end
section
variable{p:af->Prop}{H0:Hp}{σ:St}
theorem UH{K:PySem.W.Frag}{te:TE}{i:Nat}{rest:TS}{k:Ends}{H:Hp}{D:af}{xs:List V}(e:σ[i]?=some (some (.ref D)))(b:H D=some (.lst xs))(h:te σ H λv c=>Hq (.ref D) [v] c λ_ a=>rest k σ a):nz (MX (Gb K "list" Hq (km i) (n5 te iR))) rest k σ H:=⟨_,e,.inl ⟨rfl,_,cu.of b⟩,h⟩
theorem UG{te:TE}{k:Ends}{H:Hp}(h:te σ H k.rt):tX te k σ H:=h
end
end L2
namespace Pr
open PySem L2 Qf
def yL(d:PyData):Prop:=rU d/\¬mU d
def kr:PyData->Option Nat
 |.int i=>if 0<=i then some i.toNat else none
 |_=>none
def yS:List PyData->Option Row
 |[]=>some []
 |d::a=>match kr d,yS a with
  |some n,some r=>some (n::r)
  |_,_=>none
def Gm:PyData->Option Row
 |.tuple a=>yS a
 |_=>none
def yR:List PyData->Option (List Row)
 |[]=>some []
 |d::a=>match Gm d,yR a with
  |some n,some r=>some (n::r)
  |_,_=>none
theorem Hf(n:Nat):kr (.int (n:Nat))=some n:=by
 show(if(0:Int)<=(n:Int)then some ((n:Int)).toNat else none)=some n;rw[Zr (by lia),ZY]
theorem OB:∀r:Row,yS ((r.map λx:Nat=>(x:Int)).map PyData.int)=some r
 |[]=>rfl
 |x::r=>by
  show(match kr (.int (x:Nat)),yS ((r.map λx:Nat=>(x:Int)).map PyData.int)with
   |some n,some r=>some (n::r)
   |_,_=>none)=_
  rw[Hf,OB r]
theorem OA:∀rows:List Row,yR (sW rows)=some rows
 |[]=>rfl
 |r::rows=>by
  show(match yS ((r.map λx:Nat=>(x:Int)).map PyData.int),yR (sW rows)with
   |some n,some r=>some (n::r)
   |_,_=>none)=_
  rw[OB,OA rows]
def NP:PyData->Option (Nat×Nat×List Row)
 |.tuple [a,b,.tuple c]=>match kr a,kr b,yR c with
  |some n,some d,some rows=>some (n,d,rows)
  |_,_,_=>none
 |_=>none
theorem xK1(n a:Nat)(rows:List Row):NP (mw n a rows)=some (n,a,rows):=by
 show(match kr (.int (n:Nat)),kr (.int (a:Nat)),yR (sW rows)with
  |some n,some a,some rows=>some (n,a,rows)
  |_,_,_=>none)=_
 rw[Hf,Hf,OA]
def nW:Nat->List Row->Bool
 |_,[]=>true
 |i,r::rows=>decide (r.length=4)&&r.all (λx=>decide (x<i+2))&&nW (i+1) rows
theorem Oz:∀(rows:List Row)(i:Nat),nW i rows=true<->∀p r,rows[p]?=some r->Ay (i+p) r
 |[],i=>by simp[nW]
 |q::rows,i=>by
  have c:=Oz rows (i+1);unfold nW;rw[YC,YC,c,decide_eq_true_iff,Z8];constructor
  ·rintro⟨⟨h1,h2⟩,f⟩ p r h;cases p with
   |zero=>cases h;exact⟨h1,λx a=>by have:=ZB (h2 x a);lia⟩
   |succ p=>have:=f p r h;rwa [show i+1+p=i+(p+1) by lia]at this
  ·intro h;have b:=h 0 q rfl;exact⟨⟨b.1,λx a=>Zh (by have:=b.2 x a;lia)⟩,λp r d=>by have:=h (p+1) r d;rwa [show i+(p+1)=i+1+p by lia]at this⟩
def rL(n a:Nat)(rows:List Row):Bool:=decide (n<=12)&&decide (a<rows.length+2)&&nW 0 rows&&rows.all (λr=>decide (¬jy r))&&decide rows.Nodup&&decide (dm rows n [] a=List.range rows.length)
theorem xP0{n a:Nat}{rows:List Row}(c:Canon n a rows):rL n a rows=true:=by
 unfold rL;rw[Zh c.size,Zh c.oQ,(Oz rows 0).mpr λp r h=>by rw[Xr];exact c.mn p r h,Zh c.unlike,Zh c.ends,Z8.mpr λr b=>Zh (c.lH r b)]
 rfl
def AO(d:PyData):Bool:=(match d with
  |.tuple [_,_,.tuple c]=>decide (c.length<=1150)
  |_=>true)&&(match NP d with
  |some (n,a,rows)=>!rL n a rows
  |none=>true)
theorem iW{d:PyData}(h:AO d=true):yL d:=by
 unfold AO at h;rw[YC]at h;refine⟨λa b g e=>?_,λ⟨n,f,rows,e,c⟩=>?_⟩
 ·subst e;exact ZB h.1
 ·subst e;have h2:=h.2;rw[xK1]at h2;have h2:(!rL n f rows)=true:=h2;rw[xP0 c]at h2;cases h2
end Pr
namespace L2
open PySem
theorem fb.mono{p:af->Prop}{H b:Hp}(h:fb p H)(s:aF H b):fb p b:=λa z=>let ⟨l,e⟩:=h a z;⟨l,s _ _ e⟩
end L2
namespace Pr
open PySem L2 Qf
abbrev nOs:List ar:=["_law_pot_here","_law_some"]
theorem uk:aI nOs ["_law_pot_here"] (bF Dv):=dz
inductive zb(vs:List V)(H:Hp)(Q:VK):Prop
 |mk(p:af)(e0:vs=[.ref p])(e1:aU H p)(q:∀H' v d,cz p H H'->aU H' p->bo H' v d->yL d->Q v H')
def zc:Sp:=λa H Q _=>zb a H Q
theorem xP1{f C:af}{W u:ak}(F:aT K "_law_odd_shape" "_law_odd_shape" Dv f W)(B:ee mg)(hD:mg "_law_digit"=some (.ref C))(V:aT K "_law_digit" "_law_digit" qx C u)(bD:Binds K u ["_law_pot_here","_law_many_here"] []):aE P w K mg base aR 2 f W ["_law_pot_here"] zc:=by
 have GD:aE P w K mg base aR 1 C u ["_law_pot_here","_law_many_here"] sG:=xB V;refine F.ok uk (λvs H Q E h=>?_) (λbw A G s H vs Q E hr h=>?_)
 ·obtain⟨p,rfl,_⟩:=h
  rfl
 ·obtain⟨p,rfl,D,q⟩:=h;refine aX ⟨_,Qc (i:=1) uk.nd rfl (by first|left;rfl|right;rfl) (lE.Kj (.lst (.cons .cb (.cons .int (.cons .bl (.cons .str (.cons (.lst .nil) (.cons (.tup .nil) (.cons (.tup (.cons .int (.cons .int .nil))) (.cons (.lst (.cons .int (.cons .int (.cons (.tup .nil) .nil)))) (.cons (.tup (.cons .int (.cons .int (.cons (.lst .nil) .nil)))) (.cons (.tup (.cons .int (.cons .int (.cons (.tup .nil) .nil)))) (.cons (.tup (.cons .int (.cons .int (.cons (.tup .nil) .nil)))) (.cons (.tup (.cons .bl (.cons .int (.cons (.tup .nil) .nil)))) .nil)))))))))))))) rfl rfl,?_⟩;refine aX ⟨_,Qc (i:=1) uk.nd rfl (by first|left;rfl|right;rfl) (xJ9 xi ⟨pv 1⟩ (lE.Kj (.lst (.cons (.tup (.cons .int (.cons .int (.cons (.tup (.cons (.tup (.cons .int (.cons .int (.cons .int (.cons .int .nil))))) .nil)) .nil)))) (.cons (.tup (.cons .int (.cons .int (.cons (.tup (.cons (.tup (.cons .int (.cons .int (.cons .int (.cons .int .nil))))) .nil)) .nil)))) (.cons (.tup (.cons .int (.cons .int (.cons (.tup (.cons (.tup (.cons .int (.cons .int (.cons .int (.cons .int .nil))))) .nil)) .nil)))) (.cons (.tup (.cons .int (.cons .bl (.cons (.tup .nil) .nil)))) .nil))))))) rfl rfl,?_⟩;refine aX ⟨_,⟨iY (qG Z7 Yr Ys sS (pv 1) (aG (lE.Kj (.tup (.cons .int (.cons .int (.cons (.tup (.cons (.tup (.cons .int (.cons .int (.cons .int (.cons .int .nil))))) .nil)) .nil))))).go aN))⟩,?_⟩;refine gG ⟨_,TQ (xK0 m7 ⟨pv 1⟩ ⟨bJ GD hr hD V.kp bD (aG (pv 0) (aG (cQ mE (by rfl) B.len Ye (aG (pv 1) aN)) aN))⟩ (λ_ _=>rfl)),?_⟩;have b:fb (λa=>a=p) H:=by
   intro a z;cases z;obtain⟨x,y,e,_⟩:=D;exact⟨_,e⟩
  refine OC (Tv (p:=λa=>a=p) (R:=yL) ?y0 ?l0 _ λY S t=>?_)
  case l0=>exact YZ rfl
  case y0=>exact⟨jx xJ7 (iW (by decide +kernel)),jx (dr _) (iW (by decide +kernel)),jx (EZ _) (iW (by decide +kernel)),jx (xJ6 _) (iW (by decide +kernel)),jx (Fw b .nil (YZ rfl)) (iW (by decide +kernel)),jx (pP b .nil (by decide)) (iW (by decide +kernel)),jx (xO9 b (dr _) (dr _)) (iW (by decide +kernel)),jx (Fw b (.cons (dr _) (.cons (dr _) (.cons (pP b .nil (by decide)) .nil))) (YZ rfl)) (iW (by decide +kernel)),jx (qF b (dr _) (dr _) (Fw b .nil (YZ rfl))) (iW (by decide +kernel)),jx (qF b (dr _) (dr _) (pP b .nil (by decide))) (iW (by decide +kernel)),jx (qF b (dr _) (dr _) (pP b .nil (by decide))) (iW (by decide +kernel)),jx (qF b (EZ _) (dr _) (pP b .nil (by decide))) (iW (by decide +kernel)),trivial⟩
  have t:md (λa=>a=p) yL H 12 Y S:=t;refine LS (σ':=[some (.ref p),some (.ref Y)]) rfl ?_;have g:fb (λa=>a=p) S:=b.mono t.same;refine OC (Tu t rfl ?y1 ?l1 _ λc N r=>?_)
  case l1=>exact YZ rfl
  case y1=>exact⟨jx (qF g (dr _) (dr _) (CG g (CF g (dr _) (dr _) (dr _) (dr _)))) (iW (by decide +kernel)),jx (qF g (dr _) (dr _) (CG g (CF g (dr _) (dr _) (dr _) (dr _)))) (iW (by decide +kernel)),jx (qF g (dr _) (dr _) (CG g (CF g (dr _) (dr _) (dr _) (dr _)))) (iW (by decide +kernel)),jx (qF g (dr _) (EZ _) (pP g .nil (by decide))) (iW (by decide +kernel)),trivial⟩
  have r:md (λa=>a=p) yL H 16 c N:=r;refine LS (σ':=[some (.ref p),some (.ref c)]) rfl ?_;have n:=xJ8 b r;obtain⟨j,M⟩:=n c (.inr rfl);refine UH rfl M ((qF n (dr _) (dr _) (CG n (CF n (dr _) (dr _) (dr _) (dr _)))) N (aF.refl _) _ λk m X d2=>?_);obtain⟨Z,L,T,l⟩:=Tt r X d2 (iW (by decide +kernel));have l:md (λa=>a=p) yL H 17 c (upd m c (.lst (Z++[k]))):=l;have I:j=Z:=by
   have:=X _ _ M;rw[L]at this;cases this
   rfl
  subst I;refine⟨c,_,_,rfl,rfl,L,by rw[T];decide,?_⟩;have U:aU (upd m c (.lst (j++[k]))) p:=D.same l.same;have O:upd m c (.lst (j++[k])) c=some (.lst (j++[k])):=bg;generalize upd m c (.lst (j++[k]))=H3 at l U O ⊢;have JD:(j++[k]).length=17:=by rw[Zn,T];rfl
  refine UG ?_;refine⟨_,rfl,_,rfl,_,rfl,c,_,rfl,.inl (cu.of O),?_⟩;rw[JD];refine⟨p,17,rfl,U,by decide,by decide,λi H4 hi J kU=>?_⟩;obtain⟨x0,y0,e0,_⟩:=D;obtain⟨ys,x,d,RG,v,hd,hn⟩:=UI l e0 J hi;exact⟨c,ys,(i:Int),x,rfl,rfl,cu.of RG,n9 v,q _ _ _ ((cz.of l.same).trans J) kU (hd.same Tw) hn⟩
end Pr
namespace L2
open PySem PySem.Spec PyProof.Rows
section
variable{X:Cx}
theorem xa7{i0:Nat}{m:ar}{t A:aC}{x:ar}{q f:aC}{b iter c:av}{scope:aA}{w:TI}{D:TT}{te:TE}(N:List ar)(n:aA)(V:X.N=N)(Y:X.env.scope=n)(hc:X.calm=true)(B:X.N.Nodup)(wN:X.N[i0]?=some m)(O:X.env.scope.names.lookup m=some .local)(M:PI X (.Name x q) iter w)
  (T:∀g C j k d,PT (dP X scope g C [x] j k d) c D) (S:∀g C j k d,PE (dP X scope g C [x] j k d) b te)
  (J:scope.kind=.function:=by rfl) (W:scope.names.all (λy=>y.2 != .cell)=true:=by decide +kernel) (F:scope.names.all (λy=>y.2 != .local||scope.names.lookup y.1==some .local)=true:=by decide +kernel)
  (E:scope.names.lookup x=some .local:=by rfl) (U:N.all (λy=>scope.names.lookup y != some .local)=true:=by decide +kernel)
  (K:scope.names.all (λp=>p.2 != .free||(n.names.lookup p.1==some .cell||n.names.lookup p.1==some .free))=true:=by decide +kernel)
  (hs:∀x,foldedSetIterable iter X.env x=pure x:=by intro _;rfl) (L:swapsWith (.ListComp b [⟨.Name x q,iter,[c],0⟩] scope f) (some (.Name m t)) A.line X.env=pure true:=by rfl):
  PS X (.Assign [.Name m t] (.ListComp b [⟨.Name x q,iter,[c],0⟩] scope f) A) (iS (qy 1 w (fu 0) D te) (fu i0)):=by
 obtain⟨s1,s2,v,Z⟩:=Ab V Y W F U K;refine OT (nn:=[x]) (λa=>isTrue c a (eval c a)) hc M (λit r a=>OZ b _ iter c scope f it r a) (λg C j k d=>?_) (λy os u H R P h=>rg P h) (λg C j k d G s u H Q I h=>T g C j k d G s u H Q I h) S J s1 s2 v Z hs B wN O L;have l:(dP X scope g C [x] j k d).env.scope.names.lookup x=some .local:=Y7 E;exact uJ (i:=0) (YB.mpr ⟨λz=>v x z E,B⟩) rfl (.inl l) (.inr l)
end
end L2
namespace Qf
theorem Ts:∀{k:Nat}{a:List Row}{r c:Nat},met a r c (2^k)=[]->rt k a r c=.z
 |0,_,_,_,h=>Zr h
 |_+1,_,_,_,h=>Zr h
theorem Tq:∀{k:Nat}{a:List Row}{r c:Nat},met a r c (2^k)≠[]->(met a r c (2^k)).any (hasB r c (2^k))=true->rt k a r c=.o
 |0,_,_,_,h,g=>(Zl h).trans (Zr g)
 |_+1,_,_,_,h,g=>(Zl h).trans (Zr g)
def rq(k:Nat)(m:List Row)(r c i:Nat):Tr:=rt k m (r+2^k*(i/2)) (c+2^k*(i%2))
theorem xP2{k:Nat}{a:List Row}{r c:Nat}(h1:met a r c (2^(k+1))≠[])(h2:(met a r c (2^(k+1))).any (hasB r c (2^(k+1)))=false):
  rt (k+1) a r c=.nd (rq k (met a r c (2^(k+1))) r c 0) (rq k (met a r c (2^(k+1))) r c 1) (rq k (met a r c (2^(k+1))) r c 2) (rq k (met a r c (2^(k+1))) r c 3):=by
 unfold rt;rw[Zl h1,Zl (by rw[h2];decide)];simp[rq]
def xh(k:Nat)(m:List Row)(r c:Nat)(a:List Nat)(i:Nat):List Lf:=(List.range i).flatMap λj=>bu (a++[j]) (bX (rq k m r c j))
theorem Oy(k:Nat)(m:List Row)(r c:Nat)(a:List Nat)(i:Nat):xh k m r c a (i+1)=xh k m r c a i++bu (a++[i]) (bX (rq k m r c i)):=by
 unfold xh;rw[Xk,List.flatMap_append];simp
theorem Tp{k:Nat}{m:List Row}{r c:Nat}{a:List Nat}:xh k m r c a 4=bu a (bX (.nd (rq k m r c 0) (rq k m r c 1) (rq k m r c 2) (rq k m r c 3))):=by
 rw[DD];show bu (a++[0]) _++(bu (a++[1]) _++(bu (a++[2]) _++(bu (a++[3]) _++[])))=_;simp
theorem MD(k:Nat)(m:List Row)(r c:Nat)(a:List Nat):∀i,(xh k m r c a i).length<=i*4^k
 |0=>Zt _
 |i+1=>by
  rw[Oy,Zn,HG,pS,Y3];have h1:=MD k m r c a i;have h2:bV (rq k m r c i)<=4^k:=uz k _ _ _;lia
end Qf
namespace Pr
open PySem L2 Qf
theorem xK2{d:Nat}(h:d<4):rO ("0123":ar).cps.toList (d:Int)=some (48+d):=by
 refine n9 ?_
 match d,h with
 |0,_|1,_|2,_|3,_=>decide +kernel
theorem UE:("0123":ar).length<=sizeLine:=by decide +kernel
theorem fy.cat{H d:Hp}{D:af}{L M:List Lf}{as bs:List af}(f:as.length=L.length)(g:bs.length=M.length)(h1:∀(i:Nat) b e,as[i]?=some b->L[i]?=some e->H b=some (.tup [.str (txt e.1),.bl e.2]))(h2:∀(i:Nat) b e,bs[i]?=some b->M[i]?=some e->H b=some (.tup [.str (txt e.1),.bl e.2]))
  (s:aF H d) (h:d D=some (.lst (as.map V.ref++bs.map V.ref))):fy d D (L++M):=by
 refine⟨as++bs,by rw[h,ZS],by rw[Zn,Zn,f,g],λi b e a c=>?_⟩;by_cases j:i<as.length
 ·rw[Zp j]at a;rw[Zp (by lia)]at c;exact s _ _ (h1 i b e a c)
 ·rw[Zx (by lia)]at a;rw[Zx (by lia)]at c;rw[f]at a;exact s _ _ (h2 _ b e a c)
abbrev QI:List ar:=["_law_shape_here","_law_found","_law_row"]
theorem qh:aI QI ["_law_shape_here"] (bF xS):=dz
inductive zd(vs:List V)(H:Hp)(Q:VK):Prop
 |mk(t:af)(n x:Nat)(rows:List Row)(e0:vs=[.ref t])(e1:uB H t n x rows)(e2:fh rows)(e3:rows.length<=1150)(e4:x<rows.length+2)(e5:∀H',aF H H'->Q (.int (bV (T rows x):Nat)) H')
def uc:Sp:=λa H Q _=>zd a H Q
theorem xP3{f:af}{W:ak}(F:aT K "_law_many" "_law_many" xS f W)(wG:mg "sum"=none):aE P w K mg base aR 1 f W ["_law_shape_here"] uc:=by
 refine F.ok qh (λvs H Q E h=>?_) (λbw A L s H vs Q E hr h=>?_)
 ·obtain⟨t,n,x,rows,rfl,_⟩:=h
  rfl
 ·obtain⟨t,n,x,rows,rfl,hT,ok,hn,k,q⟩:=h;refine aX ⟨_,⟨c8 1 qh.nd (g_ (aG aS (aG aS aN)))⟩,?_⟩;refine aX ⟨_,⟨sC YW rfl (sD (de fY (pv 0) aS)) (gh 2 qh.nd)
    (cD (iY (qG Z7 Yr Ys sS (pv 1) (aG (cQ (Pw rfl) (by rfl) wG W0
     (aG (og QI (bF xS) rfl rfl rfl qh.nd (sD (pv 2)) (λcl C fp aH aJ=>de (yh K rfl) (pv 2) (pv 0))) aN)) aN))))⟩,?_⟩
  refine gG ⟨_,⟨cA (de (yh K rfl) (pv 1) (de fY (pv 0) aS))⟩,?_⟩;obtain⟨p,U,hR⟩:=id hT;refine⟨(by show 2<=sizeLine;decide),λD l=>?_⟩;obtain⟨bs,R,j9,jF⟩:=id hR;have jM:=cT (u:=.lst [.int 1,.int 1]) R l;have Bq:=cT (u:=.lst [.int 1,.int 1]) U l;have S:(bs.map V.ref).length=rows.length:=by rw[Zf];exact j9
  refine⟨_,rfl,t,_,2,.ref p,rfl,rfl,bh.of Bq,rfl,p,rfl,⟨_,bh.of jM⟩,DM (K:=K) (a:=p) (xs:=bs.map V.ref) (λi v d=>aF H d/\d D=some (.lst (vN (jg rows i)))/\∃J,v=[some (.ref t),some (.ref D),J])
   ⟨bf l,bg,none,rfl⟩ (λi v d _ ⟨c,_⟩=>bh.of (c _ _ R)) ?_ ?_⟩
  ·rintro i y v d M ⟨c,g,J,rfl⟩;have hi:i<rows.length:=by rw[<- S];exact(cF M).1
   rw[Zg]at M;obtain⟨b,hb,rfl⟩:=Zo.mp M;have I:rows[i]?=some rows[i]:=by simp[hi]
   have O:=c _ _ (jF i b rows[i] hb I);have N:=ok i _ I;generalize rows[i]=r at I O N;refine⟨_,rfl,.inl ⟨rfl,_,cu.of g⟩,_,rfl,b,rfl,⟨_,bh.of O⟩,λD2 k8=>sR k8 (λj z _=>∃x,r[j]?=some x/\z=.int (bV (T rows x):Nat)) (xE (K:=K) O) (by rw[mz,N.1];decide) (λ_ _ _ _ _ _ h=>h) ?_ ?_⟩
   ·intro j x H3 hj k B Q' hq;obtain⟨m,G,rfl⟩:=x6 k;have jA:=N.2 m (Zy G);exact⟨_,rfl,_,rfl,D,_,(m:Int),.int (bV (T rows m):Nat),rfl,rfl,cu.of (B _ _ g),uD (DE jA),hq _ _ (aF.refl _) ⟨m,G,rfl⟩⟩
   ·intro X H3 B Y jY Z;have ey:X=(r.map λx=>bV (T rows x)).map (λn:Nat=>V.int (n:Int)):=by
     refine qD (by rw[jY,mz,Zf,Zf]) λj x k=>?_;obtain⟨m,G,rfl⟩:=Z j x k;rw[Zg,Zg,G];rfl
    have e2:X=((r.map λx=>bV (T rows x)).map (λn:Nat=>(n:Int))).map V.int:=ey.trans (qw _);refine⟨D2,(r.map λx=>bV (T rows x)).map (λn:Nat=>(n:Int)),rfl,e2▸Y,?_⟩;rw[P7];have jR:=B _ _ g;refine⟨D,_,_,rfl,rfl,jR,?_,?_⟩
    ·rw[mz,OJ];exact pQ (by lia)
    ·have nD:∀b o,H b=some o->b≠D:=λb o e=>dv e l;refine⟨λb o e=>by rw[cK (nD b o e)];exact B _ _ (c _ _ e),?_,_,rfl⟩;rw[bg,Pu ok I];unfold vN;rw[ZS]
     rfl
  ·rintro v d ⟨c,g,J,rfl⟩;rw[S]at g;exact⟨_,rfl,_,rfl,t,_,1,.int (x:Nat),rfl,rfl,bh.of (c _ _ U),rfl,D,_,(x:Int),.int (bV (T rows x):Nat),rfl,rfl,cu.of g,uD (DE k),q d c⟩
abbrev i7:List ar:=["_law_boxes_here","_law_address","_law_row","_law_column","_law_side"]
abbrev Iz:List ar:=["_law_boxes_here","_law_address","_law_row","_law_column","_law_side","_law_met","_law_half","_law_found","_law_k"]
theorem ko:aI Iz i7 (bF uH):=dz
inductive zh(k:Nat)(vs:List V)(H:Hp)(Q:VK):Prop
 |mk(bp:af)(aD:List Row)(ad:List Nat)(r c:Nat)(e0:vs=[.ref bp,.str (txt ad),.int (r:Nat),.int (c:Nat),.int ((2^k:Nat):Int)])(e1:ba H bp aD)(e2:(∀b∈aD,b.length=4))(e3:aD.length<=1150)(e4:ad.length+k<=100)(e5:∀H' D,aF H H'->fy H' D (bu ad (bX (rt k aD r c)))->Q (.ref D) H')
def nJ(k:Nat):Sp:=λa H Q _=>zh k a H Q
theorem LP{f fM fH:af}{fd f_ kg:ak}(F:aT K "_law_leaves" "_law_leaves" uH f fd)(B:ee mg)(hN:mg "_law_leaves"=some (.ref f))(bN:Binds K fd i7 [])
  (hM:mg "_law_meets"=some (.ref fM)) (FM:aT K "_law_meets" "_law_meets" sr fM f_) (bM:Binds K f_ g8 [])
  (hH:mg "_law_has"=some (.ref fH)) (FH:aT K "_law_has" "_law_has" i8 fH kg) (bH:Binds K kg g8 []){m:Nat}(G:m<=12){sp':Sp}(GI:aE P w K mg base aR (m+1) f fd i7 sp') (kA:∀j,m=j+1->sp'=nJ j):aE P w K mg base aR (m+2) f fd i7 (nJ m):=by
 have GM:aE P w K mg base aR 1 fM f_ g8 (xp jz):=OL FM;have GH:aE P w K mg base aR 1 fH kg g8 (xp hasB):=LX FH;refine F.ok ko (λvs H Q E h=>?_) (λbw A outer s H vs Q E hr h=>?_)
 ·obtain⟨bp,a,d,r,c,rfl,_⟩:=h
  rfl
 ·obtain⟨bp,a,d,r,c,rfl,hB,h4,kG,had,q⟩:=h;have jG:aZ 1 _:=hr.mono uX;refine aX ⟨_,⟨xa7 (i0:=5) Iz (bF uH) rfl rfl rfl ko.nd rfl rfl (zR (pv 0))
   (λcl C fp aH aJ=>gP (bJ GM jG hM FM.kp bM (aG (pv 0) (aG (pv 3) (aG (pv 4) (aG (pv 5) aN)))))) (λcl C fp aH aJ=>pv 0)⟩,?_⟩
  refine aX ⟨_,⟨dH (PW.pt (iq (dG (Ar hr) (pv 5) (g_ aN) (cU _)) (iX (gP (cQ (Gy rfl) (by rfl) B.any WZ (aG (og Iz (bF uH) rfl rfl rfl ko.nd (zR (pv 5))
   (λcl C fp aH aJ=>bJ GH jG hH FH.kp bH (aG (pv 0) (aG (pv 3) (aG (pv 4) (aG (pv 5) aN)))))) aN))))))
   (cD (cA (g_ (aG (cg.go ⟨iM (aG (pv 1) (aG (cg.go ⟨j_ (Ig hr) (pv 5) (g_ aN) (cU _)⟩) aN))⟩) aN)))) dI⟩,?_⟩
  refine aX ⟨_,⟨c8 6 ko.nd (br sM (pv 4) aS)⟩,?_⟩;refine aX ⟨_,⟨c8 7 ko.nd (g_ aN)⟩,?_⟩;refine aX ⟨_,⟨sC YW rfl (sT (by rfl) B.range (aG aS aN)) (gh 8 ko.nd)
   (l9.go (.one ⟨c8 7 ko.nd (br xi (pv 7) (cg.go ⟨bJ GI hr hN F.kp bN (cH.go (.cons ⟨pv 5⟩ (.cons ⟨br G5 (pv 1) (cg.go ⟨de Mj mC (pv 8)⟩)⟩
   (.cons ⟨br fZ (pv 2) (br pR (pv 6) (br sM (pv 8) aS))⟩ (.cons ⟨br fZ (pv 3) (br pR (pv 6) (br sv (pv 8) aS))⟩ (.cons ⟨pv 6⟩ .nil rfl) rfl) rfl) rfl) rfl))⟩))⟩))⟩,?_⟩
  refine gG ⟨_,⟨cA (pv 7)⟩,?_⟩;obtain⟨bs,hb,j9,jF⟩:=id hB;have jL:(bs.map V.ref).length=bs.length:=Zf ..;refine⟨_,rfl,bp,rfl,⟨_,cu.of hb⟩,λD hD=>Dp hD (λi=>jz r c (2^m) (a.getD i [])) (λi=>.ref (bs.getD i 0)) (C7 (K:=K) hb) (by rw[jL];exact pQ (by lia)) ?_ ?_⟩
  ·intro j x N hj t s2 os ho Q1 Q2 q1 q2;rw[Zg]at t;obtain⟨b,vX,rfl⟩:=Zo.mp t;have T:j<a.length:=by rw[jL]at hj;lia
   have Y:a[j]?=some (a.getD j []):=by rw[ZF,Ze T];rfl
   have eb:bs.getD j 0=b:=by rw[ZF,vX];rfl
   rw[eb]at q2;obtain⟨o1,rfl⟩:=L2.AI ho;refine⟨_,rfl,_,rfl,_,rfl,_,rfl,b,a.getD j [],r,c,2^m,rfl,s2 _ _ (jF j b _ vX Y),h4 _ (Zy Y),_,rfl,?_⟩;refine cM (λhc=>⟨_,rfl,q2 hc N (aF.refl _)⟩) (λhc=>q1 (Yu.mpr hc) N (aF.refl _))
  ·intro N s2 k8;rw[jL]at k8;have vY:ba N D (met a r c (2^m)):=ba.filter (p:=bp) (jz r c (2^m)) j9 jF s2 k8;have vJ:(met a r c (2^m)).length<=1150:=Zw DF kG;have wK:∀b∈met a r c (2^m),b.length=4:=λb hb=>h4 b (Y9.mp hb).1;refine⟨_,rfl,(by show 0<=sizeLine;decide),λl hl=>?_⟩;refine⟨_,_,xM (vY.same (bf hl)),.lst bg .nil,uK _,rfl,xO _,_,rfl,?_⟩;rw[zL];have S3:aF H (upd N l (.lst [])):=s2.trans (bf hl);have L:=vY.same (bf (o:=.lst []) hl);generalize upd N l (.lst [])=H3 at S3 L;have g:∀(u:Hp),aF H u->ba u D (met a r c (2^m))->(∀b,bX (rt m a r c)=[([],b)]->b=!(met a r c (2^m)).isEmpty->∀M k n,aF u M->M k=some (.tup [.str (txt d),.bl b])->M n=some (.lst [.ref k])->Q (.ref n) M):=λu J _ b hb _ M k n s' G v=>by
    refine q M n (J.trans s') ?_;rw[hb];refine⟨[k],v,rfl,λi b' e I O=>?_⟩
    match i,I,O with
    |0,I,O=>
     have z1:k=b':=by simpa using I
     have z2:(d++[],b)=e:=by simpa[bu]using O
     subst z1;subst z2;simpa using G
    |i+1,I,O=>simp at I
   cases mM:met a r c (2^m)with
   |nil=>
    have U:rt m a r c=.z:=Ts mM;rw[mM]at L;refine bQ (bQ ?_);refine⟨_,rfl,_,rfl,(by show 0<=sizeLine;decide),λl2 Z=>?_⟩;refine⟨_,_,xM (L.same (bf Z)),.lst bg .nil,uK _,rfl,xO _,?_⟩;rw[zL];refine⟨(by show 2<=sizeLine;decide),λk G=>⟨(by show 1<=sizeLine;decide),λn v=>?_⟩⟩;exact g H3 S3 (mM▸L) false (by rw[U];rfl) (by rw[mM];rfl) _ k n (((bf Z).trans (bf G)).trans (bf v)) (cT bg v) bg
   |cons b0 ml=>
    have R:met a r c (2^m)≠[]:=by rw[mM];exact λz=>nomatch z
    rw[<- mM];clear mM;have wA:(met a r c (2^m)).isEmpty=false:=by
     cases hq:met a r c (2^m)with
     |nil=>exact absurd hq R
     |cons _ _=>rfl
    rw[wA];refine bY ?_;obtain⟨ms,wJ,oX,ja⟩:=id L;have W:(ms.map V.ref).length=(met a r c (2^m)).length:=by rw[Zf,oX]
    refine⟨_,rfl,D,rfl,⟨_,cu.of wJ⟩,λD2 J7=>sR J7 (λi y _=>y=.bl (hasB r c (2^m) ((met a r c (2^m)).getD i []))) (C7 (K:=K) wJ) (by rw[W];exact pQ (by lia)) (λ_ _ _ _ _ _ h=>h) ?_ ?_⟩
    ·intro j x u hj t J Q' hq;rw[Zg]at t;obtain⟨b,vX,rfl⟩:=Zo.mp t;have T:j<(met a r c (2^m)).length:=by rw[W]at hj;exact hj
     have Y:(met a r c (2^m))[j]?=some ((met a r c (2^m)).getD j []):=by rw[ZF,Ze T];rfl
     exact⟨_,rfl,_,rfl,_,rfl,_,rfl,b,_,r,c,2^m,rfl,J _ _ (ja j b _ vX Y),wK _ (Zy Y),hq _ _ (aF.refl _) rfl⟩
    ·intro ys u J jR jY k9;have ey:ys=((met a r c (2^m)).map (hasB r c (2^m))).map V.bl:=by
      refine qD (by rw[jY,W,Zf,Zf]) λj x t=>?_;have T:j<(met a r c (2^m)).length:=by
       have:=(cF t).1;rw[jY,W]at this;exact this
      rw[k9 j x t,Zg,Zg,Ze T,ZF,Ze T]
      rfl
     subst ey;refine⟨D2,_,rfl,jR,_,rfl,?_⟩;have pD:((met a r c (2^m)).map (hasB r c (2^m))).any id=(met a r c (2^m)).any (hasB r c (2^m)):=by rw[List.any_map];rfl
     rw[pD];have S4:=S3.trans J;have wD:=L.same J;cases hh:(met a r c (2^m)).any (hasB r c (2^m))with
     |true=>
      have U:rt m a r c=.o:=Tq R hh;refine bQ ?_;refine⟨_,rfl,_,rfl,(by show 0<=sizeLine;decide),λl2 Z=>?_⟩;refine⟨_,_,xM (wD.same (bf Z)),.lst bg .nil,uK _,rfl,xO _,?_⟩;rw[zL,wA];refine⟨(by show 2<=sizeLine;decide),λk G=>⟨(by show 1<=sizeLine;decide),λn v=>?_⟩⟩;exact g u S4 wD true (by rw[U];rfl) (by rw[wA];rfl) _ k n (((bf Z).trans (bf G)).trans (bf v)) (cT bg v) bg
     |false=>
      obtain⟨k,rfl⟩:∃k,m=k+1:=by
       rcases m with _|k
       ·simp only[Nat.pow_zero]at R hh;rw[P_ R]at hh;cases hh
       ·exact⟨k,rfl⟩
      cases kA k rfl;refine bY ?_;have U:=xP2 R hh;clear g;rw[U,<- Tp]at q;have pB:(((2^(k+1):Nat):Int))/2=((2^k:Nat):Int):=by
       rw[YS];exact LA
      clear wA wJ oX ja W jR jY k9 pD vY L k8 S3 J jL;generalize met a r c (2^(k+1))=m at U wD vJ wK R hh q;obtain⟨p1,p2⟩:=qA (show k<=12 by lia);obtain⟨p3,p4⟩:=qA G;have h4k:4^k<=4^11:=Xq (by decide) (by lia);have e11:(4:Nat)^11=4194304:=by decide
      refine⟨_,rfl,_,_,rfl,rfl,⟨by decide,by decide⟩,?_⟩;refine⟨(by show 0<=sizeLine;decide),λD4 vZ=>?_⟩;refine Ds (σ':=[some (.ref bp),some (.str (txt d)),some (.int (r:Nat)),some (.int (c:Nat)),some (.int ((2^(k+1):Nat):Int)),some (.ref D),some (.int (((2^(k+1):Nat):Int)/2)),some (.ref D4),none]) rfl ?_;refine⟨_,rfl,by decide,by decide,?_⟩;refine PX (λi σ X=>aF u X/\∃S v8,fy X S (xh k m r c d i)/\σ=[some (.ref bp),some (.str (txt d)),some (.int (r:Nat)),some (.int (c:Nat)),some (.int ((2^(k+1):Nat):Int)),some (.ref D),some (.int (((2^(k+1):Nat):Int)/2)),some (.ref S),v8])
       ⟨bf vZ,D4,none,⟨[],bg,rfl,λi b e h=>by simp at h⟩,rfl⟩ ?_ ?_
      ·rintro i σ X hi ⟨s5,S,v8,vR,rfl⟩;have vU:i<4:=hi;have Ra:=MD k m r c d i;obtain⟨as,kX,BV,vF⟩:=id vR;have tT:[V.ref D,V.str (txt d++txt [i]),V.int ((r:Int)+((2^(k+1):Nat):Int)/2*((0+(i:Int))/2)),V.int ((c:Int)+((2^(k+1):Nat):Int)/2*((0+(i:Int))%2)),V.int (((2^(k+1):Nat):Int)/2)]=[V.ref D,V.str (txt (d++[i])),V.int ((r+2^k*(i/2):Nat):Int),V.int ((c+2^k*(i%2):Nat):Int),V.int ((2^k:Nat):Int)]:=by
        rw[pB,WS,Ve,Vf,VJ,Ve,Vf,VL,P5]
        rfl
       have KI:(⟨#[48+i]⟩:ar)=txt [i]:=rfl;refine⟨_,rfl,_,rfl,_,rfl,_,rfl,"0123",_,48+i,rfl,rfl,UE,(by rw[WS];exact xK2 vU),_,_,rfl,rfl,?_,_,rfl,_,rfl,_,rfl,_,_,rfl,rfl,⟨by decide,by decide⟩,_,_,rfl,rfl,.inl ⟨by lia,by lia⟩,_,_,rfl,rfl,_,rfl,_,rfl,_,rfl,_,_,rfl,rfl,(by show(0:Int)<2;decide),_,_,rfl,rfl,.inl ⟨by lia,by lia⟩,_,_,rfl,rfl,_,rfl,?_⟩
       ·rw[KI,xo,xo];show d.length+1<=sizeLine;exact Yt (pQ (by lia))
       ·refine⟨D,m,d++[i],r+2^k*(i/2),c+2^k*(i%2),tT,wD.same s5,wK,vJ,?_,λH6 D6 s6 yB=>?_⟩
        ·rw[Zn];show d.length+1+k<=100;lia
        ·obtain⟨bs6,vP,BS,JV⟩:=id yB;have Q_:(bX (rt k m (r+2^k*(i/2)) (c+2^k*(i%2)))).length<=4^k:=by rw[pS];exact uz k _ _ _
         have hi3:i*4^k<=3*4^k:=YO _ (by lia);refine⟨S,D6,_,_,rfl,rfl,s6 _ _ kX,vP,?_,λD7 yE=>?_⟩
         ·rw[Zf,Zf,BV,BS,HG];show _<=16777216;lia
         ·refine⟨(s5.trans s6).trans (bf yE),D7,_,?_,rfl⟩;rw[Oy];exact fy.cat BV BS (λi b e I O=>s6 _ _ (vF i b e I O)) JV (bf yE) bg
      ·rintro σ X ⟨s5,S,v8,vR,rfl⟩;exact⟨_,rfl,q X S (S4.trans s5) vR⟩
theorem MK{f q p:af}{a s r:ak}(F:aT K "_law_leaves" "_law_leaves" uH f a)(B:ee mg)(b:mg "_law_leaves"=some (.ref f))(g:Binds K a i7 [])
  (d:mg "_law_meets"=some (.ref q)) (i:aT K "_law_meets" "_law_meets" sr q s) (l:Binds K s g8 [])
  (c:mg "_law_has"=some (.ref p)) (n:aT K "_law_has" "_law_has" i8 p r) (m:Binds K r g8 []):∀k,k<=12->aE P w K mg base aR (k+2) f a i7 (nJ k)
 |0,h=>LP F B b g d i l c n m h (sp':=λ_ _ _ _=>False) ⟨λ_ _ _ _ h=>h.elim,λ_ _ _ _ _ _ _ _ _ _ _ _ _ h=>h.elim⟩ (λj e=>nomatch e)
 |k+1,h=>LP F B b g d i l c n m h (MK F B b g d i l c n m k (by lia)) (λj e=>by cases e;rfl)
end Pr
namespace L2
open PySem PySem.Spec PyProof.Rows
section
variable{X:Cx}
inductive iD(x:V)(y:V)(H:Hp)(Q:VK):Prop
 |mk(p:af)(xs:List V)(ds:List PyData)(d:PyData)(aV:y=.ref p)(c7:H p=some (.lst xs))(cq:aO H xs ds)(aP:aY H x d)(pV:d.canLay0=true)(wq:PyData.canLayAll0 ds=true)(KL:d.depth<=50)(e7_:Q (.bl (!ds.any λe=>PyData.eqv e d)) H)
theorem qY7{k:Nat}(A:aZ k X.A):fi X (compareOp .NotIn) iD:=by
 intro F s K H x y v u Q I r D h;obtain⟨p,J,G,d,rfl,f,C,j,c,g,B,q⟩:=h;cases D;obtain⟨as,m⟩:=j.reads I.aQ r;obtain⟨z,a,n,l,i⟩:=I.aQ p _ f;have un:=A.units;obtain⟨E,b⟩:=Hl (X:=X) I un m c B C l g;refine SeqAt.notIn_listAt (items:=a.toArray) (pO s.heap d) ⟨_,i,rfl,n,rfl⟩ (λw t=>E w (by simpa using t)) ⟨.bl _,H,I,rfl,?_⟩;rw[show a.toArray.any (pO s.heap d)=a.any (pO s.heap d) by simp,b];exact q
theorem xa9:Cv X "str.index" (λx b H Q=>∃(a y:ar)(i:Nat)(r:List Nat),x=.str a/\b=[.str y]/\Builtin.Str.occurrences a y 0 a.length 1=i::r/\Q (.int (i:Nat)) H):=by
 intro j s l H x b v m Q I f d h;obtain⟨a,y,i,r,rfl,rfl,c,q⟩:=h;obtain⟨t,rfl⟩:=f;obtain⟨u,rfl,g⟩:=d.one;obtain⟨k,rfl⟩:=g;exact SC.index c ⟨.int _,H,I.tok _,⟨_,rfl⟩,q⟩
end
end L2
namespace Pr
open PySem L2
theorem xK4{d:Nat}(h:d<4):∃r,Builtin.Str.occurrences "0123" ⟨#[48+d]⟩ 0 ("0123":ar).length 1=d::r:=by
 match d,h with
 |0,_|1,_|2,_|3,_=>exact⟨[],by decide +kernel⟩
end Pr
namespace Qf
open PySem
def cY(e:Lf):PyData:=.tuple [.str (Pr.txt e.1),.bool e.2]
theorem MC(a b:Lf):PyData.eqv (cY a) (cY b)=decide (a=b):=by
 obtain⟨x,p⟩:=a;obtain⟨y,q⟩:=b;show((Pr.txt x==Pr.txt y)&&((p==q)&&true))=_;by_cases h:x=y
 ·subst h;cases p<;>cases q<;>simp
 ·have:¬Pr.txt x=Pr.txt y:=λz=>h (Pr.TL z);simp[h,this]
theorem xb1(a:Lf):(cY a).depth<=50:=by
 unfold cY;simp[PyData.depth,PyData.depthAll]
theorem He{a:Lf}(h:∀d∈a.1,d<4):(cY a).canLay0=true:=by
 have h1:=Pr.TK h;have:PyData.strOk (Pr.txt a.1)=true:=by
  unfold PyData.strOk;rw[Array.all_eq_true]at h1 ⊢;intro i b;have:=ZB (h1 i b);exact Zh (by lia)
 unfold cY;simp[PyData.canLay0,PyData.canLayAll0,this]
end Qf
namespace Pr
open PySem L2 Qf
theorem To(xs:List V):jf xs (some ((xs.length:Int)-1)) none=match xs.getLast? with|none=>[]|some x=>[x]:=by
 unfold jf;cases hx:xs with
 |nil=>rfl
 |cons a l=>
  have e:HT.cI (a::l).length 0 (some (((a::l).length:Int)-1))=l.length:=by
   rw[Zz,show(((l.length+1:Nat):Int)-1)=((l.length:Nat):Int) by lia,HT.qo];lia
  rw[e,HT.nU,Va (List.cons_ne_nil a l)];have h2:(a::l).length-l.length=1:=by simp
  rw[h2];have d:∀(l:List V)(a:V),((a::l).drop l.length)=[(a::l).getLast (List.cons_ne_nil a l)]:=λl=>by
   induction l with
   |nil=>intro a;rfl
   |cons b l c=>
    intro a;rw[Zz,List.drop_succ_cons,c b]
    rfl
  rw[d]
  rfl
abbrev nMg:List ar:=["_law_leaves_here","_law_shape_here","_law_found","_law_n","_law_top","_law_rows","_law_address","_law_told_here","_law_number_here","_law_depth"]
theorem gc:aI nMg ["_law_leaves_here","_law_shape_here"] (bF DH):=dz
inductive ze(vs:List V)(H:Hp)(Q:VK):Prop
 |mk(lp t:af)(n tp:Nat)(rows:List Row)(u:Tr)(e0:vs=[.ref lp,.ref t])(e1:fy H lp (bX u))(hu:Tr.dep u<=12)(hl:(bX u).length<=16777216)(e2:uB H t n tp rows)(ok:fh rows)(hx:tp<rows.length+2)(hT:T rows tp=bI u)(q:∀H' D,aF H H'->fy H' D (bX (bI u))->Q (.ref D) H')
def zf:Sp:=λa H Q _=>ze a H Q
def g7(u:Tr)(i:Nat):List Lf:=((bX u).take i).foldl (iN (bI u)) []
theorem Ox(U:Tr):∀(L F:List Lf),(L.foldl (iN U) F).length<=F.length+L.length
 |[],F=>Zb _
 |e::L,F=>by
  rw[Z3,Zz];have h1:=Ox U L (iN U F e);have h2:(iN U F e).length<=F.length+1:=by unfold iN;split<;>simp
  lia
theorem xb2(u:Tr)(i:Nat):(g7 u i).length<=i:=by
 have h1:=Ox (bI u) ((bX u).take i) [];have h2:((bX u).take i).length<=i:=by rw[XE];lia
 unfold g7;simp at h1;lia
theorem qY8{u:Tr}{i:Nat}{e:Lf}(h:(bX u)[i]?=some e):g7 u (i+1)=iN (bI u) (g7 u i) e:=by
 unfold g7;rw[List.take_add_one,h,Xo]
 rfl
theorem Ow(U:Tr):∀(L F:List Lf)(x:Lf),x∈L.foldl (iN U) F->x∈F\/∃e∈L,x=((cP U e.1).2,e.2)
 |[],F,x,h=>.inl h
 |e::L,F,x,h=>by
  rw[Z3]at h;rcases Ow U L _ x h with z|⟨a,b,z⟩
  ·unfold iN at z;split at z
   ·exact .inl z
   ·rcases ZX.mp z with z|z
    ·exact .inl z
    ·exact .inr ⟨e,Zu,by simpa using z⟩
  ·exact .inr ⟨a,Zk _ b,z⟩
theorem xb3{u:Tr}(a:Tr.dep u<=12){i:Nat}{x:Lf}(h:x∈g7 u i):∀d∈x.1,d<4:=by
 rcases Ow _ _ _ _ h with z|⟨e,c,rfl⟩
 ·simp at z
 ·intro d b;exact(Dt 12 u e a (Wh c)).1 d ((P6 _ _).subset b)
theorem xP4{f:af}{fd:ak}(F:aT K "_law_merged" "_law_merged" DH f fd)(B:ee mg):aE P w K mg base aR 1 f fd ["_law_leaves_here","_law_shape_here"] zf:=by
 refine F.ok gc (λvs H Q E h=>?_) (λbw A outer s H vs Q E hr h=>?_)
 ·obtain⟨G,t,n,r,rows,u,rfl,_⟩:=h
  rfl
 ·obtain⟨G,t,n,r,rows,u,rfl,hL,hu,Q9,JY,ok,hx,hT,q⟩:=h;refine aX ⟨_,⟨c8 2 gc.nd (g_ aN)⟩,?_⟩;refine aX ⟨_,⟨uE (pv 1) (sE rfl (ir (gh 3 gc.nd) (ir (gh 4 gc.nd) (ir (gh 5 gc.nd) sN))))⟩,?_⟩;refine aX ⟨_,⟨sC YW rfl (zR (pv 0)) (sE rfl (ir (gh 6 gc.nd) (ir (gh 7 gc.nd) sN)))
   (l9.go (.cons ⟨c8 8 gc.nd (pv 4)⟩ (.cons ⟨c8 9 gc.nd aS⟩
    (.cons ⟨xd6 YW (dG xX (pv 8) aS (cU _)) (l9.go (.cons ⟨c8 8 gc.nd (de fY (cg.go ⟨de fY (pv 5) (br mY (pv 8) aS)⟩) (cg.go (xH9 PySem.F.plainAttrs_str PySem.F.slot_str_index PySem.F.type_str_index xa9 ⟨mC⟩ (.cons ⟨de Mj (pv 6) (pv 9)⟩ .nil rfl))))⟩
     (.one ⟨c8 9 gc.nd (br fZ (pv 9) aS)⟩)))⟩
    (.one ⟨dH (dG (qY7 hr) (cg.go ⟨iM (aG (cg.go ⟨zY OG (pv 6) zQ (zP (pv 9))⟩) (aG (pv 7) aN))⟩) (cg.go ⟨zY Up (pv 2) (zP (br mY (cg.go ⟨cQ mE (by rfl) B.len Ye (aG (pv 2) aN)⟩) aS)) zQ⟩) (by first|rfl|decide|with_unfolding_all rfl))
     (cD (iY (qG Z7 Yr Ys sS (pv 2) (aG (cg.go ⟨iM (aG (cg.go ⟨zY OG (pv 6) zQ (zP (pv 9))⟩) (aG (pv 7) aN))⟩) aN)))) dI⟩)))))⟩,?_⟩
  refine gG ⟨_,⟨cA (pv 2)⟩,?_⟩;obtain⟨L,ht,hR⟩:=id JY;obtain⟨bs,Ea,kG,vF⟩:=id hL;refine⟨(by show 0<=sizeLine;decide),λD hD=>?_⟩;have s1:=bf (o:=.lst []) hD;have J8:upd H D (.lst []) D=some (.lst []):=bg;have nD:∀{b o},H b=some o->b≠D:=λe=>dv e hD;refine(λ(go:∀H1,aF H H1->H1 D=some (.lst [])->_)=>go _ s1 J8) ?_;intro H1 s1 J8;refine⟨_,rfl,t,_,rfl,bh.of (s1 _ _ ht),rfl,_,_,rfl,_,_,rfl,_,_,rfl,rfl,?_⟩;refine Ds (σ':=[some (.ref G),some (.ref t),some (.ref D),some (.int (n:Nat)),some (.int (r:Nat)),some (.ref L),none,none,none,none]) rfl ?_;refine⟨_,rfl,G,rfl,⟨_,cu.of (s1 _ _ Ea)⟩,xd7 (K:=K) (xs:=bs.map V.ref) (λi l I=>aF H I/\fy I D (g7 u i)/\∃v6 v7 v8 v9,l=[some (.ref G),some (.ref t),some (.ref D),some (.int (n:Nat)),some (.int (r:Nat)),some (.ref L),v6,v7,v8,v9])
   ⟨s1,⟨[],J8,rfl,λi b e h=>by simp at h⟩,none,none,none,none,rfl⟩ (λi l I _ ⟨J,_⟩=>cu.of (J _ _ Ea)) ?_ ?_⟩
  ·rintro i y l I hy ⟨J,U,v6,v7,v8,v9,rfl⟩;rw[Zg]at hy;obtain⟨b,hb,rfl⟩:=Zo.mp hy;have hi:i<(bX u).length:=by rw[<- kG];exact(cF hb).1
   obtain⟨e,he⟩:∃e,(bX u)[i]?=some e:=⟨_,Ze hi⟩;have Ro:=Zy he;obtain⟨h4,hl12⟩:=Dt 12 u e hu Ro;obtain⟨pb,hpb⟩:=z_ u e Ro;have kF:=J _ _ (vF i b e hb he);have hsl:=xb2 u i;have yj:=qY8 he;refine⟨b,_,rfl,bh.of kF,rfl,_,_,rfl,_,_,rfl,rfl,?_⟩;refine⟨_,rfl,?_⟩;refine Ds (σ':=[some (.ref G),some (.ref t),some (.ref D),some (.int (n:Nat)),some (.int (r:Nat)),some (.ref L),some (.str (txt e.1)),some (.bl e.2),some (.int (r:Nat)),v9]) rfl ?_;refine xd8 (λl H3=>H3=I/\∃(y j:Nat),l=[some (.ref G),some (.ref t),some (.ref D),some (.int (n:Nat)),some (.int (r:Nat)),some (.ref L),some (.str (txt e.1)),some (.bl e.2),some (.int (y:Nat)),some (.int (j:Nat))]/\y<rows.length+2/\j<=e.1.length/\T rows y=(cP (bI u) (e.1.take j)).1/\(cP (bI u) (e.1.take j)).2=e.1.take j)
    (λl _=>match l with|[_,_,_,_,_,_,_,_,_,some (.int j)]=>e.1.length-j.toNat|_=>0) ⟨rfl,r,0,rfl,hx,Zt _,by rw[List.take_zero,DC,hT],by rw[List.take_zero,DC]⟩ ?_ ?_
   ·rintro l H3 ⟨rfl,y,j,rfl,hyl,hj,Eh,hw⟩;refine⟨_,rfl,_,_,rfl,rfl,_,rfl,?_⟩;refine cM (λS=>?_) (λS=>?_)
    ·have y2:¬y<2:=by have:=ZB S;lia
     obtain⟨W,a0,a1,a2,a3,rfl,C⟩:=sj ok hyl y2;have BI:j<e.1.length:=by
      rcases VR j e.1.length with z|z
      ·exact z
      ·rw[YV z,hpb,lT ok C]at Eh;cases pb<;>cases Eh
     obtain⟨d,Z⟩:∃d,e.1[j]?=some d:=⟨_,Ze BI⟩;have M:=h4 d (Zy Z);obtain⟨rs,Jh,DW,jF⟩:=id (hR.same J);have Jp:=(cF C).1;have wQ:rs[W]?=some (rs[W]'(by lia)):=Ze (by lia);have yk:=jF W _ _ wQ C;generalize rs[W]'(by lia)=ra at wQ yk;obtain⟨m,hm⟩:∃m,[a0,a1,a2,a3][d]?=some m:=⟨_,Ze (show d<[a0,a1,a2,a3].length from M)⟩;obtain⟨fr,jJ⟩:=xK4 M;have hT2:=Cq ok C M hm;obtain⟨w1,w2⟩:=UT Z hw (by rw[<- Eh,lT ok C]);have vJ:m<rows.length+2:=by
      have:=(ok W _ C).2 m (Zy hm);lia
     refine⟨_,rfl,_,rfl,_,_,rfl,rfl,L,_,((W:Nat):Int),.ref ra,rfl,Yo V.int (by lia),bh.of Jh,n9 (by rw[Zg,wQ];rfl),rfl,_,rfl,_,rfl,txt e.1,_,48+d,rfl,rfl,by rw[xo];exact Yt (pQ (by lia)),n9 (by simp[txt,Z]),"0123",_,d,fr,rfl,rfl,jJ,ra,_,(d:Int),.int (m:Nat),rfl,rfl,bh.of yk,uD hm,?_⟩;refine⟨_,rfl,_,_,rfl,rfl,?_⟩;refine⟨⟨rfl,m,j+1,rfl,vJ,BI,?_,w2⟩,?_⟩
     ·rw[hT2,w1,lT ok C]
     ·show e.1.length-((j:Int)+1).toNat<e.1.length-((j:Nat):Int).toNat;lia
    ·have y2:y<2:=by
      have:¬(1:Int)<(y:Int):=λz=>S (Zh z);lia
     have C:T rows y=.z\/T rows y=.o:=by
      have:y=0\/y=1:=by lia
      rcases this with rfl|rfl
      ·exact .inl (n6 _)
      ·exact .inr (nZ _)
     have kE:=UU hw (by rw[<- Eh];exact C);have mK:(cP (bI u) e.1).2=e.1.take j:=by rw[kE]
     have h4j:∀d∈e.1.take j,d<4:=λd Z=>h4 d (Wh Z);have jA:(txt e.1).length<=sizeLine:=by rw[xo];exact Yt (pQ (by lia))
     refine⟨_,rfl,_,rfl,(j:Int),rfl,txt e.1,(j:Int),rfl,rfl,rfl,jA,_,rfl,(by show 2<=sizeLine;decide),λk hk=>?_⟩;rw[Pp e.1 hj];have s3:=J.trans (bf (o:=.tup [.str (txt (e.1.take j)),.bl e.2]) hk);have Ed:upd H3 k (.tup [.str (txt (e.1.take j)),.bl e.2]) k=some (.tup [.str (txt (e.1.take j)),.bl e.2]):=bg;have yC:=U.same (bf (o:=.tup [.str (txt (e.1.take j)),.bl e.2]) hk);generalize upd H3 k (.tup [.str (txt (e.1.take j)),.bl e.2])=H4 at s3 Ed yC ⊢;obtain⟨g,M,R,hct⟩:=id yC;have tD:iN (bI u) (g7 u i) e=if(g7 u i).getLast?=some (e.1.take j,e.2)then g7 u i else g7 u i++[(e.1.take j,e.2)]:=by unfold iN;rw[mK]
     have JQ:(g.map V.ref).length=(g7 u i).length:=by rw[Zf,R]
     refine⟨_,rfl,_,rfl,D,_,rfl,.inl (cu.of M),_,_,rfl,rfl,_,rfl,D,_,rfl,cu.of M,λp Y=>?_⟩;rw[To];have s5:=s3.trans (bf (o:=.lst (match (g.map V.ref).getLast? with|none=>[]|some x=>[x])) Y);have w4:upd H4 p (.lst (match (g.map V.ref).getLast? with|none=>[]|some x=>[x])) p=some (.lst (match (g.map V.ref).getLast? with|none=>[]|some x=>[x])):=bg;have Rg:=cT (u:=.lst (match (g.map V.ref).getLast? with|none=>[]|some x=>[x])) Ed Y;have vR:=yC.same (bf (o:=.lst (match (g.map V.ref).getLast? with|none=>[]|some x=>[x])) Y);have BQ:∀(QS:Nat) b x,g[QS]?=some b->(g7 u i)[QS]?=some x->upd H4 p (.lst (match (g.map V.ref).getLast? with|none=>[]|some x=>[x])) b=some (.tup [.str (txt x.1),.bl x.2]):=λa b x e1 e2=>cT (hct a b x e1 e2) Y;have wT:=cT (u:=.lst (match (g.map V.ref).getLast? with|none=>[]|some x=>[x])) M Y;generalize upd H4 p (.lst (match (g.map V.ref).getLast? with|none=>[]|some x=>[x]))=H5 at s5 w4 Rg vR BQ wT ⊢;have hdk:aY H5 (.ref k) (cY (e.1.take j,e.2)):=.tup Rg (.cons (.str _) (.cons (.bl _) .nil));have push:(g7 u i).getLast?≠some (e.1.take j,e.2)->∀(N:St->Hp->Prop),(∀H6,aF H H6->fy H6 D (g7 u (i+1))->N [some (.ref G),some (.ref t),some (.ref D),some (.int (n:Nat)),some (.int (r:Nat)),some (.ref L),some (.str (txt e.1)),some (.bl e.2),some (.int (y:Nat)),some (.int (j:Nat))] H6)->∀O,H5 O=none->N [some (.ref G),some (.ref t),some (.ref D),some (.int (n:Nat)),some (.int (r:Nat)),some (.ref L),some (.str (txt e.1)),some (.bl e.2),some (.int (y:Nat)),some (.int (j:Nat))] (upd (upd H5 O (.tup [.str (txt (e.1.take j)),.bl e.2])) D (.lst (g.map V.ref++[.ref O]))):=λjE N hN O w6=>by
      refine hN _ (λb o z=>?_) ?_
      ·rw[cK (nD z)];exact cT (s5 _ _ z) w6
      ·rw[yj,tD,Zl jE];exact fy.push (e:=(e.1.take j,e.2)) wT R BQ w6
     obtain⟨X,vA,yy,vz⟩:∃X:List PyData,aO H5 (match (g.map V.ref).getLast? with|none=>[]|some x=>[x]) X/\PyData.canLayAll0 X=true/\(X.any λz=>PyData.eqv z (cY (e.1.take j,e.2)))=decide ((g7 u i).getLast?=some (e.1.take j,e.2)):=by
      cases Ee:(g7 u i).getLast? with
      |none=>
       have:g=[]:=by
        have:=Yo List.length (List.getLast?_eq_none_iff.mp Ee);exact XJ.mp (R.trans this)
       subst this;exact⟨[],.nil,rfl,by simp⟩
      |some x=>
       have jE:g≠[]:=λz=>by
        rw[z]at R;rw[XJ.mp R.symm]at Ee;cases Ee
       have hx:(g7 u i)[g.length-1]?=some x:=by rw[R,<- Vy];exact Ee
       obtain⟨c,S⟩:∃c,g[g.length-1]?=some c:=⟨_,Ze (by have:=XA.mpr jE;lia)⟩;have hcg:(g.map V.ref).getLast?=some (.ref c):=by rw[Vy,Zf,Zg,S];rfl
       rw[hcg];refine⟨[cY x],.cons (.tup (BQ _ c x S hx) (.cons (.str _) (.cons (.bl _) .nil))) .nil,?_,?_⟩
       ·show(cY x).canLay0&&true=true;rw[He (xb3 hu (Zy hx))]
        rfl
       ·show(PyData.eqv (cY x) (cY (e.1.take j,e.2))||false)=_;rw[MC,Bool.or_false,Ym];simp
     refine⟨p,_,X,_,rfl,w4,vA,hdk,He h4j,yy,xb1 _,_,rfl,?_⟩;rw[vz];by_cases jU:(g7 u i).getLast?=some (e.1.take j,e.2)
     ·rw[Zh jU];refine bY ?_;refine⟨s5,?_,_,_,_,_,rfl⟩;rw[yj,tD,Zr jU];exact vR
     ·rw[Zi jU];refine bQ ?_;refine⟨_,rfl,.inl ⟨rfl,_,cu.of wT⟩,_,rfl,_,rfl,(j:Int),rfl,txt e.1,(j:Int),rfl,rfl,rfl,jA,_,rfl,(by show 2<=sizeLine;decide),λO w6=>?_⟩;rw[Pp e.1 hj];refine⟨D,_,_,rfl,rfl,cT wT w6,?_,?_⟩
      ·rw[JQ];show _<16777216;lia
      ·exact push jU _ (λH6 s6 yB=>⟨s6,yB,_,_,_,_,rfl⟩) O w6
   ·rintro l H Q1 Q2 h ⟨v,e1,i,j,e2,e3,k,e4,q⟩;exact⟨v,e1,i,j,e2,e3,k,e4,h _ _ q⟩
  ·rintro l I ⟨J,U,v6,v7,v8,v9,rfl⟩;refine⟨_,rfl,q I D J ?_⟩;rw[Zf,kG]at U;unfold g7 at U;rw[XG,UY]at U;exact U
def tJ(L:List Lf):PyData:=.list (L.map cY)
def rT(L:List Lf):Prop:=∀e∈L,(∀d∈e.1,d<4)/\e.1.length<=12
theorem xK5{t:Tr}(h:Tr.dep t<=12):rT (bX t):=λe a=>Dt 12 t e h a
theorem fy.data{H:Hp}{d:af}{L:List Lf}(h:fy H d L):aY H (.ref d) (tJ L):=by
 obtain⟨bs,a,h1,h2⟩:=h;refine .lst a ?_;clear a
 induction L generalizing bs with
 |nil=>
  cases bs with
  |nil=>exact .nil
  |cons _ _=>simp at h1
 |cons e L g=>
  cases bs with
  |nil=>simp at h1
  |cons b bs=>exact .cons (.tup (h2 0 b e rfl rfl) (.cons (.str _) (.cons (.bl _) .nil))) (g bs (by simpa using h1) λi c x f j=>h2 (i+1) c x (by simpa using f) (by simpa using j))
theorem MB(L:List Lf):PyData.eqv (tJ L) (tJ L)=true:=by
 show PyData.eqvAll (L.map cY) (L.map cY)=true
 induction L with
 |nil=>rfl
 |cons e L a=>
  show(PyData.eqv (cY e) (cY e)&&PyData.eqvAll (L.map cY) (L.map cY))=true;rw[a,MC];simp
theorem DB:∀{L:List Lf},rT L->(tJ L).canLay0=true:=λ{L} h=>by
 show PyData.canLayAll0 (L.map cY)=true
 induction L with
 |nil=>rfl
 |cons e L a=>
  show((cY e).canLay0&&PyData.canLayAll0 (L.map cY))=true;rw[a λx b=>h x (Zk _ b),He (h e Zu).1]
  rfl
theorem Df(L:List Lf):(tJ L).depth<=60:=by
 have:PyData.depthAll (L.map cY)<=1:=by
  induction L with
  |nil=>exact Zt _
  |cons e L a=>
   show max (cY e).depth (PyData.depthAll (L.map cY))<=1;have:(cY e).depth<=1:=by unfold cY;simp[PyData.depth,PyData.depthAll]
   lia
 show PyData.depthAll (L.map cY)+1<=60;lia
theorem Ov(L:List Lf):(tJ L).showable=true:=by
 show PyData.showableAll (L.map cY)=true
 induction L with
 |nil=>rfl
 |cons e L a=>
  show((cY e).showable&&PyData.showableAll (L.map cY))=true;rw[a]
  rfl
theorem Ou(L:List Lf):(tJ L).hasDict=false:=by
 show PyData.hasDictAll (L.map cY)=false
 induction L with
 |nil=>rfl
 |cons e L a=>
  show((cY e).hasDict||PyData.hasDictAll (L.map cY))=false;rw[a]
  rfl
theorem xb5{e:Lf}(g:∀d∈e.1,d<4)(h:e.1.length<=12):(cY e).shown.length<=140:=by
 have h1:=StrLaws.reprText_len (txt e.1) (λc a=>by
  simp only[txt,Yi]at a;obtain⟨d,b,rfl⟩:=a;have:=g d b;have:(16:Nat)^8=4294967296:=by decide
  lia)
 rw[xo]at h1;have h2:(PyData.shown (.bool e.2)).length<=5:=by cases e.2<;>decide
 have f:=tupleText_len_le [reprText (txt e.1),PyData.shown (.bool e.2)];show(tupleText [reprText (txt e.1),PyData.shown (.bool e.2)]).length<=140;simp only[ZG,Vk,Xw,List.sum_nil,Zz,XV]at f;lia
theorem xb6{L:List Lf}(h:rT L)(i:L.length<=2000):(tJ L).shown.length<=sizeLine:=by
 have h1:∀{M:List Lf},rT M->((PyData.shownAll (M.map cY)).map (·.length)).sum<=140*M.length/\(PyData.shownAll (M.map cY)).length=M.length:=λ{M} a=>by
  induction M with
  |nil=>exact⟨Zb _,rfl⟩
  |cons e M c=>
   obtain⟨d,g⟩:=c λx b=>a x (Zk _ b);have:=xb5 (a e Zu).1 (a e Zu).2;show(((cY e).shown::PyData.shownAll (M.map cY)).map (·.length)).sum<=_/\((cY e).shown::PyData.shownAll (M.map cY)).length=_;simp only[ZG,Xw,Zz];lia
 obtain⟨h2,f⟩:=h1 h;have j:=listText_len_le (PyData.shownAll (L.map cY));show(listText (PyData.shownAll (L.map cY))).length<=16777216;lia
end Pr
namespace PyProof.Rows
open PySem
def Tn:Bool->Keyed->Array Keyed->Nat->Nat->Nat->StateT au Sem (Option Nat):=sortPriv% PySem.Builtin.gallop
def nq(prog:ag)(w:aj)(A:aq)(s:ae)(κ:KeyKind)(kd:SortKind):Prop:=
 ∀(E:aa->ae->Prop)(x y:aa)(a b:κ.α)(Q:Bool->ae->Prop),κ.keyOf x=some a->κ.keyOf y=some b->Q (κ.blt a b) s->ah (ai prog w) A (keyLt' kd x y) Q E s
section
variable{κ:KeyKind}
theorem zE{kd:SortKind}(f:nq prog w A s κ kd){st:au}{x y:Keyed}{a b:κ.α}{Q:Option Bool->au->Prop}(c:kindOf st=kd)(d:κ.keyOf x.1=some a)(hb:κ.keyOf y.1=some b)(h:Q (some (κ.blt a b)) st):
  wpS (ai prog w) A E s (lt' x y) Q st:=by
 rw[lt'_eq];refine Zq (W7 ?_);rw[c];refine Zq (VM (XY (f _ _ _ a b _ d hb ⟨rfl,?_⟩)));exact ZA h
theorem gg{st:au}{a:Array Keyed}{i:Nat}{x:Keyed}{Q:Keyed->au->Prop}(b:a[i]?=some x)(h:Q x st):wpS (ai prog w) A E s (elem' a i) Q st:=by
 rw[elem'_eq,b];exact ZA h
def asks(left:Bool)(k x:κ.α):Bool:=if left then κ.blt x k else !κ.blt k x
theorem xK{kd:SortKind}(V:nq prog w A s κ kd){left:Bool}{key:Keyed}{k:κ.α}{C:Array Keyed}{base n hint c:Nat}{st:au}{Q:Option Nat->au->Prop}(S:kindOf st=kd)(U:κ.keyOf key.1=some k)
  (JX:∀i,i<n->∃x a,C[base+i]?=some x/\κ.keyOf x.1=some a/\asks left k a=decide (i<c)) (X:hint<n) (hc:c<=n) (h:Q (some c) st):wpS (ai prog w) A E s (Tn left key C base n hint) Q st:=by
 have L:∀(i:Nat)(v:Option Bool->au->Prop),i<n->v (some (decide (i<c))) st->wpS (ai prog w) A E s (elem' C (base+i) >>= λx=>if left=true then lt' x key else lt' key x >>= λr=>pure (Option.map (λx=>!x) r)) v st:=λi v j D=>by
  obtain⟨x,a,e1,R,K⟩:=JX i j;refine Zq (gg e1 ?_);unfold asks at K;cases left with
  |true=>
   rw[Zr rfl]at K ⊢;refine zE V S R U ?_;rw[K];exact D
  |false=>
   rw[Zl (by decide)]at K ⊢;refine Zq (zE V S U R (ZA ?_));show v (some (!κ.blt k a)) st;rw[K];exact D
 refine Zq (L hint _ X ?_);have fin:∀d j,d<=c->c<=j->j<=n->∀(f:Nat->Option (Option Nat)×Nat×Nat->StateT au Sem (ForInStep (Option (Option Nat)×Nat×Nat)))(g:Option (Option Nat)×Nat×Nat->StateT au Sem (Option Nat)),
   (∀x d j,d<j->j<=n->∀v,(∀b,v (ForInStep.yield (none,if decide (d+(j-d)/2<c)=true then(d+(j-d)/2+1,j)else(d,d+(j-d)/2))) b\/b≠st)->wpS (ai prog w) A E s (f x (none,d,j)) v st) ->
   (∀x d j,d>=j->f x (none,d,j)=pure (ForInStep.done (none,d,j)))->(∀d j,g (none,d,j)=pure (some j))->wpS (ai prog w) A E s (forIn [:n] (none,d,j) f >>= g) Q st:=by
  intro d j h1 h2 Z f g Y N hg;refine Zq (Wy (Y4 (I:=λx p m=>m=st/\∃d j,p=(none,d,j)/\d<=c/\c<=j/\j<=n/\j-d<=n-x) (Q:=λp m=>m=st/\∃d,p=(none,d,c)) ?step ?fin ⟨rfl,d,j,rfl,h1,h2,Z,by lia⟩) ?post)
  case post=>
   rintro p m ⟨rfl,d,rfl⟩;rw[hg];exact ZA h
  case fin=>
   rintro p m ⟨rfl,d,j,rfl,H,u,y,M⟩;have:j=c:=by lia
   exact⟨rfl,d,by rw[this]⟩
  case step=>
   rintro x p m _ W ⟨rfl,d,j,rfl,H,u,y,M⟩;by_cases J:d>=j
   ·rw[N x d j J];have:j=c:=by lia
    exact ZA ⟨rfl,d,by rw[this]⟩
   ·refine Y x d j (by lia) y _ λb=>?_;by_cases P:b=m
    ·left;subst P;by_cases t:d+(j-d)/2<c
     ·rw[Zh t];exact⟨rfl,_,_,rfl,kz t,u,y,by lia⟩
     ·rw[Zi t];exact⟨rfl,_,_,rfl,H,iw t,by lia,by lia⟩
    ·exact .inr P
 have go:∀(x d j:Nat),d<j->j<=n->∀(v:ForInStep (Option (Option Nat)×Nat×Nat)->au->Prop),(∀b,v (ForInStep.yield (none,if decide (d+(j-d)/2<c)=true then(d+(j-d)/2+1,j)else(d,d+(j-d)/2))) b\/b≠st) ->
   ∀F:Option Bool->StateT au Sem (ForInStep (Option (Option Nat)×Nat×Nat)),(∀b:Bool,F (some b)=if b=true then pure (ForInStep.yield (none,d+(j-d)/2+1,j))else pure (ForInStep.yield (none,d,d+(j-d)/2))) ->
   wpS (ai prog w) A E s ((elem' C (base+(d+(j-d)/2)) >>= λx=>if left=true then lt' x key else lt' key x >>= λr=>pure (Option.map (λx=>!x) r)) >>= F) v st:=by
  intro x d j G hn v D F hF;refine Zq (L _ _ (by lia) ?_);rw[hF];have q:=(D st).resolve_right (λz=>z rfl);by_cases t:d+(j-d)/2<c
  ·rw[Zh t]at q ⊢;exact ZA q
  ·rw[Zi t]at q ⊢;exact ZA q
 by_cases T:hint<c
 ·rw[Zh T];dsimp only;rw[Zr rfl];refine Zq (Wy (Y4 (I:=λx p m=>m=st/\∃l o,p=(none,l,o)/\l<o/\hint+l<c/\x<o) (Q:=λp m=>m=st/\∃l o,p=(none,l,o)/\hint+l<c/\(n-hint<=o\/c<=hint+o)) ?step ?fin ⟨rfl,0,1,rfl,qS,by lia,qS⟩) ?post)
  case fin=>
   rintro p m ⟨rfl,l,o,rfl,H,u,y⟩;exact⟨rfl,l,o,rfl,u,.inl (by lia)⟩
  case step=>
   rintro x p m _ W ⟨rfl,l,o,rfl,H,u,y⟩;dsimp only;by_cases B:o>=n-hint
   ·rw[Zr B];exact ZA ⟨rfl,l,o,rfl,u,.inl B⟩
   ·rw[Zl B];refine Zq (L (hint+o) _ (by lia) ?_);by_cases t:hint+o<c
    ·rw[Zh t];exact ZA ⟨rfl,o,2*o+1,rfl,Lx,t,Nw y⟩
    ·rw[Zi t];exact ZA ⟨rfl,l,o,rfl,u,.inr (iw t)⟩
  case post=>
   rintro p m ⟨rfl,l,o,rfl,u,y⟩;dsimp only;refine fin (hint+l+1) (hint+min o (n-hint)) (kz u) (by lia) (by lia) _ _ (λx d j G O v D=>?_) (λx d j J=>?_) (λd j=>rfl)
   ·dsimp only;rw[Zl (Lv G)];exact go x d j G O v D _ (λb=>rfl)
   ·dsimp only;rw[Zr J]
 ·rw[Zi T];dsimp only;rw[Zl (by decide)];refine Zq (Wy (Y4 (I:=λx p m=>m=st/\∃l o,p=(none,l,o)/\l<o/\c<=hint-l/\l<=hint/\x<o) (Q:=λp m=>m=st/\∃l o,p=(none,l,o)/\c<=hint-l/\l<=hint/\(hint+1<=o\/(o<=hint/\hint-o<c))) ?step ?fin ⟨rfl,0,1,rfl,qS,by lia,qV,qS⟩) ?post)
  case fin=>
   rintro p m ⟨rfl,l,o,rfl,H,u,y,M⟩;exact⟨rfl,l,o,rfl,u,y,.inl (by lia)⟩
  case step=>
   rintro x p m _ W ⟨rfl,l,o,rfl,H,u,y,M⟩;dsimp only;by_cases B:o>=hint+1
   ·rw[Zr B];exact ZA ⟨rfl,l,o,rfl,u,y,.inl B⟩
   ·rw[Zl B];refine Zq (L (hint-o) _ (by lia) ?_);by_cases t:hint-o<c
    ·rw[Zh t];exact ZA ⟨rfl,l,o,rfl,u,y,.inr ⟨Lq B,t⟩⟩
    ·rw[Zi t];exact ZA ⟨rfl,o,2*o+1,rfl,Lx,iw t,Lq B,Nw M⟩
  case post=>
   rintro p m ⟨rfl,l,o,rfl,u,y,g5⟩;dsimp only;refine fin (hint+1-min o (hint+1)) (hint-l) (by lia) u (by lia) _ _ (λx d j G O v D=>?_) (λx d j J=>?_) (λd j=>rfl)
   ·dsimp only;rw[Zl (Lv G)];exact go x d j G O v D _ (λb=>rfl)
   ·dsimp only;rw[Zr J]
end
def cB(κ:KeyKind)(xs:Array Keyed)(b a:Nat):Prop:=∀i j,b<=i->i<=j->j<a->κ.kle (KK κ xs i) (KK κ xs j)
structure Mv(st aK:au)(lo hi:Nat):Prop where
 perm:(arrOf aK).Perm (arrOf st)
 kind:kindOf aK=kindOf st
 fail:failedOf aK=failedOf st
 pend:pendingOf aK=pendingOf st
 out:∀k:Nat,k<lo\/hi<=k->(arrOf aK)[k]?=(arrOf st)[k]?
theorem Mv.refl(st:au)(b a:Nat):Mv st st b a:=⟨.refl _,rfl,rfl,rfl,λ_ _=>rfl⟩
theorem Mv.trans{a b c:au}{f d:Nat}(h:Mv a b f d)(k:Mv b c f d):Mv a c f d:=
 ⟨k.perm.trans h.perm,k.kind.trans h.kind,k.fail.trans h.fail,k.pend.trans h.pend,λi d=>(k.out i d).trans (h.out i d)⟩
theorem Mv.size{a b:au}{d c:Nat}(h:Mv a b d c):(arrOf b).size=(arrOf a).size:=h.perm.size_eq
theorem xF{κ:KeyKind}{xs ys:Array Keyed}(h:KeysOf κ ys)(p:xs.Perm ys):KeysOf κ xs:=λq a=>h q ((Wj.mp p).mem_iff.mp a)
theorem LO{κ:KeyKind}{xs:Array Keyed}(h:KeysOf κ xs){i:Nat}(c:i<xs.size):∃x p a,xs[i]?=some (x,p)/\κ.keyOf x=some a/\KK κ xs i=a:=by
 obtain⟨a,b⟩:=h xs[i] (by simp);have e:xs[i]?=some xs[i]:=ZM _ i c;refine⟨xs[i].1,xs[i].2,a,by rw[e],b,?_⟩;unfold KK;rw[e];simp[b]
section
variable{κ:KeyKind}
theorem xm{kd:SortKind}(t:nq prog w A s κ kd){st:au}{i j:Nat}{Q:Option Bool->au->Prop}(f:kindOf st=kd)(h0:KeysOf κ (arrOf st))(m:i<(arrOf st).size)(c:j<(arrOf st).size)
  (h:Q (some (κ.blt (KK κ (arrOf st) i) (KK κ (arrOf st) j))) st):wpS (ai prog w) A E s (ltAt' i j) Q st:=by
 obtain⟨x,p,a,d,n,r⟩:=LO h0 m;obtain⟨y,q,b,l,g,k⟩:=LO h0 c;rw[r,k]at h;rw[ltAt'_eq];refine Zq (W7 ?_);exact Zq (gg d (Zq (gg l (zE t f n g h))))
theorem UD{kd:SortKind}(U:nq prog w A s κ kd){st:au}{d n ok:Nat}{Q:Bool->au->Prop}(S:kindOf st=kd)(h0:KeysOf κ (arrOf st))(O:d+n<=(arrOf st).size)(X:ok<=n)(hs:cB κ (arrOf st) d (d+ok))
  (h:∀p,Mv st p d (d+n)->cB κ (arrOf p) d (d+n)->Q true p):wpS (ai prog w) A E s (binarySort' d n ok) Q st:=by
 refine Zq (Wy (Y4 (I:=λk c p=>c=(none,())/\Mv st p d (d+n)/\cB κ (arrOf p) d (d+min k n)) (Q:=λc p=>c=(none,())/\Mv st p d (d+n)/\cB κ (arrOf p) d (d+n)) ?step ?fin ?init) ?post)
 case post=>
  rintro c p ⟨rfl,m,o⟩;exact ZA (h p m o)
 case init=>
  refine⟨rfl,Mv.refl _ _ _,λi j h1 h2 D=>?_⟩;by_cases z:ok=0
  ·have:i=j:=by lia
   rw[this];exact YN _
  ·exact hs i j h1 h2 (by lia)
 case fin=>
  rintro c p ⟨rfl,m,o⟩;exact⟨rfl,m,λi j h1 h2 D=>o i j h1 h2 (by lia)⟩
 case step=>
  rintro k c g V T ⟨rfl,y,N⟩;have q:d+k<(arrOf g).size:=by rw[y.size];exact dE T O
  have P:kindOf g=kd:=y.kind.trans S;have C:KeysOf κ (arrOf g):=xF h0 y.perm;have G:cB κ (arrOf g) d (d+k):=λi j h1 h2 D=>N i j h1 h2 (by lia);refine Zq (Wy (Y4 (I:=λx c f=>f=g/\∃l r,c=(none,l,r)/\l<=r/\r<=k/\r-l<=k-x/\(∀i,i<l->κ.kle (KK κ (arrOf g) (d+i)) (KK κ (arrOf g) (d+k)))/\(∀i,r<=i->i<k->κ.klt (KK κ (arrOf g) (d+k)) (KK κ (arrOf g) (d+i))))
   (Q:=λc f=>f=g/\∃l r,c=(none,l,r)/\l<=k/\(∀i,i<l->κ.kle (KK κ (arrOf g) (d+i)) (KK κ (arrOf g) (d+k)))/\(∀i,l<=i->i<k->κ.klt (KK κ (arrOf g) (d+k)) (KK κ (arrOf g) (d+i)))) ?Bg ?IW ⟨rfl,0,k,rfl,qV,uY,uY,λi K=>by lia,λi h1 h2=>by lia⟩) ?Bh)
  case IW=>
   rintro c f ⟨rfl,l,r,rfl,F,B,R,u,t⟩;have:r=l:=by lia
   exact⟨rfl,l,r,rfl,oz this B,u,by rw[this]at t;exact t⟩
  case Bg=>
   rintro x c f _ Y ⟨rfl,l,r,rfl,F,B,R,u,t⟩;dsimp only;by_cases J:l>=r
   ·rw[Zr J];have:r=l:=by lia
    exact ZA ⟨rfl,l,r,rfl,oK F B,u,by rw[this]at t;exact t⟩
   ·rw[Zl J];refine Zq (xm U P C q (show d+(l+r)/2<_ by lia) ?_);cases hb:κ.blt (KK κ (arrOf f) (d+k)) (KK κ (arrOf f) (d+(l+r)/2))
    ·refine ZA ⟨rfl,(l+r)/2+1,r,rfl,by lia,B,by lia,λi K=>?_,t⟩;exact ZR (G (d+i) (d+(l+r)/2) iO (by lia) (by lia)) (show κ.kle _ _ from hb)
    ·refine ZA ⟨rfl,l,(l+r)/2,rfl,by lia,by lia,by lia,u,λi h1 h2=>?_⟩;exact Wz hb (G (d+(l+r)/2) (d+i) iO (ix h1) (qY h2))
  case Bh=>
   rintro c f ⟨rfl,l,r,rfl,F,u,t⟩;dsimp only;have L:d+k-(d+l)=k-l:=by exact NC
   have M:d+k-(k-l)=d+l:=by lia
   refine Zq (m:=moveDown' (d+k) (d+l)) ?_;rw[moveDown'_eq];refine Xx (ZA ⟨rfl,y.trans ⟨bubble_perm _ _ _,rfl,rfl,rfl,λi K=>?_⟩,λi j h1 h2 D=>?_⟩)
   ·show(bubble (arrOf f) (d+k) (d+k-(d+l)))[i]?=_;rw[L,getElem?_bubble q _ Fi,M,Zl (by lia),Zl (by lia)]
   ·show κ.kle (KK κ (bubble (arrOf f) (d+k) (d+k-(d+l))) i) (KK κ (bubble (arrOf f) (d+k) (d+k-(d+l))) j);have W:j<d+(k+1):=by lia
    have H:∀i,d<=i->i<d+l->κ.kle (KK κ (arrOf f) i) (KK κ (arrOf f) (d+k)):=λi a b=>by
     have:=u (i-d) (Np b a)
     rwa [show d+(i-d)=i from qO a]at this
    have v:∀i,d+l<=i->i<d+k->κ.kle (KK κ (arrOf f) (d+k)) (KK κ (arrOf f) i):=λi a b=>by
     have:=Z0 (t (i-d) (by lia) (by lia))
     rwa [show d+(i-d)=i by lia]at this
    rw[L,KK_bubble q Fi,KK_bubble q Fi,M]
    repeat' split
    all_goals first
     |(exfalso;lia)
     |exact YN _
     |exact H _ (by lia) (by lia)
     |exact v _ (by lia) (by lia)
     |exact G _ _ (by lia) (by lia) (by lia)
theorem Ot{kd:SortKind}(H:nq prog w A s κ kd){st:au}{b a d:Nat}{Q:Option (Option Nat)×Nat->au->Prop}(G:kindOf st=kd)(h0:KeysOf κ (arrOf st))(y:b+d<=(arrOf st).size)(D:1<=a)(q:a<=d)(hs:cB κ (arrOf st) b (b+a))
  (h:∀n,a<=n->n<=d->cB κ (arrOf st) b (b+n)->(n=d\/κ.klt (KK κ (arrOf st) (b+n)) (KK κ (arrOf st) (b+n-1)))->Q (none,n) st)
  (f:Nat->Option (Option Nat)×Nat->StateT au Sem (ForInStep (Option (Option Nat)×Nat)))
  (B:∀x n (u:ForInStep (Option (Option Nat)×Nat)->au->Prop),b+n<(arrOf st).size->1<=n->u (if κ.blt (KK κ (arrOf st) (b+n)) (KK κ (arrOf st) (b+n-1))=true then .done (none,n)else .yield (none,n+1)) st->wpS (ai prog w) A E s (f x (none,n)) u st):
  wpS (ai prog w) A E s (forIn [a:d] (none,a) f) Q st:=by
 refine Wy (Y4 (I:=λx c g=>g=st/\c=(none,x)/\a<=x/\x<=d/\cB κ (arrOf st) b (b+x)) (Q:=λc g=>g=st/\∃n,c=(none,n)/\a<=n/\n<=d/\cB κ (arrOf st) b (b+n)/\(n=d\/κ.klt (KK κ (arrOf st) (b+n)) (KK κ (arrOf st) (b+n-1)))) ?step ?fin ⟨rfl,rfl,Zb _,q,hs⟩) ?post
 case post=>
  rintro c g ⟨rfl,n,rfl,l,m,k,F⟩;exact h n l m k F
 case fin=>
  rintro c g ⟨rfl,rfl,l,m,k⟩;exact⟨rfl,_,rfl,l,m,k,.inl (by lia)⟩
 case step=>
  rintro x c g h1 h2 ⟨rfl,rfl,l,m,k⟩;refine B x x _ (dE h2 y) (oK D h1) ?_;cases hb:κ.blt (KK κ (arrOf g) (b+x)) (KK κ (arrOf g) (b+x-1))
  ·refine⟨rfl,rfl,tj h1,kz h2,λi j t v C=>?_⟩;by_cases p:j=b+x
   ·by_cases r:i=b+x
    ·rw[r,p];exact YN _
    ·rw[p];exact ZR (k i (b+x-1) t (Fe p v r) (by lia)) (show κ.kle _ _ from hb)
   ·exact k i j t v (oD C p)
  ·exact⟨rfl,x,rfl,l,m,k,.inr hb⟩
end
def sU(κ:KeyKind)(xs:Array Keyed)(a m:Nat):Prop:=∀i j,a<=i->i<=j->j<a+m->κ.kle (KK κ xs j) (KK κ xs i)
def EH(κ:KeyKind)(xs:Array Keyed)(a m q:Nat):Prop:=∀i,a+m-(q+1)<=i->i<a+m->KK κ xs i=KK κ xs (a+m-1)
section
variable{κ:KeyKind}
theorem C2{st:au}{i j:Nat}{Q:Unit->au->Prop}(h:Q () (setArr st (mirror (arrOf st) i j ((j-i)/2)))):wpS (ai prog w) A E s (reverseSlice' i j) Q st:=by
 rw[reverseSlice'_eq];exact Xx h
theorem Mv.rev{st a:au}{b c i j:Nat}(h:Mv st a b c)(d:b<=i)(f:j<=c)(hs:j<=(arrOf a).size):Mv st (setArr a (mirror (arrOf a) i j ((j-i)/2))) b c:=
 h.trans ⟨mirror_perm _ _ _ _,rfl,rfl,rfl,λk g=>by
  show(mirror (arrOf a) i j ((j-i)/2))[k]?=_;rw[getElem?_mirror_all hs,Zl (by lia)]⟩
theorem UC{st:au}{a m:Nat}(h:sU κ (arrOf st) a m)(hs:a+m<=(arrOf st).size):cB κ (arrOf (setArr st (mirror (arrOf st) a (a+m) ((a+m-a)/2)))) a (a+m):=λi j h1 h2 b=>by
 show κ.kle (KK κ (mirror (arrOf st) a (a+m) ((a+m-a)/2)) i) (KK κ (mirror (arrOf st) a (a+m) ((a+m-a)/2)) j);rw[KK_mirror hs,KK_mirror hs,Zr (by lia),Zr (by lia)];exact h _ _ (by lia) (by lia) (by lia)
theorem LN{st:au}{a m q:Nat}(h:EH κ (arrOf st) a m q)(hs:a+m<=(arrOf st).size)(k:Nat):KK κ (arrOf (setArr st (mirror (arrOf st) (a+m-(q+1)) (a+m) ((a+m-(a+m-(q+1)))/2)))) k=KK κ (arrOf st) k:=
 KK_mirror_equal (xs:=arrOf st) hs (λi h1 h2=>h i h1 h2) k
theorem Tj{c:Prop}{P G:au->Prop}(a:(∀m,P m->G m)->c)(b:∀m,P m->G m):c:=a b
theorem UB{kd:SortKind}(K:nq prog w A s κ kd){st:au}{d l:Nat}{Q:Option Nat->au->Prop}(S:kindOf st=kd)(h0:KeysOf κ (arrOf st))(p:d+l<=(arrOf st).size)(h1:1<=l)
  (h:∀m aK,1<=m->m<=l->Mv st aK d (d+l)->cB κ (arrOf aK) d (d+m)->Q (some m) aK):wpS (ai prog w) A E s (countRun' d l) Q st:=by
 refine Zq (Ot K S h0 p (Zb 1) h1 ?_ (λn g1 O Z g4=>?_) _ (λx n Q' R D g=>?_))
 ·intro i j a b c;have:i=j:=by lia
  rw[this];exact YN _
 ·dsimp only;by_cases X:n=l
  ·rw[Zr (by simp[X])];exact ZA (h n st g1 O (Mv.refl _ _ _) Z)
  ·rw[Zl (by simp[X])];have jA:κ.klt (KK κ (arrOf st) (d+n)) (KK κ (arrOf st) (d+n-1)):=g4.resolve_left X;refine' Tj (P:=λU=>Mv st U d (d+l)/\sU κ (arrOf U) d (n+1)) (G:=_) (λkey=>?ka) (λU hP=>?kb)
   case ka=>
    by_cases Q8:n>1
    case pos=>
     rw[Zr Q8];refine Zq (xm K S h0 (by lia) (by lia) ?_);cases hb:κ.blt (KK κ (arrOf st) d) (KK κ (arrOf st) (d+n-1))
     case true=>exact ZA (h n st g1 O (Mv.refl _ _ _) Z)
     dsimp only;rw[Zl (by decide)];refine Zq (C2 ?_);have M:=(Mv.refl st d (d+l)).rev (i:=d) (j:=d+n) (Zb _) (ix O) (oE O p);have rP:∀i,d<=i->i<d+n->KK κ (arrOf st) i=KK κ (arrOf st) (d+n-1):=λi a b=>
      KeyOrd.kle_antisymm (Z i (d+n-1) a (ky b) (by lia)) (ZR (show κ.kle _ _ from hb) (Z d i (Zb _) a b))
     have H:∀k,KK κ (arrOf (setArr st (mirror (arrOf st) d (d+n) ((d+n-d)/2)))) k=KK κ (arrOf st) k:=KK_mirror_equal (xs:=arrOf st) (oE O p) rP;have L:sU κ (arrOf (setArr st (mirror (arrOf st) d (d+n) ((d+n-d)/2)))) d (n+1):=λi j a b c=>by
      rw[H,H];by_cases r:j=d+n
      ·by_cases B:i=d+n
       ·rw[B,r];exact YN _
       ·rw[r,rP i a (by lia)];exact Z0 jA
      ·rw[rP i a (by lia),rP j (oK a b) (oD c r)];exact YN _
     generalize setArr st (mirror (arrOf st) d (d+n) ((d+n-d)/2))=U at M L ⊢;exact key U ⟨M,L⟩
    case neg=>
     rw[Zl Q8];have L:sU κ (arrOf st) d (n+1):=λi j a b c=>by
      by_cases e:i=j
      ·rw[e];exact YN _
      ·have R:i=d+n-1:=by lia
       have D:j=d+n:=by lia
       rw[R,D];exact Z0 jA
     have M:=Mv.refl st d (d+l);exact key st ⟨M,L⟩
   case kb=>
    obtain⟨M,L⟩:=hP;refine Zq (VM (Xf ⟨rfl,?_⟩));refine Zq (Wy (Y4 (I:=λx c f=>∃q,c=(none,x,q)/\Mv st f d (d+l)/\n+1<=x/\x<=l/\sU κ (arrOf f) d x/\EH κ (arrOf f) d x q/\q+1<=x) (Q:=λc f=>∃m q,c=(none,m,q)/\Mv st f d (d+l)/\n+1<=m/\m<=l/\sU κ (arrOf f) d m/\EH κ (arrOf f) d m q/\q+1<=m) ?step ?fin ?init) ?post)
    case init=>
     refine⟨0,rfl,M,Zb _,q_ O X,L,λi a b=>?_,Fj⟩;rw[show i=d+(n+1)-1 from Nk b a]
    case fin=>
     rintro c f ⟨q,rfl,r1,r2,r3,r4,r5,r6⟩;exact⟨_,q,rfl,r1,r2,r3,r4,r5,r6⟩
    case step=>
     rintro x c f a b ⟨q,rfl,t,c1,C,J,D,W⟩;dsimp only;have w6:=t.kind.trans S;have RX:=xF h0 t.perm;have F:=t.size;refine Zq (xm K w6 RX (M9 b F p) (M4 b F p) ?_);cases hb:κ.blt (KK κ (arrOf f) (d+x)) (KK κ (arrOf f) (d+x-1))
     ·dsimp only;rw[Zl (by decide)];refine Zq (xm K w6 RX (M4 b F p) (M9 b F p) ?_);cases kQ:κ.blt (KK κ (arrOf f) (d+x-1)) (KK κ (arrOf f) (d+x))
      ·dsimp only;rw[Zl (by decide)];have R5:KK κ (arrOf f) (d+x)=KK κ (arrOf f) (d+x-1):=κ.total _ _ hb kQ;refine ZA ⟨q+1,rfl,t,tj a,kz b,λi j y u V=>?_,λi y u=>?_,A3 W⟩
       ·by_cases r:j=d+x
        ·by_cases B:i=d+x
         ·rw[B,r];exact YN _
         ·rw[r,R5];exact J i (d+x-1) y (Fe r u B) (Nm a)
        ·exact J i j y u (oD V r)
       ·rw[show d+(x+1)-1=d+x by lia];by_cases B:i=d+x
        ·rw[B]
        ·rw[R5];exact D i (by lia) (oD u B)
      ·exact ZA ⟨x,q,rfl,t,c1,C,J,D,W⟩
     ·dsimp only;rw[Zr rfl];have nf:∀v:au,(∀k,KK κ (arrOf v) k=KK κ (arrOf f) k)->sU κ (arrOf v) d (x+1):=λv H i j y u V=>by
       rw[H,H];by_cases r:j=d+x
       ·by_cases B:i=d+x
        ·rw[B,r];exact YN _
        ·rw[r];exact ZR (Z0 hb) (J i (d+x-1) y (Fe r u B) (Nm a))
       ·exact J i j y u (oD V r)
      have ne:∀v:au,EH κ (arrOf v) d (x+1) 0:=λv i y u=>by rw[show i=d+(x+1)-1 from Nk u y]
      by_cases g:q>0
      ·rw[Zr g];exact Zq (C2 (ZA ⟨0,rfl,t.rev (NJ W) (NI b) (M8 b F p),tj a,kz b,nf _ (LN D (M8 b F p)),ne _,Fj⟩))
      ·rw[Zl g];exact ZA ⟨0,rfl,t,tj a,kz b,nf _ (λ_=>rfl),ne _,Fj⟩
    case post=>
     rintro c f ⟨m,q,rfl,t,c1,C,J,D,W⟩;dsimp only;have F:=t.size;by_cases g:q>0
     case' neg=>
      rw[Zl g];have N:=t;have Y:=J;generalize f=v at N Y ⊢
     case' pos=>
      rw[Zr g];refine Zq (C2 ?_);have N:=t.rev (i:=d+m-(q+1)) (j:=d+m) (NJ W) (ix C) (M7 F C p);have H:=LN D (M7 F C p);have Y:sU κ (arrOf (setArr f (mirror (arrOf f) (d+m-(q+1)) (d+m) ((d+m-(d+m-(q+1)))/2)))) d m:=λi j y u V=>by rw[H,H];exact J i j y u V
      generalize setArr f (mirror (arrOf f) (d+m-(q+1)) (d+m) ((d+m-(d+m-(q+1)))/2))=v at N Y ⊢
     all_goals
      refine Zq (C2 ?_);have T:=N.rev (i:=d) (j:=d+m) (Zb _) (ix C) (by rw[N.size];exact oE C p);have o4:=UC Y (by rw[N.size];exact oE C p);have JF:=T.kind.trans S;have Ki:=xF h0 T.perm;have z4:=T.size;generalize setArr v (mirror (arrOf v) d (d+m) ((d+m-d)/2))=lJ at T o4 JF Ki z4 ⊢;refine Zq (Ot K JF Ki (by lia) (show 1<=m by lia) C o4 (λk k1 k2 k3 _=>?_) _ (λx k Q' R D g=>?_))
      ·exact ZA (h k lJ (by lia) k2 T k3)
      ·refine Zq (xm K JF Ki R (by lia) ?_);cases hb:κ.blt (KK κ (arrOf lJ) (d+k)) (KK κ (arrOf lJ) (d+k-1))
       ·rw[hb]at g;exact ZA g
       ·rw[hb]at g;exact ZA g
 ·refine Zq (xm K S h0 R (by lia) ?_);cases hb:κ.blt (KK κ (arrOf st) (d+n)) (KK κ (arrOf st) (d+n-1))
  ·rw[hb]at g;exact ZA g
  ·rw[hb]at g;exact ZA g
end
def kv(κ:KeyKind)(p:Keyed):κ.α:=(κ.keyOf p.1).getD κ.dflt
def dO(κ:KeyKind)(l:List Keyed):Prop:=l.Pairwise λx y=>κ.kle (kv κ x) (kv κ y)
structure Mg(κ:KeyKind)(all out a b:List Keyed):Prop where
 perm:(out++(a++b)).Perm all
 so:dO κ out
 sa:dO κ a
 sb:dO κ b
 la:∀x∈out,∀y∈a,κ.kle (kv κ x) (kv κ y)
 lb:∀x∈out,∀y∈b,κ.kle (kv κ x) (kv κ y)
theorem Mg.lI{κ:KeyKind}{all out a b:List Keyed}{x:Keyed}(m:Mg κ all out (x::a) b)(h:∀y∈b,κ.kle (kv κ x) (kv κ y)):Mg κ all (out++[x]) a b where
 perm:=by simpa using m.perm
 so:=YQ.mpr ⟨m.so,by simp,λp d q f=>by
  have:q=x:=by simpa using f
  rw[this];exact m.la p d x (by simp)⟩
 sa:=(Xh.mp m.sa).2
 sb:=m.sb
 la:=λp d y c=>by
  rcases ZX.mp d with z|z
  ·exact m.la p z y (Zk _ c)
  ·have:p=x:=by simpa using z
   rw[this];exact(Xh.mp m.sa).1 y c
 lb:=λp d y c=>by
  rcases ZX.mp d with z|z
  ·exact m.lb p z y c
  ·have:p=x:=by simpa using z
   rw[this];exact h y c
theorem Mg.swap{κ:KeyKind}{all out a b:List Keyed}(m:Mg κ all out a b):Mg κ all out b a where
 perm:=(List.Perm.append_left out List.perm_append_comm).trans m.perm
 so:=m.so
 sa:=m.sb
 sb:=m.sa
 la:=m.lb
 lb:=m.la
theorem Mg.rY{κ:KeyKind}{all out a b:List Keyed}{x:Keyed}(m:Mg κ all out a (x::b))(h:∀y∈a,κ.kle (kv κ x) (kv κ y)):Mg κ all (out++[x]) a b:=(m.swap.lI h).swap
theorem Mg.tI{κ:KeyKind}{all out a:List Keyed}(m:Mg κ all out a []):(out++a).Perm all/\dO κ (out++a):=
 ⟨by simpa using m.perm,YQ.mpr ⟨m.so,m.sa,m.la⟩⟩
theorem Mg.pE{κ:KeyKind}{all out a b:List Keyed}(m:Mg κ all out a b)(h:∀y∈b,∀x∈a,κ.kle (kv κ y) (kv κ x)):(out++(b++a)).Perm all/\dO κ (out++(b++a)):=
 ⟨m.swap.perm,YQ.mpr ⟨m.so,YQ.mpr ⟨m.sb,m.sa,h⟩,λx c y d=>(ZX.mp d).elim (m.lb x c y) (m.la x c y)⟩⟩
def UA:Array Keyed->Array Keyed->StateT au Sem (Array Keyed):=sortPriv% PySem.Builtin.mergeLo
abbrev qv(st:au)(g:Nat):au:=SortSt.mk' (kindOf st) (arrOf st) (pendingOf st) g (failedOf st)
theorem Mg.ig{κ:KeyKind}{all b:List Keyed}:∀{c l a:List Keyed},Mg κ all c (l++a) b->(∀x∈l,∀y∈b,κ.kle (kv κ x) (kv κ y))->Mg κ all (c++l) a b
 |c,[],a,m,_=>by rw[YK];exact m
 |c,x::l,a,m,h=>by
  have:=(m.lI (λy f=>h x (by simp) y f)).ig (λz d=>h z (by simp[d]))
  rwa [Z4]at this
theorem Mg.nv{κ:KeyKind}{all out l a b:List Keyed}(m:Mg κ all out a (l++b))(h:∀x∈l,∀y∈a,κ.kle (kv κ x) (kv κ y)):Mg κ all (out++l) a b:=(m.swap.ig h).swap
theorem Af{p:Nat->Bool}:∀n:Nat,(∀i j,i<=j->j<n->p j=true->p i=true)->∃c,c<=n/\∀i,i<n->p i=decide (i<c)
 |0,_=>⟨0,Zb _,λi d=>absurd d (Yp _)⟩
 |n+1,h=>by
  obtain⟨c,g,k⟩:=Af n (λi j a b e=>h i j a (mI b) e);cases e:p n with
  |true=>
   exact⟨n+1,Zb _,λi d=>by rw[h i n (qQ d) (by lia) e,Zh d]⟩
  |false=>
   refine⟨c,tj g,λi d=>?_⟩;by_cases f:i=n
   ·rw[f,e,Zi (eS g)]
   ·exact k i (oG d f)
theorem MA{a:Array Keyed}{i:Nat}(h:i<a.size):a.toList.drop i=a[i]::a.toList.drop (i+1):=by
 rw[Wp (by simpa using h)];simp
theorem lR{κ:KeyKind}{a:Array Keyed}(h:KeysOf κ a){i:Nat}(b:i<a.size):κ.keyOf a[i].1=some (kv κ a[i]):=by
 obtain⟨x,e⟩:=h a[i] (by simp);rw[e];unfold kv;rw[e];rfl
theorem my{κ:KeyKind}{a:Array Keyed}(h:dO κ a.toList){i j:Nat}(c:i<=j)(b:j<a.size):κ.kle (kv κ a[i]) (kv κ a[j]):=by
 rcases Nat.lt_or_eq_of_le c with z|z
 ·have:=YY.mp h i j (by simp;exact ng z b) (by simpa using b) z;simpa using this
 ·subst z;exact YN _
theorem xA{a:Array Keyed}{i:Nat}{x:Keyed}(h:x∈a.toList.drop i):∃j,∃d:j<a.size,i<=j/\a[j]=x:=by
 obtain⟨k,b,e⟩:=XC h;have c:i+k<a.size:=by simp at b;exact NH b
 exact⟨i+k,c,iO,by rw[<- e];simp⟩
theorem Pf{κ:KeyKind}{a:Array Keyed}(ka:KeysOf κ a)(sa:dO κ a.toList)(k:κ.α){base n:Nat}(d:base+n<=a.size):
  ∃c,c<=n/\(∀i,i<n->∃x y,a[base+i]?=some x/\κ.keyOf x.1=some y/\asks false k y=decide (i<c))/\∀i,(h:base+i<a.size)->i<n->(i<c->κ.kle (kv κ a[base+i]) k)/\(c<=i->κ.klt k (kv κ a[base+i])):=by
 have key:∀i,(h:base+i<a.size)->KK κ a (base+i)=kv κ a[base+i]:=λi h=>by unfold KK kv;rw[ZM a _ h]
 obtain⟨c,m,f⟩:=Af (p:=λi=>!κ.blt k (KK κ a (base+i))) n (λi j q l e=>by
  simp only[Wa]at e ⊢;rw[key _ (by lia)]at e ⊢;exact ZR (my sa (ix q) (dE l d)) e)
 refine⟨c,m,λi b=>⟨_,_,ZM a _ (dE b d),lR ka (dE b d),?_⟩,λi h b=>⟨λg=>?_,λg=>?_⟩⟩
 ·rw[<- f i b,key i (dE b d)];rfl
 ·have e:=f i b;rw[key i h,Zh g]at e;exact(Wa _).mp e
 ·have e:=f i b;rw[key i h,Zi (eS g)]at e;exact(Bool.not_eq_false' _).mp e
theorem Oq{κ:KeyKind}{a:Array Keyed}(ka:KeysOf κ a)(sa:dO κ a.toList)(k:κ.α){base n:Nat}(d:base+n<=a.size):
  ∃c,c<=n/\(∀i,i<n->∃x y,a[base+i]?=some x/\κ.keyOf x.1=some y/\asks true k y=decide (i<c))/\∀i,(h:base+i<a.size)->i<n->(i<c->κ.klt (kv κ a[base+i]) k)/\(c<=i->κ.kle k (kv κ a[base+i])):=by
 have key:∀i,(h:base+i<a.size)->KK κ a (base+i)=kv κ a[base+i]:=λi h=>by unfold KK kv;rw[ZM a _ h]
 obtain⟨c,m,f⟩:=Af (p:=λi=>κ.blt (KK κ a (base+i)) k) n (λi j q l e=>by
  rw[key _ (by lia)]at e ⊢;exact KeyOrd.klt_of_kle_of_klt (my sa (ix q) (dE l d)) e)
 refine⟨c,m,λi b=>⟨_,_,ZM a _ (dE b d),lR ka (dE b d),?_⟩,λi h b=>⟨λg=>?_,λg=>?_⟩⟩
 ·rw[<- f i b,key i (dE b d)];rfl
 ·have e:=f i b;rw[key i h,Zh g]at e;exact e
 ·have e:=f i b;rw[key i h,Zi (eS g)]at e;exact e
def Mp(κ:KeyKind)(a b out:Array Keyed)(ia ib:Nat):Prop:=Mg κ (a.toList++b.toList) out.toList (a.toList.drop ia) (b.toList.drop ib)
abbrev Rd(κ:KeyKind)(a b out:Array Keyed):Prop:=out.toList.Perm (a.toList++b.toList)/\dO κ out.toList
section
variable{κ:KeyKind}{a b out:Array Keyed}{ia ib:Nat}
theorem Mp.ta(sb:dO κ b.toList)(m:Mp κ a b out ia ib)(f:ia<a.size)(g:ib<b.size)(h:κ.kle (kv κ a[ia]) (kv κ b[ib])):Mp κ a b (out.push a[ia]) (ia+1) ib:=by
 unfold Mp at m ⊢;rw[MA f]at m;rw[Wd];refine m.lI λy d=>?_;obtain⟨j,c,h1,rfl⟩:=xA d;exact ZR h (my sb h1 c)
theorem Mp.tb(sa:dO κ a.toList)(m:Mp κ a b out ia ib)(g:ia<a.size)(f:ib<b.size)(h:κ.kle (kv κ b[ib]) (kv κ a[ia])):Mp κ a b (out.push b[ib]) ia (ib+1):=by
 unfold Mp at m ⊢;rw[MA f]at m;rw[Wd];refine m.rY λy d=>?_;obtain⟨j,c,h1,rfl⟩:=xA d;exact ZR h (my sa h1 c)
theorem Oo{a:Array Keyed}{i k:Nat}(h:i+k<=a.size):a.toList.drop i=(a.extract i (i+k)).toList++a.toList.drop (i+k):=by
 rw[Xs,List.extract_eq_drop_take,<- VZ,show i+k-i=k from u7,YG]
theorem Mz{a:Array Keyed}{i k:Nat}(h:i+k<=a.size){x:Keyed}(f:x∈(a.extract i (i+k)).toList):∃j,∃c:i+j<a.size,j<k/\a[i+j]=x:=by
 obtain⟨j,c,e⟩:=XC f;have d:j<k:=by simp at c;lia
 exact⟨j,dE d h,d,by rw[<- e];simp⟩
theorem Mp.as(sb:dO κ b.toList)(m:Mp κ a b out ia ib){k:Nat}(c:ia+k<=a.size)(p:ib<b.size)(h:∀i,(d:ia+i<a.size)->i<k->κ.kle (kv κ a[ia+i]) (kv κ b[ib])):Mp κ a b (out++a.extract ia (ia+k)) (ia+k) ib:=by
 unfold Mp at m ⊢;rw[Oo c]at m;rw[Z2];refine m.ig λx n y l=>?_;obtain⟨i,d,f,rfl⟩:=Mz c n;obtain⟨j,g,h1,rfl⟩:=xA l;exact ZR (h i d f) (my sb h1 g)
theorem Mp.bs(sa:dO κ a.toList)(m:Mp κ a b out ia ib){k:Nat}(c:ib+k<=b.size)(p:ia<a.size)(h:∀i,(d:ib+i<b.size)->i<k->κ.kle (kv κ b[ib+i]) (kv κ a[ia])):Mp κ a b (out++b.extract ib (ib+k)) ia (ib+k):=by
 unfold Mp at m ⊢;rw[Oo c]at m;rw[Z2];refine m.nv λx n y l=>?_;obtain⟨i,d,f,rfl⟩:=Mz c n;obtain⟨j,g,h1,rfl⟩:=xA l;exact ZR (h i d f) (my sa h1 g)
theorem DA{a:Array Keyed}{i:Nat}:(a.extract i a.size).toList=a.toList.drop i:=by
 rw[Xs,List.extract_eq_drop_take,YV (by simp)]
theorem Mp.done(m:Mp κ a b out ia ib)(h:ib=b.size):Rd κ a b (out++a.extract ia a.size++b.extract ib b.size):=by
 unfold Mp at m;have e:b.toList.drop ib=[]:=by rw[h];simp
 rw[e]at m;show(out++a.extract ia a.size++b.extract ib b.size).toList.Perm _/\dO κ (out++a.extract ia a.size++b.extract ib b.size).toList;rw[Z2,Z2,DA,DA,e,YK];exact m.tI
def ap1{α:Type}{c:Type _}(f:α->c)(x:α):c:=f x
def ap2{α d:Type}{c:Type _}(f:α->d->c)(x:α)(y:d):c:=f x y
theorem fJ{M:Model}{A:aq}{E:aa->ae->Prop}{s:ae}{σ α:Type}{c:Prop}[Decidable c]{x y:StateT σ Sem α}{Q:α->σ->Prop}{st:σ}(h:c)(k:wpS M A E s x Q st):wpS M A E s (if c then x else y) Q st:=by rw[Zr h];exact k
theorem fj{M:Model}{A:aq}{E:aa->ae->Prop}{s:ae}{σ α:Type}{c:Prop}[Decidable c]{x y:StateT σ Sem α}{Q:α->σ->Prop}{st:σ}(h:¬c)(k:wpS M A E s y Q st):wpS M A E s (if c then x else y) Q st:=by rw[Zl h];exact k
theorem xl{M:Model}{A:aq}{E:aa->ae->Prop}{s:ae}{σ α:Type}{c:Prop}[Decidable c]{x y:StateT σ Sem α}{Q:α->σ->Prop}{st:σ}(h:c->wpS M A E s x Q st)(k:¬c->wpS M A E s y Q st):wpS M A E s (if c then x else y) Q st:=
 if e:c then fJ e (h e)else fj e (k e)
theorem xy{M:Model}{A:aq}{E:aa->ae->Prop}{s:ae}{σ d l:Type}{a b:Nat}{f:Nat->d->StateT σ Sem (ForInStep d)}{k:d->StateT σ Sem l}{j:l->σ->Prop}(I:Nat->d->σ->Prop){Q:d->σ->Prop}
  (step:∀(i:Nat)(c:d)(st:σ),a<=i->i<b->I i c st->wpS M A E s (ap2 f i c) (λr h=>match r with|ForInStep.done g=>Q g h|ForInStep.yield g=>I (i+1) g h) st)
  (fin:∀(c:d)(st:σ),I (max a b) c st->Q c st){c:d}{st:σ}(init:I a c st) (post:∀g h,Q g h->wpS M A E s (ap1 k g) j h):wpS M A E s (forIn [a:b] c f >>= k) j st:=Zq (Wy (Y4 I step fin init) post)
theorem LM{c:Prop}{P G:Nat->Prop}(a:(∀m,P m->G m)->c)(b:∀m,P m->G m):c:=a b
theorem Ti{c:Prop}{P G:Nat->Array Keyed->Prop}(a:(∀m o,P m o->G m o)->c)(b:∀m o,P m o->G m o):c:=a b
theorem Mp.last(m:Mp κ a b out ia ib)(na:0<a.size)(h2:∀j,(c:j<b.size)->κ.klt (kv κ b[j]) (kv κ a[a.size-1]))(h:ia+1=a.size):Rd κ a b (out++b.extract ib b.size++a.extract ia a.size):=by
 show(out++b.extract ib b.size++a.extract ia a.size).toList.Perm _/\dO κ (out++b.extract ib b.size++a.extract ia a.size).toList;rw[Z2,Z2,DA,DA,Z4];refine Mg.pE m λy d x f=>?_;obtain⟨i,k,g,rfl⟩:=xA f;obtain⟨j,c,_,rfl⟩:=xA d;have:i=a.size-1:=by lia
 subst this;exact Z0 (h2 j c)
end
def ki(κ:KeyKind)(a b:Array Keyed)(st:au)(x:Nat)(out:Array Keyed)(ia ib:Nat)(c:au):Prop:=(∃g,c=qv st g)/\Mp κ a b out ia ib/\ia+1<a.size/\ib<b.size/\x<=ia+ib
def yM(κ:KeyKind)(a b:Array Keyed)(st:au)(o:Option (Array Keyed))(c:au):Prop:=∃r,o=some r/\(∃g,c=qv st g)/\Rd κ a b r
theorem ki.of{κ:KeyKind}{a b out:Array Keyed}{st:au}{x g ia ib:Nat}(m:Mp κ a b out ia ib)(h1:ia+1<a.size)(h2:ib<b.size)(c:x<=ia+ib):ki κ a b st x out ia ib (qv st g):=⟨⟨g,rfl⟩,m,h1,h2,c⟩
theorem ki.mono{κ:KeyKind}{a b out:Array Keyed}{st c:au}{x y ia ib:Nat}(j:ki κ a b st x out ia ib c)(h:y<=x):ki κ a b st y out ia ib c:=⟨j.1,j.2.1,j.2.2.1,j.2.2.2.1,Zw h j.2.2.2.2⟩
section
variable{κ:KeyKind}
theorem qP6{kd:SortKind}(hO:nq prog w A s κ kd){st:au}{a b:Array Keyed}{Q:Array Keyed->au->Prop}(JG:kindOf st=kd)(ka:KeysOf κ a)(kb:KeysOf κ b)(sa:dO κ a.toList)(sb:dO κ b.toList)
  (na:0<a.size) (nb:0<b.size) (h1:κ.klt (kv κ b[0]) (kv κ a[0])) (h2:∀j,(hj:j<b.size)->κ.klt (kv κ b[j]) (kv κ a[a.size-1]))
  (h:∀out g,Rd κ a b out->Q out (qv st g)):wpS (ai prog w) A E s (UA a b) Q st:=by
 have X:∀g,kindOf (qv st g)=kd:=λg=>JG;refine Zq (VM (Xf ⟨rfl,?_⟩));refine Zq (gg (ZM b 0 nb) ?_);have F:Mp κ a b #[b[0]] 0 1:=by
  refine Mp.tb (out:=#[]) (ib:=0) sa ⟨by simp,by simp[dO],by simpa using sa,by simpa using sb,by simp,by simp⟩ na nb (Z0 h1)
 by_cases e0:1=b.size
 ·exact fJ (by simp[<- e0]) (ZA (h _ (gallopOf st) (F.done e0)))
 refine fj (by simpa using e0) ?_;by_cases q:0+1=a.size
 ·exact fJ (by simp[<- q]) (ZA (h _ (gallopOf st) (F.last na h2 q)))
 refine fj (by simpa using q) ?_;refine Zq (W7 ?_);refine xy (I:=λx c l=>ki κ a b st x c.2.1 c.2.2.1 c.2.2.2.1 l) (Q:=λc l=>yM κ a b st c.1 l) ?step ?fin (ki.of (g:=gallopOf st) (ia:=0) (ib:=1) F (CP na q) (by lia) iO) ?post
 case post=>
  rintro⟨u,M⟩ l ⟨r,e,⟨g,rfl⟩,J⟩;cases(show u=some r from e);exact ZA (h r g J)
 case fin=>
  rintro c l ⟨_,m,p,f,v⟩;lia
 case step=>
  rintro x c l _ hx ⟨⟨g,rfl⟩,F,p,f,v⟩;refine xy (I:=λy c l=>ki κ a b st (x+y) c.2.1 c.2.2.1 c.2.2.2.1 l) (Q:=λc l=>c.1=none/\ki κ a b st (x+1) c.2.1 c.2.2.1 c.2.2.2.1 l\/yM κ a b st c.1 l) ?step ?fin (ki.of (g:=g) F p f (by lia)) ?post
  case fin=>
   rintro c l ⟨_,m,p,f,v⟩;lia
  case step=>
   rintro y c l _ hy ⟨⟨g,rfl⟩,m,p,f,v⟩;refine Zq (gg (ZM b c.2.2.2.1 f) ?_);refine Zq (gg (ZM a c.2.2.1 (dJ p)) ?_);refine Zq (zE hO (X g) (lR kb f) (lR ka (dJ p)) ?_);by_cases hb:κ.blt (kv κ b[c.2.2.2.1]) (kv κ (a[c.2.2.1]'(dJ p)))=true
   ·refine fJ hb ?_;refine Zq (gg (ZM b c.2.2.2.1 f) ?_);have C:=m.tb sa (dJ p) f (Z0 hb);by_cases q:c.2.2.2.1+1=b.size
    ·exact fJ (by simp[q]) (ZA (.inr ⟨_,rfl,⟨_,rfl⟩,C.done q⟩))
    have j:=ki.of (st:=st) (g:=g) (x:=x+(y+1)) C p (CP f q) (by lia);exact fj (by simp[q]) (xl (λ_=>ZA (.inl ⟨rfl,j.mono qP⟩)) λ_=>ZA j)
   ·refine fj hb ?_;refine Zq (gg (ZM a c.2.2.1 (dJ p)) ?_);have C:=m.ta sb (dJ p) f (eq_false_of_ne_true hb);by_cases q:c.2.2.1+1+1=a.size
    ·exact fJ (by simp[q]) (ZA (.inr ⟨_,rfl,⟨_,rfl⟩,C.last na h2 q⟩))
    have j:=ki.of (st:=st) (g:=g) (x:=x+(y+1)) C (CP p q) f (by lia);exact fj (by simp[q]) (xl (λ_=>ZA (.inl ⟨rfl,j.mono qP⟩)) λ_=>ZA j)
  case post=>
   rintro⟨u,M⟩ l (⟨e,⟨g,rfl⟩,m,p,f,v⟩|⟨r,e,V,J⟩)
   ·cases(show u=none from e);refine Zq (VM (Xf ⟨rfl,?_⟩));refine xy (I:=λy c l=>ki κ a b st (x+1+y) c.2.1 c.2.2.1 c.2.2.2.1 l) (Q:=λc l=>c.1=none/\ki κ a b st (x+1) c.2.1 c.2.2.1 c.2.2.2.1 l\/yM κ a b st c.1 l) ?step ?fin (ki.of (g:=g) m p f v) ?post
    case fin=>
     rintro c l ⟨_,m,p,f,v⟩;lia
    case post=>
     rintro⟨u,M⟩ l (⟨e,⟨g,rfl⟩,m,p,f,v⟩|⟨r,e,V,J⟩)
     ·cases(show u=none from e);exact Zq (Xx (ZA ⟨⟨_,rfl⟩,m,p,f,v⟩))
     ·cases(show u=some r from e);exact ZA ⟨r,rfl,V,J⟩
    case step=>
     rintro y c l _ hy ⟨⟨g,rfl⟩,C,p,f,v⟩;refine' LM (P:=λ_=>True) (G:=_) (λkey=>?ka) (λm _=>?kb)
     case ka=>
      by_cases D:c.2.2.2.2.1>1
      case neg=>
       refine fj D ?_;generalize c.2.2.2.2.1=mg;exact key mg trivial
      case pos=>exact fJ D (key _ trivial)
     case kb=>
      refine Zq (Xx ?_);refine Zq (gg (ZM b c.2.2.2.1 f) ?_);obtain⟨k,u,M,R⟩:=Pf ka sa (kv κ b[c.2.2.2.1]) (base:=c.2.2.1) (n:=a.size-c.2.2.1) (by lia);refine Zq (xK hO (X m) (lR kb f) M (by lia) u ?_);have K:k<a.size-c.2.2.1:=by
       rcases VR k (a.size-c.2.2.1)with z|z
       ·exact z
       ·have:=(R (a.size-1-c.2.2.1) (Nr p) (by lia)).1 (by lia);have e:a[c.2.2.1+(a.size-1-c.2.2.1)]'(Nr p)=a[a.size-1]:=by congr 1;lia
        rw[e]at this;exact absurd (h2 c.2.2.2.1 f) (W2 this)
      refine' Ti (P:=λt oq=>∃B:t+1<a.size,c.2.2.1<=t/\Mp κ a b oq t c.2.2.2.1/\κ.klt (kv κ (b[c.2.2.2.1]'f)) (kv κ (a[t]'(dJ B)))) (G:=_) (λkey=>?kc) (λt oq hP=>?kd)
      case kc=>
       by_cases D:k>0
       case neg=>
        refine fj D ?_;have H:κ.klt (kv κ b[c.2.2.2.1]) (kv κ a[c.2.2.1]):=(R 0 (by lia) (qR K)).2 (Lu D);have S:=key c.2.2.1 c.2.1 ⟨p,Zb _,C,H⟩;generalize c.2.2.1=ia at S ⊢;generalize c.2.1=out at S ⊢;exact S
       case pos=>
        refine fJ D ?_;have O:=C.as sb (k:=k) (Nj D u) f (λi T Rl=>(R i T (ng Rl K)).1 Rl);have H:κ.klt (kv κ b[c.2.2.2.1]) (kv κ a[c.2.2.1+k]):=(R k (NH K) K).2 (Zb _);by_cases W:c.2.2.1+k+1=a.size
        ·exact fJ (by simp[W]) (ZA (.inr ⟨_,rfl,⟨_,rfl⟩,O.last na h2 W⟩))
        exact fj (by simp[W]) (fj (by simp;lia) (key _ _ ⟨by lia,iO,O,H⟩))
      case kd=>
       obtain⟨B,vM,O,H⟩:=hP;refine Zq (gg (ZM b c.2.2.2.1 f) ?_);have m3:=O.tb sa (dJ B) f (Z0 H);by_cases e3:c.2.2.2.1+1=b.size
       ·exact fJ (by simp[e3]) (ZA (.inr ⟨_,rfl,⟨_,rfl⟩,m3.done e3⟩))
       refine fj (by simp[e3]) ?_;refine Zq (gg (ZM a t (dJ B)) ?_);obtain⟨d,Z,d2,d3⟩:=Oq kb sb (kv κ a[t]) (base:=c.2.2.2.1+1) (n:=b.size-(c.2.2.2.1+1)) (by lia);refine Zq (xK hO (X m) (lR ka (dJ B)) d2 (by lia) Z ?_);by_cases N:d>0
       case' neg=>
        refine fj N ?_;have Y:=m3;have q4:κ.kle (kv κ a[t]) (kv κ b[c.2.2.2.1+1]):=(d3 0 (by lia) (by lia)).2 (Lu N)
       case' pos=>
        refine fJ N ?_;have Y:=m3.bs sa (k:=d) (Nj N Z) (dJ B) (λi T Rk=>Z0 ((d3 i T (Ba Rk Z)).1 Rk));by_cases U:c.2.2.2.1+1+d=b.size
        ·exact fJ (by simp[U]) (ZA (.inr ⟨_,rfl,⟨_,rfl⟩,Y.done U⟩))
        refine fj (by simp[U]) ?_;have q4:κ.kle (kv κ a[t]) (kv κ b[c.2.2.2.1+1+d]):=(d3 d (by lia) (by lia)).2 (Zb _)
       all_goals
        refine Zq (gg (ZM a t (dJ B)) ?_);have m5:=Y.ta sb (dJ B) (by lia) q4;by_cases L:t+1+1=a.size
        ·exact fJ (by simp[L]) (ZA (.inr ⟨_,rfl,⟨_,rfl⟩,m5.last na h2 L⟩))
        have j:=ki.of (st:=st) (g:=m) (x:=x+1+(y+1)) m5 (CP B L) (by lia) (by lia);exact fj (by simp[L]) (xl (λ_=>ZA (.inl ⟨rfl,j.mono iO⟩)) λ_=>ZA j)
   ·cases(show u=some r from e);exact ZA ⟨r,rfl,V,J⟩
end
def Uz:Array Keyed->Array Keyed->StateT au Sem (Array Keyed):=sortPriv% PySem.Builtin.mergeHi
def EY(κ:KeyKind):KeyKind where
 α:=κ.α
 blt:=λa b=>κ.blt b a
 irrefl:=κ.irrefl
 trans:=λa b c h1 h2=>κ.trans _ _ _ h2 h1
 negTrans:=λa b c h=>(κ.negTrans _ b _ h).symm
 total:=λa b h1 h2=>κ.total _ _ h2 h1
 keyOf:=κ.keyOf
 dflt:=κ.dflt
theorem Om{κ:KeyKind}{l:List Keyed}(h:dO (EY κ) l):dO κ l.reverse:=List.pairwise_reverse.mpr h
theorem Pe{κ:KeyKind}{l:List Keyed}(h:dO κ l):dO (EY κ) l.reverse:=List.pairwise_reverse.mpr h
theorem My{a:Array Keyed}{n:Nat}(h:n<a.size):(a.toList.take (n+1)).reverse=a[n]::(a.toList.take n).reverse:=by
 rw[Xn (by simpa using h),XD];simp
theorem xx{a:Array Keyed}{n:Nat}{x:Keyed}(h:x∈(a.toList.take n).reverse):∃j,∃d:j<a.size,j<n/\a[j]=x:=by
 obtain⟨k,c,e⟩:=XC (List.mem_reverse.mp h);have b:k<n/\k<a.size:=by simp at c;lia
 exact⟨k,b.2,b.1,by rw[<- e];simp⟩
theorem Ol{a:Array Keyed}{i n:Nat}(h:i<=n)(b:n<=a.size):(a.toList.take n).reverse=(a.extract i n).reverse.toList++(a.toList.take i).reverse:=by
 rw[Wk,Xs,List.extract_eq_drop_take,<- XD,<- List.take_add,show i+(n-i)=n from qO h]
theorem Oj{a:Array Keyed}{i n:Nat}(f:n<=a.size){x:Keyed}(d:x∈(a.extract i n).reverse.toList):∃j,∃b:j<a.size,i<=j/\j<n/\a[j]=x:=by
 rw[Wk]at d;obtain⟨j,b,e⟩:=XC (List.mem_reverse.mp d);have c:i+j<n:=by simp at b;exact Nf b
 exact⟨i+j,Ba c f,iO,c,by rw[<- e];simp⟩
theorem Dz{a:Array Keyed}{n:Nat}:(a.extract 0 n).toList=a.toList.take n:=by
 rw[Xs,List.extract_eq_drop_take];simp
def Hp(κ:KeyKind)(a b out:Array Keyed)(na nb:Nat):Prop:=Mg (EY κ) (a.toList++b.toList) out.toList (a.toList.take na).reverse (b.toList.take nb).reverse
section
variable{κ:KeyKind}{a b out:Array Keyed}{na nb:Nat}
theorem Hp.ta(m:Hp κ a b out (na+1) nb)(d:na<a.size)(h:∀j,(c:j<b.size)->j<nb->κ.kle (kv κ b[j]) (kv κ a[na])):Hp κ a b (out.push a[na]) na nb:=by
 unfold Hp at m ⊢;rw[My d]at m;rw[Wd];refine m.lI λy f=>?_;obtain⟨j,c,h1,rfl⟩:=xx f;exact h j c h1
theorem Hp.tb(m:Hp κ a b out na (nb+1))(d:nb<b.size)(h:∀j,(c:j<a.size)->j<na->κ.kle (kv κ a[j]) (kv κ b[nb])):Hp κ a b (out.push b[nb]) na nb:=by
 unfold Hp at m ⊢;rw[My d]at m;rw[Wd];refine m.rY λy f=>?_;obtain⟨j,c,h1,rfl⟩:=xx f;exact h j c h1
theorem Hp.as(m:Hp κ a b out na nb){k:Nat}(l:k<=na)(c:na<=a.size)(h:∀i j,(f:i<a.size)->(d:j<b.size)->k<=i->i<na->j<nb->κ.kle (kv κ b[j]) (kv κ a[i])):Hp κ a b (out++(a.extract k na).reverse) k nb:=by
 unfold Hp at m ⊢;rw[Ol l c]at m;rw[Z2];refine m.ig λx q y p=>?_;obtain⟨i,f,g,n,rfl⟩:=Oj c q;obtain⟨j,d,h1,rfl⟩:=xx p;exact h i j f d g n h1
theorem Hp.bs(m:Hp κ a b out na nb){k:Nat}(l:k<=nb)(d:nb<=b.size)(h:∀i j,(f:i<b.size)->(c:j<a.size)->k<=i->i<nb->j<na->κ.kle (kv κ a[j]) (kv κ b[i])):Hp κ a b (out++(b.extract k nb).reverse) na k:=by
 unfold Hp at m ⊢;rw[Ol l d]at m;rw[Z2];refine m.nv λx q y p=>?_;obtain⟨i,f,g,n,rfl⟩:=Oj d q;obtain⟨j,c,h1,rfl⟩:=xx p;exact h i j f c g n h1
theorem Hp.done(m:Hp κ a b out na nb)(h:na=0):Rd κ a b (a.extract 0 na++b.extract 0 nb++out.reverse):=by
 unfold Hp at m;subst h;have e:=m.swap.tI;have z:(a.extract 0 0++b.extract 0 nb++out.reverse).toList=(out.toList++(b.toList.take nb).reverse).reverse:=by
  rw[Z2,Z2,Dz,Dz,Wk,XD];simp
 show(a.extract 0 0++b.extract 0 nb++out.reverse).toList.Perm _/\dO κ (a.extract 0 0++b.extract 0 nb++out.reverse).toList;rw[z];exact⟨(WT _).trans e.1,Om e.2⟩
theorem Hp.first(m:Hp κ a b out na nb)(sa:dO κ a.toList)(l:0<a.size)(hb:0<b.size)(h1:κ.klt (kv κ b[0]) (kv κ a[0]))(h:nb=1):Rd κ a b (b.extract 0 nb++a.extract 0 na++out.reverse):=by
 unfold Hp at m;subst h;have e:=m.swap.pE λy c x f=>by
  obtain⟨i,d,_,rfl⟩:=xx c;obtain⟨j,g,k,rfl⟩:=xx f;have:j=0:=by lia
  subst this;have q:κ.kle (kv κ b[0]) (kv κ a[i]):=ZR (Z0 h1) (my sa (Zt i) d);exact q
 have z:(b.extract 0 1++a.extract 0 na++out.reverse).toList=(out.toList++((a.toList.take na).reverse++(b.toList.take 1).reverse)).reverse:=by
  rw[Z2,Z2,Dz,Dz,Wk,XD,XD];simp
 show(b.extract 0 1++a.extract 0 na++out.reverse).toList.Perm _/\dO κ (b.extract 0 1++a.extract 0 na++out.reverse).toList;rw[z];exact⟨(WT _).trans e.1,Om e.2⟩
end
theorem Hp.FQ{κ:KeyKind}{a b out:Array Keyed}{na nb:Nat}(sb:dO κ b.toList)(m:Hp κ a b out na nb)(h0:0<na)(c:na<=a.size)(h1:0<nb)(d:nb<=b.size)(h:κ.kle (kv κ (b[nb-1]'(dU h1 d))) (kv κ (a[na-1]'(dU h0 c)))):Hp κ a b (out.push (a[na-1]'(dU h0 c))) (na-1) nb:=by
 refine Hp.ta (na:=na-1) (by rw[show na-1+1=na from oH h0];exact m) (dU h0 c) λj g f=>?_;exact ZR (my sb (show j<=nb-1 from ky f) (dU h1 d)) h
theorem Hp.NN{κ:KeyKind}{a b out:Array Keyed}{na nb:Nat}(sa:dO κ a.toList)(m:Hp κ a b out na nb)(h0:0<na)(d:na<=a.size)(h1:0<nb)(c:nb<=b.size)(h:κ.kle (kv κ (a[na-1]'(dU h0 d))) (kv κ (b[nb-1]'(dU h1 c)))):Hp κ a b (out.push (b[nb-1]'(dU h1 c))) na (nb-1):=by
 refine Hp.tb (nb:=nb-1) (by rw[show nb-1+1=nb from oH h1];exact m) (dU h1 c) λj g f=>?_;exact ZR (my sa (show j<=na-1 from ky f) (dU h0 d)) h
theorem Th{d:Prop}{P:Nat->Array Keyed->Prop}{G:Nat->Array Keyed->Nat->Prop}(a:(∀m o c,P m o->G m o c)->d)(b:∀m o c,P m o->G m o c):d:=a b
def kj(κ:KeyKind)(a b:Array Keyed)(st:au)(x na nb:Nat)(out:Array Keyed)(c:au):Prop:=(∃g,c=qv st g)/\Hp κ a b out na nb/\0<na/\na<=a.size/\1<nb/\nb<=b.size/\x+na+nb<=a.size+b.size
theorem kj.of{κ:KeyKind}{a b out:Array Keyed}{st:au}{x g na nb:Nat}(m:Hp κ a b out na nb)(h1:0<na)(h2:na<=a.size)(f:1<nb)(d:nb<=b.size)(c:x+na+nb<=a.size+b.size):kj κ a b st x na nb out (qv st g):=⟨⟨g,rfl⟩,m,h1,h2,f,d,c⟩
theorem kj.mono{κ:KeyKind}{a b out:Array Keyed}{st c:au}{x y na nb:Nat}(j:kj κ a b st x na nb out c)(h:y<=x):kj κ a b st y na nb out c:=by
 obtain⟨g,i,k,d,f,l,m⟩:=j;exact⟨g,i,k,d,f,l,by lia⟩
section
variable{κ:KeyKind}
theorem qP7{kd:SortKind}(hO:nq prog w A s κ kd){st:au}{a b:Array Keyed}{Q:Array Keyed->au->Prop}(JG:kindOf st=kd)(ka:KeysOf κ a)(kb:KeysOf κ b)(sa:dO κ a.toList)(sb:dO κ b.toList)
  (pa:0<a.size) (L:0<b.size) (h1:κ.klt (kv κ b[0]) (kv κ a[0])) (h2:∀j,(hj:j<b.size)->κ.klt (kv κ b[j]) (kv κ a[a.size-1]))
  (h:∀out g,Rd κ a b out->Q out (qv st g)):wpS (ai prog w) A E s (Uz a b) Q st:=by
 have hk:∀g,kindOf (qv st g)=kd:=λg=>JG;have J:∀{i j:Nat},i=j->(i==j)=true:=λe=>Wg.mpr e;have D:∀{i j:Nat},i≠j->¬(i==j)=true:=λe z=>e (Wg.mp z);refine Zq (VM (Xf ⟨rfl,?_⟩));refine Zq (gg (ZM a (a.size-1) (u9 pa)) ?_);have N:Hp κ a b #[a[a.size-1]] (a.size-1) b.size:=by
  refine Hp.FQ (out:=#[]) sb ⟨by simp only[Array.toList_empty,List.nil_append];rw[YV (by simp),YV (by simp)];exact(WT _).append (WT _),by simp[dO],?_,?_,by simp,by simp⟩ pa (Zb _) L (Zb _) (Z0 (h2 _ (u9 L)))
  ·rw[YV (by simp)];exact Pe sa
  ·rw[YV (by simp)];exact Pe sb
 by_cases e0:a.size-1=0
 ·exact fJ (J e0) (ZA (h _ (gallopOf st) (N.done e0)))
 refine fj (D e0) ?_;by_cases C:b.size=1
 ·exact fJ (J C) (ZA (h _ (gallopOf st) (N.first sa pa L h1 C)))
 refine fj (D C) ?_;refine Zq (W7 ?_);refine xy (I:=λx c q=>kj κ a b st x c.2.1 c.2.2.1 c.2.2.2.1 q) (Q:=λc q=>yM κ a b st c.1 q) ?step ?fin (kj.of (g:=gallopOf st) (na:=a.size-1) (nb:=b.size) N (qU e0) Ly (by lia) uY (by lia)) ?post
 case post=>
  rintro⟨v,M⟩ q ⟨r,e,⟨g,rfl⟩,S⟩;cases(show v=some r from e);exact ZA (h r g S)
 case fin=>
  rintro c q ⟨_,m,t,f,p,l,H⟩;lia
 case step=>
  rintro x c q _ hx ⟨⟨g,rfl⟩,N,t,f,p,l,H⟩;refine xy (I:=λy c q=>kj κ a b st (x+y) c.2.1 c.2.2.1 c.2.2.2.1 q) (Q:=λc q=>c.1=none/\kj κ a b st (x+1) c.2.1 c.2.2.1 c.2.2.2.1 q\/yM κ a b st c.1 q) ?step ?fin (kj.of (g:=g) N t f p l (by lia)) ?post
  case fin=>
   rintro c q ⟨_,m,t,f,p,l,H⟩;lia
  case step=>
   rintro y c q _ hy ⟨⟨g,rfl⟩,m,t,f,p,l,H⟩;refine Zq (gg (ZM b (c.2.2.1-1) (dU p l)) ?_);refine Zq (gg (ZM a (c.2.1-1) (dU t f)) ?_);refine Zq (zE hO (hk g) (lR kb (dU p l)) (lR ka (dU t f)) ?_);by_cases hb:κ.blt (kv κ (b[c.2.2.1-1]'(dU p l))) (kv κ (a[c.2.1-1]'(dU t f)))=true
   ·refine fJ hb ?_;refine Zq (gg (ZM a (c.2.1-1) (dU t f)) ?_);have K:=m.FQ sb t f (qR p) l (Z0 hb);by_cases C:c.2.1-1=0
    ·exact fJ (J C) (ZA (.inr ⟨_,rfl,⟨_,rfl⟩,K.done C⟩))
    have j:=kj.of (st:=st) (g:=g) (x:=x+(y+1)) K (qU C) (qT f) p l (by lia);exact fj (D C) (xl (λ_=>ZA (.inl ⟨rfl,j.mono qP⟩)) λ_=>ZA j)
   ·refine fj hb ?_;refine Zq (gg (ZM b (c.2.2.1-1) (dU p l)) ?_);have K:=m.NN sa t f (qR p) l (eq_false_of_ne_true hb);by_cases C:c.2.2.1-1=1
    ·exact fJ (J C) (ZA (.inr ⟨_,rfl,⟨_,rfl⟩,K.first sa pa L h1 C⟩))
    have j:=kj.of (st:=st) (g:=g) (x:=x+(y+1)) K t f (by lia) (qT l) (by lia);exact fj (D C) (xl (λ_=>ZA (.inl ⟨rfl,j.mono qP⟩)) λ_=>ZA j)
  case post=>
   rintro⟨v,M⟩ q (⟨e,⟨g,rfl⟩,m,t,f,p,l,H⟩|⟨r,e,hg,S⟩)
   ·cases(show v=none from e);refine Zq (VM (Xf ⟨rfl,?_⟩));refine xy (I:=λy c q=>kj κ a b st (x+1+y) c.2.1 c.2.2.1 c.2.2.2.1 q) (Q:=λc q=>c.1=none/\kj κ a b st (x+1) c.2.1 c.2.2.1 c.2.2.2.1 q\/yM κ a b st c.1 q) ?step ?fin (kj.of (g:=g) m t f p l H) ?post
    case fin=>
     rintro c q ⟨_,m,t,f,p,l,H⟩;lia
    case post=>
     rintro⟨v,M⟩ q (⟨e,⟨g,rfl⟩,m,t,f,p,l,H⟩|⟨r,e,hg,S⟩)
     ·cases(show v=none from e);exact Zq (Xx (ZA ⟨⟨_,rfl⟩,m,t,f,p,l,H⟩))
     ·cases(show v=some r from e);exact ZA ⟨r,rfl,hg,S⟩
    case step=>
     rintro y c q _ hy ⟨⟨g,rfl⟩,K,t,f,p,l,H⟩;refine' LM (P:=λ_=>True) (G:=_) (λkey=>?ka) (λm _=>?kb)
     case ka=>
      by_cases R:c.2.2.2.2.1>1
      case neg=>
       refine fj R ?_;generalize c.2.2.2.2.1=mg;exact key mg trivial
      case pos=>exact fJ R (key _ trivial)
     case kb=>
      refine Zq (Xx ?_);refine Zq (gg (ZM b (c.2.2.1-1) (dU p l)) ?_);obtain⟨k,v,M,c0⟩:=Pf ka sa (kv κ (b[c.2.2.1-1]'(dU p l))) (base:=0) (n:=c.2.1) (by lia);have U:∀i,(F:i<a.size)->i<c.2.1->(i<k->κ.kle (kv κ a[i]) (kv κ (b[c.2.2.1-1]'(dU p l))))/\(k<=i->κ.klt (kv κ (b[c.2.2.1-1]'(dU p l))) (kv κ a[i])):=λi F hn=>by
       have:=c0 i (Ls F) hn;simp only[Xr]at this;exact this
      refine Zq (xK hO (hk m) (lR kb (dU p l)) M (u9 t) v ?_);refine' Th (P:=λB oq=>∃u:0<B/\B<=c.2.1,Hp κ a b oq B c.2.2.1/\κ.kle (kv κ (a[B-1]'(gk f u))) (kv κ (b[c.2.2.1-1]'(dU p l)))) (G:=_) (λkey=>?kc) (λB oq cn hP=>?kd)
      case kc=>
       by_cases R:c.2.1-k>0
       case neg=>
        refine fj R ?_;have O:κ.kle (kv κ (a[c.2.1-1]'(dU t f))) (kv κ (b[c.2.2.1-1]'(dU p l))):=(U (c.2.1-1) (dU t f) (u9 t)).1 (by lia);have V:=key c.2.1 c.2.2.2.1 (c.2.1-k) ⟨⟨t,Zb _⟩,K,O⟩;generalize c.2.1-k=cn at V ⊢;generalize c.2.1=na at V ⊢;generalize c.2.2.2.1=out at V ⊢;exact V
       case pos=>
        refine fJ R ?_;have Y:=K.as (k:=k) v f (λi j F hj z1 z2 z3=>ZR (my sb (show j<=c.2.2.1-1 from ky z3) (dU p l)) (Z0 ((U i F z2).2 z1)));by_cases X:k=0
        ·exact fJ (J X) (ZA (.inr ⟨_,rfl,⟨_,rfl⟩,Y.done X⟩))
        have O:κ.kle (kv κ (a[k-1]'(Nd pa f v))) (kv κ (b[c.2.2.1-1]'(dU p l))):=(U (k-1) (Nd pa f v) (by lia)).1 (by lia);exact fj (D X) (key k _ (c.2.1-k) ⟨⟨qU X,v⟩,Y,O⟩)
      case kd=>
       obtain⟨u,Y,O⟩:=hP;refine Zq (gg (ZM b (c.2.2.1-1) (dU p l)) ?_);have m3:=Y.NN sa (NG u) (Ni f u) (qR p) l O;by_cases e3:c.2.2.1-1=1
       ·exact fJ (J e3) (ZA (.inr ⟨_,rfl,⟨_,rfl⟩,m3.first sa pa L h1 e3⟩))
       refine fj (D e3) ?_;refine Zq (gg (ZM a (B-1) (gk f u)) ?_);obtain⟨d,T,d2,d0⟩:=Oq kb sb (kv κ (a[B-1]'(gk f u))) (base:=0) (n:=c.2.2.1-1) (by lia);have Z:∀i,(F:i<b.size)->i<c.2.2.1-1->(i<d->κ.klt (kv κ b[i]) (kv κ (a[B-1]'(gk f u))))/\(d<=i->κ.kle (kv κ (a[B-1]'(gk f u))) (kv κ b[i])):=λi F hn=>by
        have:=d0 i (Ls F) hn;simp only[Xr]at this;exact this
       refine Zq (xK hO (hk m) (lR ka (gk f u)) d2 (NF p) T ?_);have ld:0<d:=by
        rcases Nat.eq_zero_or_pos d with z|z
        ·have:=(Z 0 L (by lia)).2 (vb z);exact absurd (Wz h1 (my sa (Zt (B-1)) (gk f u))) (W2 this)
        ·exact z
       by_cases hd:c.2.2.1-1-d>0
       case' neg=>
        refine fj hd ?_;have m4:=m3;have q4:κ.klt (kv κ (b[c.2.2.1-1-1]'(Nu l p))) (kv κ (a[B-1]'(gk f u))):=(Z (c.2.2.1-1-1) (Nu l p) (NF p)).1 (by lia)
       case' pos=>
        refine fJ hd ?_;have m4:=m3.bs (k:=d) T (qT l) (λi j F hj v M U=>ZR (my sa (show j<=B-1 from ky U) (gk f u)) ((Z i F M).2 v));by_cases e4:d=1
        ·exact fJ (J e4) (ZA (.inr ⟨_,rfl,⟨_,rfl⟩,m4.first sa pa L h1 e4⟩))
        refine fj (D e4) (fj (D (show d≠0 by lia)) ?_);have q4:κ.klt (kv κ (b[d-1]'(Nb l T p))) (kv κ (a[B-1]'(gk f u))):=(Z (d-1) (Nb l T p) (dU ld T)).1 (u9 ld)
       all_goals
        refine Zq (gg (ZM a (B-1) (gk f u)) ?_);have m5:=m4.FQ sb (NG u) (Ni f u) (by lia) (by lia) (Z0 q4);by_cases W:B-1=0
        ·exact fJ (J W) (ZA (.inr ⟨_,rfl,⟨_,rfl⟩,m5.done W⟩))
        have j:=kj.of (st:=st) (g:=m) (x:=x+1+(y+1)) m5 (qU W) (by lia) (by lia) (by lia) (by lia);exact fj (D W) (xl (λ_=>ZA (.inl ⟨rfl,j.mono iO⟩)) λ_=>ZA j)
   ·cases(show v=some r from e);exact ZA ⟨r,rfl,hg,S⟩
end
theorem pN{κ:KeyKind}{a:Array Keyed}{i:Nat}(h:i<a.size):KK κ a i=kv κ a[i]:=by unfold KK kv;rw[ZM a _ h]
theorem qY9{κ:KeyKind}{a:Array Keyed}(ka:KeysOf κ a){base n:Nat}(sa:cB κ a base (base+n))(k:κ.α)(f:base+n<=a.size):
  ∃c,c<=n/\(∀i,i<n->∃x y,a[base+i]?=some x/\κ.keyOf x.1=some y/\asks false k y=decide (i<c))/\∀i,i<n->(i<c->κ.kle (KK κ a (base+i)) k)/\(c<=i->κ.klt k (KK κ a (base+i))):=by
 obtain⟨c,l,d⟩:=Af (p:=λi=>!κ.blt k (KK κ a (base+i))) n (λi j m h e=>by
  simp only[Wa]at e ⊢;exact ZR (sa (base+i) (base+j) iO (ix m) (qY h)) e)
 refine⟨c,l,λi b=>⟨_,_,ZM a _ (dE b f),lR ka (dE b f),?_⟩,λi b=>⟨λg=>?_,λg=>?_⟩⟩
 ·rw[<- d i b,pN (dE b f)];rfl
 ·have e:=d i b;rw[Zh g]at e;exact(Wa _).mp e
 ·have e:=d i b;rw[Zi (eS g)]at e;exact(Bool.not_eq_false' _).mp e
theorem xc2{κ:KeyKind}{a:Array Keyed}(ka:KeysOf κ a){base n:Nat}(sa:cB κ a base (base+n))(k:κ.α)(f:base+n<=a.size):
  ∃c,c<=n/\(∀i,i<n->∃x y,a[base+i]?=some x/\κ.keyOf x.1=some y/\asks true k y=decide (i<c))/\∀i,i<n->(i<c->κ.klt (KK κ a (base+i)) k)/\(c<=i->κ.kle k (KK κ a (base+i))):=by
 obtain⟨c,l,d⟩:=Af (p:=λi=>κ.blt (KK κ a (base+i)) k) n (λi j m h e=>KeyOrd.klt_of_kle_of_klt (sa (base+i) (base+j) iO (ix m) (qY h)) e);refine⟨c,l,λi b=>⟨_,_,ZM a _ (dE b f),lR ka (dE b f),?_⟩,λi b=>⟨λg=>?_,λg=>?_⟩⟩
 ·rw[<- d i b,pN (dE b f)];rfl
 ·have e:=d i b;rw[Zh g]at e;exact e
 ·have e:=d i b;rw[Zi (eS g)]at e;exact e
def lV(xs:Array Keyed)(b:Nat)(l:List (Keyed×Nat)):Array Keyed:=l.foldl (λa x=>a.setIfInBounds (b+x.2) x.1) xs
theorem G6(a k:Nat):∀(l:List Keyed)(o:Nat)(b:Array Keyed),a+o+l.length<=b.size->(lV b a (l.zipIdx o)).size=b.size/\(lV b a (l.zipIdx o))[k]?=if a+o<=k/\k<a+o+l.length then l[k-(a+o)]? else b[k]?
 |[],o,b,_=>⟨rfl,by rw[Zl (by simp)];rfl⟩
 |p::l,o,b,h=>by
  have i:a+(o+1)+l.length<=(b.setIfInBounds (a+o) p).size:=by simp at h ⊢;lia
  obtain⟨d,g⟩:=G6 a k l (o+1) (b.setIfInBounds (a+o) p) i;have e:lV b a ((p::l).zipIdx o)=lV (b.setIfInBounds (a+o) p) a (l.zipIdx (o+1)):=rfl;rw[e];refine⟨by rw[d];simp,?_⟩;rw[g];simp only[Zz]at h ⊢;by_cases f:k=a+o
  ·subst f;rw[Zl (by lia),Zr (by lia),Vo];rw[Yq];simp;lia
  ·by_cases c:a+o<=k/\k<a+o+(l.length+1)
   ·rw[Zr (by lia),Zr c];rw[show k-(a+o)=(k-(a+(o+1)))+1 by lia];simp
   ·rw[Zl (by lia),Zl c,Yq,Zl (by lia)]
theorem qM1{xs m:Array Keyed}{a:Nat}(h:a+m.size<=xs.size):(lV xs a m.toList.zipIdx).toList=xs.toList.take a++(m.toList++xs.toList.drop (a+m.size)):=by
 apply Wb;intro k;have g:=(G6 a k m.toList 0 xs (by simpa using h)).2;rw[Z5,g];simp only[Vm,ZP];by_cases b:k<a
 ·rw[Zl (by lia),Zp (by simp;lia),Wv b];simp
 ·have c:(xs.toList.take a).length=a:=by simp;lia
  rw[Zx (A5 c b),c];by_cases d:k<a+m.size
  ·rw[Zr (by lia),Zp (by simp;lia)]
  ·rw[Zl (by lia),Zx (by simp;exact Ny d),List.getElem?_drop];simp only[ZP];rw[show a+m.size+(k-a-m.size)=k by lia];simp
theorem Hv{a:Array Keyed}{i j:Nat}:(a.extract i j).toList=(a.toList.drop i).take (j-i):=by
 rw[Xs,List.extract_eq_drop_take]
theorem Mx{κ:KeyKind}{a:Array Keyed}{b d:Nat}(h:cB κ a b d)(hs:d<=a.size):dO κ (a.extract b d).toList:=by
 refine YY.mpr λi j f c g=>?_;simp at f c;have:=h (b+i) (b+j) iO (NI g) (Nf c);rw[pN (Fg f),pN (Fg c)]at this;simpa using this
theorem CZ{κ:KeyKind}{a:Array Keyed}(h:KeysOf κ a)(d c:Nat):KeysOf κ (a.extract d c):=λp b=>by
 rw[Hv]at b;exact h p (List.mem_of_mem_drop (Wh b))
section
variable{κ:KeyKind}
theorem Tg{Q:PUnit->au->Prop}{st a:au}(h:Q ⟨⟩ a):wpS (ai prog w) A E s (set a:StateT au Sem PUnit) Q st:=by
 unfold wpS;rw[StateT.run_set];exact Zc ⟨rfl,h⟩
structure Mrg(κ:KeyKind)(st aK:au)(i sa na pw nb:Nat):Prop where
 perm:(arrOf aK).Perm (arrOf st)
 kind:kindOf aK=kindOf st
 fail:failedOf aK=failedOf st
 out:∀k:Nat,k<sa\/sa+na+nb<=k->(arrOf aK)[k]?=(arrOf st)[k]?
 srt:cB κ (arrOf aK) sa (sa+na+nb)
 pend:pendingOf aK=((pendingOf st).setIfInBounds i (sa,na+nb,pw)).eraseIdxIfInBounds (i+1)
theorem xc4{a m:Array Keyed}{sa na nb k d:Nat}(D:cB κ a sa (sa+na))(x:cB κ a (sa+na) (sa+na+nb))(hsz:sa+na+nb<=a.size)(g:k<na)(B:d<=nb)(L:0<nb)
  (K:∀i,i<na->i<k->κ.kle (KK κ a (sa+i)) (KK κ a (sa+na))) (M:∀i,i<nb->d<=i->κ.kle (KK κ a (sa+na-1)) (KK κ a (sa+na+i)))
  (r:Rd κ (a.extract (sa+k) (sa+na)) (a.extract (sa+na) (sa+na+d)) m):
  (lV a (sa+k) m.toList.zipIdx).Perm a/\(∀j:Nat,j<sa\/sa+na+nb<=j->(lV a (sa+k) m.toList.zipIdx)[j]?=a[j]?)/\cB κ (lV a (sa+k) m.toList.zipIdx) sa (sa+na+nb):=by
 have h:m.size=na-k+d:=by
  have:=r.1.length_eq;simp only[ZP,Zn,Array.size_extract]at this;rw[this,VT (by lia),VT (by lia),Nat.add_sub_add_left,WI]
 have cat:(a.extract (sa+k) (sa+na)).toList++(a.extract (sa+na) (sa+na+d)).toList=(a.toList.drop (sa+k)).take (na-k+d):=by
  rw[Hv,Hv,show sa+na-(sa+k)=na-k from NC,show sa+na+d-(sa+na)=d from u7,List.take_add,VZ,show sa+k+(na-k)=sa+na by lia]
 have get:=λj=>(G6 (sa+k) j m.toList 0 a (by simp;exact MZ g h B hsz)).2;simp only[Vm,ZP]at get;have p:(lV a (sa+k) m.toList.zipIdx).Perm a:=by
  refine Wj.mpr ?_;rw[qM1 (MZ g h B hsz)];have e:a.toList=a.toList.take (sa+k)++((a.toList.drop (sa+k)).take (na-k+d)++a.toList.drop (sa+k+m.size)):=by
   rw[h,<- VZ (i:=na-k+d) (j:=sa+k),YG,YG]
  conv=>rhs;rw[e]
  refine List.Perm.append_left _ (List.Perm.append_right _ ?_);rw[<- cat];exact r.1
 refine⟨p,λj y=>?_,?_⟩
 ·rw[get j,Zl (by lia)]
 ·have b:∀j,j<sa+k\/sa+na+d<=j->KK κ (lV a (sa+k) m.toList.zipIdx) j=KK κ a j:=λj y=>KK_congr (by rw[get j,Zl (by lia)]);have f:∀j,sa+k<=j->(y:j<sa+na+d)->KK κ (lV a (sa+k) m.toList.zipIdx) j=kv κ (m[j-(sa+k)]'(CN g y h)):=λj h1 h2=>by
   unfold KK kv;rw[get j,Zr (by lia),Z5,ZM m _ (CN g h2 h)]
  have t:∀j,sa+k<=j->j<sa+na+d->∃i,sa+k<=i/\i<sa+na+d/\KK κ (lV a (sa+k) m.toList.zipIdx) j=KK κ a i:=λj h1 h2=>by
   rw[f j h1 h2];have J:m[j-(sa+k)]'(CN g h2 h)∈(a.toList.drop (sa+k)).take (na-k+d):=by
    rw[<- cat];exact r.1.mem_iff.mp (by simp)
   obtain⟨i,G,e⟩:=XC J;simp at G;refine⟨sa+k+i,iO,by lia,?_⟩;rw[pN (Fg G),<- e];simp
  have last:∀i,sa<=i->i<sa+na->κ.kle (KK κ a i) (KK κ a (sa+na-1)):=λi h1 h2=>D i (sa+na-1) h1 (ky h2) (Nv g);intro i j h1 h2 v;by_cases l:i<sa+k
  ·rw[b i (.inl l)];have I:κ.kle (KK κ a i) (KK κ a (sa+na)):=by
    have:=K (i-sa) (by lia) (Np l h1)
    rwa [show sa+(i-sa)=i from qO h1]at this
   by_cases n:j<sa+k\/sa+na+d<=j
   ·rw[b j n];by_cases c:j<sa+na
    ·exact D i j h1 h2 c
    ·exact ZR I (x (sa+na) j (Zb _) (iw c) v)
   ·obtain⟨q,C,H,F⟩:=t j (by lia) (by lia);rw[F];by_cases c:q<sa+na
    ·exact D i q h1 (Fh l C) c
    ·exact ZR I (x (sa+na) q (Zb _) (iw c) (Nh H B))
  ·by_cases u:i<sa+na+d
   ·by_cases n:j<sa+na+d
    ·rw[f i (iw l) u,f j (Nz h2 l) n];exact my r.2 (by lia) (CN g n h)
    ·obtain⟨q,C,H,F⟩:=t i (iw l) u;rw[F,b j (.inr (iw n))];by_cases c:q<sa+na
     ·have:=M (j-(sa+na)) (Ng L v) (Ny n);rw[show sa+na+(j-(sa+na))=j by lia]at this;exact ZR (last q (gQ C) c) this
     ·exact x q j (iw c) (by lia) v
   ·rw[b i (.inr (iw u)),b j (.inr (Nz h2 u))];exact x i j (by lia) h2 v
theorem qP8{kd:SortKind}(v:nq prog w A s κ kd){st:au}{i sa na pw nb M:Nat}{Q:Bool->au->Prop}(u:kindOf st=kd)(h0:KeysOf κ (arrOf st))(hf:failedOf st=none)
  (p1:(pendingOf st)[i]?=some (sa,na,pw)) (p2:(pendingOf st)[i+1]?=some (sa+na,nb,M)) (J:0<na) (b:0<nb) (hsz:sa+na+nb<=(arrOf st).size)
  (q:cB κ (arrOf st) sa (sa+na)) (p:cB κ (arrOf st) (sa+na) (sa+na+nb)) (h:∀U,Mrg κ st U i sa na pw nb->Q true U):wpS (ai prog w) A E s (mergeAt' i) Q st:=by
 refine Zq (W7 ?_);dsimp only;rw[p1,p2];refine Zq (Tg ?_);refine Zq (gg (ZM (arrOf st) (sa+na) (uZ b hsz)) ?_);obtain⟨k,k1,N,C⟩:=qY9 h0 q (KK κ (arrOf st) (sa+na)) (gQ hsz);refine Zq (xK (st:=SortSt.mk' (kindOf st) (arrOf st) (((pendingOf st).setIfInBounds i (sa,na+nb,pw)).eraseIdxIfInBounds (i+1)) (gallopOf st) (failedOf st)) v u (lR h0 (uZ b hsz)) (by rw[pN (uZ b hsz)]at N;exact N) J k1 ?_);dsimp only;by_cases l:na-k=0
 ·rw[Zr (by simp only[Wg];exact l)];refine ZA (h _ ⟨.refl _,rfl,rfl,λ_ _=>rfl,λx y c n m=>?_,rfl⟩);show κ.kle (KK κ (arrOf st) x) (KK κ (arrOf st) y);by_cases V:x<sa+na
  ·by_cases cy:y<sa+na
   ·exact q x y c n cy
   ·have:=(C (x-sa) (Ng J V)).1 (by lia);rw[show sa+(x-sa)=x from qO c]at this;exact ZR this (p (sa+na) y (Zb _) (iw cy) m)
  ·exact p x y (iw V) n m
 ·rw[Zl (by simp only[Wg];exact l)];rw[show sa+k+(na-k)-1=sa+na-1 by lia];refine Zq (gg (ZM (arrOf st) (sa+na-1) (Ff b hsz)) ?_);obtain⟨d,c,n,m⟩:=xc2 h0 p (KK κ (arrOf st) (sa+na-1)) hsz;refine Zq (xK (st:=SortSt.mk' (kindOf st) (arrOf st) (((pendingOf st).setIfInBounds i (sa,na+nb,pw)).eraseIdxIfInBounds (i+1)) (gallopOf st) (failedOf st)) v u (lR h0 (Ff b hsz)) (by rw[pN (Ff b hsz)]at n;exact n) (u9 b) c ?_);dsimp only;have lk:κ.klt (KK κ (arrOf st) (sa+na)) (KK κ (arrOf st) (sa+k)):=(C k (Lp l)).2 (Zb _);have D:d≠0:=λz=>by
   have:=(m 0 b).2 (vb z);exact absurd (Wz lk (q (sa+k) (sa+na-1) iO (by lia) (Nv J))) (W2 this)
  rw[Zl (by simp only[Wg];exact D)];have P:((arrOf st).extract (sa+k) (sa+na)).size=na-k:=by simp;lia
  have L:((arrOf st).extract (sa+na) (sa+na+d)).size=d:=by simp;lia
  have T:0<((arrOf st).extract (sa+k) (sa+na)).size:=by exact ND P l
  have Y:0<((arrOf st).extract (sa+na) (sa+na+d)).size:=by exact Lo L D
  have O:∀j,(f:j<((arrOf st).extract (sa+k) (sa+na)).size)->kv κ ((arrOf st).extract (sa+k) (sa+na))[j]=KK κ (arrOf st) (sa+k+j):=λj f=>by rw[pN (by lia)];simp
  have S:∀j,(f:j<((arrOf st).extract (sa+na) (sa+na+d)).size)->kv κ ((arrOf st).extract (sa+na) (sa+na+d))[j]=KK κ (arrOf st) (sa+na+j):=λj f=>by rw[pN (by lia)];simp
  have Z:κ.klt (kv κ (((arrOf st).extract (sa+na) (sa+na+d))[0]'(Lo L D))) (kv κ (((arrOf st).extract (sa+k) (sa+na))[0]'(ND P l))):=by
   rw[O,S];exact lk
  have R:∀j,(f:j<((arrOf st).extract (sa+na) (sa+na+d)).size)->κ.klt (kv κ ((arrOf st).extract (sa+na) (sa+na+d))[j]) (kv κ (((arrOf st).extract (sa+k) (sa+na))[((arrOf st).extract (sa+k) (sa+na)).size-1]'(by lia))):=λj f=>by
   rw[O,S,show sa+k+(((arrOf st).extract (sa+k) (sa+na)).size-1)=sa+na-1 by lia];exact(m j (by lia)).1 (m_ f L)
  have G:∀a g,Rd κ ((arrOf st).extract (sa+k) (sa+na)) ((arrOf st).extract (sa+na) (sa+na+d)) a->Q true (SortSt.mk' (kindOf st) (lV (arrOf st) (sa+k) a.toList.zipIdx) (((pendingOf st).setIfInBounds i (sa,na+nb,pw)).eraseIdxIfInBounds (i+1)) g (failedOf st)):=λa g r=>by
   obtain⟨r1,r2,r3⟩:=xc4 q p hsz (Lp l) c b (λj B I=>(C j B).1 I) (λj B I=>(m j B).2 I) r;exact h _ ⟨r1,rfl,rfl,r2,r3,rfl⟩
  have X:∀a g,Rd κ ((arrOf st).extract (sa+k) (sa+na)) ((arrOf st).extract (sa+na) (sa+na+d)) a->Q (failedOf st).isNone (SortSt.mk' (kindOf st) (lV (arrOf st) (sa+k) a.toList.zipIdx) (((pendingOf st).setIfInBounds i (sa,na+nb,pw)).eraseIdxIfInBounds (i+1)) g (failedOf st)):=λa g r=>by
   have e:(failedOf st).isNone=true:=by rw[hf];rfl
   rw[e];exact G a g r
  have ax:dO κ ((arrOf st).extract (sa+k) (sa+na)).toList:=Mx (λx y H F K=>q x y (gQ H) F K) (gQ hsz);have W:dO κ ((arrOf st).extract (sa+na) (sa+na+d)).toList:=Mx (λx y H F K=>p x y H F (Nh K c)) (oE c hsz);by_cases t:na-k<=d
  ·rw[Zr t];refine Zq (qP6 (st:=SortSt.mk' (kindOf st) (arrOf st) (((pendingOf st).setIfInBounds i (sa,na+nb,pw)).eraseIdxIfInBounds (i+1)) (gallopOf st) (failedOf st)) v u (CZ h0 _ _) (CZ h0 _ _) ax W T Y Z R λa g r=>?_);exact Zq (Xx (Zq (W7 (ZA (X a g r)))))
  ·rw[Zl t];refine Zq (qP7 (st:=SortSt.mk' (kindOf st) (arrOf st) (((pendingOf st).setIfInBounds i (sa,na+nb,pw)).eraseIdxIfInBounds (i+1)) (gallopOf st) (failedOf st)) v u (CZ h0 _ _) (CZ h0 _ _) ax W T Y Z R λa g r=>?_);exact Zq (Xx (Zq (W7 (ZA (X a g r)))))
end
def Runs(κ:KeyKind)(a:Array Keyed):List (Nat×Nat×Nat)->Nat->Nat->Prop
 |[],b,c=>b=c
 |r::d,b,c=>r.1=b/\0<r.2.1/\cB κ a b (b+r.2.1)/\Runs κ a d (b+r.2.1) c
section
variable{κ:KeyKind}{a a':Array Keyed}
theorem Runs.app:∀{p q:List (Nat×Nat×Nat)}{b c:Nat},Runs κ a (p++q) b c<->∃m,Runs κ a p b m/\Runs κ a q m c
 |[],q,b,c=>⟨λh=>⟨b,rfl,h⟩,λ⟨m,e,h⟩=>by cases e;exact h⟩
 |r::p,q,b,c=>⟨λ⟨h1,h2,d,i⟩=>by
   obtain⟨m,g,f⟩:=Runs.app.mp i;exact⟨m,⟨h1,h2,d,g⟩,f⟩,λ⟨m,⟨h1,h2,d,g⟩,f⟩=>⟨h1,h2,d,Runs.app.mpr ⟨m,g,f⟩⟩⟩
theorem Runs.le:∀{p:List (Nat×Nat×Nat)}{b c:Nat},Runs κ a p b c->b+p.length<=c
 |[],b,c,h=>by cases h;simp
 |r::p,b,c,⟨h1,h2,f,d⟩=>by
  have:=d.le;simp only[Zz];lia
theorem cB.congr{b c:Nat}(h:cB κ a b c)(e:∀k:Nat,b<=k->k<c->a'[k]?=a[k]?):cB κ a' b c:=λi j h1 h2 d=>by
 rw[KK_congr (e i h1 (by lia)),KK_congr (e j (oK h1 h2) d)];exact h i j h1 h2 d
theorem Runs.congr:∀{p:List (Nat×Nat×Nat)}{b c:Nat},Runs κ a p b c->(∀k:Nat,b<=k->k<c->a'[k]?=a[k]?)->Runs κ a' p b c
 |[],b,c,h,_=>h
 |r::p,b,c,⟨h1,h2,i,g⟩,e=>⟨h1,h2,i.congr (λk d f=>e k d (by have:=g.le;lia)),g.congr (λk d f=>e k (gQ d) f)⟩
theorem Runs.mod{f:Nat×Nat×Nat->Nat×Nat×Nat}(c:∀x,(f x).1=x.1/\(f x).2.1=x.2.1):∀{p:List (Nat×Nat×Nat)}{i b d:Nat},Runs κ a p b d->Runs κ a (p.modify i f) b d
 |[],i,b,d,h=>by cases i<;>exact h
 |r::p,0,b,d,⟨h1,h2,g,j⟩=>by
  refine⟨by rw[(c r).1];exact h1,by rw[(c r).2];exact h2,by rw[(c r).2];exact g,by rw[(c r).2];exact j⟩
 |r::p,i+1,b,d,⟨h1,h2,g,j⟩=>⟨h1,h2,g,j.mod c⟩
theorem Runs.one{b n w:Nat}(h:0<n)(hs:cB κ a b (b+n)):Runs κ a [(b,n,w)] b (b+n):=⟨rfl,h,hs,rfl⟩
end
theorem xK6{α:Type}{l:List α}{i:Nat}(h:i+1<l.length):∃a x y post,l=a++x::y::post/\a.length=i:=by
 refine⟨l.take i,l[i],l[i+1],l.drop (i+2),?_,by simp;lia⟩;rw[<- Wp,<- Wp,YG]
theorem MJ{p:Array (Nat×Nat×Nat)}{a post:List (Nat×Nat×Nat)}{x y v:Nat×Nat×Nat}{i:Nat}(h:p.toList=a++x::y::post)(c:a.length=i):((p.setIfInBounds i v).eraseIdxIfInBounds (i+1)).toList=a++v::post:=by
 have d:p.size=i+(post.length+2):=by
  have:=Yo List.length h;simp at this;lia
 rw[Array.eraseIdxIfInBounds,dif_pos (by simp;lia),Array.toList_eraseIdx,Wf,h];subst c;have b:(a++x::y::post).set a.length v=a++v::y::post:=by
  rw[List.set_append_right _ _ (Zb _)];simp
 rw[b,List.eraseIdx_append_of_length_le iO];simp
structure cN(κ:KeyKind)(kd:SortKind)(a₀:Array Keyed)(st:au)(lo:Nat):Prop where
 perm:(arrOf st).Perm a₀
 kind:kindOf st=kd
 fail:failedOf st=none
 runs:Runs κ (arrOf st) (pendingOf st).toList 0 lo
section
variable{κ:KeyKind}
theorem cN.merge{kd:SortKind}{a₀:Array Keyed}(N:nq prog w A s κ kd)(h0:KeysOf κ a₀){st:au}{f i:Nat}{Q:Bool->au->Prop}(d:cN κ kd a₀ st f)(F:f<=a₀.size)(G:i+1<(pendingOf st).size)
  (h:∀a,cN κ kd a₀ a f->(pendingOf a).size+1=(pendingOf st).size->(∀k:Nat,f<=k->(arrOf a)[k]?=(arrOf st)[k]?)->Q true a):wpS (ai prog w) A E s (mergeAt' i) Q st:=by
 obtain⟨L,⟨j,c,y⟩,⟨S,n,J⟩,post,e,b⟩:=xK6 (l:=(pendingOf st).toList) (by simpa using G);have r:=d.runs;rw[e]at r;obtain⟨m,H,B,q,C,u,x,t,p⟩:=Runs.app.mp r;simp only at B q C u x t p;subst B u;have P:=p.le;have sz:(arrOf st).size=a₀.size:=d.perm.size_eq;have I:(pendingOf st)[i]?=some (j,c,y):=by
  rw[<- Z5,e,Zx (vb b),b,Vo];rfl
 have M:(pendingOf st)[i+1]?=some (j+c,n,J):=by
  rw[<- Z5,e,Zx (by lia),b,WI];rfl
 refine qP8 N d.kind (xF h0 d.perm) d.fail I M q x (by lia) C t λa g=>h a ⟨g.perm.trans d.perm,g.kind.trans d.kind,g.fail.trans d.fail,?_⟩ ?_ λk R=>g.out k (.inr (by lia))
 ·rw[g.pend,MJ e b];refine Runs.app.mpr ⟨j,H.congr λk _ D=>g.out k (.inl D),rfl,by show 0<c+n;exact mI q,?_,?_⟩
  ·have:=g.srt
   rwa [Nat.add_assoc]at this
  ·have:=p.congr (a':=arrOf a) λk O _=>g.out k (.inr O)
   rwa [Nat.add_assoc]at this
 ·have:=Yo List.length (MJ (v:=(j,c+n,y)) e b);rw[<- g.pend]at this;have K:=Yo List.length e;simp at this K;lia
theorem qF5{kd:SortKind}{a₀:Array Keyed}(N:nq prog w A s κ kd)(h0:KeysOf κ a₀){st:au}{Q:Unit->au->Prop}(d:cN κ kd a₀ st 0)
  (h:∀b,(arrOf b).Perm a₀->failedOf b=none->SortedToK κ (arrOf b) a₀.size->Q () b):wpS (ai prog w) A E s sortRuns' Q st:=by
 rw[sortRuns'_eq];refine Zq (W7 ?_);dsimp only;have sz:(arrOf st).size=a₀.size:=d.perm.size_eq;simp only[sz];generalize minRun' a₀.size a₀.size 0=J;refine Zq (Wy (Y4 (I:=λx c b=>∃a,c=(none,a)/\cN κ kd a₀ b a/\x<=a/\a<=a₀.size)
  (Q:=λc b=>c=(none,a₀.size)/\cN κ kd a₀ b a₀.size) ?step ?fin ⟨0,rfl,d,Zb _,Zt _⟩) ?post)
 case fin=>
  rintro c b ⟨a,rfl,d,h1,h2⟩;have:a=a₀.size:=by lia
  subst this;exact⟨rfl,d⟩
 case post=>
  rintro c b ⟨rfl,d⟩;dsimp only;refine Zq (Wy (Y4 (I:=λx c b=>c=(none,())/\cN κ kd a₀ b a₀.size/\(pendingOf b).size+x<=a₀.size)
   (Q:=λc b=>c=(none,())/\cN κ kd a₀ b a₀.size/\(pendingOf b).size<=1) ?y6 ?fin2 ⟨rfl,d,?Bi⟩) ?AH)
  case Bi=>
   have:=d.runs.le;simp at this;lia
  case fin2=>
   rintro c b ⟨rfl,d,h1⟩;exact⟨rfl,d,by lia⟩
  case AH=>
   rintro c b ⟨rfl,d,h1⟩;refine ZA (h b d.perm d.fail λi j jK Y=>?_);have r:=d.runs;cases e:(pendingOf b).toList with
   |nil=>
    rw[e]at r;have r':0=a₀.size:=r;lia
   |cons p ps=>
    rw[e]at r;obtain⟨r1,r2,X,r4⟩:=r;have:ps=[]:=by
     have:=Yo List.length e;simp at this;exact XJ.mp (by lia)
    subst this;have O:0+p.2.1=a₀.size:=r4;rw[O]at X;exact X i j (Zt _) jK Y
  case y6=>
   rintro x c b _ hx ⟨rfl,d,h1⟩;refine Zq (W7 ?_);by_cases v:(pendingOf b).size<=1
   ·rw[Zr v];exact ZA ⟨rfl,d,v⟩
   ·rw[Zl v];refine Zq (d.merge N h0 (Zb _) ?_ λf C e2 _=>?_)
    ·have key:∀c:Bool,(if c=true then(pendingOf b).size-2-1 else(pendingOf b).size-2)+1<(pendingOf b).size:=λc=>by cases c<;>simp<;>lia
     exact key _
    ·simp only[YJ,Zs,ZU];exact ZA ⟨rfl,C,by lia⟩
 case step=>
  rintro x c b _ hx ⟨a,rfl,d,h1,h2⟩;dsimp only;by_cases v:a>=a₀.size
  ·rw[Zr v];have:a=a₀.size:=by lia
   subst this;exact ZA ⟨rfl,d⟩
  ·rw[Zl v];have sz':(arrOf b).size=a₀.size:=d.perm.size_eq;have q:∀(n:Nat)(f:au),1<=n->a+n<=a₀.size->Mv b f a a₀.size->cB κ (arrOf f) a (a+n)->cN κ kd a₀ f a:=λn f F H t _=>
    ⟨t.perm.trans d.perm,t.kind.trans d.kind,t.fail.trans d.fail,by rw[t.pend];exact d.runs.congr λk _ Z=>t.out k (.inl Z)⟩
   have push:∀(n:Nat)(f:au),1<=n->cN κ kd a₀ f a->cB κ (arrOf f) a (a+n)->cN κ kd a₀ (setPending f ((pendingOf f).push (a,n,0))) (a+n):=λn f F C G=>
    ⟨C.perm,C.kind,C.fail,by
     rw[Wd];exact Runs.app.mpr ⟨a,C.runs,Runs.one (by lia) G⟩⟩
   refine Zq (UB N d.kind (xF h0 d.perm) (by lia) (by lia) λm f M t L G=>?_);have S:Mv b f a a₀.size:=by rwa [show a+(a₀.size-a)=a₀.size by lia]at L
   dsimp only;by_cases U:m<J
   case' neg=>
    rw[Zl U];have D:=G;have P:=q _ f M (Nn t M) S G;have F:1<=m:=M;have H:a+m<=a₀.size:=by exact Nn t M
    clear G;obtain⟨n,K⟩:∃n,n=m:=⟨_,rfl⟩;simp only[<- K]at D F H ⊢
   case' pos=>
    rw[Zr U];refine Zq (VM (Xf ⟨rfl,?_⟩));have W:a+min (a₀.size-a) J<=(arrOf f).size:=by rw[L.size];lia
    refine Zq (UD N (L.kind.trans d.kind) (xF h0 (L.perm.trans d.perm)) W (by lia) G λV B D=>?_);simp only[YJ,Zs,ZU];have ID:Mv b V a a₀.size:=S.trans ⟨B.perm,B.kind,B.fail,B.pend,λk hk=>B.out k (by lia)⟩;have P:=q _ V (show 1<=min (a₀.size-a) J by lia) (by lia) ID D;obtain⟨n,K⟩:∃n,n=min (a₀.size-a) J:=⟨_,rfl⟩;have F:1<=n:=by lia
    have H:a+n<=a₀.size:=by lia
    simp only[<- K]at D ⊢;clear K W B
   all_goals
    refine Zq (W7 ?_);split
    ·refine Zq (Wy (Y4 (I:=λx c g=>c=(none,())/\cN κ kd a₀ g a/\cB κ (arrOf g) a (a+n)) (Q:=λc g=>c=(none,())/\cN κ kd a₀ g a/\cB κ (arrOf g) a (a+n)) ?_ ?_ ⟨rfl,P,D⟩) ?_)
     ·rintro y c g _ _ ⟨rfl,l,u⟩;refine Zq (W7 ?_);split
      ·rename_i R;split
       ·exact ZA ⟨rfl,l,u⟩
       ·have T:(pendingOf g).size>1:=by
         by_cases z:(pendingOf g).size>1
         ·exact z
         ·rw[Zl z]at R;cases R
        refine Zq (l.merge N h0 h2 (by lia) λse d5 _ o5=>?_);simp only[YJ,Zs,ZU];exact ZA ⟨rfl,d5,u.congr λk k1 _=>o5 k k1⟩
      ·exact ZA ⟨rfl,l,u⟩
     ·rintro c g ⟨rfl,l,u⟩;exact⟨rfl,l,u⟩
     ·rintro c g ⟨rfl,l,u⟩;refine Zq (Xx (Zq (Xx (ZA ⟨_,rfl,push _ _ F ⟨l.perm,l.kind,l.fail,?_⟩ u,by lia,H⟩))));rw[Array.toList_modify];refine Runs.mod ?_ l.runs;exact λ_=>⟨rfl,rfl⟩
    ·exact Zq (Xx (ZA ⟨_,rfl,push _ _ F P D,by lia,H⟩))
end
inductive mf:Bool->aa->List Int->Prop
 |int (i:Int) (t:Tok):mf false (.int i t) [i]
 |str (x:ar) (t:Tok):mf true (.str x t) (x.cps.toList.map Int.ofNat)
theorem mf.uniq{k:Bool}{v:aa}{l m:List Int}(h:mf k v l)(g:mf k v m):l=m:=by
 cases h<;>cases g<;>rfl
theorem Ft:∀{l m:List Nat},l.map Int.ofNat<m.map Int.ofNat<->l<m
 |[],[]=>by simp
 |[],_::_=>by simp
 |_::_,[]=>by simp
 |x::l,y::m=>by
  rw[ZG,ZG,ZV,ZV,Ft];simp only[Int.ofNat_eq_natCast,Int.ofNat_lt,Int.ofNat_inj]
theorem Mw:∀{l m:List Nat},l.map Int.ofNat=m.map Int.ofNat->l=m
 |[],[],_=>rfl
 |[],_::_,h=>by simp at h
 |_::_,[],h=>by simp at h
 |x::l,y::m,h=>by
  rw[ZG,ZG]at h;obtain⟨h1,h2⟩:=List.cons.inj h;rw[Int.ofNat.inj h1,Mw h2]
section
variable{pat:Nat->Bool}
theorem xK8{k:Bool}{x y:aa}{a b:List Int}{Q:Bool->ae->Prop}(d:mf k x a)(c:mf k y b)(h:Q (decide (a=b)) s):ah (ai prog w) A (eqBool x y) Q E s:=by
 cases d with
 |int i t=>
  cases c with
  |int j u=>
   refine wpAny_eqBool_int ?_;have e:decide ([i]=[j])=(i==j):=by simp;rfl
   rw[e]at h;exact h
 |str x t=>
  cases c with
  |str y u=>
   refine PySem.wpAny_eqBool_str ?_;have e:decide (x.cps.toList.map Int.ofNat=y.cps.toList.map Int.ofNat)=decide (x=y):=by
    rw[Ym];constructor
    ·intro z;have:=Mw z;cases x;cases y;simp at this ⊢;exact this
    ·rintro rfl;rfl
   rw[e]at h;exact h
theorem Uy{k c:Bool}{x y:aa}{a b:List Int}{Q:Bool->ae->Prop}(f:mf k x a)(d:mf k y b)(h:Q (decide (a<b)) s):ah (ai prog w) A (oneLt' c x y) Q E s:=by
 cases f with
 |int i t=>
  cases d with
  |int j u=>
   have e:decide ([i]<[j])=decide (i<j):=by rw[Ym,ZV];simp
   rw[e]at h;cases c with
   |true=>exact oneLt_int h
   |false=>
    rw[oneLt'_eq];simp only[Zs,ZU,W3];exact Za (wpAny_lt_int (Z9 h))
 |str x t=>
  cases d with
  |str y u=>
   have e:decide (x.cps.toList.map Int.ofNat<y.cps.toList.map Int.ofNat)=decide (x.cps.toList<y.cps.toList):=by rw[Ym];exact Ft
   rw[e]at h;cases c with
   |true=>exact oneLt_str h
   |false=>
    rw[oneLt'_eq];simp only[Zs,ZU,W3];exact Za (PySem.P.lt_str (Z9 h))
end
theorem xY:∀{l m:List (List Int)}(a b:List (List Int)),l.length=m.length->(l++a<m++b<->l<m\/(l=m/\a<b))
 |[],[],a,b,_=>by simp
 |[],_::_,_,_,h=>by simp at h
 |_::_,[],_,_,h=>by simp at h
 |x::l,y::m,a,b,h=>by
  rw[List.cons_append,List.cons_append,ZV,ZV,xY a b (by simpa using h)];constructor
  ·rintro(z|⟨z,u|⟨u,v⟩⟩)
   ·exact .inl (.inl z)
   ·exact .inl (.inr ⟨z,u⟩)
   ·exact .inr ⟨by rw[z,u],v⟩
  ·rintro((z|⟨z,u⟩)|⟨z,v⟩)
   ·exact .inl z
   ·exact .inr ⟨z,.inl u⟩
   ·obtain⟨c,d⟩:=List.cons.inj z;exact .inr ⟨c,.inr ⟨d,v⟩⟩
structure a_(prog:ag)(w:aj) where
 is:ao->aa->List (List Int)->Prop
 lvl:Nat
 keep:∀{h h':ao}{v:aa}{l:List (List Int)},(∀b o,h.get? b=some o->o.cls=.type "tuple"->h'.get? b=some o)->is h v l->is h' v l
 len:∀{h h':ao}{u v:aa}{l m:List (List Int)},is h u l->is h' v m->l.length=m.length
 uniq:∀{h:ao}{v:aa}{l m:List (List Int)},is h v l->is h v m->l=m
 eqB:∀{A:aq}{E:aa->ae->Prop}{s:ae}{u v:aa}{l m:List (List Int)}{Q:Bool->ae->Prop},A.units+lvl<cLine->is s.heap u l->is s.heap v m->Q (decide (l=m)) s->ah (ai prog w) A (eqBool u v) Q E s
 lt:∀{A:aq}{E:aa->ae->Prop}{s:ae}{u v:aa}{l m:List (List Int)}{Q:aa->ae->Prop},A.units+lvl<cLine->is s.heap u l->is s.heap v m->Q (.bool (decide (l<m))) s->ah (ai prog w) A (richCompare .Lt u v) Q E s
theorem KO(a b:List Int):decide ([a]=[b])=decide (a=b):=by simp
theorem Cm(a b:List Int):decide ([a]<[b])=decide (a<b):=by rw[Ym,ZV];simp
def tM(k:Bool):a_ prog w where
 is _ v l:=∃x,l=[x]/\mf k v x
 lvl:=0
 keep:=λ_ h=>h
 len:=λ⟨_,e,_⟩ ⟨_,a,_⟩=>by rw[e,a];rfl
 uniq:=λ⟨_,e,h⟩ ⟨_,a,b⟩=>by rw[e,a,h.uniq b]
 eqB:=λ_ ⟨_,e,h⟩ ⟨_,a,b⟩ q=>by
  subst e a;rw[KO]at q;exact xK8 h b q
 lt:=λ_ ⟨_,e,h⟩ ⟨_,a,b⟩ q=>by
  subst e a;rw[Cm]at q;cases h with
  |int i t=>
   cases b with
   |int j u=>
    have e:decide ([i]<[j])=decide (i<j):=by rw[Ym,ZV];simp
    rw[e]at q;exact wpAny_lt_int q
  |str x t=>
   cases b with
   |str y u=>
    have e:decide (x.cps.toList.map Int.ofNat<y.cps.toList.map Int.ofNat)=decide (x.cps.toList<y.cps.toList):=by rw[Ym];exact Ft
    rw[e]at q;exact PySem.P.lt_str q
inductive gJ(h:ao):List (a_ prog w)->List aa->List (List Int)->Prop
 |nil:gJ h [] [] []
 |cons {k:a_ prog w}{v:aa}{l:List (List Int)}{ks:List (a_ prog w)}{vs:List aa}{ls:List (List Int)}(x:k.is h v l) (r:gJ h ks vs ls):gJ h (k::ks) (v::vs) (l++ls)
theorem gJ.keep{h h':ao}(d:∀b o,h.get? b=some o->o.cls=.type "tuple"->h'.get? b=some o):∀{c:List (a_ prog w)}{a:List aa}{l:List (List Int)},gJ h c a l->gJ h' c a l
 |_,_,_,.nil=>.nil
 |k::_,_,_,.cons x r=>.cons (k.keep d x) (r.keep d)
theorem gJ.len{h h':ao}:∀{a:List (a_ prog w)}{c b:List aa}{l m:List (List Int)},gJ h a c l->gJ h' a b m->l.length=m.length
 |_,_,_,_,_,.nil,.nil=>rfl
 |k::_,_,_,_,_,.cons x r,.cons f d=>by rw[Zn,Zn,k.len x f,r.len d]
theorem gJ.uniq{h:ao}:∀{b:List (a_ prog w)}{a:List aa}{l m:List (List Int)},gJ h b a l->gJ h b a m->l=m
 |_,_,_,_,.nil,.nil=>rfl
 |k::_,_,_,_,.cons x r,.cons d c=>by rw[k.uniq x d,r.uniq c]
theorem gJ.size{h:ao}:∀{a:List (a_ prog w)}{b:List aa}{l:List (List Int)},gJ h a b l->b.length=a.length
 |_,_,_,.nil=>rfl
 |_::_,_,_,.cons _ r=>by rw[Zz,Zz,r.size]
def d_(c:List (a_ prog w))(h:ao)(v:aa)(l:List (List Int)):Prop:=∃a o b n,v=.ref a/\h.get? a=some o/\o.cls=.type "tuple" /\ o.data=.seq b n/\gJ h c b.toList l
theorem d_.keep{c:List (a_ prog w)}{h h':ao}{v:aa}{l:List (List Int)}(f:∀b o,h.get? b=some o->o.cls=.type "tuple"->h'.get? b=some o)(x:d_ c h v l):d_ c h' v l:=by
 obtain⟨a,o,i,n,rfl,g,d,k,j⟩:=x;exact⟨a,o,i,n,rfl,f _ _ g d,d,k,j.keep f⟩
theorem d_.uniq{d:List (a_ prog w)}{h:ao}{v:aa}{l m:List (List Int)}(x:d_ d h v l)(y:d_ d h v m):l=m:=by
 obtain⟨a,o,t,n,rfl,i,B,f,j⟩:=x;obtain⟨q,C,u,p,g,c,r,b,k⟩:=y;cases g;rw[i]at c;cases c;rw[f]at b;cases b;exact j.uniq k
theorem Ux{n:List (a_ prog w)}{L:Nat}(W:∀k∈n,k.lvl<=L)(Y:A.units+L<cLine){l m:List (List Int)}{a b:af}{P:Fin->ae->Prop}(hx:d_ n s.heap (.ref a) l)(hy:d_ n s.heap (.ref b) m)(h:P (.done (.ret (.bool (decide (l=m))))) s):
  ah (ai prog w) A (Builtin.«tuple.__eq__» ⟨[.ref a,.ref b],[]⟩) P E s:=by
 obtain⟨a',oa,i,na,ea,Jx,_,JP,O⟩:=hx;obtain⟨b',ob,D,nb,eb,T,JR,kO,Q⟩:=hy;cases ea;cases eb;have U:s.TypeIs (.ref b) "tuple":=⟨ob,T,JR⟩;have G:i.size=D.size:=by have:=O.size;have:=Q.size;simp at *;lia
 show ah _ _ (isInstance (.ref b) (.type "tuple") >>= _) _ _ s;refine Za (Wo U isSubtype_tuple_tuple ?_);simp only[YJ,Zs,ZU];refine Za (WH Jx JP ?_);refine Za (WH T kO ?_);refine Za ?_;refine Wn _
  (λc r p=>r.1=none/\p=s/\∃(f:List (a_ prog w))(j F:List aa)(g t:List (List Int)),c=List.zip j F/\(∀k∈f,k.lvl<=L)/\gJ s.heap f j g/\gJ s.heap f F t/\decide (g=t)=decide (l=m))
  _ ?_ ?_ _ _ ⟨rfl,rfl,n,i.toList,D.toList,l,m,rfl,W,O,Q,rfl⟩
 ·rintro⟨u,v⟩ c r p ⟨J,rfl,f,j,F,g,t,d,H,K,C,B⟩;cases K with
  |nil=>simp at d
  |@cons k u' x X tS ls S N=>
   cases C with
   |@cons _ v' y _ V ms M R=>
    simp only[XT,YX,VF]at d;obtain⟨⟨rfl,rfl⟩,rfl⟩:=d;have j9:=k.len S M;refine Za (k.eqB (by have:=H k (by simp);exact Fl this Y) S M ?_);by_cases I:x=y
    ·subst I;rw[Zh rfl];simp only[YJ,Zs,ZU];refine Zc ⟨rfl,rfl,X,tS,V,ls,ms,rfl,λq hq=>H q (by simp[hq]),N,R,?_⟩;rw[<- B,Ym,List.append_cancel_left_eq]
    ·rw[Zi I];simp only[WN,YR];have Z:decide (l=m)=false:=by rw[<- B];exact Zi λz=>I (List.append_inj_left z j9)
     rw[Z]at h;exact Za (Zc (Zc (Zc h)))
 ·rintro⟨N,R⟩ p ⟨J,rfl,f,j,F,g,t,d,H,K,C,B⟩;simp only at J;subst J;refine Zc ?_;have vv:(i.size==D.size)=decide (l=m):=by
   rw[<- B];cases K with
   |nil=>cases C;simp[G]
   |cons _ _=>cases C with|cons _ _=>simp at d
  show P (.done (.ret (.bool (i.size==D.size)))) p;rw[vv];exact h
theorem Uw{p:List (a_ prog w)}{L:Nat}(X:∀k∈p,k.lvl<=L)(R:A.units+L<cLine){l m:List (List Int)}{a b:af}{P:Fin->ae->Prop}(hx:d_ p s.heap (.ref a) l)(hy:d_ p s.heap (.ref b) m)(h:P (.done (.ret (.bool (decide (l<m))))) s):
  ah (ai prog w) A (Builtin.«tuple.__lt__» ⟨[.ref a,.ref b],[]⟩) P E s:=by
 obtain⟨a',oa,i,na,ea,Jx,_,JP,Q⟩:=hx;obtain⟨b',ob,F,nb,eb,U,JR,kO,S⟩:=hy;cases ea;cases eb;have V:s.TypeIs (.ref b) "tuple":=⟨ob,U,JR⟩;have H:i.size=F.size:=by have:=Q.size;have:=S.size;simp at *;lia
 show ah _ _ (isInstance (.ref b) (.type "tuple") >>= _) _ _ s;refine Za (Wo V isSubtype_tuple_tuple ?_);simp only[YJ,Zs,ZU];refine Za (WH Jx JP ?_);refine Za (WH U kO ?_);refine Za ?_;refine Wn _
  (λc r t=>r.1=none/\t=s/\∃(f:List (a_ prog w))(n G:List aa)(g B:List (List Int)),c=List.zip n G/\(∀k∈f,k.lvl<=L)/\gJ s.heap f n g/\gJ s.heap f G B/\decide (g<B)=decide (l<m))
  _ ?_ ?_ _ _ ⟨rfl,rfl,p,i.toList,F.toList,l,m,rfl,X,Q,S,rfl⟩
 ·rintro⟨u,v⟩ c r t ⟨K,rfl,f,n,G,g,B,d,j,M,D,C⟩;cases M with
  |nil=>simp at d
  |@cons k u' x Y tS ls N O=>
   cases D with
   |@cons _ v' y _ W ms I T=>
    simp only[XT,YX,VF]at d;obtain⟨⟨rfl,rfl⟩,rfl⟩:=d;have j9:=k.len N I;refine Za (k.eqB (by have:=j k (by simp);exact Fl this R) N I ?_);by_cases J:x=y
    ·subst J;rw[Zh rfl];simp only[YJ,Zs,ZU];refine Zc ⟨rfl,rfl,Y,tS,W,ls,ms,rfl,λq hq=>j q (by simp[hq]),O,T,?_⟩;rw[<- C,Ym,xY _ _ rfl];simp[Wl]
    ·rw[Zi J];simp only[WN,YR];have Z:decide (x<y)=decide (l<m):=by rw[<- C,Ym,xY _ _ j9];simp[J]
     rw[<- Z]at h;refine Za (Xf (Za (k.lt (by have:=j k (by simp);exact Fl this R) N I ?_)));exact Za (Zc (Zc (Zc h)))
 ·rintro⟨O,T⟩ t ⟨K,rfl,f,n,G,g,B,d,j,M,D,C⟩;simp only at K;subst K;refine Zc ?_;have vv:decide (i.size<F.size)=decide (l<m):=by
   rw[<- C];cases M with
   |nil=>cases D;simp[H]
   |cons _ _=>cases D with|cons _ _=>simp at d
  show P (.done (.ret (.bool (decide (i.size<F.size))))) t;rw[vv];exact h
theorem d_.typeIs{b:List (a_ prog w)}{l:List (List Int)}{a:af}(x:d_ b s.heap (.ref a) l):s.TypeIs (.ref a) "tuple":=by
 obtain⟨f,o,_,_,e,c,d,_⟩:=x;cases e;exact⟨o,c,d⟩
def FI(j:List (a_ prog w))(L:Nat)(i:∀k∈j,k.lvl<=L):a_ prog w where
 is:=d_ j
 lvl:=L+1
 keep:=λp x=>x.keep p
 len:=λ⟨_,_,_,_,_,_,_,_,e⟩ ⟨_,_,_,_,_,_,_,_,n⟩=>e.len n
 uniq:=d_.uniq
 eqB:=λ{A E s u v l m Q} f c d h=>by
  obtain⟨a,rfl⟩:∃a,u=.ref a:=let ⟨a,_,_,_,e,_⟩:=c;⟨a,e⟩;obtain⟨b,rfl⟩:∃a,v=.ref a:=let ⟨a,_,_,_,e,_⟩:=d;⟨a,e⟩;unfold eqBool
  try with_reducible refine Yg ?_
  by_cases g:(Value.ref a==Value.ref b)=true
  ·rw[Zr g];have e:a=b:=by have:=eq_of_beq g;injection this
   subst e;obtain rfl:=c.uniq d;exact Za (Xf (Zc (by simpa using h)))
  ·rw[Zl g];exact Za (wpAny_richCompare_same_room (op:=.Eq) c.typeIs d.typeIs F.slot_tuple_eq
    (Yj F.slot_tuple_eq c.typeIs F.entry_tuple_eq (Ux i (by show A.units+1+L<cLine;exact LB f) c d ⟨_,rfl,(λe=>nomatch e),Z9 h⟩) (F.args_tuple_eq_2 _ _)) (dJ f))
 lt:=λ{A E s u v l m Q} f c d h=>by
  obtain⟨a,rfl⟩:∃a,u=.ref a:=let ⟨a,_,_,_,e,_⟩:=c;⟨a,e⟩;obtain⟨b,rfl⟩:∃a,v=.ref a:=let ⟨a,_,_,_,e,_⟩:=d;⟨a,e⟩;exact wpAny_richCompare_same_room (op:=.Lt) c.typeIs d.typeIs F.slot_tuple_lt
   (Yj F.slot_tuple_lt c.typeIs F.entry_tuple_lt (Uw i (by show A.units+1+L<cLine;exact LB f) c d ⟨_,rfl,(λe=>nomatch e),h⟩) (F.args_tuple_lt_2 _ _)) (dJ f)
open Classical in
noncomputable def qE{prog:ag}{w:aj}(κ:a_ prog w)(h:ao):KeyKind where
 α:=List (List Int)
 blt a b:=decide (a<b)
 irrefl a:=by simpa using Wl a
 trans a b c h1 h2:=by simp only[Wc]at *;exact List.lt_trans h1 h2
 negTrans a b c h:=by
  simp only[Wc]at *;by_cases d:a<b
  ·exact .inl d
  ·exact .inr (List.lt_of_le_of_lt (VE.mp d) h)
 total a b h1 h2:=by simp only[decide_eq_false_iff_not]at *;exact List.le_antisymm (VE.mp h2) (VE.mp h1)
 keyOf v:=if e:∃l,κ.is h v l then some e.choose else none
 dflt:=[]
section
variable{κ:a_ prog w}
open Classical in
theorem EX{h:ao}{v:aa}{l:List (List Int)}(x:κ.is h v l):(qE κ h).keyOf v=some l:=by
 have e:∃l,κ.is h v l:=⟨l,x⟩;show(if e:∃l,κ.is h v l then some e.choose else none)=some l;rw[dif_pos e,κ.uniq e.choose_spec x]
open Classical in
theorem MI{h:ao}{v:aa}{l:List (List Int)}(x:(qE κ h).keyOf v=some l):κ.is h v l:=by
 by_cases e:∃l,κ.is h v l
 ·have:=EX e.choose_spec;rw[this]at x;cases x;exact e.choose_spec
 ·have:(qE κ h).keyOf v=none:=by
   show(if e:∃l,κ.is h v l then some e.choose else none)=none;rw[dif_neg e]
  rw[this]at x;cases x
structure Ey(κ:a_ prog w)(kd:SortKind):Prop where
 kind:∀{A:aq}{E:aa->ae->Prop}{s:ae}{vs:List aa}{Q:SortKind->ae->Prop},vs≠[]->(∀v∈vs,∃l,κ.is s.heap v l)->Q kd s->ah (ai prog w) A (keyKind' vs.toArray) Q E s
 klt:∀{A:aq}{s:ae},A.units+κ.lvl<cLine->nq prog w A s (qE κ s.heap) kd
def rW(k:Bool):aa:=if k then .type "str"else .type "int"
theorem Tf{k:Bool}{u:aa}{l:List Int}(h:mf k u l):typeOf u=pure (rW k):=by cases h<;>rfl
theorem Pd{k:Bool}:∀{us:List aa},(∀u∈us,∃l,mf k u l)->us.mapM typeOf=pure (us.map λ_=>rW k)
 |[],_=>by simp
 |u::us,h=>by
  rw[List.mapM_cons,Pd (us:=us) λq a=>h q (by simp[a])];obtain⟨l,b⟩:=h u (by simp);rw[Tf b];simp
theorem Uv{k:Bool}{us:List aa}(h0:us≠[])(h:∀u∈us,∃l,mf k u l):oneTypeOnly' us.toArray=pure (some (rW k)):=by
 rw[oneTypeOnly'_eq,List.mapM_toArray,Pd h];simp only[map_pure,W3];cases us with
 |nil=>exact absurd rfl h0
 |cons u us=>
  have b:((u::us).map λ_=>rW k).toArray[0]?=some (rW k):=by simp
  have a:(((u::us).map λ_=>rW k).toArray.all λx=>x==rW k)=true:=by
   simp only[List.all_toArray,Vp,Z8];intro _ _;cases k<;>rfl
  rw[b];simp only[a,YR]
theorem Pc{k:Bool}{r:List (a_ prog w)}{A:aq}{E:aa->ae->Prop}{s:ae}:∀{c:List aa}{Q:List (Option aa)->ae->Prop},(∀v∈c,∃l,d_ (tM k::r) s.heap v l)->(∀b:List aa,b.length=c.length->(∀u∈b,∃l,mf k u l)->Q (b.map some) s)->ah (ai prog w) A (c.mapM firstOfTuple') Q E s
 |[],Q,_,h=>by rw[List.mapM_nil];exact Zc (h [] rfl (by simp))
 |v::c,Q,g,h=>by
  rw[List.mapM_cons];obtain⟨l,a,o,p,n,rfl,j,t,C,i⟩:=g v (by simp);refine Za (m:=firstOfTuple' (.ref a)) (Za (VO (T:= "tuple") ⟨o,j,t⟩ ?_));rw[Zl (by simp)];refine Za (listItems_at j C (Zc (Za (Pc (λu d=>g u (by simp[d])) λb B d=>Zc ?_))));generalize F:p.toList=G at i;cases i with
  |@cons _ u l _ _ _ f _=>
   have y:p[0]?=some u:=by rw[<- Z5,F];rfl
   rw[y];refine h (u::b) (by simp[B]) λq D=>?_;rcases ZD.mp D with rfl|z
   ·obtain⟨x,_,f⟩:=f;exact⟨x,f⟩
   ·exact d q z
theorem zr{k:Bool}{S:List (a_ prog w)}{L:Nat}(Y:∀q∈tM k::S,q.lvl<=L):Ey (FI (tM k::S) L Y) (tuples' true) where
 kind:=λ{A E s f Q} V hv h=>by
  rw[keyKind'_eq,List.mapM_toArray];simp only[bind_map_left];refine Za (Pc hv λc d t=>?_);rw[Zr (by simp)];refine Za (Xf ?_);have e:(c.map some).toArray.filterMap id=c.toArray:=by
   rw[List.filterMap_toArray];congr 1;rw[List.filterMap_map];exact List.filterMap_some
  have h1:c≠[]:=λz=>V (XJ.mp (by rw[<- d,z];rfl));rw[e,Uv h1 t];simp only[W3];have B:((some (rW k)).any λx=>x != Value.type "tuple")=true:=by cases k<;>rfl
  rw[B];exact Zc h
 klt:=λ{A s} t E x y (a:List (List Int)) (b:List (List Int)) Q ha hb H=>by
  obtain⟨p,o,xs,n,rfl,e1,B,e3,Z⟩:=MI ha;obtain⟨p',o',fg,n',rfl,f1,f2,f3,f4⟩:=MI hb;have H:Q (decide (a<b)) s:=H;have O:xs.size=fg.size:=by have:=Z.size;have:=f4.size;simp at *;lia
  have t:A.units+(L+1)<cLine:=t;refine Za (listItems_at e1 e3 ?_);refine Za (listItems_at f1 f3 ?_);have go:∀(g:List (a_ prog w))(f c:List aa)(i:Nat)(l m:List (List Int)),(∀q∈g,q.lvl<=L)->(i=0->g=tM k::S)->gJ s.heap g f l->gJ s.heap g c m->∀(F:(aa×aa)×Nat->Option Bool×Unit->Sem (ForInStep (Option Bool×Unit)))(R:Option Bool×Unit->ae->Prop),
    (∀(κ:a_ prog w) p q j x y K,κ.lvl<=L->(j=0->κ=tM k)->κ.is s.heap p x->κ.is s.heap q y->(if x=y then K (.yield (none,())) s else K (.done (some (decide (x<y)),())) s)->ah (ai prog w) A (F ((p,q),j) (none,())) K E s) ->
    (∀r,(r=(some (decide (l<m)),())\/(r=(none,())/\decide (l<m)=false))->R r s)->ah (ai prog w) A (forIn ((f.zip c).zipIdx i) (none,()) F) R E s:=by
   intro g
   induction g with
   |nil=>
    intro f c i l m _ _ d T F R P J;cases d;cases T;rw[List.zip_nil_left,List.zipIdx_nil,List.forIn_nil];exact Zc (J _ (.inr ⟨rfl,by simp⟩))
   |cons q g ih=>
    intro f c i l m RE V d T F R P J;cases d with
    |@cons _ v x _ f M U r1=>
    cases T with
    |@cons _ u y _ c N X r2=>
     have j9:=q.len U X;rw[XT,List.zipIdx_cons,Vc];refine Za (P q _ _ _ _ _ _ (RE q (by simp)) (λz=>(List.cons.inj (V z)).1) U X ?_);by_cases e:x=y
     ·rw[Zr e];dsimp only;refine ih f c (i+1) M N (λr D=>RE r (by simp[D])) (λz=>by lia) r1 r2 F R P λr D=>J r ?_;have B:decide (x++M<y++N)=decide (M<N):=by
       rw[Ym,xY _ _ j9,e];simp[Wl]
      rw[B];exact D
     ·rw[Zl e];dsimp only;refine Zc (J _ (.inl ?_));have B:decide (x++M<y++N)=decide (x<y):=by
       rw[Ym,xY _ _ j9];simp[e]
      rw[B]
  refine Za (go _ _ _ 0 a b Y (λ_=>rfl) Z f4 _ _ (λκ p q j x y K d hj I G C=>?_) λr D=>?_)
  ·dsimp only;refine Za (κ.eqB (Na d t) I G ?_);by_cases e:x=y
   ·rw[Zr e]at C;rw[Zh e];exact Zc C
   ·rw[Zl e]at C;rw[Zi e];refine Za ?_;by_cases W:j=0
    ·have:=hj W;subst this;subst W;obtain⟨U,rfl,I⟩:=I;obtain⟨y1,rfl,G⟩:=G;rw[Cm]at C;exact Uy I G (Zc C)
    ·have e5:(true&&j==0)=false:=by simp[W]
     rw[e5];show ah (ai prog w) A (oneLt' false p q) _ E s;rw[oneLt'_eq];simp only[Zs,ZU,W3];exact Za (κ.lt (Na d t) I G (Z9 (Zc C)))
  ·rcases D with rfl|⟨rfl,e⟩
   ·exact Zc H
   ·rw[e]at H;refine Zc ?_;simpa[O]using H
def pL(κ:a_ prog w)(h:ao)(a:List aa):Prop:=a.Pairwise λu v=>∀l m,κ.is h u l->κ.is h v m->¬m<l
theorem xP5{c:List aa}{h:ao}{xs:Array Keyed}(y:∀v∈c,∃l,κ.is h v l)(n:xs.Perm (pairsOf c))(hs:SortedToK (qE κ h) xs (pairsOf c).size):
  (xs.map (·.2)).toList.Perm c/\pL κ h (xs.map (·.2)).toList:=by
 have d:xs.toList.Perm (c.zip c):=by rw[<- pairsOf_toList];exact Wj.mp n
 have g:∀p,p∈xs.toList->p.1=p.2/\p.1∈c:=λp q=>mem_zip_self (d.mem_iff.mp q);constructor
 ·rw[Array.toList_map];have z:=d.map Prod.snd
  rwa [VN (Zb _)]at z
 ·refine YY.mpr λi j t s x l m d u=>?_;have f:i<xs.size:=by simpa using t
  have k:j<xs.size:=by simpa using s
  have z:=hs i j (Yt x) (by rw[<- n.size_eq];exact k);have r:∀(i:Nat)(f:i<xs.size) l,κ.is h xs[i].2 l->KK (qE κ h) xs i=l:=λi f l d=>by
   have a:=(g xs[i] (by simp)).1;have b:κ.is h xs[i].1 l:=by rw[a];exact d
   rw[pN f];unfold kv;rw[EX b];rfl
  rw[r i f l (by simpa using d),r j k m (by simpa using u)]at z;exact Yx z
theorem Te{kd:SortKind}(F:Ey κ kd)(T:A.units+κ.lvl<cLine){p:af}{f:List aa}{n:Nat}{P:Fin->ae->Prop}(i:s.heap.get? p=some (seqObj "list" f.toArray n))(O:∀v∈f,∃l,κ.is s.heap v l)(t:f.length<=sizeLine)
  (h:∀g:Array aa,g.toList.Perm f->pL κ s.heap g.toList->P (.done (.ret .none)) {s with heap:=sortedHeap s.heap p f g}):
  ah (ai prog w) A (Builtin.«list.sort» ⟨[.ref p],[]⟩) P E s:=by
 have lt:=Zj i;obtain⟨M,H⟩:∃c,(s.heap.update p (Obj.mapSeq λ_=>#[])).get? p=some (seqObj "list" #[] c):=⟨_,get?_update_seq i (λ_=>#[])⟩;have S:∀b o,b≠p->s.heap.get? b=some o->(((s.heap.update p (Obj.mapSeq λ_=>#[])).push (seqObj "tuple" f.toArray 0)).push (seqObj "list" #[] 0)).get? b=some o:=λb o hb q=>by
  have I:=Zj q;rw[WU _ _ _ (by rw[size_push',W6];exact ZC (Yc I)),WU _ _ _ (by rw[W6];exact ZC I),Heap.get?_update_ne _ _ _ _ hb];exact q
 have r:(((s.heap.update p (Obj.mapSeq λ_=>#[])).push (seqObj "tuple" f.toArray 0)).push (seqObj "list" #[] 0)).get? p=some (seqObj "list" #[] M):=by
  rw[WU _ _ _ (by rw[size_push',W6];exact ZC (Yc lt)),WU _ _ _ (by rw[W6];exact ZC lt)];exact H
 have G:∀b o,s.heap.get? b=some o->o.cls=.type "tuple"->(((s.heap.update p (Obj.mapSeq λ_=>#[])).push (seqObj "tuple" f.toArray 0)).push (seqObj "list" #[] 0)).get? b=some o:=λb o q c=>S b o (by rintro rfl;rw[i]at q;cases q;simp at c) q;rw[list_sort_plain];refine Za (listItems_at i rfl (Za (listUpdate_at i rfl (Za (seqEpoch_at H rfl (Za (wpAny_newTuple (Za (wpAny_newList (Yg ?_) (Zt _))) (by simpa using t))))) (by simpa using t) (Zt _))));have u:∀D g,(∀b o,s.heap.get? b=some o->o.cls=.type "tuple"->D.get? b=some o)->g.toList.Perm f->pL κ D g.toList->P (.done (.ret .none)) {s with heap:=sortedHeap s.heap p f g}:=λD g K k C=>h g k (List.Pairwise.imp (λz l m x y=>z l m (κ.keep K x) (κ.keep K y)) C);have B:∀v∈f,∃l,κ.is (((s.heap.update p (Obj.mapSeq λ_=>#[])).push (seqObj "tuple" f.toArray 0)).push (seqObj "list" #[] 0)) v l:=λv q=>by
  obtain⟨l,x⟩:=O v q;exact⟨l,κ.keep G x⟩
 dsimp only;by_cases d:f.toArray.size<2
 ·rw[Zr d,Zr d];refine Za (Zc ?_);rw[StateT.run_pure];refine Za (Zc ?_);dsimp only;have e:(f.toArray.zip f.toArray).map (·.2)=f.toArray:=by
   apply Array.toList_inj.mp;simp[VN]
  refine Za (seqEpoch_at r rfl (Za (listUpdate_at r rfl ?_ (Zt _) (by show((f.toArray.zip f.toArray).map (·.2)).size<=_;rw[e];simp;exact tj t))));simp only[bne_self_eq_false,Zs,ZU];refine Zc ?_;rw[e];refine h _ (by simp) ?_;have:f.length<2:=by simpa using d
  match f,this with
  |[],_=>exact List.Pairwise.nil
  |[x],_=>exact WJ _ _
  |_::_::_,z=>simp at z;lia
 ·rw[Zl d,Zl d];refine Za (F.kind (λz=>d (by rw[z];decide)) B ?_);generalize L:((s.heap.update p (Obj.mapSeq λ_=>#[])).push (seqObj "tuple" f.toArray 0)).push (seqObj "list" #[] 0)=h1 at *;have V:KeysOf (qE κ h1) (pairsOf f):=λq J=>by
   rw[pairsOf_toList]at J;obtain⟨l,x⟩:=B _ (mem_zip_self J).2;exact⟨l,EX x⟩
  refine Za (Yw (qF5 (κ:=qE κ h1) (kd:=kd) (a₀:=pairsOf f) (st:=SortSt.mk' kd (f.toArray.zip f.toArray) #[] 7 none)
   (Q:=λ_ j=>(arrOf j).Perm (pairsOf f)/\failedOf j=none/\SortedToK (qE κ h1) (arrOf j) (pairsOf f).size)
   (F.klt (s:={s with heap:=h1}) T) V ⟨Array.Perm.refl _,rfl,rfl,rfl⟩ λj a b c=>⟨a,b,c⟩) ?_ λ_ _ e=>e)
  rintro⟨⟨⟩,j⟩ W ⟨rfl,R,U,N⟩;dsimp only;obtain⟨k,C⟩:=xP5 B R N;refine Za (seqEpoch_at r rfl (Za (listUpdate_at r rfl ?_ (Zt _) ?_)))
  ·rw[U];simp only[bne_self_eq_false,Zs,ZU];refine Zc ?_;subst L;exact u _ _ G k C
  ·refine Zw (Vl ?_) (Nat.le_succ_of_le t);have:=k.length_eq;rw[ZP]at this;exact this
theorem Uu{kd:SortKind}(r:Ey κ kd)(C:A.units+3+κ.lvl<cLine){x:aa}{Pv:List aa->Prop}{Q:aa->ae->Prop}(g:∀a,Pv a->(∀v∈a,∃l,κ.is s.heap v l)/\a.length<=sizeLine)
  (hc:∀k:List aa->ae->Prop,(∀(a:List aa)(n:ao)(f:Nat)(d:Drawn),Pv a->(∀b o,s.heap.get? b=some o->n.get? b=some o)->k a {s with heap:=n,drawn:=d,toks:=f})->ah (ai prog w) A.in1 (collect x) k E s)
  (h:∀(a:List aa)(out:Array aa)(h1 h2:ao)(f:Nat)(d:Drawn)(c:Nat),Pv a->(∀b o,s.heap.get? b=some o->h1.get? b=some o)->(∀b o,h1.get? b=some o->h2.get? b=some o)->h2.get? h1.objs.size=some (seqObj "list" out c)->out.toList.Perm a->pL κ s.heap out.toList->Q (.ref h1.objs.size) {s with heap:=h2,drawn:=d,toks:=f}):
  ah (ai prog w) A (call (.builtin "sorted") [x]) Q E s:=by
 refine Calls.call_function_entry kind_sorted plain_sorted entry_sorted (args_sorted1 _) ?_;unfold Builtin.«sorted»;refine Za (m:=checkCount "sorted" 1 1 _) (Zc (Za (hc _ λa h1 f d pv p=>Za (wpAny_newList ?_ (g a pv).2))));obtain⟨g,t⟩:=g a pv;have j:(h1.push (seqObj "list" a.toArray 0)).get? h1.objs.size=some (seqObj "list" a.toArray 0):=Zm _ rfl;have i:∀b o,s.heap.get? b=some o->(h1.push (seqObj "list" a.toArray 0)).get? b=some o:=λb o e=>Zd _ (p b o e);refine Za (Yg (Yj (s:={s with heap:=h1.push (seqObj "list" a.toArray 0),drawn:=d,toks:=f}) slot_list_sort ⟨_,j,rfl⟩ entry_list_sort (Te r ?_ j (λv q=>(g v q).imp λ_ z=>κ.keep (λb o e _=>i b o e) z) t λout B u=>⟨_,rfl,Zc ⟨_,rfl,?_⟩⟩) (args_list_sort _)))
 ·show A.units+1+1+κ.lvl<cLine;lia
 ·obtain⟨c,hc⟩:=sortedHeap_at (out:=out) j;refine h a out h1 _ f d c pv p (λb o e=>?_) hc B (List.Pairwise.imp (λz l m x y=>z l m (κ.keep (λb o e _=>i b o e) x) (κ.keep (λb o e _=>i b o e) y)) u);have lt:=Zj e;rw[sortedHeap_old (ZC lt) (by rw[size_push'];exact Yc lt)];exact Zd _ e
end
end PyProof.Rows
namespace L2
open PySem PySem.Spec PyProof.Rows
theorem xc7:∀{d c:List aa},c.Perm d->∀{a:List V},Vals a d->∃b,Vals b c/\b.Perm a:=by
 intro d c p
 induction p with
 |nil=>intro a r;exact⟨a,r,.refl _⟩
 |cons u p f=>
  intro a r;cases r with
  |cons h r=>
   obtain⟨b,n,w⟩:=f r;exact⟨_::b,.cons h n,w.cons _⟩
 |swap u v l=>
  intro a r;cases r with
  |cons h r=>
   cases r with
   |cons h2 r=>exact⟨_::_::_,.cons h2 (.cons h r),List.Perm.swap _ _ _⟩
 |trans p q m j=>
  intro a r;obtain⟨x,i,k⟩:=j r;obtain⟨g,t,s⟩:=m i;exact⟨g,t,s.trans k⟩
theorem Oi:∀{b:List V}{a:List aa}{u:aa},Vals b a->u∈a->∃x,x∈b/\RelV x u
 |_,_,u,.nil,h=>by simp at h
 |_,_,u,.cons r c,h=>by
  rcases ZD.mp h with rfl|z
  ·exact⟨_,by simp,r⟩
  ·obtain⟨x,h1,h2⟩:=Oi c z;exact⟨x,by simp[h1],h2⟩
end L2
namespace L2
open PySem PySem.Spec PyProof.Rows PySem.W
theorem Inv.Bd{X:Cx}{a:List (af×az)}{σ:St}{H:Hp}{s:ae}{h':ao}{t':Nat}{d':Drawn}(I:Inv X a σ H s)(k:∀b u,s.heap.get? b=some u->h'.get? b=some u):Inv X a σ H {s with heap:=h',drawn:=d',toks:=t'}:=
 I.call (ch:=[]) (g':=s.gens) (Un.kept k) (I.aQ.kept k) I.bare (λb hb=>nomatch hb)
end L2
namespace L2
open PySem PyProof.Rows
theorem qP9{α f:Type}{R:α->f->Prop}:∀{d c:List α},c.Perm d->∀{a:List f},Paired R d a->∃b,Paired R c b/\b.Perm a:=by
 intro d c p
 induction p with
 |nil=>intro a r;exact⟨a,r,.refl _⟩
 |cons u p g=>
  intro a r;cases r with
  |cons h r=>
   obtain⟨b,s,x⟩:=g r;exact⟨_::b,.cons h s,x.cons _⟩
 |swap u v l=>
  intro a r;cases r with
  |cons h r=>
   cases r with
   |cons h2 r=>exact⟨_::_::_,.cons h2 (.cons h r),List.Perm.swap _ _ _⟩
 |trans p q n k=>
  intro a r;obtain⟨y,j,m⟩:=k r;obtain⟨i,w,t⟩:=n j;exact⟨i,w,t.trans m⟩
theorem Pb{α c:Type}{R:α->c->Prop}:∀{a:List α}{b:List c},a.length=b.length->(∀(i:Nat) u x,a[i]?=some u->b[i]?=some x->R u x)->Paired R a b
 |[],[],_,_=>.nil
 |[],_::_,h,_=>by simp at h
 |_::_,[],h,_=>by simp at h
 |u::a,x::b,h,f=>.cons (f 0 u x rfl rfl) (Pb (by simpa using h) λi y v d g=>f (i+1) y v (by simpa using d) (by simpa using g))
theorem Pa{α b:Type}{R:α->b->Prop}:∀{a:List α}{c:List b},Paired R a c->∀(i:Nat) u,a[i]?=some u->∃x,c[i]?=some x/\R u x
 |_,_,.nil,i,u,h=>by simp at h
 |_,_,.cons h r,0,u,e=>by simp at e;subst e;exact⟨_,rfl,h⟩
 |_,_,.cons h r,i+1,u,e=>by
  obtain⟨x,h1,h2⟩:=Pa r i u (by simpa using e);exact⟨x,by simpa using h1,h2⟩
theorem O_{α c:Type}{R:α->c->Prop}{A:α->α->Prop}{B:c->c->Prop}(h:∀u v x y,R u x->R v y->A u v->B x y):∀{b:List α}{d:List c},Paired R b d->b.Pairwise A->d.Pairwise B
 |_,_,.nil,_=>.nil
 |u::b,x::d,.cons r f,a=>by
  obtain⟨p,m⟩:=Xh.mp a;refine Xh.mpr ⟨λy n=>?_,O_ h f m⟩;obtain⟨i,k,rfl⟩:=ZQ.mp n;have q:=Wt f;have g:i<b.length:=by lia
  obtain⟨z,j,l⟩:=Pa f i b[i] (Ze g);rw[Ze k]at j;cases j;exact h u _ x _ r l (p _ (XH g))
end L2
namespace L2
open PySem PySem.Spec PyProof.Rows PySem.W
section
variable{H:Hp}
def pU(κ:a_ P w)(H:Hp)(v:V)(l:List (List Int)):Prop:=∀(h:ao)(u:aa),dj P w H h->RelV v u->κ.is h u l
theorem Td(x:ar):pU (P:=P) (w:=w) (tM true) H (.str x) [x.cps.toList.map Int.ofNat]:=λh u _ r=>by
 obtain⟨t,rfl⟩:=r;exact⟨_,rfl,.str x t⟩
inductive yQ(H:Hp):List (a_ P w)->List V->List (List Int)->Prop
 |nil:yQ H [] [] []
 |cons {k:a_ P w}{v:V}{l:List (List Int)}{ks:List (a_ P w)}{vs:List V}{ls:List (List Int)}(x:pU k H v l) (r:yQ H ks vs ls):yQ H (k::ks) (v::vs) (l++ls)
theorem yQ.rel{h:ao}(ok:dj P w H h):∀{d:List (a_ P w)}{a:List V}{c:List (List Int)}{b:List aa},yQ H d a c->Vals a b->gJ h d b c
 |_,_,_,_,.nil,.nil=>.nil
 |_,_,_,_,.cons x r,.cons g f=>.cons (x _ _ ok g) (r.rel ok f)
theorem Tb{b:List (a_ P w)}{L:Nat}{i:∀k∈b,k.lvl<=L}{a:af}{xs:List V}{l:List (List Int)}(e:H a=some (.tup xs))(it:yQ H b xs l):pU (FI b L i) H (.ref a) l:=λh u ok r=>by
 cases(show u=Value.ref a from r);obtain⟨_,j,f,o,c,g,n,d⟩:=ok a _ e;exact⟨a,o,_,n,rfl,c,g,d,by simpa using it.rel ok f⟩
def xc(κ:a_ P w)(H:Hp)(a:List V):Prop:=a.Pairwise λu v=>∀l m,pU κ H u l->pU κ H v m->¬m<l
theorem Oh:∀{b:List V}{a:List aa}{x:V},Vals b a->x∈b->∃u,u∈a/\RelV x u
 |_,_,u,.nil,h=>by simp at h
 |_,_,u,.cons r c,h=>by
  rcases ZD.mp h with rfl|z
  ·exact⟨_,by simp,r⟩
  ·obtain⟨x,h1,h2⟩:=Oh c z;exact⟨x,by simp[h1],h2⟩
theorem Mu{κ:a_ P w}{h:ao}(ok:dj P w H h):∀{c:List V}{b:List aa},Vals c b->pL κ h b->xc κ H c
 |_,_,.nil,_=>.nil
 |x::c,u::b,.cons r d,a=>by
  obtain⟨k,f⟩:=Xh.mp a;refine Xh.mpr ⟨λy i l m n tm=>?_,Mu ok d f⟩;obtain⟨v,j,g⟩:=Oh d i;exact k v j l m (n _ _ ok r) (tm _ _ ok g)
end
section
variable{X:Cx}
theorem qM7{κ:a_ X.prog X.w}{kd:SortKind}(J:Ey κ kd){k:Nat}(S:aZ k X.A)(hk:κ.lvl<=20):ft X (.builtin "sorted") (λG H Q=>∃(p:af)(f:List V),G=[.ref p]/\H p=some (.lst f)/\(∀v∈f,∃l,pU κ H v l) /\
  ∀q g,H q=none->g.Perm f->xc κ H g->Q (.ref q) (upd H q (.lst g))):=by
 intro Z s σ H G g Q I r h;obtain⟨p,f,rfl,M,P,q⟩:=h;obtain⟨u,rfl,U⟩:=gO r;cases U;obtain⟨j,L,n,i,N⟩:=I.aQ p _ M;have F:=i.length;have un:=S.units;refine Uu J (by lia) (Pv:=λf=>f=L) (λ_ e=>⟨λv A=>?_,by rw[e];exact oz F j⟩) (λQ' k=>collect_list ⟨_,N,rfl,n,rfl⟩ (k _ _ s.toks s.drawn rfl λb o e=>?_) (oz F j)) λ_ m h1 h2 w d c pv W K O y T=>?_
 ·rw[e]at A;obtain⟨x,Y,R⟩:=Oi i A;obtain⟨l,t⟩:=P x Y;exact⟨l,t _ _ I.aQ R⟩
 ·rw[Heap.get?_update_ne _ _ _ _ (ZC (Zj e))];exact Zd _ e
 ·rw[pv]at y;obtain⟨D,B,E⟩:=xc7 y i;have C:=I.Bd (t':=w) (d':=d) W;exact⟨.ref _,_,C.laid (a:=h1.objs.size) (o:=.lst D) (t':=w) (λb o z=>K b o z) (Zb _) ⟨by rw[E.length_eq];exact j,m.toList,c,B,by simpa using O⟩,rfl,q _ D (C.aQ.fresh (Zb _)) E (Mu I.aQ B T)⟩
end
end L2
namespace PyProof.Rows
open PySem
theorem xP6(a b:Bool):Gives (Builtin.«int.__lt__» ⟨[.bool a,.bool b],[]⟩) (.val (Value.bool (decide ((if a=true then(1:Int)else 0)<(if b=true then(1:Int)else 0))))):=
 .of_wp λM A E s Q h=>by obtain⟨i,g,d,c,f⟩:=s;wp_walk;exact⟨_,rfl,h⟩
def bK(b:Bool):List (List Int):=[[if b=true then 1 else 0]]
def KW{prog:ag}{w:aj}:a_ prog w where
 is _ v l:=∃b,v=.bool b/\l=bK b
 lvl:=0
 keep:=λ_ h=>h
 len:=λ⟨_,_,e⟩ ⟨_,_,a⟩=>by rw[e,a];rfl
 uniq:=λ⟨b,e,h⟩ ⟨c,a,d⟩=>by rw[e]at a;cases a;rw[h,d]
 eqB:=λ{A E s u v l m Q} _ ⟨b,e,h⟩ ⟨c,a,d⟩ q=>by
  subst e a h d;refine SeqAt.EqAt.bool_bool b c _ _ E _ ?_;cases b<;>cases c<;>exact q
 lt:=λ{A E s u v l m Q} _ ⟨b,e,h⟩ ⟨c,a,d⟩ q=>by
  subst e a h d;exact richCompare_gives (op:=.Lt) (T:= "bool") rfl rfl F.slot_bool_lt F.entry_int_lt (F.args_int_lt_2 _ _) (xP6 b c) (λx=>nomatch x) (by cases b<;>cases c<;>exact q)
end PyProof.Rows
namespace L2
open PySem PyProof.Rows
theorem xL0{P:ag}{w:aj}{H:Hp}(b:Bool):pU (P:=P) (w:=w) KW H (.bl b) (bK b):=λh u _ r=>by
 cases(show u=Value.bool b from r);exact⟨b,rfl,rfl⟩
end L2
namespace Pr
open PySem L2 Qf PyProof.Rows
theorem yU(a:List Nat):(txt a).cps.toList.map Int.ofNat=a.map λx:Nat=>((48+x:Nat):Int):=by
 unfold txt;rw[YL]
 rfl
theorem Mt:∀{a b:List Nat},(a.map λx:Nat=>((48+x:Nat):Int))<(b.map λx:Nat=>((48+x:Nat):Int))<->a<b
 |[],[]=>by simp
 |[],_::_=>by simp
 |_::_,[]=>by simp
 |x::a,y::b=>by
  rw[ZG,ZG,ZV,ZV,Mt];constructor
  ·rintro(h|⟨h1,h2⟩)
   ·exact .inl (by lia)
   ·exact .inr ⟨by lia,h2⟩
  ·rintro(h|⟨h1,h2⟩)
   ·exact .inl (by lia)
   ·exact .inr ⟨by lia,h2⟩
theorem xL1{a b:List Int}:[a]<[b]<->a<b:=by rw[ZV];simp
def yg:a_ P w:=FI [tM true,KW] 1 (λk h=>by
 have:k=tM true\/k=KW:=by simpa using h
 rcases this with rfl|rfl<;>exact Zt _)
def DR(e:List Nat×Bool):List (List Int):=[(txt e.1).cps.toList.map Int.ofNat]++(bK e.2++[])
theorem EW{H:Hp}{b:af}{e:List Nat×Bool}(h:H b=some (.tup [.str (txt e.1),.bl e.2])):pU (P:=P) (w:=w) yg H (.ref b) (DR e):=Tb h (.cons (Td _) (.cons (xL0 _) .nil))
theorem xL2{e f:List Nat×Bool}(h:e.1<f.1):DR e<DR f:=by
 unfold DR;refine(xY _ _ (by rfl)).mpr (.inl ?_);rw[Pr.xL1,yU,yU,Mt];exact h
theorem qF7{H:Hp}{us:List V}{bs:List af}{L:List (List Nat×Bool)}(Q:bs.length=L.length)(O:∀(i:Nat) b e,bs[i]?=some b->L[i]?=some e->H b=some (.tup [.str (txt e.1),.bl e.2]))
  (c:(L.map (·.1)).Pairwise (·<·)) (B:us.Perm (bs.map V.ref)) (E:xc (P:=P) (w:=w) yg H us):us=bs.map V.ref:=by
 have j:bs.map V.ref=(bs.zip L).map λz=>V.ref z.1:=by
  rw[show(λz:af×(List Nat×Bool)=>V.ref z.1)=V.ref∘Prod.fst from rfl,<- YL,List.map_fst_zip (by lia)]
 have g:∀z∈bs.zip L,H z.1=some (.tup [.str (txt z.2.1),.bl z.2.2]):=λz g=>by
  obtain⟨i,n⟩:=List.mem_iff_getElem?.mp g;rw[Vx]at n;exact O i _ _ n.1 n.2
 have D:Paired (λ(v:V) (z:af×(List Nat×Bool))=>v=.ref z.1/\z∈bs.zip L) (bs.map V.ref) (bs.zip L):=Pb (by rw[j,Zf]) λi u x h1 h2=>by
  rw[j,Zg,h2]at h1;exact⟨(ZE h1).symm,Zy h2⟩
 obtain⟨Z,r,p⟩:=qP9 B D;have t:(bs.zip L).Pairwise λx y=>x.2.1<y.2.1:=by
  have:((bs.zip L).map λz=>z.2.1)=L.map (·.1):=by
   rw[show(λz:af×(List Nat×Bool)=>z.2.1)=(λe:List Nat×Bool=>e.1)∘Prod.snd from rfl,<- YL,VN (by lia)]
  rw[<- this,List.pairwise_map]at c;exact c
 have h1:Z.Pairwise λx y=>¬y.2.1<x.2.1:=O_ (A:=λu v=>∀l m,pU (P:=P) (w:=w) yg H u l->pU (P:=P) (w:=w) yg H v m->¬m<l) (λu v x y K J h z=>by
  obtain⟨rfl,f⟩:=K;obtain⟨rfl,d⟩:=J;exact h _ _ (EW (g x f)) (EW (g y d)) (xL2 z)) r E
 have I:Z=bs.zip L:=by
  refine List.Perm.eq_of_pairwise (le:=λx y=>¬y.2.1<x.2.1) (λx y f d a b=>?_) h1 (t.imp λ{x y} h z=>Wl _ (List.lt_trans h z)) p;have N:=p.mem_iff.mp f;have F:x.2.1=y.2.1:=List.le_antisymm (VE.mp a) (VE.mp b);by_cases z:x=y
  ·exact z
  ·exfalso;have key:∀(Z:List (af×(List Nat×Bool))),(Z.Pairwise λx y=>x.2.1<y.2.1)->x∈Z->y∈Z->x=y:=λZ=>by
    intro a f d
    induction a with
    |nil=>cases f
    |cons h _ k=>
     rcases ZD.mp f with G|C
     ·rcases ZD.mp d with s|q
      ·rw[G,s]
      ·have:=h y q;rw[<- G,F]at this;exact absurd this (Wl _)
     ·rcases ZD.mp d with s|q
      ·have:=h x C;rw[<- s,F]at this;exact absurd this (Wl _)
      ·exact k C q
   exact z (key _ t N d)
 rw[I]at r;rw[j];clear p h1 I Z t D g j E B c;generalize bs.zip L=Z at r
 suffices h:∀(us:List V)(Z:List (af×(List Nat×Bool)))(R:V->(af×(List Nat×Bool))->Prop),(∀u z,R u z->u=.ref z.1)->Paired R us Z->us=Z.map λz=>V.ref z.1 from h us Z _ (λu z h=>h.1) r
 intro us Z R M r
 induction r with
 |nil=>rfl
 |cons h _ k=>rw[M _ _ h,k];rfl
end Pr
namespace L2
open PySem PySem.Spec PyProof.Rows PySem.W
section
variable{X:Cx}
inductive jr(K_:PySem.W.Frag)(xs:List V)(H:Hp)(Q:VK):Prop
 |mk(a C tp:af)(cs:List af)(b:Bool)(aV:xs=[.ref a,.ref tp])(c7:H a=some (.ext (ExcAt a C)))(cq:dk K_ C)(aP:H tp=some (.tup (cs.map V.ref)))(pV:kitAny K_ (.ref C) (cs.map Value.ref)=some b)(wq:Q (.bl b) H)
theorem xd0:ft X (.builtin "isinstance") (jr X.K):=by
 intro M s S H W c Q I r h;obtain⟨a,C,f,P,b,rfl,t,T,A,F,q⟩:=h;obtain⟨u,y,rfl,E,J⟩:=CL r;cases(show u=Value.ref a from E);cases(show y=Value.ref f from J);have p:ExcAt a C s.heap:=(I.aQ a _ t).1;obtain⟨_,N,m,ob,d,w,n,k⟩:=I.aQ f _ A;have K:∀{l:List af}{c:List aa},Vals (l.map V.ref) c->c=l.map Value.ref:=by
  intro l
  induction l with
  |nil=>intro c z;cases z;rfl
  |cons x l g=>
   intro c z;cases z with
   |cons B v=>
    cases(show _=Value.ref x from B);rw[g v]
    rfl
 have D:=K m;subst D;obtain⟨G,U,j,R⟩:=ob;have i:G=_:=w;have L:j=_:=k;rw[i,L]at d;exact kia_tup (OX T) I.gn p d F (λz=>nomatch z) λO=>⟨.bl b,H,I.tok _,rfl,q⟩
end
end L2
namespace Pr
open PySem L2 Qf
def Fy:List ar:=["shape1","many1"]
theorem MH{H a f:Hp}{d:af}{o:HO}(h:aF H a)(i:a d=none)(g:aF (upd a d o) f):aF H f:=λb u e=>by
 have c:=h b u e;exact g b u (by rw[cK (dv c i)];exact c)
section
variable{c:Nat->af}{FE oA oC oF:af}
theorem nN:aI ["_law_e","_law_some"] ["_law_e"] (bF CI):=dz
inductive y7(c:Nat->af)(x:af)(vs:List V)(H:Hp)(Q:VK):Prop
 |mk(i:Nat)(hi:i<2)(e0:vs=[.ref x])(e1:H x=some (.ext (ExcAt x (c i))))(q:∀H',aF H H'->Q (.str (Fy.getD i "")) H')
def t7(c:Nat->af)(x:af):Cr:=λa H Q=>y7 c x a H Q
theorem xP7{f x:af}{fd:ak}(F:aT K "_law_word" "_law_word" CI f fd)(B:ee mg)(Cc:rV mg)(Jd:mg "sum"=none)(X:Kq K mg c FE oA oC oF):ju P w K mg base 1 x f fd ["_law_e"] (t7 c x):=by
 refine F.okH nN (λvs H Q h=>?_) (λbw A I s H vs Q hr h=>?_)
 ·obtain⟨i,a,rfl,_⟩:=h
  rfl
 ·obtain⟨i,a,rfl,t,q⟩:=h;refine aX ⟨_,⟨dH (PW.pt (iq (kq (gP (cQ mD (by rfl) B.lY ZI (aG (pv 0) (aG (n_ (v:=.ty "ValueError") (by rfl) X.v (by decide +kernel) rfl) aN)))))
   (iX (gP (cQ xd0 (by rfl) B.lY ZI (aG (pv 0) (aG (cg.go ⟨iM (cH.go (.cons ⟨gf (v:=.ref oA) (by rfl) X.a0 rfl⟩ (.cons ⟨gf (v:=.ref oC) (by rfl) X.a1 rfl⟩ (.cons ⟨gf (v:=.ref oF) (by rfl) X.a2 rfl⟩ .nil rfl) rfl) rfl))⟩) aN))))))) (cD (cA mC)) dI⟩,?_⟩
  refine aX ⟨_,⟨c8 1 nN.nd (g_ (aG (cQ mD (by rfl) B.lY ZI (aG (pv 0) (aG (gf (v:=.ref (c 0)) (by rfl) X.n0 rfl) aN)))
    (aG (cQ mD (by rfl) B.lY ZI (aG (pv 0) (aG (gf (v:=.ref (c 1)) (by rfl) X.n1 rfl) aN))) aN)))⟩,?_⟩
  refine gG ⟨_,⟨cA (br G5 (E_ m7 (g_ (aG mC (aG mC (aG mC aN))))
     (qG Z7 PySem.F.slot_list_index PySem.F.type_list_index q51 (br xi (pv 1) (g_ (aG iK aN))) (aG iK aN)) (λ_ _=>rfl))
    (oh N8 (by rfl) Cc.str PyProof.Rows.boot_str (aG (cQ q42 (by rfl) Jd W0 (aG (pv 1) aN)) aN)))⟩,?_⟩
  have J:∀{O:Hp},O x=some (.ext (ExcAt x (c i)))->CB K O (.ref x) (.ref (c i)):=λh=>⟨x,c i,rfl,h,X.ec i a,rfl⟩;have Z:∀j,j<2->PySem.W.kitOne K (.ref (c i)) (.ref (c j))=some (decide (i=j)):=λj hj=>X.kit i j a hj;refine⟨_,rfl,_,_,_,_,_,rfl,rfl,.inr (J t),X.kv i a,true,rfl,bY ?_⟩;refine⟨_,rfl,(by show 3<=sizeLine;decide),λr kS=>?_⟩;have p:=bf (o:=.tup ([oA,oC,oF].map V.ref)) kS;have E:upd H r (.tup ([oA,oC,oF].map V.ref)) r=some (.tup ([oA,oC,oF].map V.ref)):=bg;have g:=p _ _ t;refine(λ(go:∀b,aF H b->b r=some (.tup ([oA,oC,oF].map V.ref))->b x=some (.ext (ExcAt x (c i)))->_)=>go _ p E g) ?_;intro b p E g;refine⟨x,c i,r,_,false,rfl,g,X.ec i a,E,X.any i a,false,rfl,bY ?_⟩;refine⟨_,rfl,_,_,_,_,_,rfl,rfl,.inr (J g),Z 0 (by decide),_,rfl,_,_,_,_,_,rfl,rfl,.inr (J g),Z 1 (by decide),(by show 2<=sizeLine;decide),λl hl=>?_⟩;have S1:=p.trans (bf (o:=.lst [.bl (decide (i=0)),.bl (decide (i=1))]) hl);have BH:upd b l (.lst [.bl (decide (i=0)),.bl (decide (i=1))]) l=some (.lst [.bl (decide (i=0)),.bl (decide (i=1))]):=bg;generalize upd b l (.lst [.bl (decide (i=0)),.bl (decide (i=1))])=H1 at S1 BH;refine⟨by show 3<=sizeLine;decide,λn R=>?_⟩;have S2:=S1.trans (bf (o:=.lst [.str "shape",.str "many",.str "other"]) R);have h2:upd H1 n (.lst [.str "shape",.str "many",.str "other"]) n=some (.lst [.str "shape",.str "many",.str "other"]):=bg;have Y:=cT (u:=.lst [.str "shape",.str "many",.str "other"]) BH R;generalize upd H1 n (.lst [.str "shape",.str "many",.str "other"])=U at S2 h2 Y;refine⟨_,rfl,by show 1<=sizeLine;decide,λy N=>?_⟩;have T:=S2.trans (bf (o:=.lst [.bl true]) N);have W:upd U y (.lst [.bl true]) y=some (.lst [.bl true]):=bg;have L:=cT (u:=.lst [.bl true]) Y N;have S:=cT (u:=.lst [.bl true]) h2 N;generalize upd U y (.lst [.bl true])=H3 at T W L S;refine⟨l,y,_,_,rfl,rfl,L,W,(by show 2+1<=sizeLine;decide),λk D=>?_⟩;have d:=T.trans (bf (o:=.lst ([.bl (decide (i=0)),.bl (decide (i=1))]++[.bl true])) D);have C:upd H3 k (.lst ([.bl (decide (i=0)),.bl (decide (i=1))]++[.bl true])) k=some (.lst (([decide (i=0),decide (i=1),true]:List Bool).map V.bl)):=bg;have G:=cT (u:=.lst ([.bl (decide (i=0)),.bl (decide (i=1))]++[.bl true])) L D;have M:=cT (u:=.lst ([.bl (decide (i=0)),.bl (decide (i=1))]++[.bl true])) S D;generalize upd H3 k (.lst ([.bl (decide (i=0)),.bl (decide (i=1))]++[.bl true]))=H4 at d C G M;refine⟨.inl ⟨rfl,_,cu.of C⟩,?_⟩
  match i,a with
  |0,_=>
   refine⟨k,_,0,rfl,rfl,C,rfl,(λm hm=>by lia),by decide,?_⟩;refine⟨n,_,0,.str "shape",rfl,rfl,cu.of M,n9 (j:=0) rfl,?_⟩;refine⟨_,rfl,l,[true,false],x,c 0,rfl,G,hr.hd,d x _ t,?_⟩;exact⟨_,rfl,by decide +kernel,_,_,rfl,rfl,by decide +kernel,q _ d⟩
  |1,_=>
   refine⟨k,_,1,rfl,rfl,C,rfl,(λm hm=>by rw[show m=0 by lia];rfl),by decide,?_⟩;refine⟨n,_,1,.str "many",rfl,rfl,cu.of M,n9 (j:=1) rfl,?_⟩;refine⟨_,rfl,l,[false,true],x,c 1,rfl,G,hr.hd,d x _ t,?_⟩;exact⟨_,rfl,by decide +kernel,_,_,rfl,rfl,by decide +kernel,q _ d⟩
abbrev nTo:List ar:=["_law_shape_here","_law_told_here","_law_e"]
theorem nO:aI nTo ["_law_shape_here"] (bF xR):=dz
inductive y_(vs:List V)(H:Hp)(Q:VK):Prop
 |good (t:af) (n tp:Nat) (rows:List Row) (e0:vs=[.ref t]) (e1:m6 H t n tp rows) (e2:bV (T rows tp)<=2000) (q:∀H' lp,aF H H'->H lp=none->fy H' lp (bX (T rows tp))->Q (.ref lp) H')
 |shape (v:V) (d:PyData) (e0:vs=[v]) (e1:bo H v d) (bn:rU d) (h:¬mU d) (q:∀H',aF H H'->Q (.str "shape1") H')
 |many (t:af) (n tp:Nat) (rows:List Row) (e0:vs=[.ref t]) (e1:m6 H t n tp rows) (e2:2000<bV (T rows tp)) (q:∀H',aF H H'->Q (.str "many1") H')
def p9:Sp:=λa H Q _=>y_ a H Q
theorem xP8{f C y:af}{J m B:ak}(F:aT K "_law_told" "_law_told" xR f J)(X:Kq K mg c FE oA oC oF)
  (O:mg "leaves_of"=some (.ref C)) (S:aT K "leaves_of" "leaves_of" Dj C m) (T:Binds K m ["shape"] []) (W:aE P w K mg base (jv P w) 17 C m ["shape"] (ud c))
  (L:mg "_law_word"=some (.ref y)) (FK:aT K "_law_word" "_law_word" CI y B) (bK:Binds K B ["_law_e"] []) (V:∀x,ju P w K mg base 1 x y B ["_law_e"] (t7 c x)):aE P w K mg base aR 18 f J ["_law_shape_here"] p9:=by
 refine F.ok nO (λR H Q E h=>?_) (λbw A u s H R Q E I h=>?_)
 ·cases h with
  |good t n g rows a b j q=>subst a;rfl
  |shape v d a b G h q=>subst a;rfl
  |many t n g rows a b j q=>subst a;rfl
 ·have Z:aZ 1 _:=I.mono (by decide);refine aX ⟨_,⟨c8 1 nO.nd mC⟩,?_⟩;refine aX ⟨_,⟨xH0 (i:=2) (FA:=FE) (tb:=λE=>_) (th:=λx=>_) rfl rfl rfl nO.nd rfl rfl (by rfl) X.fe
   (λj8 E=>cD (c8 1 nO.nd (uI W I (by rfl) O S.kp T .nil (Ue rfl) (aG (pv 0) aN))))
   (λx=>cD (c8 1 nO.nd (W_ (V x) (Z.CT x) (by rfl) L FK.kp bK (aG (pv 2) aN))))⟩,?_⟩
  refine gG ⟨_,⟨cA (pv 1)⟩,?_⟩;cases h with
  |good t n g rows a b j q=>
   subst a;exact⟨_,rfl,.good t n g rows rfl b j λl N k M U=>⟨_,rfl,q l N k M U⟩⟩
  |shape v d a b G h q=>
   subst a;refine⟨_,rfl,.shape v d rfl b G h λl k=>?_⟩;exact⟨c 0,rfl,X.fm 0 (by decide),λY p=>⟨_,rfl,0,by decide,rfl,bg,λr D=>⟨_,rfl,q r (MH k p D)⟩⟩⟩
  |many t n g rows a b j q=>
   subst a;refine⟨_,rfl,.many t n g rows rfl b j λl k=>?_⟩;exact⟨c 1,rfl,X.fm 1 (by decide),λY p=>⟨_,rfl,1,by decide,rfl,bg,λr D=>⟨_,rfl,q r (MH k p D)⟩⟩⟩
end
theorem xL4{n:Nat}{a:List Row}(h:fk (bt n a 0 0)<=1150):(mq n a).length<=1150:=by
 unfold mq;rw[Tr.bb];have h1:=xq (bt n a 0 0) [];simp at h1;lia
def EV:Sp:=λf H Q _=>∃(d:af)(n:Nat)(a:List Row),f=[.int (n:Nat),.ref d]/\ba H d a/\(∀b∈a,lS n b)/\a.length<=1150/\fk (bt n a 0 0)<=1150/\n<=12/\∀(c:Hp)(t:af),aF H c->m6 c t n (mS n a) (mq n a)->Q (.ref t) c
theorem xL5{f v R J:af}{X u f_ T:ak}(F:aT K "_law_shape" "_law_shape" Ao f X)(B:ee mg)(W:mg "_law_number"=some (.ref v))(Z:aT K "_law_number" "_law_number" sI v u)(O:Binds K u sV [])
  (hM:mg "_law_meets"=some (.ref R)) (FM:aT K "_law_meets" "_law_meets" sr R f_) (bM:Binds K f_ g8 [])
  (hH:mg "_law_has"=some (.ref J)) (FH:aT K "_law_has" "_law_has" i8 J T) (bH:Binds K T g8 []):aE P w K mg base aR 15 f X ["_law_n","_law_boxes_here"] EV:=by
 have GN:∀k,k<=12->aE P w K mg base aR (k+2) v u sV (CH k):=LW Z B W O hM FM bM hH FH bH;refine F.ok nS (λvs H Q E h=>?_) (λbw A x s H vs Q E hr h=>?_)
 ·obtain⟨d,n,a,rfl,_⟩:=h
  rfl
 ·obtain⟨d,n,a,rfl,N,D,kG,kJ,m,q⟩:=h;have Ji:aZ (n+2) _:=hr.mono (by lia);refine aX ⟨_,⟨c8 2 nS.nd Z_⟩,?_⟩;refine aX ⟨_,⟨c8 3 nS.nd (uI (GN n m) Ji (by rfl) W Z.kp O .nil CK (cH.go (.cons ⟨pv 2⟩ (.cons ⟨pv 1⟩ (.cons fQ (.cons fQ (.cons ⟨br n8 aS (pv 0)⟩ .nil rfl) rfl) rfl) rfl) rfl)))⟩,?_⟩;refine gG ⟨_,⟨cA (iM (cH.go (.cons ⟨pv 0⟩ (.cons ⟨pv 3⟩ (.cons ⟨oh (qJ2 rfl) (by rfl) B.tuple ZZ (aG (pv 2) aN)⟩ .nil rfl) rfl) rfl)))⟩,?_⟩;intro e g;have Iy:d≠e:=by obtain⟨bs,hb,_⟩:=N;exact dv hb g
  have h4:∀b∈a,b.length=4:=λb hb=>by
   obtain⟨r,c,h,w',rfl,_⟩:=D b hb
   rfl
  have j:sz n<=6000000:=Zw (E3 m) (by decide);have tT:[V.ref e,V.ref d,V.int 0,V.int 0,V.int (1*2^((n:Int)).toNat)]=[V.ref e,V.ref d,V.int ((0:Nat):Int),V.int ((0:Nat):Int),V.int ((2^n:Nat):Int)]:=by rw[uF];rfl
  refine⟨_,rfl,_,rfl,_,rfl,_,_,rfl,rfl,⟨by lia,by lia,by decide⟩,e,d,a,0,0,[],tT,N.same (bf g),h4,kG,Iy,Tr.eO,bg,by simpa using j,λH1 b1 y=>?_⟩;have S1:aF H H1:=λb o z=>b1 _ _ (cT z g) (dv z g);refine⟨_,rfl,_,rfl,_,rfl,e,_,rfl,y,λl bs U JU I=>⟨(by show 3<=sizeLine;decide),λt C=>?_⟩⟩;refine q _ t ((S1.trans (bf U)).trans (bf C)) ⟨⟨l,bg,bs,cT bg C,?_,?_⟩,TR m,Zw (xL4 kJ) (by decide)⟩
  ·rw[JU];unfold tK;rw[C5]
   rfl
  ·intro i b r e1 S;have hi:=(cF S).1;have jA:(tK (mq n a)).length=(mq n a).length:=by unfold tK;rw[C5]
   have Y:(tK (mq n a))[i]?=some ((tK (mq n a))[i]'(by lia)):=Ze (by lia);have Rh:((tK (mq n a))[i]'(by lia)).1=eU r:=by
    have G:=Y;unfold tK eB at G;rw[Zg]at G;obtain⟨p,M,ep⟩:=Zo.mp G;rw[List.getElem?_zipIdx]at M;obtain⟨r',L,rfl⟩:=Zo.mp M;rw[S]at L;cases L;exact(Yo Prod.fst ep).symm
   have:=I i b _ e1 Y;rw[Rh,uA]at this;exact cT (cT this U) C
abbrev QJ:List ar:=["_law_pot_here","_law_n","_law_side"]
theorem um:aI QJ ["_law_pot_here","_law_n"] (bF An):=dz
inductive zj(vs:List V)(H:Hp)(Q:VK):Prop
 |mk(p:af)(n:Nat)(e0:vs=[.ref p,.int (n:Nat)])(e1:aU H p)(e2:n<=12)(q:∀(H':Hp)(l:af)(bs:List Row),cz p H H'->aU H' p->ba H' l bs->(∀b∈bs,lS n b)->bs.length<=120->fk (bt n bs 0 0)<=1150->Q (.ref l) H')
def zk:Sp:=λa H Q _=>zj a H Q
theorem xP9{f S X:af}{fd O V:ak}(F:aT K "_law_drawn" "_law_drawn" An f fd)(B:ee mg)(x:mg "_law_digit"=some (.ref S))(u:aT K "_law_digit" "_law_digit" qx S O)(N:Binds K O ["_law_pot_here","_law_many_here"] [])
  (hB:mg "_law_boxes"=some (.ref X)) (FB:aT K "_law_boxes" "_law_boxes" Ap X V) (bB:Binds K V ["_law_pot_here","_law_n"] []) (GB:aE P w K mg base aR 3 X V ["_law_pot_here","_law_n"] Hk):aE P w K mg base aR 4 f fd ["_law_pot_here","_law_n"] zk:=by
 have M:aE P w K mg base aR 1 S O ["_law_pot_here","_law_many_here"] sG:=xB u;refine F.ok um (λvs H Q E h=>?_) (λbw A T s H vs Q E hr h=>?_)
 ·obtain⟨p,n,rfl,_⟩:=h
  rfl
 ·obtain⟨p,n,rfl,Z,I,q⟩:=h;have L:aZ 1 _:=hr.mono (by decide);refine aX ⟨_,⟨dH (PW.pt (Ms (dG xX (pv 1) aS (cU _)) (Of (dG sZ (bJ M L x u.kp N (aG (pv 0) (aG aS aN))) aS (cU _)))))
   (l9.go (.cons ⟨c8 2 um.nd (br n8 aS (pv 1))⟩
    (.one ⟨cA (og QJ (bF An) rfl rfl rfl um.nd (sT (by rfl) B.range (aG (bJ M L x u.kp N (aG (pv 0) (aG aS aN))) aN))
     (λcl C fp aH aJ=>cg.go ⟨iM (cH.go (.cons ⟨bJ M L x u.kp N (aG (pv 1) (aG (pv 3) aN))⟩ (.cons ⟨bJ M L x u.kp N (aG (pv 1) (aG (pv 3) aN))⟩ (.cons ⟨aS⟩ (.cons ⟨aS⟩ .nil rfl) rfl) rfl) rfl))⟩))⟩))) dI⟩,?_⟩
  refine gG ⟨_,⟨cA (bJ GB hr hB FB.kp bB (aG (pv 0) (aG (pv 1) aN)))⟩,?_⟩;obtain⟨p1,p2⟩:=qA I;have es:=uF n;have j:∀(k:Hp),cz p H k->aU k p->Hk [.ref p,.int (n:Nat)] k (λv H'=>Q v H') E:=λk G J=>by
   refine⟨p,n,rfl,J,I,λR l bs W y hl hR hb=>q R l bs (G.trans W) y hR hb.1 ?_ (Zw (q74 I hb) (by decide))⟩;rcases hb.2 with z|z
   ·lia
   ·lia
  refine⟨_,rfl,_,_,rfl,rfl,_,rfl,?_⟩;refine cM (λhc=>?_) (λhc=>?_)
  ·have n4:4<n:=by have:=ZB hc;lia
   refine⟨_,rfl,p,3,rfl,Z,by decide,by decide,λd k hd G J=>⟨rfl,_,rfl,?_⟩⟩;refine cM (λ_=>?_) (λ_=>⟨_,rfl,_,rfl,j k G J⟩);refine⟨_,rfl,_,_,rfl,rfl,⟨by lia,by lia,by decide⟩,?_⟩;rw[es];refine⟨_,rfl,p,121,rfl,J,by decide,by decide,λm R hm W y=>⟨_,rfl,by lia,by lia,λD U=>?_⟩⟩;have m9:p≠D:=by obtain⟨a,b,e,_⟩:=y;exact dv e U
   refine C4 (dM p D R (λb=>lS n b/\Cell b)) (by rw[ZY];exact pQ (by lia)) (dM.start y U) (λi xs Y g=>⟨g.at_,g.len⟩) ?_ ?_
   ·intro i xs Y hi g Q2 q2;refine⟨_,rfl,_,rfl,p,2^n,rfl,g.x_,p2,by lia,λr H4 Jk b4 kU=>?_⟩;refine⟨_,rfl,_,rfl,p,2^n,rfl,kU,p2,by lia,λc H5 BQ b5 w4=>⟨(by show 4<=sizeLine;decide),λt ht=>?_⟩⟩;have vW:lS n [r,c,1,1]/\Cell [r,c,1,1]:=⟨⟨_,_,_,_,rfl,Zb _,Zb _,Jk,BQ⟩,r,c,rfl⟩;have m:=g.more (t:=t) (r:=[r,c,1,1]) U m9 ((b4.trans b5).trans (cz.of (bf ht))) (w4.same (bf ht)) bg vW;exact q2 _ _ m.1 m.2
   ·intro xs Y g;obtain⟨bs,h1,h2,h3⟩:=g.rows;rw[ZY]at h3;exact q Y D bs ((G.trans W).trans g.but) g.x_ h1 (λb hb=>(h2 b hb).1) (by lia) (Zw (Gs I (λb hb=>(h2 b hb).2) (by lia)) (by decide))
  ·exact bY ⟨_,rfl,_,rfl,j H (cz.refl p H) Z⟩
abbrev nRt:List ar:=["_law_n","_law_boxes_here","_law_shape_here","_law_due","_law_told_here"]
theorem qg:aI nRt ["_law_n","_law_boxes_here"] (bF Am):=dz
inductive za(vs:List V)(H:Hp)(Q:VK):Prop
 |mk(bp:af)(n:Nat)(aD:List Row)(e0:vs=[.int (n:Nat),.ref bp])(e1:ba H bp aD)(hb:∀b∈aD,lS n b)(hl:aD.length<=1150)(kJ:fk (bt n aD 0 0)<=1150)(hn:n<=12)(q:∀H',aF H H'->Q (.bl true) H')
def t9:Sp:=λa H Q _=>za a H Q
theorem Ta:(yg (P:=P) (w:=w)).lvl<=20:=by show 1+1<=20;decide
theorem xQ0{f fS fM R L fT:af}{fd iB S wm X iA:ak}(F:aT K "_law_right" "_law_right" Am f fd)(Bu:mg "repr"=none)(yj:mg "sorted"=none)
  (hS:mg "_law_shape"=some (.ref fS)) (FS:aT K "_law_shape" "_law_shape" Ao fS iB) (bS:Binds K iB ["_law_n","_law_boxes_here"] []) (GS:aE P w K mg base aR 15 fS iB ["_law_n","_law_boxes_here"] EV)
  (hM:mg "_law_many"=some (.ref fM)) (FM:aT K "_law_many" "_law_many" xS fM S) (bM:Binds K S ["_law_shape_here"] []) (GM:aE P w K mg base aR 1 fM S ["_law_shape_here"] uc)
  (hL:mg "_law_leaves"=some (.ref R)) (FL:aT K "_law_leaves" "_law_leaves" uH R wm) (bL:Binds K wm i7 []) (GL:∀k,k<=12->aE P w K mg base aR (k+2) R wm i7 (nJ k))
  (hG:mg "_law_merged"=some (.ref L)) (FG:aT K "_law_merged" "_law_merged" DH L X) (bG:Binds K X ["_law_leaves_here","_law_shape_here"] []) (GG:aE P w K mg base aR 1 L X ["_law_leaves_here","_law_shape_here"] zf)
  (hT:mg "_law_told"=some (.ref fT)) (W:aT K "_law_told" "_law_told" xR fT iA) (U:Binds K iA ["_law_shape_here"] []) (GT:aE P w K mg base aR 18 fT iA ["_law_shape_here"] p9):aE P w K mg base aR 19 f fd ["_law_n","_law_boxes_here"] t9:=by
 refine F.ok qg (λvs H Q E h=>?_) (λbw A outer s H vs Q E d h=>?_)
 ·obtain⟨u,n,a,rfl,_⟩:=h
  rfl
 ·obtain⟨u,n,a,rfl,hR,hb,kG,kJ,l,q⟩:=h;have jG:aZ 1 _:=d.mono (by decide);have oU:aZ 15 _:=d.mono (by decide);have Ji:aZ (n+2) _:=d.mono (by lia);refine aX ⟨_,⟨c8 2 qg.nd (bJ GS oU hS FS.kp bS (aG (pv 0) (aG (pv 1) aN)))⟩,?_⟩;refine aX ⟨_,⟨dH (dG xX (cg.go ⟨bJ GM jG hM FM.kp bM (aG (pv 2) aN)⟩) aS (cU _)) (cD (cA (j_ sZ (cg.go ⟨bJ GT d hT W.kp U (aG (pv 2) aN)⟩) mC (cU _)))) dI⟩,?_⟩;refine aX ⟨_,⟨c8 3 qg.nd (bJ GG jG hG FG.kp bG (cH.go (.cons ⟨uI (GL n l) Ji (by rfl) hL FL.kp bL .nil CK (cH.go (.cons ⟨pv 1⟩ (.cons ⟨mC⟩ (.cons fQ (.cons fQ (.cons ⟨br n8 aS (pv 0)⟩ .nil rfl) rfl) rfl) rfl) rfl))⟩ (.cons ⟨pv 2⟩ .nil rfl) rfl)))⟩,?_⟩;refine aX ⟨_,⟨c8 4 qg.nd (bJ GT d hT W.kp U (aG (pv 2) aN))⟩,?_⟩;refine aX ⟨_,⟨dH (PW.pt (iq (dG sY (cg.go ⟨cQ (NU d) (by rfl) Bu PyProof.Rows.boot_repr (aG (pv 4) aN)⟩) (cg.go ⟨cQ (NU d) (by rfl) Bu PyProof.Rows.boot_repr (aG (pv 3) aN)⟩) (cU _))
   (iX (dG (Ig d) (pv 4) (cg.go ⟨cQ (qM7 (κ:=yg) (PyProof.Rows.zr _) d Ta) (by rfl) yj PyProof.Rows.boot_sorted (aG (pv 3) aN)⟩) (cU _))))) (cD (cA iK)) dI⟩,?_⟩
  refine aX ⟨_,⟨iY (xF7 Z7 PySem.F.slot_list_clear PySem.F.type_list_clear xe2 (pv 4))⟩,?_⟩;refine gG ⟨_,⟨cA (j_ (Ar d) (cg.go ⟨bJ GT d hT W.kp U (aG (pv 2) aN)⟩) (pv 3) (cU _))⟩,?_⟩;have g:T (mq n a) (mS n a)=bt n a 0 0:=KY;have M:Tr.dep (bt n a 0 0)<=12:=Zw (x5 n a 0 0) l;have h4:∀b∈a,b.length=4:=λb l5=>by
   obtain⟨r,c,h,w',rfl,_⟩:=hb b l5
   rfl
  refine⟨_,rfl,_,rfl,u,n,a,rfl,hR,hb,kG,kJ,l,λH1 t s1 wS=>?_⟩;obtain⟨JY,y,DW⟩:=id wS;refine⟨_,rfl,t,n,_,_,rfl,JY,y.mn,DW,y.oQ,λH2 D=>?_⟩;have BZ:=uG wS D;rw[g];refine⟨_,_,rfl,rfl,_,rfl,?_⟩;refine cM (λhc=>?_) (λhc=>?_)
  ·have m:2000<bV (bt n a 0 0):=by have:=ZB hc;lia
   refine⟨_,rfl,.many t n _ _ rfl BZ (by rw[g];exact m) λH3 B=>?_⟩;exact⟨rfl,q _ ((s1.trans D).trans B)⟩
  ·have m:bV (bt n a 0 0)<=2000:=by
    have:¬(2000:Int)<(bV (bt n a 0 0):Nat):=λz=>hc (Zh z);lia
   have Y:Tr.dep (rt n a 0 0)<=12:=Zw (LU n a 0 0) l;have h4n:4^n<=16777216:=Zw (Xq (by decide) l) (by decide);have D9:bI (rt n a 0 0)=bt n a 0 0:=Ag n a 0 0;have j:=xK5 M;have IG:(bX (bt n a 0 0)).length<=2000:=by rw[pS];exact m
   have tT:[V.ref u,V.str "",V.int 0,V.int 0,V.int (1*2^((n:Int)).toNat)]=[V.ref u,V.str (txt []),V.int ((0:Nat):Int),V.int ((0:Nat):Int),V.int ((2^n:Nat):Int)]:=by rw[uF,<- LQ];rfl
   refine⟨_,rfl,_,rfl,_,_,rfl,rfl,⟨by lia,by lia,by decide⟩,u,a,[],0,0,tT,hR.same (s1.trans D),h4,kG,(by show 0+n<=100;lia),λH3 D3 B yC=>?_⟩;rw[Dh]at yC;have BY:=uG BZ B;refine⟨_,rfl,D3,t,n,_,_,rt n a 0 0,rfl,yC,Y,(by rw[pS];exact Zw (uz n a 0 0) h4n),BY.1,y.mn,y.oQ,by rw[g,D9],λH4 D4 s4 J6=>?_⟩;rw[D9]at J6;have BX:=uG BY s4;refine⟨_,rfl,.good t n _ _ rfl BX (by rw[g];exact m) λH5 G s5 wL vR=>?_⟩;rw[g]at vR;have N:=J6.same s5;have sh:=xb6 j IG;refine⟨_,rfl,G,_,rfl,vR.data,Ov _,Ou _,Df _,sh,_,rfl,D4,_,rfl,N.data,Ov _,Ou _,Df _,sh,rfl,_,rfl,?_⟩;rw[Zh rfl];refine bY ?_;obtain⟨C,jR,vx,vy⟩:=id N;have J:=zI (bt n a 0 0);refine⟨_,rfl,_,rfl,D4,_,rfl,jR,?_,λp us hp O JW=>?_⟩
   ·intro v hv;obtain⟨b,hbm,rfl⟩:=Yi.mp hv;obtain⟨i,hi⟩:=List.mem_iff_getElem?.mp hbm;have hil:i<(bX (bt n a 0 0)).length:=by rw[<- vx];exact(cF hi).1
    exact⟨_,EW (vy i b _ hi (Ze hil))⟩
   ·have Z:=qF7 vx vy J O JW;subst Z;have x:=bf (o:=.lst (C.map V.ref)) hp;have yB:fy (upd H5 p (.lst (C.map V.ref))) p (bX (bt n a 0 0)):=⟨C,bg,vx,λi b e e1 e2=>x _ _ (vy i b e e1 e2)⟩;have v_:=vR.same x;have J5:=N.same x;generalize upd H5 p (.lst (C.map V.ref))=H6 at x yB v_ J5 ⊢;refine⟨_,_,v_.data,yB.data,DB j,DB j,Df _,_,rfl,?_⟩;rw[MB];refine bY ?_;obtain⟨bs5,kX,hbl5,hat5⟩:=id v_;refine⟨_,rfl,.inl ⟨rfl,_,cu.of kX⟩,G,_,rfl,rfl,kX,?_⟩;have I:aF H4 (upd H6 G (.lst [])):=λb o e=>by
     rw[cK (dv e wL)];exact x _ _ (s5 _ _ e)
    generalize upd H6 G (.lst [])=H7 at I ⊢;refine⟨_,rfl,.good t n _ _ rfl (uG BX I) (by rw[g];exact m) λH8 lp2 s8 hlp2 RD=>?_⟩;rw[g]at RD;refine⟨_,rfl,_,_,RD.data,(J6.same (I.trans s8)).data,DB j,DB j,Df _,?_⟩;rw[MB];exact q _ (((((s1.trans D).trans B).trans s4).trans I).trans s8)
end Pr
namespace Qf
def SD:List Row:=(List.range 64).map λk=>[512*(k/8),512*(k%8),1,1]
def nk:List Row:=SD++(List.range 8).map (λk=>[512*k+256,256,1,1])++[[32,0,1,1]]
def pH:List Row:=nk++[[2,0,1,1]]
def EU(b:Row):Bool:=match b with
 |[r,c,1,1]=>decide (r<4096/\c<4096)
 |_=>false
theorem O9:pH.all EU=true:=by decide +kernel
theorem Og{b:Row}(h:EU b=true):Cell b/\lS 12 b:=by
 unfold EU at h;split at h
 ·rename_i r c;have:=ZB h;exact⟨⟨r,c,rfl⟩,r,c,1,1,rfl,Zb _,Zb _,(by show r+1<=4096;lia),(by show c+1<=4096;lia)⟩
 ·cases h
theorem Hu:bV (bt 12 nk 0 0)=1999:=by decide +kernel
theorem Ut:bV (bt 12 pH 0 0)=2002:=by decide +kernel
end Qf
namespace Pr
open PySem L2 Qf
structure c_(D:af)(H:Hp)(f:Nat->Row)(i:Nat)(xs:List V)(H2:Hp):Prop where
 same:aF H H2
 at_:H2 D=some (.lst xs)
 aM:∃cs:List af,xs=cs.map V.ref/\cs.length=i/\∀(j:Nat) c,cs[j]?=some c->H2 c=some (.tup (vN (f j)))
theorem c_.start{D:af}{H:Hp}{f:Nat->Row}(a:H D=none):c_ D H f 0 [] (upd H D (.lst [])):=
 ⟨bf a,bg,[],rfl,rfl,λj c e=>by simp at e⟩
theorem c_.len{D:af}{H a:Hp}{f:Nat->Row}{i:Nat}{xs:List V}(g:c_ D H f i xs a):xs.length<=i:=by
 obtain⟨b,rfl,h,_⟩:=g.aM;rw[Zf,h];exact Zb _
theorem c_.more{D t:af}{H k:Hp}{f:Nat->Row}{i:Nat}{xs:List V}(g:c_ D H f i xs k)(r:H D=none)(d:k t=none):
  upd k t (.tup (vN (f i))) D=some (.lst xs)/\c_ D H f (i+1) (xs++[.ref t]) (upd (upd k t (.tup (vN (f i)))) D (.lst (xs++[.ref t]))):=by
 obtain⟨s,a,l,rfl,p,u⟩:=g;have m:D≠t:=dv a d;refine⟨cT a d,λb o e=>?_,bg,l++[t],by rw[ZS];rfl,by rw[Zn,p];rfl,λj c e=>?_⟩
 ·rw[cK (dv e r)];exact cT (s _ _ e) d
 ·by_cases q:j<l.length
  ·rw[Zp q]at e;have h:=u j c e;rw[cK (λz=>by rw[z,a]at h;cases h)];exact cT h d
  ·have n:=(cF e).1;rw[Zn]at n;have:j=l.length:=by simp at n;lia
   subst this;have:c=t:=by simpa using e.symm
   subst this;rw[cK m.symm,bg,p]
theorem c_.rows{D:af}{H d:Hp}{f:Nat->Row}{n:Nat}{xs:List V}(g:c_ D H f n xs d):ba d D ((List.range n).map f):=by
 obtain⟨s,a,k,rfl,m,q⟩:=g;refine⟨k,a,by rw[Zf,WP,m],λi b r l c=>?_⟩;rw[Zg]at c;obtain⟨j,h,rfl⟩:=Zo.mp c;have:j=i:=by
  obtain⟨t,p⟩:=cF h;simpa using p.symm
 subst this;exact q _ _ l
theorem ba.wz{H:Hp}{p q:af}{A B:List Row}(k:ba H p A)(hb:ba H q B):∃as bs:List af,H p=some (.lst (as.map V.ref))/\H q=some (.lst (bs.map V.ref))/\as.length=A.length/\bs.length=B.length /\
  (∀{c:Hp}{D:af},aF H c->c D=some (.lst (as.map V.ref++bs.map V.ref))->ba c D (A++B)):=by
 obtain⟨as,h1,h2,j⟩:=k;obtain⟨bs,l,f,g⟩:=hb;refine⟨as,bs,h1,l,h2,f,λ{c D} s h=>⟨as++bs,by rw[h,ZS],by rw[Zn,Zn,h2,f],λi b r a d=>?_⟩⟩;by_cases m:i<as.length
 ·rw[Zp m]at a;rw[Zp (by lia)]at d;exact s _ _ (j i b r a d)
 ·rw[Zx (by lia)]at a;rw[Zx (by lia)]at d;rw[h2]at a;exact s _ _ (g _ b r a d)
theorem O8{H:Hp}{D t:af}{r:Row}(d:H D=some (.lst [.ref t]))(f:H t=some (.tup (vN r))):ba H D [r]:=
 ⟨[t],d,rfl,λi b x a c=>by
  match i,a,c with
  |0,a,c=>cases a;cases c;exact f
  |i+1,a,c=>simp at a⟩
abbrev IB:List ar:=["_law_boxes_here","_law_more"]
theorem nR:aI IB [] (bF xC):=dz
def zp:Sp:=λb H Q _=>b=[]/\∀a,aF H a->Q (.bl true) a
theorem xQ1{f fS fM fT W:af}{fd iB f_ iA gu:ak}(F:aT K "_law_bounds_right" "_law_bounds_right" xC f fd)(B:ee mg)
  (hS:mg "_law_shape"=some (.ref fS)) (FS:aT K "_law_shape" "_law_shape" Ao fS iB) (bS:Binds K iB ["_law_n","_law_boxes_here"] []) (GS:aE P w K mg base aR 15 fS iB ["_law_n","_law_boxes_here"] EV)
  (hM:mg "_law_many"=some (.ref fM)) (FM:aT K "_law_many" "_law_many" xS fM f_) (bM:Binds K f_ ["_law_shape_here"] []) (GM:aE P w K mg base aR 1 fM f_ ["_law_shape_here"] uc)
  (hT:mg "_law_told"=some (.ref fT)) (FT:aT K "_law_told" "_law_told" xR fT iA) (bT:Binds K iA ["_law_shape_here"] []) (GT:aE P w K mg base aR 18 fT iA ["_law_shape_here"] p9)
  (hR:mg "_law_right"=some (.ref W)) (FR:aT K "_law_right" "_law_right" Am W gu) (bR:Binds K gu ["_law_n","_law_boxes_here"] []) (GR:aE P w K mg base aR 19 W gu ["_law_n","_law_boxes_here"] t9):aE P w K mg base aR 20 f fd [] zp:=by
 refine F.ok nR (λvs H Q E h=>?_) (λbw A outer s H vs Q E u h=>?_)
 ·obtain⟨rfl,_⟩:=h
  rfl
 ·obtain⟨rfl,q⟩:=h;have jG:aZ 1 _:=u.mono (by decide);have oU:aZ 15 _:=u.mono (by decide);have vm:aZ 18 _:=u.mono (by decide);refine aX ⟨_,⟨Qj (i0:=0) IB (bF xC) rfl rfl rfl nR.nd rfl rfl (sT (by rfl) B.range (aG aS aN)) (λcl C fp aH aJ=>cg.go ⟨iM (cH.go (.cons ⟨br pR aS (br sM (pv 0) aS)⟩ (.cons ⟨br pR aS (br sv (pv 0) aS)⟩ (.cons fQ (.cons fQ .nil rfl) rfl) rfl) rfl))⟩)⟩,?_⟩;refine aX ⟨_,⟨c8 0 nR.nd (br xi (cg.go ⟨br xi (pv 0) (cg.go ⟨og IB (bF xC) rfl rfl rfl nR.nd (sT (by rfl) B.range (aG aS aN)) (λcl C fp aH aJ=>cg.go ⟨iM (cH.go (.cons ⟨br fZ (br pR aS (pv 0)) aS⟩ (.cons fQ (.cons fQ (.cons fQ .nil rfl) rfl) rfl) rfl))⟩)⟩)⟩)
   (cg.go ⟨g_ (aG (cg.go ⟨iM (cH.go (.cons fQ (.cons fQ (.cons fQ (.cons fQ .nil rfl) rfl) rfl) rfl))⟩) aN)⟩))⟩,?_⟩
  refine aX ⟨_,⟨c8 1 nR.nd (br xi (pv 0) (cg.go ⟨g_ (aG (cg.go ⟨iM (cH.go (.cons fQ (.cons fQ (.cons fQ (.cons fQ .nil rfl) rfl) rfl) rfl))⟩) aN)⟩))⟩,?_⟩;refine aX ⟨_,⟨dH (PW.pt (iq (dG sY (cg.go ⟨bJ GM jG hM FM.kp bM (aG (cg.go ⟨bJ GS oU hS FS.kp bS (aG aS (aG (pv 0) aN))⟩) aN)⟩) aS (cU _))
   (iX (dG sY (cg.go ⟨bJ GM jG hM FM.kp bM (aG (cg.go ⟨bJ GS oU hS FS.kp bS (aG aS (aG (pv 1) aN))⟩) aN)⟩) aS (cU _))))) (cD (cA iK)) dI⟩,?_⟩
  refine gG ⟨_,⟨cA (mB (j_ sZ (cg.go ⟨cQ mE (by rfl) B.len Ye (aG (cg.go ⟨bJ GT vm hT FT.kp bT (aG (cg.go ⟨bJ GS oU hS FS.kp bS (aG aS (aG (pv 0) aN))⟩) aN)⟩) aN)⟩) aS (cU _))
   (mB (cg.go ⟨bJ GR u hR FR.kp bR (aG aS (aG (pv 0) aN))⟩) (mZ (cg.go ⟨bJ GR u hR FR.kp bR (aG aS (aG (pv 1) aN))⟩))))⟩,?_⟩
  have J:∀b∈nk,Cell b/\lS 12 b:=λb hb=>Og (Z8.mp O9 b (Y5 _ hb));have JS:∀b∈pH,Cell b/\lS 12 b:=λb hb=>Og (Z8.mp O9 b hb);have lB:nk.length=73:=by decide +kernel
  have lC:pH.length=74:=by decide +kernel
  have U:fk (bt 12 nk 0 0)<=1150:=Zw (Gs (by decide) (λb hb=>(J b hb).1) (by lia)) (by decide);have nC:fk (bt 12 pH 0 0)<=1150:=Zw (Gs (by decide) (λb hb=>(JS b hb).1) (by lia)) (by decide);refine⟨_,rfl,by decide,by decide,λD hD=>?_⟩;refine Px (c_ D H λk=>[512*(k/8),512*(k%8),1,1]) (by decide) (c_.start hD) (λi G l g=>⟨g.at_,g.len⟩) ?_ ?_
  ·intro i G l r g Q2 q2;have r:i<64:=r;refine⟨_,rfl,_,_,rfl,rfl,⟨by decide,by decide⟩,_,_,rfl,rfl,.inl ⟨by lia,by lia⟩,_,rfl,_,_,rfl,rfl,(by show(0:Int)<8;decide),_,_,rfl,rfl,.inl ⟨by lia,by lia⟩,(by show 4<=sizeLine;decide),λt ht=>?_⟩;have R:HO.tup [V.int (512*((0+(i:Int))/8)),V.int (512*((0+(i:Int))%8)),V.int 1,V.int 1]=HO.tup (vN [512*(i/8),512*(i%8),1,1]):=by
    rw[WS];show HO.tup [V.int (512*((i:Int)/8)),V.int (512*((i:Int)%8)),V.int 1,V.int 1]=HO.tup [V.int ((512*(i/8):Nat):Int),V.int ((512*(i%8):Nat):Int),V.int 1,V.int 1];congr<;>lia
   show Q2 (.ref t) (upd l t (HO.tup [V.int (512*((0+(i:Int))/8)),V.int (512*((0+(i:Int))%8)),V.int 1,V.int 1]));rw[R];have m:=g.more (t:=t) hD ht;exact q2 _ _ m.1 m.2
  ·intro G l g;have s2:=g.same;have hA:ba l D SD:=g.rows;clear g;refine⟨_,rfl,_,rfl,by decide,by decide,λD2 k8=>?_⟩;refine C4 (c_ D2 l λk=>[512*k+256,256,1,1]) (by decide) (c_.start k8) (λi G l g=>⟨g.at_,g.len⟩) ?_ ?_
   ·intro i G H3 r g Q2 q2;have r:i<8:=r;refine⟨_,rfl,_,_,rfl,rfl,.inl ⟨by lia,by lia⟩,_,_,rfl,rfl,(by show 4<=sizeLine;decide),λt ht=>?_⟩;have R:HO.tup [V.int (512*(0+(i:Int))+256),V.int 256,V.int 1,V.int 1]=HO.tup (vN [512*i+256,256,1,1]):=by
     rw[WS];show HO.tup [V.int (512*(i:Int)+256),V.int 256,V.int 1,V.int 1]=HO.tup [V.int ((512*i+256:Nat):Int),V.int ((256:Nat):Int),V.int 1,V.int 1];congr<;>lia
    show Q2 (.ref t) (upd H3 t (HO.tup [V.int (512*(0+(i:Int))+256),V.int 256,V.int 1,V.int 1]));rw[R];have m:=g.more (t:=t) k8 ht;exact q2 _ _ m.1 m.2
   ·intro G H3 g;have s3:=s2.trans g.same;have hA3:=hA.same g.same;have hB3:=g.rows;clear g;obtain⟨as,bs,h1,h2,c,d,a⟩:=ba.wz hA3 hB3;refine⟨D,D2,_,_,rfl,rfl,h1,h2,?_,λD3 RJ=>?_⟩
    ·rw[Zf,Zf,c,d];decide +kernel
    have s4:=s3.trans (bf (o:=.lst (as.map V.ref++bs.map V.ref)) RJ);have RM:=a (bf (o:=.lst (as.map V.ref++bs.map V.ref)) RJ) bg;generalize upd H3 D3 (.lst (as.map V.ref++bs.map V.ref))=H4 at s4 RM ⊢;clear a h1 h2 c d;refine⟨(by show 4<=sizeLine;decide),λp Bq=>⟨(by show 1<=sizeLine;decide),λM vZ=>?_⟩⟩;have x:=(bf (o:=.tup [.int 32,.int 0,.int 1,.int 1]) Bq).trans (bf (o:=.lst [.ref p]) vZ);have v:ba (upd (upd H4 p (.tup [.int 32,.int 0,.int 1,.int 1])) M (.lst [.ref p])) M [[32,0,1,1]]:=O8 bg (cT bg vZ);obtain⟨as,bs,h1,h2,c,d,a⟩:=ba.wz (RM.same x) v;refine⟨D3,M,_,_,rfl,rfl,h1,h2,?_,λn wT=>?_⟩
    ·rw[Zf,Zf,c,d];decide +kernel
    have j:=(s4.trans x).trans (bf (o:=.lst (as.map V.ref++bs.map V.ref)) wT);have Kb:ba _ n nk:=a (bf (o:=.lst (as.map V.ref++bs.map V.ref)) wT) bg;clear a h1 h2 c d v;generalize upd (upd (upd H4 p (.tup [.int 32,.int 0,.int 1,.int 1])) M (.lst [.ref p])) n (.lst (as.map V.ref++bs.map V.ref))=H5 at j Kb ⊢;clear x;have x:=j;clear j;refine⟨_,rfl,(by show 4<=sizeLine;decide),λy S=>⟨(by show 1<=sizeLine;decide),λN RI=>?_⟩⟩;have j:=(bf (o:=.tup [.int 2,.int 0,.int 1,.int 1]) S).trans (bf (o:=.lst [.ref y]) RI);have v:ba (upd (upd H5 y (.tup [.int 2,.int 0,.int 1,.int 1])) N (.lst [.ref y])) N [[2,0,1,1]]:=O8 bg (cT bg RI);obtain⟨as,bs,h1,h2,c,d,a⟩:=ba.wz (Kb.same j) v;refine⟨n,N,_,_,rfl,rfl,h1,h2,?_,λL yE=>?_⟩
    ·rw[Zf,Zf,c,d];decide +kernel
    have s7:=(x.trans j).trans (bf (o:=.lst (as.map V.ref++bs.map V.ref)) yE);have Kc:=Kb.same (j.trans (bf (o:=.lst (as.map V.ref++bs.map V.ref)) yE));have RL:ba _ L pH:=a (bf (o:=.lst (as.map V.ref++bs.map V.ref)) yE) bg;clear a h1 h2 c d v;generalize upd (upd (upd H5 y (.tup [.int 2,.int 0,.int 1,.int 1])) N (.lst [.ref y])) L (.lst (as.map V.ref++bs.map V.ref))=H7 at s7 Kc RL ⊢;have qB:T (mq 12 nk) (mS 12 nk)=bt 12 nk 0 0:=KY;have qC:T (mq 12 pH) (mS 12 pH)=bt 12 pH 0 0:=KY;refine⟨_,rfl,n,12,nk,rfl,Kc,λb hb=>(J b hb).2,by lia,U,by decide,λH8 t s8 I=>?_⟩;refine⟨t,12,_,_,rfl,I.1,I.2.1.mn,I.2.2,I.2.1.oQ,λH9 s9=>?_⟩;rw[qB,Hu];have Gi:=s8.trans s9;refine⟨rfl,_,rfl,?_⟩;rw[Zh (show V.int ((1999:Nat):Int)=V.int 1999 from rfl)];refine bY ?_;have hB9:=Kc.same Gi;have RK:=RL.same Gi;refine⟨_,rfl,L,12,pH,rfl,RK,λb hb=>(JS b hb).2,by lia,nC,by decide,λH10 t' s10 O=>?_⟩;refine⟨t',12,_,_,rfl,O.1,O.2.1.mn,O.2.2,O.2.1.oQ,λH11 Y=>?_⟩;rw[qC,Ut];refine⟨rfl,_,rfl,?_⟩;rw[Zh (show V.int ((2002:Nat):Int)=V.int 2002 from rfl)];refine bY ?_;have uq:=s10.trans Y;have B9:=hB9.same uq;have Ka:=RK.same uq;refine⟨_,rfl,n,12,nk,rfl,B9,λb hb=>(J b hb).2,by lia,U,by decide,λH12 X Z B0=>?_⟩;refine .good X 12 _ _ rfl B0 (by rw[qB,Hu];decide) λH13 lp CY wL B1=>?_;rw[qB]at B1;obtain⟨ls,hl,Q9,_⟩:=B1;have e13:(ls.map V.ref).length=1999:=by rw[Zf,Q9,pS,Hu]
    refine⟨lp,_,rfl,.inl (cu.of hl),?_⟩;rw[e13];refine⟨rfl,_,rfl,?_⟩;rw[Zh (show V.int ((1999:Nat):Int)=V.int 1999 from rfl)];refine bQ ?_;have nV:=Z.trans CY;have Kd:=B9.same nV;have J_:=Ka.same nV;refine⟨_,rfl,n,12,nk,rfl,Kd,λb hb=>(J b hb).2,by lia,U,by decide,λH14 NR=>?_⟩;refine⟨_,rfl,bQ ?_⟩;exact⟨_,rfl,L,12,pH,rfl,J_.same NR,λb hb=>(JS b hb).2,by lia,nC,by decide,λH15 s15=>q H15 (((((s7.trans Gi).trans uq).trans nV).trans NR).trans s15)⟩
abbrev IA:List ar:=["_law_script","_law_k","_law_pot_here","_law_n"]
theorem lN:aI IA ["_law_script"] (bF iy):=dz
def CD(K:PySem.W.Frag):Sp:=λd H Q _=>∃(a:af)(b:List Int),d=[.ref a]/\cu K H a (b.map V.int)/\b.length<=63/\∀c,Q (.bl true) c
theorem xL6{f M u T r S D R:af}{fd g j X N U O L:ak}(F:aT K "law" "law" iy f fd)(B:ee mg)(C:rV mg)
  (hP:mg "_law_pot"=some (.ref M)) (FP:aT K "_law_pot" "_law_pot" rj M g) (bP:Binds K g ["_law_script","_law_k"] [])
  (hD:mg "_law_digit"=some (.ref u)) (FD:aT K "_law_digit" "_law_digit" qx u j) (bD:Binds K j ["_law_pot_here","_law_many_here"] [])
  (hW:mg "_law_drawn"=some (.ref T)) (FW:aT K "_law_drawn" "_law_drawn" An T X) (bW:Binds K X ["_law_pot_here","_law_n"] []) (GW:aE P w K mg base aR 4 T X ["_law_pot_here","_law_n"] zk)
  (hR:mg "_law_right"=some (.ref r)) (FR:aT K "_law_right" "_law_right" Am r N) (bR:Binds K N ["_law_n","_law_boxes_here"] []) (GR:aE P w K mg base aR 19 r N ["_law_n","_law_boxes_here"] t9)
  (hT:mg "_law_told"=some (.ref S)) (FT:aT K "_law_told" "_law_told" xR S U) (bT:Binds K U ["_law_shape_here"] []) (GT:aE P w K mg base aR 18 S U ["_law_shape_here"] p9)
  (hO:mg "_law_odd_shape"=some (.ref D)) (FO:aT K "_law_odd_shape" "_law_odd_shape" Dv D O) (bO:Binds K O ["_law_pot_here"] []) (GO:aE P w K mg base aR 2 D O ["_law_pot_here"] zc)
  (hB:mg "_law_bounds_right"=some (.ref R)) (FB:aT K "_law_bounds_right" "_law_bounds_right" xC R L) (bB:Binds K L [] []) (GB:aE P w K mg base aR 20 R L [] zp):
  aE P w K mg base aR 21 f fd ["_law_script"] (CD K):=by
 have GP:aE P w K mg base aR 1 M g ["_law_script","_law_k"] (MO K):=xI1 FP B C;have GD:aE P w K mg base aR 1 u j ["_law_pot_here","_law_many_here"] sG:=xB FD;refine F.ok lN (λvs H Q E h=>?_) (λbw A x s H vs Q E c h=>?_)
 ·obtain⟨a,Y,rfl,_⟩:=h
  rfl
 ·obtain⟨a,Y,rfl,RA,j9,q⟩:=h;have jG:aZ 1 _:=c.mono (by decide);have v0:aZ 2 _:=c.mono (by decide);have Jk:aZ 4 _:=c.mono (by decide);have vm:aZ 18 _:=c.mono (by decide);have Jl:aZ 19 _:=c.mono (by decide);refine aX ⟨_,⟨sC YW rfl (sT (by rfl) B.range (aG (cQ (PV rfl) (by rfl) B.max WW (aG aS (aG (cQ (GV rfl) (by rfl) B.min WY (aG aS (aG (cQ mE (by rfl) B.len Ye (aG (pv 0) aN)) aN))) aN))) aN)) (gh 1 lN.nd)
    (l9.go (.cons ⟨c8 2 lN.nd (bJ GP jG hP FP.kp bP (aG (pv 0) (aG (pv 1) aN)))⟩
    (.cons ⟨c8 3 lN.nd (bJ GD jG hD FD.kp bD (aG (pv 2) (aG aS aN)))⟩
    (.one ⟨dH (PW.pt (iq (kq (gP (bJ GR Jl hR FR.kp bR (aG (pv 3) (aG (cg.go ⟨bJ GW Jk hW FW.kp bW (aG (pv 2) (aG (pv 3) aN))⟩) aN)))))
     (iX (dG sY (cg.go ⟨bJ GT vm hT FT.kp bT (aG (cg.go ⟨bJ GO v0 hO FO.kp bO (aG (pv 2) aN)⟩) aN)⟩) mC (cU _))))) (cD (cA iK)) dI⟩))))⟩,?_⟩
  refine gG ⟨_,⟨cA (xe0 GB c (by rfl) hB FB.kp bB .nil CK)⟩,?_⟩;refine⟨_,rfl,a,_,rfl,.inl RA,_,_,rfl,_,_,rfl,_,rfl,?_,?_,PX (λi J m=>(i:Int)<=5/\aF H m/\∃y I G,J=[some (.ref a),y,I,G]) ⟨by decide,aF.refl _,none,none,none,rfl⟩ ?_ ?_⟩
  ·split<;>(try split)<;>lia
  ·split<;>(try split)<;>lia
  ·rintro i J m hi ⟨i1,t,y,I,G,rfl⟩;have dw:(i:Int)<5:=by
    revert hi;split<;>(try split)<;>lia
   refine⟨_,rfl,_,rfl,a,_,Y,rfl,t.seq RA,j9,by lia,by lia,λH3 p s3 Jq vH=>?_⟩;refine⟨_,rfl,p,13,rfl,vH,by decide,by decide,λn H4 hn b4 kU=>?_⟩;refine⟨_,rfl,_,rfl,_,rfl,p,n,rfl,kU,by lia,λH5 l bs b5 w4 W vW kG kJ=>?_⟩;refine⟨l,n,bs,rfl,W,vW,by lia,kJ,by lia,λH6 s6=>?_⟩;refine⟨_,rfl,bY ?_⟩;refine⟨_,rfl,p,rfl,w4.same s6,λH7 v d b7 hp7 hd BA=>?_⟩;refine .shape v d rfl hd BA.1 BA.2 λH8 s8=>?_;refine⟨rfl,_,rfl,?_⟩;rw[Zh (show V.str "shape1"=V.str "shape1"from rfl)];refine bY ?_;refine⟨by lia,λb o e=>?_,_,_,_,rfl⟩;have Z:=t _ _ e;have k:b≠p:=dv Z Jq;exact s8 _ _ (b7 _ _ (s6 _ _ (b5 _ _ (b4 _ _ (s3 _ _ Z) k) k)) k)
  ·rintro J m ⟨_,t,y,I,G,rfl⟩;exact⟨rfl,λH' _=>q H'⟩
def dy(K:PySem.W.Frag)(x:ar)(st:aB):Prop:=∃(f:af)(a:ak),PySem.W.nsIn K mainGlobals x=some (some (.ref f))/\aT K x x st f a
theorem KP{K:PySem.W.Frag}{x:ar}{st:aB}{f:af}{h j:Option af}{g:Array (Option aa)}{i kV m d b ct:aa}(a:PySem.W.nsIn K mainGlobals x=some (some (.ref f)))
  (l:K.lookup f=some ⟨i,h,.func (PySem.W.fnOf x x (qz st) (m8 st) (bF st) .none kV m d j b ct),g⟩) (c:PySem.W.codeIn K b x=true) (k:PySem.W.keepIn K (.ref f)=true):dy K x st:=⟨f,_,a,Mh l c k⟩
def df(K:PySem.W.Frag)(x:ar):Prop:=PySem.W.nsIn K mainGlobals x=some none
theorem NM{α:Type}{P:List α->Prop}(h:P []):∀a:List α,a.length=0->P a
 |[],_=>h
theorem lG{α:Type}{P:List α->Prop}(h:∀a:α,P [a]):∀b:List α,b.length=1->P b
 |[a],_=>h a
theorem mh{α:Type}{P:List α->Prop}(h:∀a b:α,P [a,b]):∀c:List α,c.length=2->P c
 |[a,b],_=>h a b
theorem NL{α:Type}{P:List α->Prop}(h:∀a b c:α,P [a,b,c]):∀d:List α,d.length=3->P d
 |[a,b,c],_=>h a b c
theorem Fz{α:Type}{P:List α->Prop}(h:∀a b c d:α,P [a,b,c,d]):∀f:List α,f.length=4->P f
 |[a,b,c,d],_=>h a b c d
theorem NK{α:Type}{P:List α->Prop}(h:∀a b c d e:α,P [a,b,c,d,e]):∀f:List α,f.length=5->P f
 |[a,b,c,d,e],_=>h a b c d e
theorem Cj{K:PySem.W.Frag}{C:af}(a:PySem.W.findIn K (.ref C) "__getattribute__"=some (some (.builtin "BaseException.__getattribute__")))(f:PySem.W.findIn K (.ref C) "__getattr__"=some none)
  (d:PySem.W.findIn K (.ref C) "__class__"=some (some (.builtin "object.__class__"))) (b:PySem.W.specialIn K (.builtin "object.__class__") "__get__"=some (some (.builtin "getset_descriptor.__get__")))
  (g:PySem.W.takesIn K (.builtin "object.__class__")=some true) (c:PySem.W.mroIn K C (.type "object")=some true) (hb:PySem.W.mroIn K C (.type "BaseException")=some true){x:_}(hc:PySem.W.clsIn K C=some x):dk K C:=⟨a,f,d,b,g,c,hb,by rw[hc];rfl⟩
def vd(K:PySem.W.Frag)(C E c b a:af):Bool:=PySem.W.excIn K C Es "ValueError.__new__"&&decide (PySem.W.kitOne K (.ref C) (.type "ValueError")=some true/\PySem.W.kitAny K (.ref C) [.ref c,.ref b,.ref a]=some false/\PySem.W.exmOne K (.ref C) (.ref E)=some true)
def ET(K:PySem.W.Frag)(a b E d c f:af):Bool:=vd K a E d c f&&vd K b E d c f&&decide (PySem.W.kitOne K (.ref a) (.ref a)=some true/\PySem.W.kitOne K (.ref a) (.ref b)=some false/\PySem.W.kitOne K (.ref b) (.ref a)=some false/\PySem.W.kitOne K (.ref b) (.ref b)=some true)
theorem sF{p:Nat->Prop}(h0:p 0)(h1:p 1):∀i,i<2->p i
 |0,_=>h0
 |1,_=>h1
theorem xQ2{K:PySem.W.Frag}{mg:ar->Option aa}{a b d c oC oF:af}(g:mg "NoShape"=some (.ref a))(C:mg "TooMany"=some (.ref b))(D:mg "FloorError"=some (.ref d))(w:mg "NoAddress"=some (.ref c))(B:mg "NoCell"=some (.ref oC))(y:mg "NoFloor"=some (.ref oF))(v:mg "ValueError"=none)
  (E:dk K a) (x:dk K b) (k:ET K a b d c oC oF=true):Kq K mg (λi=>([a,b]:List af).getD i 0) d c oC oF:=by
 unfold ET vd at k;simp only[YC,Wc]at k;obtain⟨⟨⟨s,H,h,q⟩,m,t,u,F⟩,A,l,r,G⟩:=k;exact⟨g,C,D,w,B,y,v,sF E x,sF H t,sF h u,λi j n f=>sF (p:=λi=>∀j,j<2->PySem.W.kitOne K (.ref (([a,b]:List af).getD i 0)) (.ref (([a,b]:List af).getD j 0))=some (decide (i=j))) (sF A l) (sF r G) i n j f,sF s m,sF q F⟩
theorem xL7{l:PySem.W.OpenLaw}{w:aj}{K:PySem.W.Frag}{h:ao}{mg:ar->Option aa}{fa fL X0 g Z X3 X4 X5:af}(X:K.In h)(G:h.Ns mainGlobals mg)(hfa:mg "law"=some (.ref fa)){odL SR:Option af}{slL:Array (Option aa)}{ocL QP R7 Qz KS SA:aa}{t0 t1 t2 t3:Tok}
  (aL:PySem.W.nsIn K mainGlobals "law"=some (some (.ref fL))) (lL:K.lookup fL=some ⟨ocL,odL,.func (PySem.W.fnOf "law" "law" (qz iy) (m8 iy) (bF iy) .none QP R7 Qz SR KS SA),slL⟩) (cL:PySem.W.codeIn K KS "law"=true) (kL:PySem.W.keepIn K (.ref fL)=true)
  (g0:PySem.W.nsIn K mainGlobals "FIRST"=some (some (.int 2 t0))) (g1:PySem.W.nsIn K mainGlobals "FULL"=some (some (.int 1 t1))) (g2:PySem.W.nsIn K mainGlobals "GREATEST_SIZE"=some (some (.int 12 t2))) (g3:PySem.W.nsIn K mainGlobals "MOST_LEAVES"=some (some (.int 2000 t3)))
  (d0:dy K "is_whole" su) (d1:dy K "is_plain" Dx) (d2:dy K "depths_of" xU) (d3:dy K "end_rows" qp) (d4:dy K "places_as_ended" DI) (d5:dy K "is_size" xT) (d6:dy K "is_number" sJ) (d7:dy K "is_row" iV) (d8:dy K "are_rows" sX) (d9:dy K "is_telling" xD) (Sy:dy K "is_shape" x9) (Sx:dy K "want_shape" Dw) (Sw:dy K "count_leaves" xu) (Sv:dy K "gather_leaves" C6) (Su:dy K "want_leaves" x8) (Ss:dy K "want_coarse" zO) (Sr:dy K "leaves_of" Dj) (Sq:dy K "_law_pot" rj) (So:dy K "_law_digit" qx) (Sn:dy K "_law_cells" Aq) (Sm:dy K "_law_box" rl) (Sl:dy K "_law_boxes" Ap) (Sk:dy K "_law_meets" sr) (Sj:dy K "_law_has" i8) (Si:dy K "_law_number" sI) (Sh:dy K "_law_shape" Ao) (Sg:dy K "_law_many" xS) (Sf:dy K "_law_leaves" uH) (Se:dy K "_law_merged" DH) (Sd:dy K "_law_drawn" An) (Sb:dy K "_law_word" CI) (Sa:dy K "_law_told" xR) (R_:dy K "_law_right" Am) (R9:dy K "_law_bounds_right" xC) (R8:dy K "_law_odd_shape" Dv)
  (z0:df K "isinstance") (z1:df K "int") (z2:df K "bool") (z3:df K "tuple") (z4:df K "list") (z5:df K "set") (z6:df K "len") (z7:df K "all") (z8:df K "any") (z9:df K "enumerate") (ES:df K "range") (ER:df K "max") (EO:df K "min") (EN:df K "abs") (EM:df K "repr") (EL:df K "str") (EK:df K "sum") (EJ:df K "sorted") (EI:df K "ValueError")
  (Fs:PySem.W.nsIn K mainGlobals "NoShape"=some (some (.ref X0)))
  (Fq:PySem.W.nsIn K mainGlobals "TooMany"=some (some (.ref g)))
  (Fp:PySem.W.nsIn K mainGlobals "FloorError"=some (some (.ref Z)))
  (Fo:PySem.W.nsIn K mainGlobals "NoAddress"=some (some (.ref X3)))
  (Fn:PySem.W.nsIn K mainGlobals "NoCell"=some (some (.ref X4)))
  (Fm:PySem.W.nsIn K mainGlobals "NoFloor"=some (some (.ref X5)))
  (Fv:dk K X0)
  (Fu:dk K g)
  (xk:ET K X0 g Z X3 X4 X5=true):
  ∃fd:ak,(∀(s:ae)(v:aa),BindsTo s fd ⟨[v],[]⟩ [("_law_script",v)])/\∀a:ao,K.In a->a.Ns mainGlobals mg->aE l.prog w K mg a aR 21 fa fd ["_law_script"] (CD K):=by
 have e:=hfa.symm.trans (Zv X G aL);cases e;have b:∀{x:ar},df K x->mg x=none:=λz=>PySem.W.mg_none_of X G z;have B:ee mg:=⟨b z0,b z1,b z2,b z3,b z4,b z5,b z6,b z7,b z8,b z9,b ES,b ER,b EO⟩;have C:rV mg:=⟨b EN,b EM,b EL⟩;have T:pX mg:=⟨⟨t0,Zv X G g0⟩,⟨t1,Zv X G g1⟩,⟨t2,Zv X G g2⟩⟩;have FL:=Mh (st:=iy) lL cL kL;obtain⟨f0,fd0,a0,u⟩:=d0;have J:=Zv X G a0;have Q:=u.binds (ps:=["thing"]) λ_ _ _ _ _ _=>lG λ_=>rfl;obtain⟨f1,fd1,a1,F1⟩:=d1;have h1:=Zv X G a1;have b1:=F1.binds (ps:=["row"]) λ_ _ _ _ _ _=>lG λ_=>rfl;obtain⟨f2,fd2,a2,F2⟩:=d2;have h2:=Zv X G a2;have b2:=F2.binds (ps:=["rows"]) λ_ _ _ _ _ _=>lG λ_=>rfl;obtain⟨f3,fd3,a3,F3⟩:=d3;have h3:=Zv X G a3;have b3:=F3.binds (ps:=["rows","number","ended"]) λ_ _ _ _ _ _=>NL λ_ _ _=>rfl;obtain⟨f4,fd4,a4,F4⟩:=d4;have h4:=Zv X G a4;have b4:=F4.binds (ps:=["rows","top"]) λ_ _ _ _ _ _=>mh λ_ _=>rfl;obtain⟨f5,fd5,a5,p⟩:=d5;have h5:=Zv X G a5;have b5:=p.binds (ps:=["thing"]) λ_ _ _ _ _ _=>lG λ_=>rfl;obtain⟨f6,fd6,a6,f⟩:=d6;have F:=Zv X G a6;have D:=f.binds (ps:=["thing","many"]) λ_ _ _ _ _ _=>mh λ_ _=>rfl;obtain⟨f7,fd7,a7,q⟩:=d7;have h7:=Zv X G a7;have b7:=q.binds (ps:=["thing","before"]) λ_ _ _ _ _ _=>mh λ_ _=>rfl;obtain⟨f8,fd8,a8,j⟩:=d8;have h8:=Zv X G a8;have b8:=j.binds (ps:=["thing"]) λ_ _ _ _ _ _=>lG λ_=>rfl;obtain⟨f9,fd9,a9,n⟩:=d9;have h9:=Zv X G a9;have b9:=n.binds (ps:=["thing"]) λ_ _ _ _ _ _=>lG λ_=>rfl;obtain⟨f10,fd10,K2,P⟩:=Sy;have h10:=Zv X G K2;have U:=P.binds (ps:=["thing"]) λ_ _ _ _ _ _=>lG λ_=>rfl;obtain⟨f11,fd11,SS,Lh⟩:=Sx;have h11:=Zv X G SS;have b11:=Lh.binds (ps:=["shape"]) λ_ _ _ _ _ _=>lG λ_=>rfl;obtain⟨f12,fd12,a12,O⟩:=Sw;have RW:=Zv X G a12;have SO:=O.binds (ps:=["top","rows"]) λ_ _ _ _ _ _=>mh λ_ _=>rfl;obtain⟨f13,fd13,a13,Lg⟩:=Sv;have RV:=Zv X G a13;have SN:=Lg.binds (ps:=["rows","number","address","leaves"]) λ_ _ _ _ _ _=>Fz λ_ _ _ _=>rfl;obtain⟨f14,fd14,a14,A⟩:=Su;have RU:=Zv X G a14;have SM:=A.binds (ps:=["shape","most"]) λ_ _ _ _ _ _=>mh λ_ _=>rfl;obtain⟨f15,fd15,a15,N⟩:=Ss;have h15:=Zv X G a15;have b15:=N.binds (ps:=["shape"]) λ_ _ _ _ _ _=>lG λ_=>rfl;obtain⟨f16,fd16,a16,Le⟩:=Sr;have h16:=Zv X G a16;have b16:=Le.binds (ps:=["shape"]) λ_ _ _ _ _ _=>lG λ_=>rfl;obtain⟨f17,fd17,a17,S9⟩:=Sq;have S:=Zv X G a17;have b17:=S9.binds (ps:=["_law_script","_law_k"]) λ_ _ _ _ _ _=>mh λ_ _=>rfl;obtain⟨f18,fd18,a18,m⟩:=So;have E:=Zv X G a18;have M:=m.binds (ps:=["_law_pot_here","_law_many_here"]) λ_ _ _ _ _ _=>mh λ_ _=>rfl;obtain⟨f19,fd19,a19,S8⟩:=Sn;have h19:=Zv X G a19;have b19:=S8.binds (ps:=["_law_pot_here","_law_n"]) λ_ _ _ _ _ _=>mh λ_ _=>rfl;obtain⟨f20,fd20,a20,S5⟩:=Sm;have h20:=Zv X G a20;have b20:=S5.binds (ps:=["_law_pot_here","_law_n","_law_most"]) λ_ _ _ _ _ _=>NL λ_ _ _=>rfl;obtain⟨f21,fd21,a21,Ld⟩:=Sl;have h21:=Zv X G a21;have b21:=Ld.binds (ps:=["_law_pot_here","_law_n"]) λ_ _ _ _ _ _=>mh λ_ _=>rfl;obtain⟨f22,fd22,a22,Lc⟩:=Sk;have RT:=Zv X G a22;have SK:=Lc.binds (ps:=["_law_box_here","_law_row","_law_column","_law_side"]) λ_ _ _ _ _ _=>Fz λ_ _ _ _=>rfl;obtain⟨f23,fd23,a23,Lb⟩:=Sj;have RS:=Zv X G a23;have SJ:=Lb.binds (ps:=["_law_box_here","_law_row","_law_column","_law_side"]) λ_ _ _ _ _ _=>Fz λ_ _ _ _=>rfl;obtain⟨f24,fd24,a24,SY⟩:=Si;have Y:=Zv X G a24;have b24:=SY.binds (ps:=["_law_rows","_law_boxes_here","_law_row","_law_column","_law_side"]) λ_ _ _ _ _ _=>NK λ_ _ _ _ _=>rfl;obtain⟨f25,fd25,a25,H⟩:=Sh;have RR:=Zv X G a25;have SI:=H.binds (ps:=["_law_n","_law_boxes_here"]) λ_ _ _ _ _ _=>mh λ_ _=>rfl;obtain⟨f26,fd26,a26,L⟩:=Sg;have RQ:=Zv X G a26;have SH:=L.binds (ps:=["_law_shape_here"]) λ_ _ _ _ _ _=>lG λ_=>rfl;obtain⟨f27,fd27,a27,La⟩:=Sf;have RP:=Zv X G a27;have SG:=La.binds (ps:=["_law_boxes_here","_law_address","_law_row","_law_column","_law_side"]) λ_ _ _ _ _ _=>NK λ_ _ _ _ _=>rfl;obtain⟨f28,fd28,a28,K9⟩:=Se;have h28:=Zv X G a28;have b28:=K9.binds (ps:=["_law_leaves_here","_law_shape_here"]) λ_ _ _ _ _ _=>mh λ_ _=>rfl;obtain⟨f29,fd29,a29,K8⟩:=Sd;have h29:=Zv X G a29;have b29:=K8.binds (ps:=["_law_pot_here","_law_n"]) λ_ _ _ _ _ _=>mh λ_ _=>rfl;obtain⟨f30,fd30,a30,K7⟩:=Sb;have h30:=Zv X G a30;have b30:=K7.binds (ps:=["_law_e"]) λ_ _ _ _ _ _=>lG λ_=>rfl;obtain⟨f31,fd31,a31,y⟩:=Sa;have Kh:=Zv X G a31;have KZ:=y.binds (ps:=["_law_shape_here"]) λ_ _ _ _ _ _=>lG λ_=>rfl;obtain⟨f32,fd32,a32,I⟩:=R_;have RO:=Zv X G a32;have SF:=I.binds (ps:=["_law_n","_law_boxes_here"]) λ_ _ _ _ _ _=>mh λ_ _=>rfl;obtain⟨f33,fd33,R,K6⟩:=R9;have h33:=Zv X G R;have b33:=K6.binds (ps:=[]) λ_ _ _ _ _ _=>NM rfl;obtain⟨f34,fd34,W,K5⟩:=R8;have h34:=Zv X G W;have b34:=K5.binds (ps:=["_law_pot_here"]) λ_ _ _ _ _ _=>lG λ_=>rfl;refine⟨PySem.W.fnOf "law" "law" (qz iy) (m8 iy) (bF iy) .none QP R7 Qz SR KS SA,λs v=>.of_eq rfl,λa _ _=>?_⟩;have wG:mg "sum"=none:=b EK;have yj:mg "sorted"=none:=b EJ;have vI:∃t,mg "MOST_LEAVES"=some (.int 2000 t):=⟨t3,Zv X G g3⟩;have r:Kq K mg (λi=>([X0,g]:List af).getD i 0) Z X3 X4 X5:=xQ2 (Zv X G Fs) (Zv X G Fq) (Zv X G Fp) (Zv X G Fo) (Zv X G Fn) (Zv X G Fm) (b EI) Fv Fu xk;have Ca:aE l.prog w K mg a aR 2 _ _ _ _:=T_ p B T J u Q;have Ce:aE l.prog w K mg a aR 2 _ _ _ _:=q53 f B T J u Q;have gPl:∀d,aE l.prog w K mg a aR (d+2) _ _ _ (HM d):=λd=>q59 F4 B T h3 F3 b3 d;have Kn:aE l.prog w K mg a aR 3 _ _ _ _:=xH7 q B F f D Ce;have Cb:aE l.prog w K mg a aR 4 _ _ _ _:=T5 j B h7 q b7 Kn;have wc:aE l.prog w K mg a aR 5 _ _ _ GX:=qP1 n B h5 p b5 Ca h8 j b8 Cb F f D Ce h2 F2 b2;have rH:aE l.prog w K mg a aR 15 _ _ _ HB:=q92 P B T h9 n b9 wc h1 F1 b1 h4 F4 b4 gPl;have wd:aE l.prog w K mg a aR 2 _ _ _ Hh:=UN p B T J u Q;have tH:aE l.prog w K mg a aR 2 _ _ _ Dg:=qY5 f B T J u Q;have Cd:aE l.prog w K mg a aR 3 _ _ _ HV:=TB q B F f D tH;have we:aE l.prog w K mg a aR 4 _ _ _ Hg:=UM j B h7 q b7 Cd;have rF:aE l.prog w K mg a aR 5 _ _ _ Hy:=q96 n B h5 p b5 wd h8 j b8 we F f D tH h2 F2 b2;have rG:aE l.prog w K mg a aR 15 _ _ _ Hx:=q97 rH (qY6 P h9 n b9 rF);have gWS:aE l.prog w K mg a (jv l.prog w) 16 _ _ _ (Hw X0):=q98 Lh r.n0 (r.ex 0 (by decide)) h10 P U rG;have R1:aE l.prog w K mg a aR 1 _ _ _ _:=xO2 O wG;have gWL:aE l.prog w K mg a aR 2 _ _ _ _:=xO3 A RW O SO R1;have gCs:aE l.prog w K mg a aR 3 _ _ _ _:=xO4 N vI RU A SM gWL;have Kk:aE l.prog w K mg a (jv l.prog w) 2 _ _ _ _:=xJ3 A r RW O SO R1;have Ko:=xJ5 (c:=λi=>([X0,g]:List af).getD i 0) N vI RU A SM Kk;have gGL:aE l.prog w K mg a aR 13 _ _ _ (ue 12):=xO5 Lg T C.str B.enum T.full RV SN 12;have gLv:aE l.prog w K mg a (jv l.prog w) 17 _ _ _ (ud (λi=>([X0,g]:List af).getD i 0)):=xO8 Le h11 Lh b11 gWS h15 N b15 gCs Ko RV Lg SN gGL;have V:aE l.prog w K mg a aR 3 _ _ _ _:=U4 Ld B E m M h19 S8 b19 h20 S5 b20;have R3:aE l.prog w K mg a aR 15 _ _ _ _:=xL5 H B Y SY b24 RT Lc SK RS Lb SJ;have R0:aE l.prog w K mg a aR 1 _ _ _ _:=xP3 L wG;have gLl:∀k,k<=12->aE l.prog w K mg a aR (k+2) _ _ _ (nJ k):=MK La B RP SG RT Lc SK RS Lb SJ;have gMg:aE l.prog w K mg a aR 1 _ _ _ _:=xP4 K9 B;have gDw:aE l.prog w K mg a aR 4 _ _ _ _:=xP9 K8 B E m M h21 Ld b21 V;have gWd:∀x,ju l.prog w K mg a 1 x _ _ _ (t7 (λi=>([X0,g]:List af).getD i 0) x):=λx=>xP7 K7 B C wG r;have Kl:aE l.prog w K mg a aR 18 _ _ _ _:=xP8 y r h16 Le b16 gLv h30 K7 b30 gWd;have RZ:aE l.prog w K mg a aR 19 _ _ _ _:=xQ0 I C.repr yj RR H SI R3 RQ L SH R0 RP La SG gLl h28 K9 b28 gMg Kh y KZ Kl;have gBo:aE l.prog w K mg a aR 20 _ _ _ _:=xQ1 K6 B RR H SI R3 RQ L SH R0 Kh y KZ Kl RO I SF RZ;have gOs:aE l.prog w K mg a aR 2 _ _ _ _:=xP1 K5 B E m M;exact xL6 FL B C S S9 b17 E m M h29 K8 b29 gDw RO I SF RZ Kh y KZ Kl h34 K5 b34 gOs h33 K6 b33 gBo
theorem walk{l:PySem.W.OpenLaw}{q:ag}{loose:List ar}{XP:(ar->Option aa)->ao->Prop}{YP:aj->ao->Prop}{d:DefRec}{K:Params->PySem.W.Frag}(r:l.most=some 63)(v:d.params.defaults=[])
  (m:∀(w:aj)(h:ao),YP w h->(K w.params).In h)
  (F:∀(w:aj)(c:ar->Option aa)(i:af)(h:ao),(K w.params).In h->h.Ns mainGlobals c->c d.name=some (.ref i) ->
   ∃g:ak,(∀(s:ae)(u:aa),BindsTo s g ⟨[u],[]⟩ [("_law_script",u)])/\∀b:ao,(K w.params).In b->b.Ns mainGlobals c->aE l.prog w (K w.params) c b aR 21 i g ["_law_script"] (CD (K w.params))):
  PySem.W.WalkO q loose XP YP l.row.toRowW d [] (λf j=>PySem.call f j):=
 L2.Uo (n:=63) (k:=21) (x:= "_law_script") (CX:=λ_=>aR) (sp:=λw=>CD (K w.params)) r (by decide) v ⟨rfl,by decide,by decide,rfl⟩ m F (λ_ _ a t y _ p=>⟨a,t,rfl,p,y,λ_=>rfl⟩) λ_ _ _ _ _ z=>z
end Pr
open PySem PySem.W PyProof.Rows
set_option maxRecDepth 100000 in
set_option maxHeartbeats 0 in
theorem PySem.Challenge.cw_quarterfold_k27_leaves_holds : PySem.Challenge.rw_quarterfold_k27_leaves.Holds := by
 w_on;o_law
 refine holds_open (q:=Hd.q0) (loose:=[]) (Xt:=Hd.X0) (XP:=XL Hd.q0 []) (YP:=Hook.says (kHook Hd.K0 Hd.tN Hd.ll)) (N:=Hd.N0) Hd.xL8
  (Hook.of (kHook Hd.K0 Hd.tN Hd.ll)) (Hook.keeps (kHook Hd.K0 Hd.tN Hd.ll)) (λs e=>xl_of s (Wi.mp e).1) XL.keeps
  (by rfl) (by rfl) (by rfl) (λs e=>recFacts_of (Wi.mp e).2)
  (by rfl) (by first|assumption|decide +kernel) (by decide +kernel) ⟨rfl,rfl,rfl,rfl,rfl,by decide +kernel⟩ ?hw ?hc
 case hw=>w_witness2
 k_fill
 refine Pr.walk (l:=PySem.Challenge.rw_quarterfold_k27_leaves) rfl rfl (λw h Y=>PySem.W.kIn_of Y) ?F
 case F=>
  intro w mg fa h KX G BF;refine' Pr.xL7 KX G BF ?aL ?lL ?cL ?kL ?gc0 ?gc1 ?gc2 ?gc3 ?d0 ?d1 ?d2 ?d3 ?d4 ?d5 ?d6 ?d7 ?d8 ?d9 ?Sy ?Sx ?Sw ?Sv ?Su ?Ss ?Sr ?Sq ?So ?Sn ?Sm ?Sl ?Sk ?Sj ?Si ?Sh ?Sg ?Sf ?Se ?Sd ?Sb ?Sa ?R_ ?R9 ?R8 ?z0 ?z1 ?z2 ?z3 ?z4 ?z5 ?z6 ?z7 ?z8 ?z9 ?ES ?ER ?EO ?EN ?EM ?EL ?EK ?EJ ?EI ?Fs ?Fq ?Fp ?Fo ?Fn ?Fm ?Fv ?Fu ?xk
  (case aL=>k_is);(case lL=>k_is);(case cL=>k_is);(case kL=>k_is)
  (case gc0=>k_is)
  (case gc1=>k_is)
  (case gc2=>k_is)
  (case gc3=>k_is)
  (case z0=>unfold Pr.df;k_is)
  (case z1=>unfold Pr.df;k_is)
  (case z2=>unfold Pr.df;k_is)
  (case z3=>unfold Pr.df;k_is)
  (case z4=>unfold Pr.df;k_is)
  (case z5=>unfold Pr.df;k_is)
  (case z6=>unfold Pr.df;k_is)
  (case z7=>unfold Pr.df;k_is)
  (case z8=>unfold Pr.df;k_is)
  (case z9=>unfold Pr.df;k_is)
  (case ES=>unfold Pr.df;k_is)
  (case ER=>unfold Pr.df;k_is)
  (case EO=>unfold Pr.df;k_is)
  (case EN=>unfold Pr.df;k_is)
  (case EM=>unfold Pr.df;k_is)
  (case EL=>unfold Pr.df;k_is)
  (case EK=>unfold Pr.df;k_is)
  (case EJ=>unfold Pr.df;k_is)
  (case EI=>unfold Pr.df;k_is)
  (case Fs=>k_is)
  (case Fq=>k_is)
  (case Fp=>k_is)
  (case Fo=>k_is)
  (case Fn=>k_is)
  (case Fm=>k_is)
  (case Fv=>refine' Pr.Cj ?q1 ?q2 ?q3 ?q4 ?q5 ?q6 ?q7 ?q8;(case q1=>k_is);(case q2=>k_is);(case q3=>k_is);(case q4=>k_is);(case q5=>k_is);(case q6=>k_is);(case q7=>k_is);(case q8=>k_is))
  (case Fu=>refine' Pr.Cj ?q1 ?q2 ?q3 ?q4 ?q5 ?q6 ?q7 ?q8;(case q1=>k_is);(case q2=>k_is);(case q3=>k_is);(case q4=>k_is);(case q5=>k_is);(case q6=>k_is);(case q7=>k_is);(case q8=>k_is))
  (case xk=>kernel_rfl)
  all_goals (refine' Pr.KP ?qa ?ql ?qc ?qk;(case qa=>k_is);(case ql=>k_is);(case qc=>k_is);(case qk=>k_is))