import PyProof.Rows.All
import Wide.All
import OpenK.AllK
import Wide.FinOn
import Lean
import PyProof.EqAt
import PyProof.EqKinds
import PyProof.TupleCall
import Open.Row
import PySem.SetOps
import PyProof.SetRoads
import PyProof.Rows.SetFrom
import PyProof.FactsAll.subtypes_4
import PyProof.WalksMore
import OpenK.KOwn
import PyProof.NeData
import PyProof.ReprRoads
import PyProof.WalksEnum
import PyProof.EnumMake
import PyProof.Rows.EnumRows
import KE.KTryMore
import KE.KIntText
import KE.KDictList
import PyProof.ConsumeS
import PyProof.ListRange
import PyProof.ListMulRoad
import PyProof.CompUse
import PyProof.CompFree
import PyProof.DictUpdate
import PyProof.Rows.TupDisplay
import PyProof.DictWalks
import PyProof.TupleOfGen
import PyProof.TupleKey
import KE.BitLaws
import PyProof.MaxThree
import KE.KDictOf
import PyProof.AttrMissHeap
import PyProof.WalksS
import PyProof.ZipIter
import PyProof.SetKind
import PyProof.Rows.SortRunsK
import PyProof.Rows.SortShellK
import PyProof.Rows.SortKeyStr
import PyProof.Rows.SortWalk
import PyProof.Rows.StrInSeq
import PyProof.P3Eq
import PyProof.DictKinds
import PyProof.StrOps
import PySem.Challenge.RW_quarterfold_k66_whole_balance
set_option Elab.async false
set_option linter.all false
set_option maxRecDepth 100000
set_option maxHeartbeats 8000000
open PyProof.Rows renaming SortSt→au
open PySem renaming Value→aa,Shared→ab,Addr→ae,wpAny→af,Program→ag,model→ah,World→ai,Around→aj,FuncData→ak,Heap→ao,SetTable→aq,Str→ar,Expr→av,Obj→aw,Scope→az,Stmt→aA,DictEntry→aB,Pos→aC
local macro_rules|`('a')=>`(by lia)|`('b')=>`(by decide)
variable{P prog:ag}{w:ai}{A:aj}{E:aa->ab->Prop}{s:ab}{K:PySem.W.Frag}{mg:ar->Option aa}{base:ao}
def Za:=@PySem.wpAny_bind
def Zb:=@PySem.wpAny_pure
def Zc:=@PySem.Heap.get?_push_of_some
def Zd:=@Nat.le_refl
def Ze:=@List.getElem?_eq_getElem
def Zg:=@List.length_map
def Zh:=@List.getElem?_map
def Zi:=@if_neg
def Zj:=@PySem.Heap.get?_push_size
def Zk:=@if_pos
def Zl:=@Option.map_eq_some_iff
def Zm:=@decide_eq_false
def Zn:=@PySem.Heap.lt_size
def Zo:=@decide_eq_true
def Zp:=@List.mem_cons_of_mem
def Zq:=@List.getElem?_append_right
def Zr:=@List.getElem?_append_left
def Zs:=@Nat.zero_le
def Zt:=@Bool.false_eq_true
def Zu:=@List.mem_cons
def Zv:=@Bool.false_ne_true
def Zw:=@List.length_append
def Zx:=@PyProof.Rows.wpS_bind
def Zy:=@Nat.ne_of_lt
def Zz:=@List.mem_cons_self
def ZA:=@PySem.W.mg_of
def ZB:=@List.map_cons
def ZC:=@PyProof.Rows.wpS_pure
def ZD:=@List.getD_eq_getElem?_getD
def ZE:=@Option.some.inj
def ZF:=@Nat.le_trans
def ZG:=@Int.toNat_natCast
def ZH:=@List.mem_of_getElem?
def ZI:=@List.size_toArray
def ZJ:=@of_decide_eq_true
def ZK:=@List.mem_iff_getElem
def ZL:=@List.map_append
def ZM:=@List.length_cons
def ZN:=@Nat.lt_succ_self
def ZO:=@Array.length_toList
def ZP:=@PyProof.Rows.boot_tuple
def ZQ:=@getElem?_pos
def ZR:=@PySem.wpAny_ite_split
def ZS:=@PySem.wpAny_newObj_type
def ZT:=@Nat.lt_of_lt_of_le
def ZU:=@List.mem_map
def ZV:=@PyProof.Rows.KeyOrd.kle_trans
def ZW:=@List.mem_append
def ZX:=@if_false
def ZY:=@PySem.wpAny_holding
def ZZ:=@congrArg
def Z0:=@PySem.Heap.size_push
def Z1:=@List.mem_singleton
def Z2:=@PySem.wpAny_call_entry
def Z3:=@PySem.wpAny_callSpecial?_slot
def Z4:=@Array.getElem?_eq_getElem
def Z5:=@PySem.wpAny_setState_of
def Z6:=@Nat.lt_succ_of_lt
def Z7:=@Nat.mul_comm
def Z8:=@Array.getElem?_eq_some_iff
def Z9:=@PySem.Around.under_plainId
def Yb:=@List.nodup_iff_pairwise_ne
def Yc:=@PySem.wpAny_truthy_bool
def Yd:=@List.not_mem_nil
def Ye:=@PyProof.Rows.KeyOrd.kle_of_klt
def Yg:=@List.mem_append_right
def Yh:=@PySem.Heap.get?_update_self
def Yi:=@PySem.Heap.SameBut.update
def Yj:=@PyProof.Rows.F.plain_set_update_loop
def Yk:=@Array.toList_append
def Yl:=@Nat.div_eq_of_lt
def Ym:=@List.any_eq_true
def Yn:=@Bool.eq_iff_iff
def Yo:=@Nat.div_add_mod
def Yp:=@PySem.codeAny_builtin
def Yq:=@PySem.boot_len
def Yr:=@Nat.mod_lt
def Ys:=@Nat.lt_of_le_of_lt
def Yt:=@Array.getElem?_toList
def Yu:=@List.nodup_cons
def Yv:=@PySem.PassesOwn.never
def Yw:=@List.mem_range
def Yx:=@PySem.Paired.length
def Yy:=@List.pairwise_iff_getElem
def Yz:=@PySem.Obj.data_mapFields
def YA:=@decide_eq_true_iff
def YB:=@Nat.not_lt_zero
def YC:=@List.range_succ
def YD:=@PyProof.Rows.boot_isinstance
def YE:=@Ne.symm
def YF:=@Nat.le_add_right
def YG:=@decide_eq_decide
def YH:=@List.filterMap_cons
def YI:=@List.map_congr_left
def YJ:=@Nat.pow_succ
def YK:=@List.length_range
def YL:=@List.map_map
def YM:=@List.take_succ_eq_append_getElem
def YN:=@of_decide_eq_false
def YO:=@Nat.lt_irrefl
def YQ:=@PySem.W.kia_one
def YR:=@Nat.mul_assoc
def YS:=@List.lookup_cons
def YT:=@PySem.wpAny_askSetting
def YU:=@PyProof.Rows.F.entry_set_update_loop
def YV:=@Bool.eq_false_iff
def YW:=@List.append_assoc
def YX:=@Nat.pow_add
def YY:=@Nat.div_lt_iff_lt_mul
def YZ:=@List.cons_lt_cons_iff
def Y0:=@Bool.not_true
def Y1:=@Bool.and_false
def Y2:=@List.mem_filter
def Y3:=@Nat.add_zero
def Y4:=@PySem.F.slot_dict_keyiterator_next
def Y5:=@Nat.succ_mul
def Y6:=@PyProof.Rows.KeyOrd.kle_refl
def Y7:=@PySem.wpAny_mono
def Y8:=@PySem.wpAny_rule
def Y9:=@List.filter_cons
def Xa:=@Nat.mul_le_mul_right
def Xb:=@PyProof.Rows.callWith_type1
def Xc:=@List.any_cons
def Xd:=@PySem.plainId_quiet
def Xe:=@PySem.Heap.get?_update_other
def Xf:=@beq_eq_false_iff_ne
def Xg:=@PySem.wpAny_field
def Xh:=@if_true
def Xi:=@List.take_append_drop
def Xj:=@PySem.F.slot_enumerate_next
def Xk:=@PyProof.Rows.boot_int
def Xl:=@List.getElem?_eq_none
def Xm:=@List.all_eq_true
def Xn:=@Nat.add_sub_cancel
def Xo:=@forall_congr'
def Xp:=@PySem.F.slot_list_append
def Xq:=@PySem.F.type_list_append
def Xr:=@List.cons.inj
def Xs:=@PyProof.Rows.wpS_forRange
def Xu:=@Nat.le_succ
def Xv:=@List.nodup_nil
def Xw:=@PySem.wpAny_typeNameOfWhole_keyiter
def Xx:=@List.exists_cons_of_length_eq_add_one
def Xy:=@PySem.wpAny_pyIter_list
def Xz:=@List.nodup_append
def XA:=@PySem.F.plainAttrs_list
def XB:=@Array.toList_push
def XC:=@beq_iff_eq
def XD:=@List.find?_cons
def XE:=@PySem.wpAny_specialOf
def XF:=@Bool.or_eq_true
def XG:=@Prod.ext
def XH:=@Nat.div_div_eq_div_mul
def XI:=@List.take_of_length_le
def XJ:=@PySem.wpAny_attempt
def XM:=@Nat.mod_eq_of_lt
def XN:=@List.getElem_mem
def XO:=@PySem.F.slot_tuple_iterator_next
def XQ:=@PySem.wpAny_setField
def XR:=@List.pairwise_cons
def XS:=@PySem.Obj.isFreed_of_fields
def XT:=@List.drop_eq_getElem_cons
def XU:=@List.append_nil
def XV:=@List.cons.injEq
def XW:=@Nat.mul_add_div
def XX:=@Nat.le_of_lt
def XY:=@PySem.sizeLine_eq
def XZ:=@List.any_eq_false
def X1:=@Nat.sub_self
def X2:=@PySem.lookup_relabel_local
def X3:=@Nat.pow_le_pow_right
def X4:=@Array.toList_extract
def X5:=@Option.isSome_iff_exists
def X6:=@List.take_append_getElem
def X7:=@PySem.wpAny_typeNameOf_keyiter
def X8:=@PyProof.Rows.wpS_modify
def X9:=@PyProof.Rows.slot_tuple_getitem
def Wa:=@PySem.mem_of_lookup
def Wb:=@List.getElem_of_mem
def Wc:=@List.reverse_append
def Wd:=@List.length_take
def We:=@Bool.and_eq_true
def Wf:=@Nat.le_of_not_lt
def Wg:=@PySem.wpAny_seqItems
def Wh:=@PySem.wpAny_forIn_list
def Wi:=@or_false
def Wj:=@PySem.wpAny_isInstance
def Wk:=@List.take_length
def Wl:=@Sum.inl.inj
def Wm:=@Nat.ne_of_gt
def Wn:=@PySem.wpAny_pyIter_tuple
def Wo:=@PySem.codeAny_mono
def Wp:=@PySem.tupleKind_room_in1
def Wq:=@PySem.wpAny_setField_rec
def Wr:=@Array.getElem?_eq_none
def Ws:=@PySem.size_of_entries
def Wt:=@List.sum_cons
def Wu:=@PyProof.Rows.boot_min
def Wv:=@PySem.wpAny_callSpecialIfBoundUnlessNone?_slot
def Ww:=@PySem.builtinLookup_eq_fast
def Wx:=@Option.isSome_map
def Wz:=@PySem.F.slot_tuple_hash
def WA:=@PySem.Heap.SameBut.refl
def WB:=@List.ext_getElem?
def WC:=@List.mem_append_left
def WD:=@Nat.mul_add
def WE:=@Array.toList_setIfInBounds
def WF:=@PySem.codeAny_call_builtin
def WG:=@PySem.wpAny_of_eq
def WH:=@PySem.wpAny_fieldsOf
def WI:=@Nat.pow_pos
def WJ:=@Nat.mul_le_mul
def WK:=@Bool.and_eq_true_iff
def WL:=@Array.perm_iff_toList_perm
def WM:=@List.pairwise_append
def WN:=@Array.toList_reverse
def WO:=@Nat.succ.inj
def WP:=@PySem.wpAny_typeOf
def WQ:=@List.map_nil
def WR:=@Nat.add_comm
def WS:=@List.getElem?_range
def WT:=@Nat.div_mul_le_self
def WU:=@Nat.add_le_add_left
def WV:=@List.countP_eq_zero
def WW:=@Prod.mk.injEq
def WX:=@PySem.F.args_tuple_add_2
def WY:=@List.length_erase_of_mem
def WZ:=@PySem.AutoSeq1.wpAny_loadPart'
def W0:=@Nat.add_assoc
def W1:=@PyProof.Rows.wpS_mono
def W2:=@PyProof.Rows.KeyOrd.klt_of_klt_of_kle
def W3:=@PySem.wpAny_passesOwn
def W4:=@Nat.two_pow_pos
def W5:=@List.foldl_cons
def W6:=@and_congr_right
def W7:=@PySem.wpAny_Call_Name_kw
def W8:=@Int.emod_lt_of_pos
def W9:=@Array.forIn_toList
def Va:=@List.filter_append
def Vb:=@PySem.F.entry_tuple_add
def Vc:=@PySem.F.args_enumerate_next_1
def Vd:=@Nat.add_sub_cancel_left
def Ve:=@decide_eq_false_iff_not
def Vf:=@List.length_eq_zero_iff
def Vg:=@Nat.le_of_eq
def Vh:=@PySem.F.slot_tuple_add
def Vi:=@PyProof.Rows.subscriptTail_builtinR
def Vj:=@PySem.Calls.callWith_builtin
def Vk:=@List.length_pos_of_mem
def Vl:=@PySem.wpAny_storeSet_of
def Vm:=@PySem.Obj.cls_mapFields
def Vn:=@PySem.F.entry_enumerate_next
def Vo:=@Nat.le_of_lt_succ
def Vp:=@PySem.wpAny_pyIter_enum
def Vq:=@List.foldl_append
def Vr:=@PySem.wpAny_dictEntries
def Vs:=@Nat.lt_trichotomy
def Vt:=@List.pairwise_map
def Vu:=@List.pairwise_iff_forall_sublist
def Vv:=@Bool.not_eq_true'
def Vw:=@List.reverse_perm
def Vx:=@PySem.Heap.get?_push_ne
def Vy:=@PySem.F.slot_dict_get
def Vz:=@List.length_filter_le
def VA:=@PyProof.Rows.boot_max
def VB:=@PyProof.Rows.boot_all
def VC:=@PyProof.Rows.boot_any
def VD:=@PyProof.Rows.boot_set
def VE:=@PySem.wpAny_isOneOf_keyiter
def VF:=@List.Perm.append_left
def VG:=@PyProof.Rows.KeyOrd.not_klt_of_kle
def VH:=@PySem.F.slot_bool_hash
def VI:=@PySem.Heap.size_update
def VJ:=@PyProof.Rows.wpS_get
def VL:=@Nat.add_mul
def VM:=@List.mem_erase_of_ne
def VN:=@Array.mem_extract_iff_getElem
def VO:=@Option.map_some
def VP:=@List.length_nil
def VQ:=@PySem.codeAny_of_tree
def VR:=@Nat.le_antisymm
def VS:=@List.nil_append
def VT:=@PySem.wpAny_ret_mkInt
def VU:=@Int.natCast_mul
def VV:=@PySem.typeLookup_type
def VW:=@Array.getElem?_setIfInBounds
def VX:=@PySem.W.plainGet_of
def VY:=@Array.getElem?_push
def VZ:=@List.length_pos_iff
def V0:=@List.replicate_succ
def V1:=@PySem.wpAny_setEntries_of
def V2:=@Nat.lt_trans
def V3:=@Nat.succ_pos
def V4:=@PyProof.Rows.boot_enumerate
def V5:=@LawfulMonad.pure_bind
def V6:=@List.mem_filterMap
def V7:=@Int.natCast_nonneg
def V8:=@Int.fdiv_eq_ediv_of_nonneg
def V9:=@PySem.Calls.spliced_cons
def Ua:=@PySem.W.callWith_K
def Ub:=@Bool.not_false
def Uc:=@PySem.Code.quiet_builtin
def Ud:=@PySem.wpAny_runValue
def Ue:=@Nat.lt_of_mul_lt_mul_right
def Uf:=@PySem.wpAny_tupleItemsOf
def Ug:=@List.zip_cons_cons
def Uh:=@Nat.mod_mul_right_div_self
def Ui:=@Nat.lt_or_eq_of_le
def Uj:=@PySem.isSubtype_type
def Uk:=@List.length_eraseIdx_of_lt
def Ul:=@Array.getElem?_eq_none_iff
def Um:=@PySem.F.slot_dict_getitem
def Uo:=@List.getElem?_zip_eq_some
def Up:=@List.exists_mem_of_ne_nil
def Uq:=@PySem.F.plain_extend_loop
def Ur:=@Nat.mul_left_comm
def Us:=@Array.getElem_mem
def Ut:=@Nat.le_succ_of_le
def Uu:=@decide_eq_true_eq
def Uv:=@PySem.wpAny_pyIter_slot
def Uw:=@PySem.wpAny_cRoomFor_or
def Ux:=@Bool.not_or
def Uy:=@PySem.fits_of_scanBound
def Uz:=@PySem.wpAny_standAt
def UA:=@Bool.or_false
def UB:=@Bool.and_self
def UC:=@beq_self_eq_true
def UD:=@PySem.putSet_of
def UE:=@Option.getD_some
def UF:=@Int.natCast_ediv
def UG:=@Int.natCast_emod
def UH:=@List.countP_cons
def UI:=@PyProof.Rows.wpS_lift
def UJ:=@bind_congr
def UK:=@PySem.Walks.list
def UL:=@Nat.zero_mul
def UM:=@Int.zero_add
def UN:=@List.of_mem_zip
def UO:=@List.length_set
def UP:=@List.forIn_cons
def UQ:=@Int.emod_nonneg
def UR:=@List.length_zip
def US:=@Bool.false_and
def UT:=@List.drop_drop
def UU:=@and_true
theorem cz{α:Type}{l:List α}{i:Nat}{a:α}(h:l[i]?=some a):∃h:i<l.length,l[i]=a:=List.getElem?_eq_some_iff.mp h
namespace L2
open PySem
def gR(s:aA)(j:Nat):aA:=match s with
 |.ClassDef _ _ _ a _ _ _ _ _ _ _=>a.getD j (.Pass ⟨0,0,0,0⟩)
 |_=>.Pass ⟨0,0,0,0⟩
def qj(s:aA):Arguments:=match s with
 |.FunctionDef _ a _ _ _ _ _ _ _ _=>a
 |_=>{posonlyargs:=[],args:=[],vararg:=none,kwonlyargs:=[],kw_defaults:=[],kwarg:=none,defaults:=[]}
def oZ(s:aA):List aA:=match s with
 |.FunctionDef _ _ b _ _ _ _ _ _ _=>b
 |_=>[]
def ck(s:aA):az:=match s with
 |.FunctionDef _ _ _ _ _ _ a _ _ _=>a
 |_=>{kind:=.function,names:=[],isGenerator:=false,isCoroutine:=false}
end L2
namespace Pr
open PySem
def top(i:Nat):aA:=PySem.Challenge.pw_quarterfold_k66_whole_balance.main.body.getD i (.Pass ⟨0,0,0,0⟩)
end Pr
namespace Hd
open PySem PySem.W
abbrev pw:ag:=PySem.Challenge.pw_quarterfold_k66_whole_balance
abbrev jj:aa:=.str "quarterfold.balance" 378
abbrev ju:aa:=.str "law_quarterfold_k66_whole_balance" 483
abbrev oV:aa:=.str "quarterfold.rows" 239
abbrev oU:aa:=.str "quarterfold.tellings" 305
abbrev Fn:aa:=.str "quarterfold.deeds" 350
def kh(P:Params)(x:ar):Int:=PySem.PyData.keyHash P x
def oM(n q:ar)(st:aA)(m:aa)(c:Nat):aw:=⟨.type "function",none,.func (fnOf n q (L2.qj st) (L2.oZ st) (L2.ck st) .none .none .none m none (.ref c) .none),#[]⟩
def oF(n:ar)(st:aA)(m:aa)(c:Nat):aw:=⟨.type "function",none,.func (fnOf n n (L2.qj st) (L2.oZ st) (L2.ck st) .none .none .none m none (.ref c) .none),#[]⟩
def oT(n q:ar)(st:aA):aw:=⟨.none,none,.func {fnOf n q (L2.qj st) (L2.oZ st) (L2.ck st) .none .none .none .none none .none .none with globals:=0},#[]⟩
def oC(n q:ar)(h e b l a g c:Nat)(y z:aa)(d k f:Nat):aw:=⟨.type "code",none,.fields #[.str n h,.str q e,.str "/claim/cut.py" b,.int l 0,.int a 0,.int 0 0,.int 0 0,.int 3 0,.ref g,.bool true,.int 181 0,.ref c,.none,y,z,.ref d,.int k 0,.int l 0,.str "/claim/cut.py" f],#[]⟩
abbrev aT:PySem.Obj:=⟨.type "tuple",none,(.seq #[] 0),#[]⟩
abbrev cV:PySem.Obj:=⟨.none,none,(.fields #[]),#[]⟩
abbrev cw(a:Array PySem.Value):PySem.Obj:=⟨.type "tuple",none,(.seq a 0),#[]⟩
abbrev aR(P:Params)(x:ar)(n:Tok)(v:aa):aB:=⟨kh P x,.str x n,v⟩
def K0(P:Params):Frag:=
(nat_lit 2,⟨.none,none,(.dict #[] 0),#[]⟩)::
 (nat_lit 3,⟨.type "dict",none,(.dict #[aR P "__name__" 165 (.str "law_quarterfold_k66_whole_balance" 483),aR P "__doc__" 166 .none,aR P "__package__" 167 .none,aR P "__loader__" 168 (.builtin "__main__.__loader__#opaque"),aR P "__spec__" 169 .none,aR P "__annotations__" 170 (.ref 6),aR P "__builtins__" 171 (.ref 4),aR P "__file__" 173 (.str "/claim/cut.py" 172),aR P "__cached__" 174 .none,aR P "FloorError" 206 (.ref 24),aR P "NoShape" 222 (.ref 37),aR P "NoWay" 238 (.ref 49),aR P "EMPTY" 242 (.int 0 241),aR P "FULL" 244 (.int 1 243),aR P "FIRST" 246 (.int 2 245),aR P "is_whole" 253 (.ref 58),aR P "is_plain" 260 (.ref 65),aR P "quarters_of" 268 (.ref 72),aR P "depths_of" 274 (.ref 77),aR P "end_rows" 284 (.ref 84),aR P "places_as_ended" 293 (.ref 91),aR P "GREATEST_SIZE" 297 (.int 12 296),aR P "is_size" 304 (.ref 98),aR P "is_number" 314 (.ref 105),aR P "is_row" 320 (.ref 110),aR P "are_rows" 326 (.ref 115),aR P "is_telling" 336 (.ref 122),aR P "is_shape" 342 (.ref 127),aR P "want_shape" 349 (.ref 134),aR P "exchanged" 358 (.ref 141),aR P "exchanged_rows" 364 (.ref 146),aR P "SIDES" 368 (.str "sides" 367),aR P "CORNERS" 370 (.str "corners" 369),aR P "want_way" 377 (.ref 153),aR P "corners_of" 385 (.ref 158),aR P "turned_about" 392 (.ref 165),aR P "Account" 470 (.ref 213),aR P "balance" 482 (.ref 224),aR P "_law_pot" 493 (.ref 231),aR P "_law_digit" 502 (.ref 238),aR P "_law_cells" 508 (.ref 243),aR P "_law_box" 523 (.ref 250),aR P "_law_boxes" 529 (.ref 255),aR P "_law_meets" 539 (.ref 262),aR P "_law_has" 549 (.ref 269),aR P "_law_number" 555 (.ref 274),aR P "_law_shape" 565 (.ref 281),aR P "_law_small" 571 (.ref 286),aR P "_law_place" 582 (.ref 293),aR P "_law_put_at" 588 (.ref 298),aR P "_law_by_sides" 600 (.ref 305),aR P "_law_by_corners" 613 (.ref 312),aR P "_law_parted" 619 (.ref 317),aR P "_law_right" 625 (.ref 322),aR P "law" 638 (.ref 329)] 55),#[]⟩)::
 (nat_lit 15,(cw #[.type "ValueError"]))::
 (nat_lit 22,aT)::
 (nat_lit 23,⟨.type "dict",none,(.dict #[aR P "__module__" 196 (.str "quarterfold.errors" 187),aR P "__firstlineno__" 200 (.int 2 199),aR P "__static_attributes__" 201 (.ref 22),aR P "__weakref__" 203 (.ref 25),aR P "__doc__" 204 .none] 3),#[]⟩)::
 (nat_lit 24,⟨.type "type",none,(.cls ⟨"FloorError",[.type "ValueError"],[.ref 24,.type "ValueError",.type "Exception",.type "BaseException",.type "object"],23,"FloorError",true,[],[.ref 37,.ref 49],false,none,false⟩),#[some (.ref 15),none,some (.str "FloorError" 189),some (.str "FloorError" 197),some (.builtin "ValueError.__new__"),some (.bool true)]⟩)::
 (nat_lit 25,⟨.type "getset_descriptor",none,(.fields #[.str "__weakref__" 202,.ref 24,.builtin "ExceptionGroup.__weakref__",.none]),#[]⟩)::
 (nat_lit 28,(cw #[.ref 24]))::
 (nat_lit 35,aT)::
 (nat_lit 36,⟨.type "dict",none,(.dict #[aR P "__module__" 214 (.str "quarterfold.errors" 187),aR P "__firstlineno__" 218 (.int 4 217),aR P "__static_attributes__" 219 (.ref 35),aR P "__doc__" 220 .none] 2),#[]⟩)::
 (nat_lit 37,⟨.type "type",none,(.cls ⟨"NoShape",[.ref 24],[.ref 37,.ref 24,.type "ValueError",.type "Exception",.type "BaseException",.type "object"],36,"NoShape",true,[],[],false,none,false⟩),#[some (.ref 28),none,some (.str "NoShape" 207),some (.str "NoShape" 215),some (.builtin "ValueError.__new__"),some (.bool true)]⟩)::
 (nat_lit 40,(cw #[.ref 24]))::
 (nat_lit 47,aT)::
 (nat_lit 48,⟨.type "dict",none,(.dict #[aR P "__module__" 230 (.str "quarterfold.errors" 187),aR P "__firstlineno__" 234 (.int 6 233),aR P "__static_attributes__" 235 (.ref 47),aR P "__doc__" 236 .none] 2),#[]⟩)::
 (nat_lit 49,⟨.type "type",none,(.cls ⟨"NoWay",[.ref 24],[.ref 49,.ref 24,.type "ValueError",.type "Exception",.type "BaseException",.type "object"],48,"NoWay",true,[],[],false,none,false⟩),#[some (.ref 40),none,some (.str "NoWay" 223),some (.str "NoWay" 231),some (.builtin "ValueError.__new__"),some (.bool true)]⟩)::
 (nat_lit 52,aT)::
 (nat_lit 54,(cw #[.str "thing" 250]))::
 (nat_lit 55,aT)::
 (nat_lit 57,oC "is_whole" "is_whole" 247 248 249 12 1 52 53 (.ref 54) (.ref 55) 56 251 252)::
 (nat_lit 58,oF "is_whole" (Pr.top 8) oV 57)::
 (nat_lit 59,aT)::
 (nat_lit 61,(cw #[.str "row" 257]))::
 (nat_lit 62,aT)::
 (nat_lit 64,oC "is_plain" "is_plain" 254 255 256 14 1 59 60 (.ref 61) (.ref 62) 63 258 259)::
 (nat_lit 65,oF "is_plain" (Pr.top 9) oV 64)::
 (nat_lit 66,aT)::
 (nat_lit 68,(cw #[.str "rows" 264,.str "number" 265]))::
 (nat_lit 69,aT)::
 (nat_lit 71,oC "quarters_of" "quarters_of" 261 262 263 16 2 66 67 (.ref 68) (.ref 69) 70 266 267)::
 (nat_lit 72,oF "quarters_of" (Pr.top 10) oV 71)::
 (nat_lit 73,aT)::
 (nat_lit 76,oC "depths_of" "depths_of" 269 270 271 20 1 73 74 .none .none 75 272 273)::
 (nat_lit 77,oF "depths_of" (Pr.top 11) oV 76)::
 (nat_lit 78,aT)::
 (nat_lit 80,(cw #[.str "rows" 278,.str "number" 279,.str "ended" 280,.str "quarter" 281]))::
 (nat_lit 81,aT)::
 (nat_lit 83,oC "end_rows" "end_rows" 275 276 277 25 3 78 79 (.ref 80) (.ref 81) 82 282 283)::
 (nat_lit 84,oF "end_rows" (Pr.top 12) oV 83)::
 (nat_lit 85,aT)::
 (nat_lit 87,(cw #[.str "rows" 288,.str "top" 289,.str "ended" 290]))::
 (nat_lit 88,aT)::
 (nat_lit 90,oC "places_as_ended" "places_as_ended" 285 286 287 31 2 85 86 (.ref 87) (.ref 88) 89 291 292)::
 (nat_lit 91,oF "places_as_ended" (Pr.top 13) oV 90)::
 (nat_lit 92,aT)::
 (nat_lit 94,(cw #[.str "thing" 301]))::
 (nat_lit 95,aT)::
 (nat_lit 97,oC "is_size" "is_size" 298 299 300 37 1 92 93 (.ref 94) (.ref 95) 96 302 303)::
 (nat_lit 98,oF "is_size" (Pr.top 16) (.str "quarterfold.floors" 294) 97)::
 (nat_lit 99,aT)::
 (nat_lit 101,(cw #[.str "thing" 310,.str "many" 311]))::
 (nat_lit 102,aT)::
 (nat_lit 104,oC "is_number" "is_number" 307 308 309 40 2 99 100 (.ref 101) (.ref 102) 103 312 313)::
 (nat_lit 105,oF "is_number" (Pr.top 18) oU 104)::
 (nat_lit 106,aT)::
 (nat_lit 109,oC "is_row" "is_row" 315 316 317 42 2 106 107 .none .none 108 318 319)::
 (nat_lit 110,oF "is_row" (Pr.top 19) oU 109)::
 (nat_lit 111,aT)::
 (nat_lit 114,oC "are_rows" "are_rows" 321 322 323 46 1 111 112 .none .none 113 324 325)::
 (nat_lit 115,oF "are_rows" (Pr.top 20) oU 114)::
 (nat_lit 116,aT)::
 (nat_lit 118,(cw #[.str "thing" 330,.str "n" 331,.str "top" 332,.str "rows" 333]))::
 (nat_lit 119,aT)::
 (nat_lit 121,oC "is_telling" "is_telling" 327 328 329 48 1 116 117 (.ref 118) (.ref 119) 120 334 335)::
 (nat_lit 122,oF "is_telling" (Pr.top 21) oU 121)::
 (nat_lit 123,aT)::
 (nat_lit 126,oC "is_shape" "is_shape" 337 338 339 55 1 123 124 .none .none 125 340 341)::
 (nat_lit 127,oF "is_shape" (Pr.top 22) oU 126)::
 (nat_lit 128,aT)::
 (nat_lit 130,(cw #[.str "shape" 346]))::
 (nat_lit 131,aT)::
 (nat_lit 133,oC "want_shape" "want_shape" 343 344 345 62 1 128 129 (.ref 130) (.ref 131) 132 347 348)::
 (nat_lit 134,oF "want_shape" (Pr.top 23) oU 133)::
 (nat_lit 135,aT)::
 (nat_lit 137,(cw #[.str "number" 355]))::
 (nat_lit 138,aT)::
 (nat_lit 140,oC "exchanged" "exchanged" 352 353 354 66 1 135 136 (.ref 137) (.ref 138) 139 356 357)::
 (nat_lit 141,oF "exchanged" (Pr.top 25) Fn 140)::
 (nat_lit 142,aT)::
 (nat_lit 145,oC "exchanged_rows" "exchanged_rows" 359 360 361 70 1 142 143 .none .none 144 362 363)::
 (nat_lit 146,oF "exchanged_rows" (Pr.top 26) Fn 145)::
 (nat_lit 147,aT)::
 (nat_lit 149,(cw #[.str "by" 374]))::
 (nat_lit 150,aT)::
 (nat_lit 152,oC "want_way" "want_way" 371 372 373 75 1 147 148 (.ref 149) (.ref 150) 151 375 376)::
 (nat_lit 153,oF "want_way" (Pr.top 30) (.str "quarterfold.touching" 365) 152)::
 (nat_lit 154,aT)::
 (nat_lit 157,oC "corners_of" "corners_of" 380 381 382 79 1 154 155 .none .none 156 383 384)::
 (nat_lit 158,oF "corners_of" (Pr.top 32) jj 157)::
 (nat_lit 159,aT)::
 (nat_lit 161,(cw #[.str "four" 389]))::
 (nat_lit 162,aT)::
 (nat_lit 164,oC "turned_about" "turned_about" 386 387 388 84 1 159 160 (.ref 161) (.ref 162) 163 390 391)::
 (nat_lit 165,oF "turned_about" (Pr.top 33) jj 164)::
 (nat_lit 173,aT)::
 (nat_lit 175,(cw #[.str "self" 408,.str "rows" 409]))::
 (nat_lit 176,aT)::
 (nat_lit 178,oC "__init__" "Account.__init__" 405 406 407 88 2 173 174 (.ref 175) (.ref 176) 177 410 411)::
 (nat_lit 179,oM "__init__" "Account.__init__" (L2.gR (Pr.top 34) 0) jj 178)::
 (nat_lit 180,aT)::
 (nat_lit 183,oC "in_the_middle" "Account.in_the_middle" 413 414 415 93 2 180 181 .none .none 182 416 417)::
 (nat_lit 184,oM "in_the_middle" "Account.in_the_middle" (L2.gR (Pr.top 34) 1) jj 183)::
 (nat_lit 185,aT)::
 (nat_lit 187,(cw #[.str "self" 422,.str "one" 423,.str "other" 424,.str "is_upright" 425,.str "key" 426,.str "mine" 427,.str "theirs" 428,.str "four" 429]))::
 (nat_lit 188,aT)::
 (nat_lit 190,oC "across" "Account.across" 419 420 421 96 4 185 186 (.ref 187) (.ref 188) 189 430 431)::
 (nat_lit 191,oM "across" "Account.across" (L2.gR (Pr.top 34) 2) jj 190)::
 (nat_lit 192,aT)::
 (nat_lit 194,(cw #[.str "self" 436,.str "four" 437,.str "is_upright" 438,.str "first" 439,.str "second" 440,.str "third" 441,.str "fourth" 442]))::
 (nat_lit 195,aT)::
 (nat_lit 197,oC "over_both" "Account.over_both" 433 434 435 112 3 192 193 (.ref 194) (.ref 195) 196 443 444)::
 (nat_lit 198,oM "over_both" "Account.over_both" (L2.gR (Pr.top 34) 3) jj 197)::
 (nat_lit 199,aT)::
 (nat_lit 201,(cw #[.str "self" 449,.str "four" 450]))::
 (nat_lit 202,aT)::
 (nat_lit 204,oC "together" "Account.together" 446 447 448 116 2 199 200 (.ref 201) (.ref 202) 203 451 452)::
 (nat_lit 205,oM "together" "Account.together" (L2.gR (Pr.top 34) 4) jj 204)::
 (nat_lit 206,aT)::
 (nat_lit 209,oC "of_number" "Account.of_number" 454 455 456 119 2 206 207 .none .none 208 457 458)::
 (nat_lit 210,oM "of_number" "Account.of_number" (L2.gR (Pr.top 34) 5) jj 209)::
 (nat_lit 211,(cw #[.str "corners" 460,.str "known" 461,.str "rows" 462]))::
 (nat_lit 212,⟨.type "dict",none,(.dict #[aR P "__module__" 400 (.str "quarterfold.balance" 378),aR P "__firstlineno__" 404 (.int 86 403),aR P "__init__" 412 (.ref 179),aR P "in_the_middle" 418 (.ref 184),aR P "across" 432 (.ref 191),aR P "over_both" 445 (.ref 198),aR P "together" 453 (.ref 205),aR P "of_number" 459 (.ref 210),aR P "__static_attributes__" 463 (.ref 211),aR P "__dict__" 465 (.ref 214),aR P "__weakref__" 467 (.ref 215),aR P "__doc__" 468 .none] 4),#[]⟩)::
 (nat_lit 213,⟨.type "type",none,(.cls ⟨"Account",[.type "object"],[.ref 213,.type "object"],212,"Account",true,[],[],false,none,false⟩),#[none,none,some (.str "Account" 393),some (.str "Account" 401),some (.builtin "object.__new__"),some (.bool true)]⟩)::
 (nat_lit 214,⟨.type "getset_descriptor",none,(.fields #[.str "__dict__" 464,.ref 213,.builtin "function.__dict__",.builtin "function.__dict__#set"]),#[]⟩)::
 (nat_lit 215,⟨.type "getset_descriptor",none,(.fields #[.str "__weakref__" 466,.ref 213,.builtin "ExceptionGroup.__weakref__",.none]),#[]⟩)::
 (nat_lit 218,aT)::
 (nat_lit 220,(cw #[.str "shape" 474,.str "by" 475,.str "top" 476,.str "rows" 477,.str "amid" 478,.str "around" 479]))::
 (nat_lit 221,aT)::
 (nat_lit 223,oC "balance" "balance" 471 472 473 124 2 218 219 (.ref 220) (.ref 221) 222 480 481)::
 (nat_lit 224,oF "balance" (Pr.top 35) jj 223)::
 (nat_lit 225,aT)::
 (nat_lit 227,(cw #[.str "_law_script" 488,.str "_law_k" 489,.str "_law_cell" 490]))::
 (nat_lit 228,aT)::
 (nat_lit 230,oC "_law_pot" "_law_pot" 485 486 487 134 2 225 226 (.ref 227) (.ref 228) 229 491 492)::
 (nat_lit 231,oF "_law_pot" (Pr.top 37) ju 230)::
 (nat_lit 232,aT)::
 (nat_lit 234,(cw #[.str "_law_pot_here" 497,.str "_law_many" 498,.str "_law_digit_here" 499]))::
 (nat_lit 235,aT)::
 (nat_lit 237,oC "_law_digit" "_law_digit" 494 495 496 139 2 232 233 (.ref 234) (.ref 235) 236 500 501)::
 (nat_lit 238,oF "_law_digit" (Pr.top 38) ju 237)::
 (nat_lit 239,aT)::
 (nat_lit 242,oC "_law_cells" "_law_cells" 503 504 505 146 2 239 240 .none .none 241 506 507)::
 (nat_lit 243,oF "_law_cells" (Pr.top 39) ju 242)::
 (nat_lit 244,aT)::
 (nat_lit 246,(cw #[.str "_law_pot_here" 512,.str "_law_n" 513,.str "_law_most" 514,.str "_law_side" 515,.str "_law_size" 516,.str "_law_row" 517,.str "_law_column" 518,.str "_law_high" 519,.str "_law_wide" 520]))::
 (nat_lit 247,aT)::
 (nat_lit 249,oC "_law_box" "_law_box" 509 510 511 149 3 244 245 (.ref 246) (.ref 247) 248 521 522)::
 (nat_lit 250,oF "_law_box" (Pr.top 40) ju 249)::
 (nat_lit 251,aT)::
 (nat_lit 254,oC "_law_boxes" "_law_boxes" 524 525 526 161 2 251 252 .none .none 253 527 528)::
 (nat_lit 255,oF "_law_boxes" (Pr.top 41) ju 254)::
 (nat_lit 256,aT)::
 (nat_lit 258,(cw #[.str "_law_box_here" 533,.str "_law_row" 534,.str "_law_column" 535,.str "_law_side" 536]))::
 (nat_lit 259,aT)::
 (nat_lit 261,oC "_law_meets" "_law_meets" 530 531 532 165 4 256 257 (.ref 258) (.ref 259) 260 537 538)::
 (nat_lit 262,oF "_law_meets" (Pr.top 42) ju 261)::
 (nat_lit 263,aT)::
 (nat_lit 265,(cw #[.str "_law_box_here" 543,.str "_law_row" 544,.str "_law_column" 545,.str "_law_side" 546]))::
 (nat_lit 266,aT)::
 (nat_lit 268,oC "_law_has" "_law_has" 540 541 542 169 4 263 264 (.ref 265) (.ref 266) 267 547 548)::
 (nat_lit 269,oF "_law_has" (Pr.top 43) ju 268)::
 (nat_lit 270,aT)::
 (nat_lit 273,oC "_law_number" "_law_number" 550 551 552 173 5 270 271 .none .none 272 553 554)::
 (nat_lit 274,oF "_law_number" (Pr.top 44) ju 273)::
 (nat_lit 275,aT)::
 (nat_lit 277,(cw #[.str "_law_n" 559,.str "_law_boxes_here" 560,.str "_law_rows" 561,.str "_law_top" 562]))::
 (nat_lit 278,aT)::
 (nat_lit 280,oC "_law_shape" "_law_shape" 556 557 558 184 2 275 276 (.ref 277) (.ref 278) 279 563 564)::
 (nat_lit 281,oF "_law_shape" (Pr.top 45) ju 280)::
 (nat_lit 282,aT)::
 (nat_lit 285,oC "_law_small" "_law_small" 566 567 568 188 2 282 283 .none .none 284 569 570)::
 (nat_lit 286,oF "_law_small" (Pr.top 46) ju 285)::
 (nat_lit 287,aT)::
 (nat_lit 289,(cw #[.str "_law_pot_here" 575,.str "_law_n" 576,.str "_law_s" 577,.str "_law_m" 578,.str "_law_far" 579]))::
 (nat_lit 290,aT)::
 (nat_lit 292,oC "_law_place" "_law_place" 572 573 574 202 2 287 288 (.ref 289) (.ref 290) 291 580 581)::
 (nat_lit 293,oF "_law_place" (Pr.top 47) ju 292)::
 (nat_lit 294,aT)::
 (nat_lit 297,oC "_law_put_at" "_law_put_at" 583 584 585 207 3 294 295 .none .none 296 586 587)::
 (nat_lit 298,oF "_law_put_at" (Pr.top 48) ju 297)::
 (nat_lit 299,aT)::
 (nat_lit 301,(cw #[.str "_law_there" 592,.str "_law_found" 593,.str "_law_r" 594,.str "_law_c" 595,.str "_law_one" 596,.str "_law_other" 597]))::
 (nat_lit 302,aT)::
 (nat_lit 304,oC "_law_by_sides" "_law_by_sides" 589 590 591 218 1 299 300 (.ref 301) (.ref 302) 303 598 599)::
 (nat_lit 305,oF "_law_by_sides" (Pr.top 49) ju 304)::
 (nat_lit 306,aT)::
 (nat_lit 308,(cw #[.str "_law_there" 604,.str "_law_corners" 605,.str "_law_sides" 606,.str "_law_r" 607,.str "_law_c" 608,.str "_law_k" 609,.str "_law_side" 610]))::
 (nat_lit 309,aT)::
 (nat_lit 311,oC "_law_by_corners" "_law_by_corners" 601 602 603 225 1 306 307 (.ref 308) (.ref 309) 310 611 612)::
 (nat_lit 312,oF "_law_by_corners" (Pr.top 50) ju 311)::
 (nat_lit 313,aT)::
 (nat_lit 316,oC "_law_parted" "_law_parted" 614 615 616 234 1 313 314 .none .none 315 617 618)::
 (nat_lit 317,oF "_law_parted" (Pr.top 51) ju 316)::
 (nat_lit 318,aT)::
 (nat_lit 321,oC "_law_right" "_law_right" 620 621 622 243 2 318 319 .none .none 320 623 624)::
 (nat_lit 322,oF "_law_right" (Pr.top 52) ju 321)::
 (nat_lit 323,aT)::
 (nat_lit 325,(cw #[.str "_law_script" 629,.str "_law_k" 630,.str "_law_pot_here" 631,.str "_law_n" 632,.str "_law_boxes_here" 633,.str "_law_shape_here" 634,.str "_law_cells_here" 635]))::
 (nat_lit 326,aT)::
 (nat_lit 328,oC "law" "law" 626 627 628 246 1 323 324 (.ref 325) (.ref 326) 327 636 637)::
 (nat_lit 329,oF "law" (Pr.top 53) ju 328)::[]
def xn:List ae:=[2,3,15,22,23,24,25,28,35,36,37,40,47,48,49,52,54,55,57,58,59,61,62,64,65,66,68,69,71,72,73,76,77,78,80,81,83,84,85,87,88,90,91,92,94,95,97,98,99,101,102,104,105,106,109,110,111,114,115,116,118,119,121,122,123,126,127,128,130,131,133,134,135,137,138,140,141,142,145,146,147,149,150,152,153,154,157,158,159,161,162,164,165,173,175,176,178,179,180,183,184,185,187,188,190,191,192,194,195,197,198,199,201,202,204,205,206,209,210,211,212,213,214,215,218,220,221,223,224,225,227,228,230,231,232,234,235,237,238,239,242,243,244,246,247,249,250,251,254,255,256,258,259,261,262,263,265,266,268,269,270,273,274,275,277,278,280,281,282,285,286,287,289,290,292,293,294,297,298,299,301,302,304,305,306,308,309,311,312,313,316,317,318,321,322,323,325,326,328,329]
def Dv:List Nat:=[1,2,3,5,6,7,8,9,10,11,12,13,15,16,18,19,20,21,22,23,25,26,28,29,30,32,33,34,35,37,38,39,40,41,42,43,44,45,46,47,48,49,50,51,52,53]
def N0:Nat:=4500
noncomputable def bx(P:Params)(a t l:Nat)(x:ar):List aw:=[(cw #[.ref 24]),
⟨.type "builtin_function_or_method",none,(.fields #[.builtin "type.__prepare__",.type "type"]),#[]⟩,
⟨.type "dict",none,(.dict #[⟨kh P "__module__",.str "__module__" (t+7),.str "quarterfold.errors" 187⟩,⟨kh P "__qualname__",.str "__qualname__" (t+9),.str x (t+8)⟩,⟨kh P "__firstlineno__",.str "__firstlineno__" (t+11),.int l (t+10)⟩,⟨kh P "__static_attributes__",.str "__static_attributes__" (t+12),.ref (a+7)⟩] 4),#[]⟩,
aT,
cV,
⟨.type "code",none,(.fields #[.str x (t+2),.str x (t+3),.str "/claim/cut.py" (t+4),.int l 0,.int 0 0,.int 0 0,.int 0 0,.int 0 0,.ref (a+3),.bool false,.int 181 0,.ref (a+4),.none,.none,.none,.none,.int (t+5) 0,.int l 0,.str "/claim/cut.py" (t+6)]),#[]⟩,
⟨.type "frame",none,.plain,#[some (.ref (a+5)),some (.ref 3),some (.ref (a+2)),none,some (.str "quarterfold.errors" 187),none,some (.ref 0)]⟩,
aT,
⟨.type "dict",none,(.dict #[⟨kh P "__module__",.str "__module__" (t+7),.str "quarterfold.errors" 187⟩,⟨kh P "__firstlineno__",.str "__firstlineno__" (t+11),.int l (t+10)⟩,⟨kh P "__static_attributes__",.str "__static_attributes__" (t+12),.ref (a+7)⟩,⟨kh P "__doc__",.str "__doc__" (t+13),.none⟩] 2),#[]⟩,
⟨.type "type",none,(.cls ⟨x,[.ref 24],[.ref (a+9),.ref 24,.type "ValueError",.type "Exception",.type "BaseException",.type "object"],(a+8),x,true,[],[],false,none,false⟩),#[some (.ref a),none,some (.str x t),some (.str x (t+8)),some (.builtin "ValueError.__new__"),some (.bool true)]⟩,
⟨.type "super",none,(.fields #[.ref (a+9),.ref (a+9),.ref (a+9)]),#[]⟩,
⟨.type "builtin_function_or_method",none,(.fields #[.builtin "object.__init_subclass__",.ref (a+9)]),#[]⟩]
noncomputable def ob(P:Params):List aw:=[boot_o_0 P,boot_o_1 P,boot_o_2 P,⟨.type "dict",none,(.dict #[aR P "__name__" 165 (.str "quarterfold.balance" 378),aR P "__doc__" 166 .none,aR P "__package__" 167 .none,aR P "__loader__" 168 (.builtin "__main__.__loader__#opaque"),aR P "__spec__" 169 .none,aR P "__annotations__" 170 (.ref 6),aR P "__builtins__" 171 (.ref 4),aR P "__file__" 173 (.str "/claim/cut.py" 172),aR P "__cached__" 174 .none,aR P "FloorError" 206 (.ref 24),aR P "NoShape" 222 (.ref 37),aR P "NoWay" 238 (.ref 49),aR P "EMPTY" 242 (.int 0 241),aR P "FULL" 244 (.int 1 243),aR P "FIRST" 246 (.int 2 245),aR P "is_whole" 253 (.ref 58),aR P "is_plain" 260 (.ref 65),aR P "quarters_of" 268 (.ref 72),aR P "depths_of" 274 (.ref 77),aR P "end_rows" 284 (.ref 84),aR P "places_as_ended" 293 (.ref 91),aR P "GREATEST_SIZE" 297 (.int 12 296),aR P "is_size" 304 (.ref 98),aR P "is_number" 314 (.ref 105),aR P "is_row" 320 (.ref 110),aR P "are_rows" 326 (.ref 115),aR P "is_telling" 336 (.ref 122),aR P "is_shape" 342 (.ref 127),aR P "want_shape" 349 (.ref 134),aR P "exchanged" 358 (.ref 141),aR P "exchanged_rows" 364 (.ref 146),aR P "SIDES" 368 (.str "sides" 367),aR P "CORNERS" 370 (.str "corners" 369),aR P "want_way" 377 (.ref 153),aR P "corners_of" 385 (.ref 158),aR P "turned_about" 392 (.ref 165),aR P "Account" 470 (.ref 213)] 37),#[]⟩,boot_o_4 P,boot_o_5 P,boot_o_6 P,boot_o_7 P,boot_o_8 P,boot_o_9 P,boot_o_10 P,aT,⟨.none,none,(.fields #[.int 2 0,.int 0 0,.ref 20,.int 4 0,.int 0 0,.ref 33,.int 6 0,.int 0 0,.ref 45,.int 12 0,.int 0 0,.ref 57,.int 14 0,.int 0 0,.ref 64,.int 16 0,.int 0 0,.ref 71,.int 20 0,.int 0 0,.ref 76,.int 25 0,.int 0 0,.ref 83,.int 31 0,.int 0 0,.ref 90,.int 37 0,.int 0 0,.ref 97,.int 40 0,.int 0 0,.ref 104,.int 42 0,.int 0 0,.ref 109,.int 46 0,.int 0 0,.ref 114,.int 48 0,.int 0 0,.ref 121,.int 55 0,.int 0 0,.ref 126,.int 62 0,.int 0 0,.ref 133,.int 66 0,.int 0 0,.ref 140,.int 70 0,.int 0 0,.ref 145,.int 75 0,.int 0 0,.ref 152,.int 79 0,.int 0 0,.ref 157,.int 84 0,.int 0 0,.ref 164,.int 86 0,.int 0 0,.ref 171]),#[]⟩,⟨.type "code",none,(.fields #[.str "<module>" 182,.str "<module>" 183,.str "/claim/cut.py" 184,.int 1 0,.int 0 0,.int 0 0,.int 0 0,.int 0 0,.ref 11,.bool false,.int 181 0,.ref 12,.none,.none,.none,.none,.int 185 0,.int 1 0,.str "/claim/cut.py" 186]),#[]⟩,⟨.type "frame",none,.plain,#[some (.ref 13),some (.ref 3),some (.ref 3),none,some (.str "__main__" 164),none,some (.ref 0)]⟩,(cw #[.type "ValueError"]),⟨.type "builtin_function_or_method",none,(.fields #[.builtin "type.__prepare__",.type "type"]),#[]⟩,⟨.type "dict",none,(.dict #[aR P "__module__" 196 (.str "quarterfold.errors" 187),aR P "__qualname__" 198 (.str "FloorError" 197),aR P "__firstlineno__" 200 (.int 2 199),aR P "__static_attributes__" 201 (.ref 22)] 4),#[]⟩,aT,cV,⟨.type "code",none,(.fields #[.str "FloorError" 191,.str "FloorError" 192,.str "/claim/cut.py" 193,.int 2 0,.int 0 0,.int 0 0,.int 0 0,.int 0 0,.ref 18,.bool false,.int 181 0,.ref 19,.none,.none,.none,.none,.int 194 0,.int 2 0,.str "/claim/cut.py" 195]),#[]⟩,⟨.type "frame",none,.plain,#[some (.ref 20),some (.ref 3),some (.ref 17),none,some (.str "quarterfold.errors" 187),none,some (.ref 0)]⟩,aT,⟨.type "dict",none,(.dict #[aR P "__module__" 196 (.str "quarterfold.errors" 187),aR P "__firstlineno__" 200 (.int 2 199),aR P "__static_attributes__" 201 (.ref 22),aR P "__weakref__" 203 (.ref 25),aR P "__doc__" 204 .none] 3),#[]⟩,⟨.type "type",none,(.cls ⟨"FloorError",[.type "ValueError"],[.ref 24,.type "ValueError",.type "Exception",.type "BaseException",.type "object"],23,"FloorError",true,[],[.ref 37,.ref 49],false,none,false⟩),#[some (.ref 15),none,some (.str "FloorError" 189),some (.str "FloorError" 197),some (.builtin "ValueError.__new__"),some (.bool true)]⟩,⟨.type "getset_descriptor",none,(.fields #[.str "__weakref__" 202,.ref 24,.builtin "ExceptionGroup.__weakref__",.none]),#[]⟩,⟨.type "super",none,(.fields #[.ref 24,.ref 24,.ref 24]),#[]⟩,⟨.type "builtin_function_or_method",none,(.fields #[.builtin "object.__init_subclass__",.ref 24]),#[]⟩]++(bx P 28 207 4 "NoShape"++(bx P 40 223 6 "NoWay"++([aT,cV,(cw #[.str "thing" 250]),aT,oT "is_whole" "is_whole" (Pr.top 8),oC "is_whole" "is_whole" 247 248 249 12 1 52 53 (.ref 54) (.ref 55) 56 251 252,oF "is_whole" (Pr.top 8) oV 57,aT,cV,(cw #[.str "row" 257]),aT,oT "is_plain" "is_plain" (Pr.top 9),oC "is_plain" "is_plain" 254 255 256 14 1 59 60 (.ref 61) (.ref 62) 63 258 259,oF "is_plain" (Pr.top 9) oV 64,aT,cV,(cw #[.str "rows" 264,.str "number" 265]),aT,oT "quarters_of" "quarters_of" (Pr.top 10),oC "quarters_of" "quarters_of" 261 262 263 16 2 66 67 (.ref 68) (.ref 69) 70 266 267,oF "quarters_of" (Pr.top 10) oV 71,aT,cV,oT "depths_of" "depths_of" (Pr.top 11),oC "depths_of" "depths_of" 269 270 271 20 1 73 74 .none .none 75 272 273,oF "depths_of" (Pr.top 11) oV 76,aT,cV,(cw #[.str "rows" 278,.str "number" 279,.str "ended" 280,.str "quarter" 281]),aT,oT "end_rows" "end_rows" (Pr.top 12),oC "end_rows" "end_rows" 275 276 277 25 3 78 79 (.ref 80) (.ref 81) 82 282 283,oF "end_rows" (Pr.top 12) oV 83,aT,cV,(cw #[.str "rows" 288,.str "top" 289,.str "ended" 290]),aT,oT "places_as_ended" "places_as_ended" (Pr.top 13),oC "places_as_ended" "places_as_ended" 285 286 287 31 2 85 86 (.ref 87) (.ref 88) 89 291 292,oF "places_as_ended" (Pr.top 13) oV 90,aT,cV,(cw #[.str "thing" 301]),aT,oT "is_size" "is_size" (Pr.top 16),oC "is_size" "is_size" 298 299 300 37 1 92 93 (.ref 94) (.ref 95) 96 302 303,oF "is_size" (Pr.top 16) (.str "quarterfold.floors" 294) 97,aT,cV,(cw #[.str "thing" 310,.str "many" 311]),aT,oT "is_number" "is_number" (Pr.top 18),oC "is_number" "is_number" 307 308 309 40 2 99 100 (.ref 101) (.ref 102) 103 312 313,oF "is_number" (Pr.top 18) oU 104,aT,cV,oT "is_row" "is_row" (Pr.top 19),oC "is_row" "is_row" 315 316 317 42 2 106 107 .none .none 108 318 319,oF "is_row" (Pr.top 19) oU 109,aT,cV,oT "are_rows" "are_rows" (Pr.top 20),oC "are_rows" "are_rows" 321 322 323 46 1 111 112 .none .none 113 324 325,oF "are_rows" (Pr.top 20) oU 114,aT,cV,(cw #[.str "thing" 330,.str "n" 331,.str "top" 332,.str "rows" 333]),aT,oT "is_telling" "is_telling" (Pr.top 21),oC "is_telling" "is_telling" 327 328 329 48 1 116 117 (.ref 118) (.ref 119) 120 334 335,oF "is_telling" (Pr.top 21) oU 121,aT,cV,oT "is_shape" "is_shape" (Pr.top 22),oC "is_shape" "is_shape" 337 338 339 55 1 123 124 .none .none 125 340 341,oF "is_shape" (Pr.top 22) oU 126,aT,cV,(cw #[.str "shape" 346]),aT,oT "want_shape" "want_shape" (Pr.top 23),oC "want_shape" "want_shape" 343 344 345 62 1 128 129 (.ref 130) (.ref 131) 132 347 348,oF "want_shape" (Pr.top 23) oU 133,aT,cV,(cw #[.str "number" 355]),aT,oT "exchanged" "exchanged" (Pr.top 25),oC "exchanged" "exchanged" 352 353 354 66 1 135 136 (.ref 137) (.ref 138) 139 356 357,oF "exchanged" (Pr.top 25) Fn 140,aT,cV,oT "exchanged_rows" "exchanged_rows" (Pr.top 26),oC "exchanged_rows" "exchanged_rows" 359 360 361 70 1 142 143 .none .none 144 362 363,oF "exchanged_rows" (Pr.top 26) Fn 145,aT,cV,(cw #[.str "by" 374]),aT,oT "want_way" "want_way" (Pr.top 30),oC "want_way" "want_way" 371 372 373 75 1 147 148 (.ref 149) (.ref 150) 151 375 376,oF "want_way" (Pr.top 30) (.str "quarterfold.touching" 365) 152,aT,cV,oT "corners_of" "corners_of" (Pr.top 32),oC "corners_of" "corners_of" 380 381 382 79 1 154 155 .none .none 156 383 384,oF "corners_of" (Pr.top 32) jj 157,aT,cV,(cw #[.str "four" 389]),aT,oT "turned_about" "turned_about" (Pr.top 33),oC "turned_about" "turned_about" 386 387 388 84 1 159 160 (.ref 161) (.ref 162) 163 390 391,oF "turned_about" (Pr.top 33) jj 164,aT,⟨.type "builtin_function_or_method",none,(.fields #[.builtin "type.__prepare__",.type "type"]),#[]⟩,⟨.type "dict",none,(.dict #[aR P "__module__" 400 (.str "quarterfold.balance" 378),aR P "__qualname__" 402 (.str "Account" 401),aR P "__firstlineno__" 404 (.int 86 403),aR P "__init__" 412 (.ref 179),aR P "in_the_middle" 418 (.ref 184),aR P "across" 432 (.ref 191),aR P "over_both" 445 (.ref 198),aR P "together" 453 (.ref 205),aR P "of_number" 459 (.ref 210),aR P "__static_attributes__" 463 (.ref 211)] 10),#[]⟩,aT,⟨.none,none,(.fields #[.int 88 0,.int 4 0,.ref 178,.int 93 0,.int 4 0,.ref 183,.int 96 0,.int 4 0,.ref 190,.int 112 0,.int 4 0,.ref 197,.int 116 0,.int 4 0,.ref 204,.int 119 0,.int 4 0,.ref 209]),#[]⟩,⟨.type "code",none,(.fields #[.str "Account" 395,.str "Account" 396,.str "/claim/cut.py" 397,.int 86 0,.int 0 0,.int 0 0,.int 0 0,.int 0 0,.ref 169,.bool false,.int 181 0,.ref 170,.none,.none,.none,.none,.int 398 0,.int 86 0,.str "/claim/cut.py" 399]),#[]⟩,⟨.type "frame",none,.plain,#[some (.ref 171),some (.ref 3),some (.ref 168),none,some jj,none,some (.ref 0)]⟩,aT,cV,(cw #[.str "self" 408,.str "rows" 409]),aT,oT "__init__" "Account.__init__" (L2.gR (Pr.top 34) 0),oC "__init__" "Account.__init__" 405 406 407 88 2 173 174 (.ref 175) (.ref 176) 177 410 411,oM "__init__" "Account.__init__" (L2.gR (Pr.top 34) 0) jj 178,aT,cV,oT "in_the_middle" "Account.in_the_middle" (L2.gR (Pr.top 34) 1),oC "in_the_middle" "Account.in_the_middle" 413 414 415 93 2 180 181 .none .none 182 416 417,oM "in_the_middle" "Account.in_the_middle" (L2.gR (Pr.top 34) 1) jj 183,aT,cV,(cw #[.str "self" 422,.str "one" 423,.str "other" 424,.str "is_upright" 425,.str "key" 426,.str "mine" 427,.str "theirs" 428,.str "four" 429]),aT,oT "across" "Account.across" (L2.gR (Pr.top 34) 2),oC "across" "Account.across" 419 420 421 96 4 185 186 (.ref 187) (.ref 188) 189 430 431,oM "across" "Account.across" (L2.gR (Pr.top 34) 2) jj 190,aT,cV,(cw #[.str "self" 436,.str "four" 437,.str "is_upright" 438,.str "first" 439,.str "second" 440,.str "third" 441,.str "fourth" 442]),aT,oT "over_both" "Account.over_both" (L2.gR (Pr.top 34) 3),oC "over_both" "Account.over_both" 433 434 435 112 3 192 193 (.ref 194) (.ref 195) 196 443 444,oM "over_both" "Account.over_both" (L2.gR (Pr.top 34) 3) jj 197,aT,cV,(cw #[.str "self" 449,.str "four" 450]),aT,oT "together" "Account.together" (L2.gR (Pr.top 34) 4),oC "together" "Account.together" 446 447 448 116 2 199 200 (.ref 201) (.ref 202) 203 451 452,oM "together" "Account.together" (L2.gR (Pr.top 34) 4) jj 204,aT,cV,oT "of_number" "Account.of_number" (L2.gR (Pr.top 34) 5),oC "of_number" "Account.of_number" 454 455 456 119 2 206 207 .none .none 208 457 458,oM "of_number" "Account.of_number" (L2.gR (Pr.top 34) 5) jj 209,(cw #[.str "corners" 460,.str "known" 461,.str "rows" 462]),⟨.type "dict",none,(.dict #[aR P "__module__" 400 (.str "quarterfold.balance" 378),aR P "__firstlineno__" 404 (.int 86 403),aR P "__init__" 412 (.ref 179),aR P "in_the_middle" 418 (.ref 184),aR P "across" 432 (.ref 191),aR P "over_both" 445 (.ref 198),aR P "together" 453 (.ref 205),aR P "of_number" 459 (.ref 210),aR P "__static_attributes__" 463 (.ref 211),aR P "__dict__" 465 (.ref 214),aR P "__weakref__" 467 (.ref 215),aR P "__doc__" 468 .none] 4),#[]⟩,⟨.type "type",none,(.cls ⟨"Account",[.type "object"],[.ref 213,.type "object"],212,"Account",true,[],[],false,none,false⟩),#[none,none,some (.str "Account" 393),some (.str "Account" 401),some (.builtin "object.__new__"),some (.bool true)]⟩,⟨.type "getset_descriptor",none,(.fields #[.str "__dict__" 464,.ref 213,.builtin "function.__dict__",.builtin "function.__dict__#set"]),#[]⟩,⟨.type "getset_descriptor",none,(.fields #[.str "__weakref__" 466,.ref 213,.builtin "ExceptionGroup.__weakref__",.none]),#[]⟩,⟨.type "super",none,(.fields #[.ref 213,.ref 213,.ref 213]),#[]⟩,⟨.type "builtin_function_or_method",none,(.fields #[.builtin "object.__init_subclass__",.ref 213]),#[]⟩])))
noncomputable def hA(P:Params):ao:=⟨⟨((((ob P).take 15).set 3 (boot_o_3 P)).set 12 (cV))⟩,(boot_heap P).life⟩
noncomputable def h1(P:Params):ao:=⟨⟨(ob P)⟩,(boot_heap P).life⟩
noncomputable def bd:List aA:=behindTheImports pw
noncomputable def ev:Env:={scope:=pw.main.scope,locals:=mainNs,globals:=mainNs,cells:=[],code:=.ref 13,frame:=some 14}
noncomputable def cE:Code:=.body bd ev
noncomputable abbrev sh (h:Params->ao) (k:Nat) (w:ai) (a:OsState):ab:=⟨h w.params,Array.mk [],boot_drawn,k,a⟩
noncomputable abbrev fr:List Frame:=[topFrame ⟨0,0,0,0⟩]
theorem LI(w:ai)(a:OsState):topGo treeTable pw w 11 (some (.ref 6)) 12 (sh boot_heap boot_toks w a) (topStub pw)=some (sh hA 187 w a,⟨denote treeTable cE,cE,⟨0,0,0,0⟩,fr⟩):=by kernel_rfl
theorem Om(w:ai)(a:OsState):segRun treeTable pw w 11 (some (.ref 6)) 1 1 (sh hA 187 w a) (blockOf bd ev cE ⟨0,0,0,0⟩ fr)=some (.next,sh hA 187 w a,cE,⟨0,0,0,0⟩):=by kernel_rfl
theorem qP3{tb:String->Option Builtin}{p:ag}{w:ai}{d:Nat}{a:Option aa}{env:Env}{q:aC}{n N j:Nat}{s s' r:ab}{l:List aA}{c:Code}{b e:aC}(h:segRun tb p w d a 1 n s (piecesOf (l.take j) env c b [topFrame q])=some (.next,s',c,e))
  (k:topRun tb p w d a N s' (restOf (l.drop j) env c e [topFrame q])=some r):topRun tb p w d a (n+N) s (restOf l env c b [topFrame q])=some r:=by
 have:=piece_app (l:=l.take j) (rest:=l.drop j) h k
 rwa [Xi]at this
theorem xi6{p q:ag}{loose:List ar}{Xt:ab->Bool}{α:Type}{l:ab->α}{v:ai->α}{N:Nat}{u:Bool}{aN:Params->ao}{f:Array GenState}{j:Drawn}{g c M m:Nat}{b:Option aa}{Z:ai->OsState->ab}{T:Thread}
  (D:∀w:ai,(fencedOpening treeTable p w N).map (λs=>(s.heap,s.gens,s.drawn,s.toks))=some (aN w.params,f,j,g))
  (size:∀w:ai,((aN w.params).isNs mainGlobals&&f.size==0,(aN w.params).objs.size,(aN w.params).nsMap mainGlobals "__annotations__")=(true,c,b))
  (i:∀(w:ai)(a:OsState)(r:ab),topRun treeTable p w c b m (Z w a) T=some r->topRun treeTable p w c b M ⟨aN w.params,f,j,g,a⟩ (topStub p)=some r) (le:Nat.ble M N=true)
  (fin:∀(w:ai)(a:OsState),(topRun treeTable p w c b m (Z w a) T).map (λs=>(staticsOk (importedModules p.main.body) (aN w.params) s.heap&&namesBound p s.heap&&gensDone s&&laidKept (aN w.params) s.heap,openSeen q loose (importedModules p.main.body) Xt u s,l s))=some (true,openGood q loose,v w)):LeftO p q loose Xt l v N u:=λw=>by
 obtain⟨⟨h,gs,d,k,a⟩,e,H⟩:=Zl.mp (D w);obtain⟨rfl,rfl,rfl,rfl⟩:h=aN w.params/\gs=f/\d=j/\k=g:=by simpa using H
 obtain⟨C,F,E⟩:_/\_/\_:=by simpa only[WW]using size w
 obtain⟨r,y,G⟩:=Zl.mp (fin w a);obtain⟨B,x,A⟩:_/\_/\_:=by simpa only[WW]using G
 have n:=topRun_mono (N-M) _ _ _ _ (i w a r y);rw[show M+(N-M)=N by have:=Nat.le_of_ble_eq_true le;lia]at n;have t:topFrom treeTable p w N ⟨aN w.params,gs,d,k,a⟩=some r:=by
  unfold topFrom;dsimp only;rw[C,F,E,n];show(match staticsOk (importedModules p.main.body) (aN w.params) r.heap&&namesBound p r.heap&&gensDone r&&laidKept (aN w.params) r.heap with|true=>_|false=>_)=_;rw[B]
 unfold openEnds;rw[e];show(topFrom treeTable p w N ⟨aN w.params,gs,d,k,a⟩).map _=_;rw[t];show some (_,_)=some (_,_);rw[x,A]
theorem J_(w:ai)(a:OsState):segRun treeTable pw w 11 (some (.ref 6)) 1 1680 (sh hA 187 w a) (piecesOf (bd.take 35) ev cE ⟨0,0,0,0⟩ fr)=some (.next,sh h1 471 w a,cE,⟨86,0,123,26⟩):=by kernel_rfl
theorem Kf(w:ai)(a:OsState)(r:ab)(h:topRun treeTable pw w 11 (some (.ref 6)) 618 (sh h1 471 w a) (restOf (bd.drop 35) ev cE ⟨86,0,123,26⟩ fr)=some r):topRun treeTable pw w 11 (some (.ref 6)) (12+(1+(1680+618))) (sh boot_heap boot_toks w a) (topStub pw)=some r:=go_top (LI w a) (piece_block (Om w a) (qP3 (J_ w a) h))
theorem LM:opening pw=plainProg pw.main.scope.names:=by kernel_rfl
theorem N4(s:ab):fenceModules? pw s=some s:=by kernel_rfl
def q0:ag:={pw with main:={pw.main with body:=Dv.map Pr.top}}
theorem m8:∀P,xn=(K0 P).map (·.1):=λ_=>by kernel_rfl
abbrev X0:ab->Bool:=λs=>xlAt q0 [] s&&recOk (RowW.records (OpenRow.toRowW (OpenLaw.row PySem.Challenge.rw_quarterfold_k66_whole_balance))) s
set_option maxHeartbeats 0 in
theorem NZ(w:ai)(os:OsState):(topRun treeTable pw w 11 (some (.ref 6)) 618 (sh h1 471 w os) (restOf (bd.drop 35) ev cE ⟨86,0,123,26⟩ fr)).map (λs=>(staticsOk (importedModules pw.main.body) (boot_heap w.params) s.heap&&namesBound pw s.heap&&gensDone s&&laidKept (boot_heap w.params) s.heap,openSeen q0 [] (importedModules pw.main.body) X0 true s,Hook.obs (kHook Hd.K0 Hd.xn Hd.m8) s))=some (true,openGood q0 [],Hook.val (kHook Hd.K0 Hd.xn Hd.m8) w):=by kernel_rfl
theorem xQ3:LeftO pw q0 [] X0 (Hook.obs (kHook Hd.K0 Hd.xn Hd.m8)) (Hook.val (kHook Hd.K0 Hd.xn Hd.m8)) N0:=xi6 (boot_open LM rfl N4) (λw=>by kernel_rfl) Kf (by rfl) NZ
end Hd
namespace L2
theorem Hi{α:Type}{l:List α}(h:l.length=1):∃a,l=[a]:=List.length_eq_one_iff.mp h
theorem AB{α:Type}{l:List α}(h:l.length=2):∃a b,l=[a,b]:=by
 obtain⟨a,m,rfl⟩:=Xx h;obtain⟨b,rfl⟩:=Hi (WO h);exact⟨a,b,rfl⟩
theorem os3{α:Type}{l:List α}(h:l.length=3):∃a b c,l=[a,b,c]:=by
 obtain⟨a,m,rfl⟩:=Xx h;obtain⟨b,c,rfl⟩:=AB (WO h);exact⟨a,b,c,rfl⟩
theorem LL{α:Type}{l:List α}(h:l.length=4):∃a b c d,l=[a,b,c,d]:=by
 obtain⟨a,m,rfl⟩:=Xx h;obtain⟨b,c,d,rfl⟩:=os3 (WO h);exact⟨a,b,c,d,rfl⟩
end L2
section
variable{a b c d e f g h i j k l m n o p:Nat}{z y x w v u t s r:Int}
theorem kr(H:a<b)(J:b<c):a<c:=by lia
theorem nO:0<=((a:Nat):Int):=by lia
theorem fe(H:a<b)(J:b<=c):(b-1)<c:=by lia
theorem gJ(H:a<b):(b-1)<b:=by lia
theorem ki(H:a<b)(J:c=b):a<c:=by lia
theorem gT:a<=(a+b):=by lia
theorem gS(H:¬(a<b)):b<=a:=by lia
theorem oz(H:a<b)(J:b=c):a<c:=by lia
theorem wt(H:a=b)(J:a<=c):b<=c:=by lia
theorem nN(H:a<=b):a<=(b+c):=by lia
theorem i_(H:a<b):a<(b+c):=by lia
theorem h_(H:(a+b)<=c):a<=c:=by lia
theorem eO(H:(a+b)<c):a<c:=by lia
theorem dZ(H:a<b)(J:(c+b)<=d):(c+a)<d:=by lia
theorem mO(H:a<=b)(J:¬(a=b)):a<b:=by lia
theorem fu(H:a<=b):¬(b<a):=by lia
theorem kq(H:a=b):a<=b:=by lia
theorem oJ(H:a<=b)(J:¬(a<b)):a=b:=by lia
theorem ko(H:a<=b)(J:b<=c):a<=c:=by lia
theorem oI(H:a<=b)(J:¬(a=b)):(a+1)<=b:=by lia
theorem hZ(H:a<=b)(J:(c<d)/\(d<=a)):(d-1)<b:=by lia
theorem km(H:a<b):(a+1)<=b:=by lia
theorem kl(H:a<b):a<=(b-1):=by lia
theorem q9(H:a<b):(b-(a+1))<(b-a):=by lia
theorem q8(H:a<=b)(J:¬(a=b)):(b-(a+1))<(b-a):=by lia
theorem um:a<(a+1):=by lia
theorem mN(H:a<b):b=((b-1)+1):=by lia
theorem uk(H:a<b)(J:b<=c):a<c:=by lia
theorem qZ:((2*(a%2))+(b%2))<4:=by lia
theorem kj(H:(a+b)<(c+b)):a<c:=by lia
theorem i9(H:a<=b):(c+a)<=(c+b):=by lia
theorem uj(H:¬(a<b)):((a-b)+b)=a:=by lia
theorem oH(H:a<=4096):a<1000000:=by lia
theorem ui(H:a<b):(c+a)<(c+b):=by lia
theorem mM:((a+b)-a)=b:=by lia
theorem oG(H:a=b):(a+c)=(b+c):=by lia
theorem qY(H:a<b):(a+c)<(b+c):=by lia
theorem mL(H:a=(b+c)):(a-c)=b:=by lia
theorem uh:((a+b)+c)=(a+(c+b)):=by lia
theorem oE(H:¬(a<b)):(b+(a-b))=a:=by lia
theorem mK:(z-y)=((1*z)+((-1)*y)):=by lia
theorem ug:0<(a+1):=by lia
theorem qX(H:¬(z<=y)):y<z:=by lia
theorem yX:¬(((a:Nat):Int)<0):=by lia
theorem oB(H:a=(b+c)):c<=a:=by lia
theorem oA(H:¬(a<=b)):b<=(a-1):=by lia
theorem yW(H:a<b)(J:c=a):c<b:=by lia
theorem qW(H:a<b)(J:c<(a+d)):c<(b+d):=by lia
theorem qV(H:a<(b+c))(J:¬(a<c)):(a-c)<b:=by lia
theorem qU:0<=a:=by lia
theorem yV(H:a<b):a<=b:=by lia
theorem yU:(a+b)=(b+a):=by lia
theorem qT(H:¬(a=0)):0<a:=by lia
theorem qS(H:a<=900):a<=1000:=by lia
theorem qR(H:a<b):0<(b-a):=by lia
theorem uf(H:a<=b):(a-c)<=b:=by lia
theorem qQ(H:a<(b-c)):a<b:=by lia
theorem qP(H:a<b):((b-1)+1)=b:=by lia
theorem qO(H:a<=b):b=(a+(b-a)):=by lia
theorem ue(H:a=b)(J:c=b):c=a:=by lia
theorem yT(H:(a-b)=(c+1)):b<a:=by lia
theorem yS(H:a=b)(J:¬(c<b)):a<=c:=by lia
theorem qN(H:a<(b+1))(J:¬(a=b)):a<b:=by lia
theorem qM(H:a=b)(J:b<=64):a<=1191000:=by lia
theorem yR(H:a<b)(J:(c+b)<=d):c<d:=by lia
theorem qK(H:a<=b)(J:(c+b)<=d):(c+a)<=d:=by lia
theorem qJ(H:a<(b+(c+1)))(J:¬(a=(b+c))):a<(b+c):=by lia
theorem qI(H:a<(b+2))(J:c=b)(K:(((a:Nat):Int)-2)=((d:Nat):Int)):d<c:=by lia
theorem ud:(0:Nat)<1:=by lia
theorem uc:a<=a:=by lia
theorem ub:a<=(b+a):=by lia
theorem ua(H:a<b):0<b:=by lia
theorem t_(H:a<(b+1)):a<=b:=by lia
theorem t9(H:a=(b+0)):a=b:=by lia
theorem t8:(a+b)<=(a+(c+b)):=by lia
theorem t7(H:a<=b):(a+(b-a))=b:=by lia
theorem yQ(H:a=b)(J:b<=c):a<=c:=by lia
theorem t6(H:a<=b):(a+c)<=(b+c):=by lia
theorem yP(H:¬(a<b)):a=((a-b)+b):=by lia
theorem yO(H:a<b)(J:c<=(a+1)):c<=b:=by lia
theorem yN(H:a<(b+1))(J:¬(a<b)):a=b:=by lia
theorem tY(H:a<=b)(J:(b-a)=c):b=(c+a):=by lia
theorem yM(H:a<b)(J:c<=a)(K:d<=c):d<b:=by lia
theorem Fi(H:a<b)(J:¬((a+1)=b)):(a+1)<b:=by lia
theorem Fh:0<=(((a:Nat):Int)+((b:Nat):Int)):=by lia
theorem Fg:(((a:Nat):Int)+1)=(((a+1):Nat):Int):=by lia
theorem Ff(H:a<b)(J:c=b)(K:c=(d+d)):(a-d)<d:=by lia
theorem Fe(H:a<(b+1))(J:b<=12):((a:Nat):Int)<=1000000:=by lia
theorem Fd(H:a<b)(J:c<((d+b)+e))(K:f=((b-a)+e)):(c-(d+a))<f:=by lia
theorem Jg:(z*0)=0:=by lia
theorem Jf:(z+0)=z:=by lia
theorem Je:¬((1+a)<=0):=by lia
theorem Jd(H:a<1):a=0:=by lia
theorem Jc:((a+b)-b)=a:=by lia
theorem Jb:((z+y)-y)=z:=by lia
theorem Ja:(0+a)<=(b+a):=by lia
theorem I_:(a-b)<=(c+a):=by lia
theorem I0:((a+a)-1)=(a+(a-1)):=by lia
theorem IZ:¬((1<=(a+1))/\((a+1)<=a)):=by lia
theorem IY(H:a=b)(J:¬(c<a)):b<=c:=by lia
theorem IW(H:a<b):0<((b:Nat):Int):=by lia
theorem IV:((1*z)+((-1)*y))=(z-y):=by lia
theorem IU(H:a<b)(J:¬(a<c)):c<=b:=by lia
theorem IT(H:a=(b+1))(J:a<=c):b<c:=by lia
theorem IS(H:a<=(2*b))(J:b<=64):a<=128:=by lia
theorem IQ(H:a=b)(J:c=b)(K:a=d):d<=c:=by lia
theorem IM(H:a=b)(J:(c+d)<(a+d)):c<b:=by lia
theorem IL(H:a<(min b (c-d))):(d+a)<c:=by lia
theorem IK(H:a<b)(J:(c+b)<=d):(c-e)<d:=by lia
theorem IJ(H:a=b)(J:c<=a)(K:¬(c=b)):c<=(b-1):=by lia
theorem II(H:a=(b+c))(J:d<=c)(K:a<=(e+b)):d<=e:=by lia
end
namespace L2
open PySem PySem.Spec PyProof.Rows
abbrev Key:=Sum Int ar
def yv:Key->aa->Bool
 |.inl k,v=>Value.isInt k v
 |.inr x,v=>Value.isStrOf x v
def Mo(w:ai):Key->Int
 |.inl k=>hashInt k
 |.inr x=>hashStr w x
theorem sI:∀{k:Key}{v:aa},yv k v=true->(∃i t,k=Sum.inl i/\v=Value.int i t)\/(∃x t,k=Sum.inr x/\v=Value.str x t)
 |.inl i,v,h=>by
  obtain⟨t,e⟩:=Value.isInt_shape (k:=i) (v:=v) h;exact .inl ⟨i,t,rfl,e⟩
 |.inr x,v,h=>by
  obtain⟨t,e⟩:=Value.isStrOf_shape (x:=x) (v:=v) h;exact .inr ⟨x,t,rfl,e⟩
theorem q38(i:Int)(t:Tok):yv (.inl i) (.int i t)=true:=by simp[yv,Value.isInt]
theorem q39(x:ar)(t:Tok):yv (.inr x) (.str x t)=true:=by simp[yv,Value.isStrOf]
theorem xH0(a b:Int):decide ((Sum.inl a:Key)=Sum.inl b)=(a==b):=by
 by_cases e:a=b
 ·subst e;simp
 ·have h:¬(Sum.inl a:Key)=Sum.inl b:=λq=>e (Wl q);rw[Zm h];exact(Xf.mpr e).symm
theorem xH1(a b:ar):decide ((Sum.inr a:Key)=Sum.inr b)=decide (a=b):=by
 by_cases e:a=b
 ·subst e;simp
 ·have h:¬(Sum.inr a:Key)=Sum.inr b:=λq=>e (Sum.inr.inj q);rw[Zm h,Zm e]
theorem xH2(a:Int)(b:ar):decide ((Sum.inl a:Key)=Sum.inr b)=false:=Zm (λq=>nomatch q)
theorem xH3(a:ar)(b:Int):decide ((Sum.inr a:Key)=Sum.inl b)=false:=Zm (λq=>nomatch q)
def g_(prog:ag)(w:ai):PySem.KeyKind prog w Key where
 is:=yv
 hash:=Mo w
 inj:=λv a b d hb=>by
  rcases sI d with⟨i,t,rfl,rfl⟩|⟨x,t,rfl,rfl⟩
  ·rcases sI hb with⟨j,u,rfl,e⟩|⟨y,u,rfl,e⟩
   ·injection e with e1 _;rw[e1]
   ·exact nomatch e
  ·rcases sI hb with⟨j,u,rfl,e⟩|⟨y,u,rfl,e⟩
   ·exact nomatch e
   ·injection e with e1 _;rw[e1]
 byValue:=λk v h=>by
  rcases sI h with⟨i,t,rfl,rfl⟩|⟨x,t,rfl,rfl⟩<;>rfl
 pyHash:=λc h=>by
  rcases sI c with⟨i,t,rfl,rfl⟩|⟨x,t,rfl,rfl⟩
  ·exact wpAny_pyHash_int h
  ·exact wpAny_pyHash_str h
 eqBool:=λf c h=>by
  rcases sI f with⟨i,t,rfl,rfl⟩|⟨x,t,rfl,rfl⟩
  ·rcases sI c with⟨j,u,rfl,rfl⟩|⟨y,u,rfl,rfl⟩
   ·rw[xH0]at h;exact wpAny_eqBool_int h
   ·rw[xH2]at h;exact SeqAt.EqAt.int_str i t y u _ _ _ _ h
  ·rcases sI c with⟨j,u,rfl,rfl⟩|⟨y,u,rfl,rfl⟩
   ·rw[xH3]at h;exact SeqAt.EqAt.str_int x t j u _ _ _ _ h
   ·rw[xH1]at h;exact wpAny_eqBool_str h
 «strs»:=λk x t v h=>by
  rcases sI h with⟨i,u,rfl,e⟩|⟨y,u,rfl,e⟩
  ·exact nomatch e
  ·injection e with e1 _
   subst e1;cases v<;>rfl
theorem qP5(prog:ag)(w:ai)(i:Int)(t:Tok):(g_ prog w).is (.inl i) (.int i t)=true:=q38 i t
theorem qP6(prog:ag)(w:ai)(x:ar)(t:Tok):(g_ prog w).is (.inr x) (.str x t)=true:=q39 x t
inductive V where
 |cU|bl (b:Bool)|int (i:Int)|str (x:ar)|pj (b:Array UInt8)|zy (b:UInt64)|ref (a:ae)|ty (n:String)
 deriving DecidableEq
def RelV:V->aa->Prop
 |.cU,u=>u=Value.none
 |.bl b,u=>u=Value.bool b
 |.int i,u=>∃t,u=Value.int i t
 |.str x,u=>∃t,u=Value.str x t
 |.pj b,u=>∃t,u=Value.bytes b t
 |.zy b,u=>∃t,u=Value.float b t
 |.ref a,u=>u=Value.ref a
 |.ty n,u=>u=Value.type n
abbrev Vals:List V->List aa->Prop:=Paired RelV
theorem Vals.length{xs:List V}{us:List aa}(r:Vals xs us):xs.length=us.length:=Yx r
theorem Vals.get:∀{a:List V}{b:List aa}{i:Nat}{x:V},Vals a b->a[i]?=some x->∃u,b[i]?=some u/\RelV x u
 |_,_,_,_,.nil,e=>by simp at e
 |_,_,0,_,.cons r _,e=>by simp at e;subst e;exact⟨_,rfl,r⟩
 |_,_,i+1,x,.cons _ t,e=>by
  obtain⟨u,h1,c⟩:=Vals.get (i:=i) (x:=x) t (by simpa using e);exact⟨u,by simpa using h1,c⟩
theorem Vals.set{x:V}{u:aa}(r:RelV x u):∀{a:List V}{b:List aa}(i:Nat),Vals a b->Vals (a.set i x) (b.set i u)
 |_,_,_,.nil=>.nil
 |_,_,0,.cons _ t=>.cons r t
 |_,_,i+1,.cons q t=>.cons q (Vals.set r i t)
theorem Vals.append:∀{a c:List V}{b d:List aa},Vals a b->Vals c d->Vals (a++c) (b++d)
 |_,_,_,_,.nil,s=>s
 |_,_,_,_,.cons r t,s=>.cons r (Vals.append t s)
theorem Vals.take:∀{a:List V}{b:List aa}(n:Nat),Vals a b->Vals (a.take n) (b.take n)
 |_,_,0,_=>.nil
 |_,_,_+1,.nil=>.nil
 |_,_,n+1,.cons r t=>.cons r (Vals.take n t)
theorem Vals.drop:∀{a:List V}{b:List aa}(n:Nat),Vals a b->Vals (a.drop n) (b.drop n)
 |_,_,0,r=>r
 |_,_,_+1,.nil=>.nil
 |_,_,n+1,.cons _ t=>Vals.drop n t
def dG:Option V->Option aa->Prop
 |some v,some u=>RelV v u
 |none,none=>True
 |_,_=>False
def KV{κ:Type}:List (κ×V)->List (κ×aa)->Prop:=Paired λ(p:κ×V) (q:κ×aa)=>p.1=q.1/\RelV p.2 q.2
def kV:Key->V
 |.inl i=>.int i
 |.inr x=>.str x
inductive HO where
 |lst (xs:List V)
 |tup (xs:List V)
 |dK (kvs:List (Key×V))|dT (kvs:List (List Key×V))
 |set (S:Int->Bool) (n:Nat)
 |ins (C dx:ae) (fs:List (ar×V))
 |own (x:ae)
 |xd (fs:List (ar×V))
 |met (f x:ae)
 |xX (lo hi:Int)
 |gC (o:aw) (u:HO)
 |xt (ps:Array aa)
 |ext (φ:ao->Prop)
abbrev Hp:=ae->Option HO
def upd(H:Hp)(a:ae)(o:HO):Hp:=λb=>if b=a then some o else H b
theorem aX{H:Hp}{a:ae}{o:HO}:upd H a o a=some o:=by unfold upd;rw[Zk rfl]
theorem bV{H:Hp}{a b:ae}{o:HO}(h:b≠a):upd H a o b=H b:=by unfold upd;rw[Zi h]
theorem K9{H:Hp}{a:ae}{o u:HO}:upd (upd H a o) a u=upd H a u:=by
 funext b;unfold upd;split<;>rfl
theorem Aq{H:Hp}{a b:ae}{o u:HO}(h:H a=some o)(h':H b=some u)(d:o≠u):a≠b:=by
 intro e;subst e;rw[h]at h';exact d (ZE h')
theorem cI{H:Hp}{a b:ae}{o:HO}(h:H a=some o)(h':H b=none):a≠b:=by
 intro e;subst e;rw[h]at h';cases h'
def cP(h:ao)(a:ae)(items:Array aa):Prop:=∃o,h.get? a=some o/\o.cls=.type "tuple" /\ ∃n:{n:Nat // o.dict=none},o.data=.seq items n.1
theorem cP.is{h:ao}{a:ae}{items:Array aa}(x:cP h a items):IsTup h a items:=let ⟨o,h1,h2,n,h3⟩:=x;⟨o,h1,h2,n.1,h3⟩
theorem cP.new(h:ao)(items:Array aa):cP (h.push {cls:=.type "tuple",data:=.seq items}) h.objs.size items:=⟨_,Zj _ rfl,rfl,⟨_,rfl⟩,rfl⟩
instance{h:ao}{a:ae}{items:Array aa}:Coe (cP h a items) (IsTup h a items):=⟨cP.is⟩
instance{h:ao}{a:ae}{items:Array aa}:Coe (cP h a items) (h.IsTuple a items):=⟨cP.is⟩
section
variable(P:ag)(w:ai)
def bo(H:Hp)(h:ao)(a:ae):HO->Prop
 |.lst c=>c.length<=sizeLine/\∃(e:List aa)(n:Nat),Vals c e/\h.get? a=some {cls:=.type "list",data:=.seq e.toArray n}
 |.tup c=>c.length<=sizeLine/\∃e:List aa,Vals c e/\cP h a e.toArray
 |.dK b=>b.length<=sizeLine/\(a==sysModules)=false/\∃k,KV b k/\h.DictOf (g_ P w) a k
 |.dT b=>b.length<=sizeLine/\(a==sysModules)=false/\∃c:List (List Key×ae×aa),
   Paired (λ(p:List Key×V) (q:List Key×ae×aa)=>p.1=q.1/\H q.2.1=some (.tup (p.1.map kV))/\RelV p.2 q.2.2) b c /\
   ∃o j r,h.get? a=some o/\o.ExactDict/\o.data=.dict j r/\j.toList=c.map (entryOfKey (tupleKind (g_ P w)))/\(c.map (·.1)).Nodup
 |.set S n=>h.SetOf (intKind P w) a S n
 |.ins C g fs=>H g=some (.own a)/\fs.length<=1000/\g≠a/\h.get? a=some (PySem.W.instObj C g) /\
   ∃d,h.Ns1 g d/\(∀f,dG (fs.lookup f) (d f))/\PySem.Within d (fs.map (·.1))
 |.own _=>∃o,h.get? a=some o
 |.xd fs=>∃d,h.Ns1 a d/\∀f,dG (fs.lookup f) (d f)
 |.xX y m=>∃t u v,h.get? a=some {cls:=.type "range",data:=.fields #[.int y t,.int m u,.int 1 v]}
 |.gC o u=>h.get? a=some o/\bo H h a u
 |.xt s=>h.get? a=some {cls:=.none,data:=.fields s}
 |.met f x=>h.get? a=some (PySem.W.methodObj (.ref f) (.ref x))
 |.ext i=>i h/\(∃o,h.get? a=some o)/\∀h1 l:ao,i h1->(∀o,h1.get? a=some o->l.get? a=some o)->i l
def dJ(H:Hp)(h:ao):Prop:=∀a o,H a=some o->bo P w H h a o
end
section
variable{H H':Hp}{h h':ao}{a:ae}{o:HO}
theorem bo.lt(x:bo P w H h a o):a<h.objs.size:=by
 cases o with
 |lst c=>obtain⟨_,_,_,_,e⟩:=x;exact Zn e
 |tup c=>obtain⟨_,_,_,p⟩:=x;exact(cP.is p).lt
 |dK b=>obtain⟨_,_,_,_,o,_,_,e,_⟩:=x;exact Zn e
 |dT b=>obtain⟨_,_,_,_,o,_,_,e,_⟩:=x;exact Zn e
 |set S n=>obtain⟨o,_,_,_,e,_⟩:=x;exact Zn e
 |ins C i fs=>obtain⟨_,_,_,e,_⟩:=x;exact Zn e
 |own y=>obtain⟨_,e⟩:=x;exact Zn e
 |xd fs=>obtain⟨_,⟨_,_,_,e,_⟩,_⟩:=x;exact Zn e
 |xX j g=>obtain⟨_,_,_,e⟩:=x;exact Zn e
 |gC ob u=>obtain⟨e,_⟩:=x;exact Zn e
 |xt k=>exact Zn (show h.get? a=some _ from x)
 |met f y=>exact Zn (show h.get? a=some _ from x)
 |ext d=>obtain⟨_,⟨_,e⟩,_⟩:=x;exact Zn e
theorem Paired.qH{α d:Type}{F G:α->d->Prop}:∀{e:List α}{c:List d},Paired F e c->(∀a b,F a b->G a b)->Paired G e c
 |_,_,.nil,_=>.nil
 |_,_,.cons r t,f=>.cons (f _ _ r) (Paired.qH t f)
theorem bo.de(x:bo P w H h a o)(k:∀b u,(b=a\/H b=some (.own a))->h.get? b=some u->h'.get? b=some u)
  (I:∀b,H b=some (.own a)->H' b=some (.own a)) (E:∀b j,H b=some (.tup j)->H' b=some (.tup j)):bo P w H' h' a o:=by
 induction o with
 |lst j=>obtain⟨z,A,n,r,e⟩:=x;exact⟨z,A,n,r,k _ _ (.inl rfl) e⟩
 |tup j=>obtain⟨z,A,r,ob,e,c⟩:=x;exact⟨z,A,r,ob,k _ _ (.inl rfl) e,c⟩
 |dK l=>obtain⟨z,y,G,r,ob,g,i,e,c⟩:=x;exact⟨z,y,G,r,ob,g,i,k _ _ (.inl rfl) e,c⟩
 |dT l=>
  obtain⟨z,y,j,r,ob,g,i,e,c⟩:=x;exact⟨z,y,j,Paired.qH r λp q z=>⟨z.1,E _ _ z.2.1,z.2.2⟩,ob,g,i,k _ _ (.inl rfl) e,c⟩
 |set S n=>obtain⟨ob,g,i,t,e,c⟩:=x;exact⟨ob,g,i,t,k _ _ (.inl rfl) e,c⟩
 |ins C M fs=>
  obtain⟨d,z,ne,e,s,⟨m,g,i,F,c⟩,r⟩:=x;exact⟨I _ d,z,ne,k _ _ (.inl rfl) e,s,⟨m,g,i,k _ _ (.inr d) F,c⟩,r⟩
 |own y=>obtain⟨ob,e⟩:=x;exact⟨ob,k _ _ (.inl rfl) e⟩
 |xd fs=>obtain⟨s,⟨m,g,i,e,c⟩,r⟩:=x;exact⟨s,⟨m,g,i,k _ _ (.inl rfl) e,c⟩,r⟩
 |xX N K=>obtain⟨t,u,v,e⟩:=x;exact⟨t,u,v,k _ _ (.inl rfl) e⟩
 |gC ob u J=>obtain⟨e,q⟩:=x;exact⟨k _ _ (.inl rfl) e,J q⟩
 |xt B=>
  have e:h.get? a=some {cls:=.none,data:=.fields B}:=x;show h'.get? a=some {cls:=.none,data:=.fields B};exact k a _ (.inl rfl) e
 |met f y=>
  have e:h.get? a=some (PySem.W.methodObj (.ref f) (.ref y)):=x;show h'.get? a=some (PySem.W.methodObj (.ref f) (.ref y));exact k a _ (.inl rfl) e
 |ext L=>obtain⟨p,⟨o,e⟩,D⟩:=x;exact⟨D _ _ p λo q=>k _ _ (.inl rfl) q,⟨o,k _ _ (.inl rfl) e⟩,D⟩
theorem dJ.lt(x:dJ P w H h)(e:H a=some o):a<h.objs.size:=(x a o e).lt
theorem dJ.fresh(x:dJ P w H h)(e:h.objs.size<=a):H a=none:=by
 cases q:H a with
 |none=>rfl
 |some u=>exact absurd (ZT (x.lt q) e) (YO _)
theorem dJ.kept(x:dJ P w H h)(k:∀b u,h.get? b=some u->h'.get? b=some u):dJ P w H h':=λa o e=>
 (x a o e).de (λb u _ q=>k b u q) (λ_ q=>q) λ_ _ q=>q
theorem dJ.laid(x:dJ P w H h)(k:∀b u,h.get? b=some u->h'.get? b=some u)(f:h.objs.size<=a)(new:bo P w (upd H a o) h' a o):dJ P w (upd H a o) h':=λb u e=>by
 have d:=x.fresh f;by_cases hb:b=a
 ·subst hb;rw[aX]at e;cases e;exact new
 ·rw[bV hb]at e;exact(x b u e).de (λc v _ q=>k c v q) (λc q=>by rw[bV (cI q d)];exact q) λc g q=>by rw[bV (cI q d)];exact q
end
def Rd(H:Hp)(a:ae)(u:HO):Prop:=H a=some u\/∃o,H a=some (.gC o u)
theorem Rd.ok{P:ag}{w:ai}{H:Hp}{h:ao}{a:ae}{u:HO}(r:Rd H a u)(x:dJ P w H h):bo P w H h a u:=by
 rcases r with r|⟨o,r⟩
 ·exact x a u r
 ·obtain⟨_,q⟩:=x a _ r;exact q
def EV:Option HO->Prop
 |some (.lst _)=>True
 |some (.dK _)=>True
 |some (.dT _)=>True
 |some (.set _ _)=>True
 |some (.ins _ _ _)=>True
 |some (.ext _)=>True
 |_=>False
section
variable{H:Hp}{h h':ao}{x e:ae}{o':HO}
theorem dJ.write(ok:dJ P w H h)(d:EV (H x))(j:e=x\/H e=some (.own x))(k:∀b u,b≠e->h.get? b=some u->h'.get? b=some u)(n:∃u,h'.get? e=some u)
  (new:bo P w (upd H x o') h' x o'):dJ P w (upd H x o') h':=λb u q=>by
 have i:∀c y,H c=some (.own y)->c≠x:=λc y r z=>by subst z;rw[r]at d;exact d
 have m:∀c a,H c=some (.tup a)->c≠x:=λc a r z=>by subst z;rw[r]at d;exact d
 by_cases hb:b=x
 ·subst hb;rw[aX]at q;cases q;exact new
 ·rw[bV hb]at q;by_cases g:b=e
  ·have l:H b=some (.own x):=by
    rcases j with z|z
    ·exact absurd (g.trans z) hb
    ·rw[g];exact z
   rw[q]at l;cases l;obtain⟨v,p⟩:=n;exact⟨v,by rw[g];exact p⟩
  ·refine(ok b u q).de (λc v f r=>k c v ?_ r) (λc r=>by rw[bV (i c b r)];exact r) λc a r=>by rw[bV (m c a r)];exact r
   rcases f with rfl|f
   ·exact g
   ·rintro rfl;rcases j with z|z
    ·exact i c b f z
    ·rw[f]at z;cases z;exact hb rfl
end
structure Un(fs ex:List ae)(H H':Hp)(h h':ao):Prop where
 keep:∀b o,h.get? b=some o->H b=none->b∉fs->b∉ex->h'.get? b=some o
 slot:∀b o,h.get? b=some o->H b=none->b∈fs->b∉ex->∃sl,h'.get? b=some {o with slots:=sl}
 free:∀b o,h.get? b=some o->H b=none->b∉ex->H' b=none
 there:∀b o,h.get? b=some o->b∉ex->∃o',h'.get? b=some o'
 c_:∀b xs,H b=some (.tup xs)->H' b=some (.tup xs)
 iF:∀b o u,H b=some (.gC o u)->H' b=some (.gC o u)
 iT:∀b ps,H b=some (.xt ps)->∃more,H' b=some (.xt (ps++more))
section
variable{fs fs' ex ex':List ae}{H H1 H2:Hp}{h h1 h2 h':ao}{a x e:ae}{o:HO}
theorem Un.any(u:Un fs ex H H1 h h1){b:ae}{ob:aw}(q:h.get? b=some ob)(n:H b=none)(c:b∉ex):∃d,h1.get? b=some {ob with slots:=d}:=by
 by_cases hb:b∈fs
 ·exact u.slot b ob q n hb c
 ·exact⟨ob.slots,u.keep b ob q n hb c⟩
theorem Un.kept(k:∀b u,h.get? b=some u->h'.get? b=some u):Un fs ex H H h h':=
 ⟨λb ob q _ _ _=>k b ob q,λb ob q _ _ _=>⟨ob.slots,k b ob q⟩,λ_ _ _ n _=>n,λb ob q _=>⟨ob,k b ob q⟩,λ_ _ q=>q,λ_ _ _ q=>q,λ_ c q=>⟨#[],by rw[q];simp⟩⟩
theorem Un.refl:Un fs ex H H h h:=Un.kept λ_ _ q=>q
theorem Un.laid(k:∀b u,h.get? b=some u->h'.get? b=some u)(f:h.objs.size<=a)(c:H a=none):Un fs ex H (upd H a o) h h' where
 keep:=λb u q _ _ _=>k b u q
 slot:=λb u q _ _ _=>⟨u.slots,k b u q⟩
 free:=λb u q n _=>by rw[bV (Zy (ZT (Zn q) f))];exact n
 there:=λb u q _=>⟨u,k b u q⟩
 c_:=λb d q=>by rw[bV (cI q c)];exact q
 iF:=λb u d q=>by rw[bV (cI q c)];exact q
 iT:=λb g q=>⟨#[],by rw[bV (cI q c),q];simp⟩
theorem Un.write(c:EV (H x))(l:e=x\/H e=some (.own x))(k:∀b u,b≠e->h.get? b=some u->h'.get? b=some u)(j:∃u,h'.get? e=some u):Un fs ex H (upd H x o) h h':=by
 have g:∀b,H b=none->b≠x:=λb n z=>by subst z;rw[n]at c;exact c
 have hb:∀b,H b=none->b≠e:=λb n z=>by
  subst z;rcases l with r|r
  ·exact g b n r
  ·rw[n]at r;cases r
 have d:∀b u,H b=some u->¬EV (some u)->b≠x:=λb u q m z=>by subst z;rw[q]at c;exact m c
 refine⟨λb u q n _ _=>k b u (hb b n) q,λb u q n _ _=>⟨u.slots,k b u (hb b n) q⟩,λb u q n _=>by rw[bV (g b n)];exact n,λb u q _=>?_,
  λb i q=>by rw[bV (d b _ q λz=>z)];exact q,λb u i q=>by rw[bV (d b _ q λz=>z)];exact q,λb p q=>⟨#[],by rw[bV (d b _ q λz=>z),q];simp⟩⟩
 by_cases f:b=e
 ·subst f;exact j
 ·exact⟨u,k b u f q⟩
end
def Fo(h:ao)(H:Hp):List ae:=(List.range h.objs.size).filter λa=>(H a).isSome
def jb(h:ao)(H:Hp):ao:=PySem.W.hideAll h (Fo h H)
theorem q40(h:ao)(H:Hp):(jb h H).objs.size=h.objs.size:=PySem.W.hideAll_size _ _
theorem xj3{h:ao}{H:Hp}{b:ae}{o:aw}(e:h.get? b=some o)(n:H b=none):(jb h H).get? b=some o:=
 PySem.W.hideAll_get _ e λa=>by
  have q:(H b).isSome=true:=(Y2.mp a).2;rw[n]at q;simp at q
theorem xx7{h:ao}{H:Hp}{b:ae}{o:aw}(e:(jb h H).get? b=some o):h.get? b=some o/\H b=none:=by
 have a:h.get? b=some o:=PySem.W.of_hideAll (Fo h H) e;refine⟨a,?_⟩;cases q:H b with
 |none=>rfl
 |some x=>
  have c:b∈Fo h H:=Y2.mpr ⟨Yw.mpr (Zn a),by simp[q]⟩;have z:(jb h H).get? b=none:=PySem.W.hideAll_none (Fo h H) c;rw[z]at e;cases e
structure Mod(K:PySem.W.Frag)(mg:ar->Option aa)(base:ao):Prop where
 sO:K.In base
 glob:base.Ns mainGlobals mg
 blt:∃mb,base.Ns builtinsNs mb/\∀x:ar,x ≠ "__name__"->mb x=bootBuiltins x
 nolimit:base.NoLimit
structure Cx where
 prog:ag
 w:ai
 K:PySem.W.Frag
 mg:ar->Option aa
 base:ao
 A:aj
 N:List ar
 aM:ab
 aN:Hp
 env:Env
 outer:List Env
 stack:List Env
 ex:List ae
 fn:ar->Bool
 calm:Bool
 pn:List (ae×aw)
 xe:aa->ab->Prop
def mW(l:List Env):List ae:=l.filterMap (·.frame)
abbrev Cx.fs(X:Cx):List ae:=mW X.outer
def xo(a:az)(x:ar):Prop:=a.names.lookup x=some .local\/a.names.lookup x=some .cell\/a.names.lookup x=some .free
def Loc(a:az)(x:ar):Prop:=a.names.lookup x=some .local\/a.names.lookup x=some .cell
def Look(env:Env)(h:ao)(m:ar->Option aa)(x:ar)(u:aa):Prop:=
 (env.kindOf x=some .local/\m x=some u)\/((env.kindOf x=some .cell\/env.kindOf x=some .free)/\∃c,env.cells.lookup x=some c/\h.IsCell c (some u))
structure Cx.Ok(X:Cx):Prop where
 mod:Mod X.K X.mg X.base
 kind:X.env.scope.kind=.function
 glob:X.env.globals=mainGlobals
 blt:X.env.builtins=builtinsNs
 above:X.aM.heap.objs.size<=X.env.locals
 inj:∀x y c,X.env.cells.lookup x=some c->X.env.cells.lookup y=some c->x=y
 has:∀x,(X.env.kindOf x=some .cell\/X.env.kindOf x=some .free)->∃c,X.env.cells.lookup x=some c
 ER:∀x c,X.fn x=true->X.env.cells.lookup x=some c->X.aM.heap.objs.size<=c
 hd:X.calm=true->X.A.handled=none
 frames:X.A.frames=some X.stack
 Fq:X.stack=X.outer\/(X.stack=X.env::X.outer/\X.env.frame=some X.env.locals)
 exf:∀b∈X.ex,b≠X.env.locals/\∀x c,X.env.cells.lookup x=some c->c≠b
 bs:∀b o,X.base.get? b=some o->X.aM.heap.get? b=some o/\X.aN b=none
 xl:X.base.objs.size<=X.aM.heap.objs.size
 qu:∀b o,X.base.get? b=some o->b∉X.ex
 uE:∀b∈X.ex,b∉X.fs
 gg:X.aM.heap.FunFrames X.base X.outer
 zv:∀b∈X.fs,X.aN b=none
structure Inv(X:Cx)(j8:List (ae×aw))(σ:List (Option V))(H:Hp)(s:ab):Prop where
 ok:X.Ok
 os:s.os=X.aM.os
 bare:AllBare s.gens
 base:Un X.fs X.ex X.aN H X.aM.heap s.heap
 loc:∃m,s.heap.Ns X.env.locals m/\∀(i:Nat)(x:ar)(v:V),X.N[i]?=some x->σ[i]?=some (some v)->xo X.env.scope x->∃u,RelV v u/\Look X.env s.heap m x u
 cell:∀x c,X.env.cells.lookup x=some c->∃v,s.heap.IsCell c v
 free:H X.env.locals=none
 dM:∀x c,X.env.cells.lookup x=some c->H c=none
 pin:∀p∈X.pn++j8,s.heap.get? p.1=some p.2/\H p.1=none/\p.1≠X.env.locals/\p.1∉X.fs/\∀v,p.2.data≠.cell v
 aO:dJ X.prog X.w H s.heap
 len:σ.length=X.N.length
section
variable{X:Cx}{j8:List (ae×aw)}{σ:List (Option V)}{H H':Hp}{s:ab}{h':ao}
theorem Cx.Ok.LU(ok:X.Ok){b:ae}{o:aw}(e:X.base.get? b=some o):b∉X.fs:=λhb=>by
 have:=(ok.gg.mem hb).1;rw[e]at this;cases this
theorem Inv.bs(I:Inv X j8 σ H s):∀b o,X.base.get? b=some o->s.heap.get? b=some o/\H b=none:=λb o e=>
 ⟨I.base.keep b o (I.ok.bs b o e).1 (I.ok.bs b o e).2 (I.ok.LU e) (I.ok.qu b o e),I.base.free b o (I.ok.bs b o e).1 (I.ok.bs b o e).2 (I.ok.qu b o e)⟩
theorem Inv.bk(I:Inv X j8 σ H s):∀b o,X.base.get? b=some o->s.heap.get? b=some o:=λb o e=>(I.bs b o e).1
theorem Inv.mod(I:Inv X j8 σ H s):Mod X.K X.mg X.base:=I.ok.mod
theorem Inv.gK(I:Inv X j8 σ H s):X.K.In s.heap:=I.ok.mod.sO.keeps I.bk
theorem Inv.lt(I:Inv X j8 σ H s):X.env.locals<s.heap.objs.size:=let ⟨_,hn,_⟩:=I.loc;hn.lt
theorem Inv.sz(I:Inv X j8 σ H s):X.aM.heap.objs.size<=s.heap.objs.size:=ZF I.ok.above (XX I.lt)
theorem Inv.LS(I:Inv X j8 σ H s){a:ae}(h:s.heap.objs.size<=a):a∉X.fs:=λhb=>by
 obtain⟨_,o,b,_⟩:=I.ok.gg.mem hb;exact absurd (ZT (Zn b) (ZF I.sz h)) (YO _)
theorem Inv.zI(I:Inv X j8 σ H s):∀x c,X.env.cells.lookup x=some c->c≠X.env.locals:=λx c e z=>by
 obtain⟨v,o,a,b⟩:=I.cell x c e;obtain⟨m,⟨i,g,h,f,d,_⟩,_⟩:=I.loc;rw[z,f]at a;cases a;rw[d]at b;cases b
theorem Inv.gg(I:Inv X j8 σ H s):s.heap.FunFrames X.base X.outer:=by
 have all:∀(l:List Env),(∀b∈mW l,b∈X.fs)->X.aM.heap.FunFrames X.base l->s.heap.FunFrames X.base l:=by
  intro l
  induction l with
  |nil=>intro _ _;trivial
  |cons j r h=>
   intro d i;obtain⟨hk,⟨L,o,c,k,f,m⟩,g⟩:=i;have a:L∈X.fs:=d L (by unfold mW;rw[YH,c];exact Zz);obtain⟨n,e⟩:=I.base.slot L o f (I.ok.zv L a) a λz=>I.ok.uE L z a;exact⟨hk,⟨L,_,c,k,e,m⟩,h (λb hb=>d b (by unfold mW;rw[YH,c];exact Zp _ hb)) g⟩
 exact all X.outer (λ_ hb=>hb) I.ok.gg
theorem Inv.stack(I:Inv X j8 σ H s):s.heap.FunFrames X.base X.stack:=by
 rcases I.ok.Fq with e|⟨e,a⟩
 ·rw[e];exact I.gg
 ·rw[e];obtain⟨m,b,_⟩:=I.loc;refine .cons (by rw[I.ok.kind];decide) a b ?_ I.gg;exact Heap.get?_none_of_le (ZF I.ok.xl I.ok.above)
theorem Inv.g7(I:Inv X j8 σ H s):∀b∈mW X.stack,b∈X.env.locals::X.fs:=λb hb=>by
 rcases I.ok.Fq with e|⟨e,a⟩
 ·rw[e]at hb;exact Zp _ hb
 ·rw[e]at hb;unfold mW at hb;rw[YH,a]at hb;exact hb
theorem Inv.nr(I:Inv X j8 σ H s):∀b∈mW X.stack,H b=none:=λb hb=>by
 rcases Zu.mp (I.g7 b hb)with e|hb
 ·rw[e];exact I.free
 ·obtain⟨_,o,a,_⟩:=I.ok.gg.mem hb;exact I.base.free b o a (I.ok.zv b hb) λz=>I.ok.uE b z hb
theorem Inv.step{g':Array GenState}{t':Nat}{d':Drawn}{ch:List ae}(I:Inv X j8 σ H s)
  (y:∀b∈ch,(b∈X.ex\/X.aM.heap.objs.size<=b)/\b≠X.env.locals/\(∀x c,X.env.cells.lookup x=some c->c≠b)/\∀p∈X.pn++j8,p.1≠b)
  (keep:∀b o,b≠X.env.locals->b∉X.fs->b∉ch->s.heap.get? b=some o->H b=none->h'.get? b=some o)
  (slot:∀b o,b≠X.env.locals->b∈X.fs->b∉ch->s.heap.get? b=some o->H b=none->∃D,h'.get? b=some {o with slots:=D}) (free:∀b o,b∉ch->s.heap.get? b=some o->H b=none->H' b=none)
  (there:∀b o,b∉ch->s.heap.get? b=some o->∃A,h'.get? b=some A)
  (c_:∀b h,H b=some (.tup h)->H' b=some (.tup h)) (iF:∀b o u,H b=some (.gC o u)->H' b=some (.gC o u)) (iT:∀b C,H b=some (.xt C)->∃more,H' b=some (.xt (C++more)))
  (R:∀m,s.heap.Ns X.env.locals m->h'.Ns X.env.locals m) (L:dJ X.prog X.w H' h') (O:AllBare g'):
  Inv X j8 σ H' {s with heap:=h',gens:=g',drawn:=d',toks:=t'}:=by
 have F:∀b o,X.aM.heap.get? b=some o->b≠X.env.locals:=λb o e=>Zy (ZT (Zn e) I.ok.above);have B:∀b o,X.aM.heap.get? b=some o->b∉X.ex->b∉ch:=λb o e a hb=>by
  rcases(y b hb).1 with z|z
  ·exact a z
  ·exact absurd (ZT (Zn e) z) (YO _)
 have f:∀x c,X.env.cells.lookup x=some c->∀v,s.heap.IsCell c v->h'.IsCell c v:=λx c e v ⟨o,j,E⟩=>by
  have t:c∉ch:=λz=>(y c z).2.2.1 x c e rfl;by_cases J:c∈X.fs
  ·obtain⟨D,q⟩:=slot c o (I.zI x c e) J t j (I.dM x c e);exact⟨_,q,E⟩
  ·exact⟨o,keep c o (I.zI x c e) J t j (I.dM x c e),E⟩
 refine⟨I.ok,I.os,O,⟨λb o e n hb a=>?_,λb o e n hb a=>?_,λb o e n a=>?_,λb o e a=>?_,λb h e=>c_ b h (I.base.c_ b h e),λb o h e=>iF b o h (I.base.iF b o h e),λb C e=>?_⟩,?_,λx c e=>?_,?_,λx c e=>?_,λp G=>?_,L,I.len⟩
 ·exact keep b o (F b o e) hb (B b o e a) (I.base.keep b o e n hb a) (I.base.free b o e n a)
 ·obtain⟨D,g⟩:=I.base.slot b o e n hb a;obtain⟨N,w⟩:=slot b _ (F b o e) hb (B b o e a) g (I.base.free b o e n a);exact⟨N,w⟩
 ·obtain⟨A,g⟩:=I.base.there b o e a;exact free b A (B b o e a) g (I.base.free b o e n a)
 ·obtain⟨A,g⟩:=I.base.there b o e a;exact there b A (B b o e a) g
 ·obtain⟨P,g⟩:=I.base.iT b C e;obtain⟨T,w⟩:=iT b _ g;exact⟨P++T,by rw[w,Array.append_assoc]⟩
 ·obtain⟨m,M,Q⟩:=I.loc;refine⟨m,R m M,λi x v g w S=>?_⟩;obtain⟨u,r,l⟩:=Q i x v g w S;refine⟨u,r,?_⟩;rcases l with l|⟨k,c,e,z⟩
  ·exact .inl l
  ·exact .inr ⟨k,c,e,f x c e _ z⟩
 ·obtain⟨v,z⟩:=I.cell x c e;exact⟨v,f x c e v z⟩
 ·obtain⟨m,⟨o,_,_,j,_⟩,_⟩:=I.loc;exact free _ o (λz=>(y _ z).2.1 rfl) j I.free
 ·obtain⟨v,o,j,E⟩:=I.cell x c e;exact free c o (λz=>(y c z).2.2.1 x c e rfl) j (I.dM x c e)
 ·obtain⟨e,n,ne,K,d⟩:=I.pin p G;have t:p.1∉ch:=λz=>(y p.1 z).2.2.2 p G rfl;exact⟨keep p.1 p.2 ne K t e n,free p.1 p.2 t e n,ne,K,d⟩
theorem Inv.un{t':Nat}(I:Inv X j8 σ H s)(u:Un X.fs [] H H' s.heap h')(g:dJ X.prog X.w H' h'):Inv X j8 σ H' {s with heap:=h',toks:=t'}:=by
 obtain⟨m,⟨o,k,q,c,r⟩,_⟩:=id I.loc;obtain⟨l,h⟩:=u.any c I.free (by simp);exact I.step (g':=s.gens) (d':=s.drawn) (ch:=[]) (λ_ z=>nomatch z) (λb o _ hb _ e n=>u.keep b o e n hb (by simp)) (λb o _ hb _ e n=>u.slot b o e n hb (by simp)) (λb o _ e n=>u.free b o e n (by simp)) (λb o _ e=>u.there b o e (by simp)) u.c_ u.iF u.iT (λp j=>by
  obtain⟨t,a,i,d,f⟩:=j;rw[c]at d;cases d;exact⟨_,a,i,h,f⟩) g I.bare
theorem Inv.call{g':Array GenState}{t':Nat}{d':Drawn}{ch:List ae}(I:Inv X j8 σ H s)(u:Un (mW X.stack) ch H H' s.heap h')(j:dJ X.prog X.w H' h')(q:AllBare g')
  (h:∀b∈ch,(b∈X.ex\/X.aM.heap.objs.size<=b)/\b≠X.env.locals/\(∀x c,X.env.cells.lookup x=some c->c≠b)/\∀p∈X.pn++j8,p.1≠b):
  Inv X j8 σ H' {s with heap:=h',gens:=g',drawn:=d',toks:=t'}:=by
 obtain⟨m,⟨o,w,A,i,r⟩,_⟩:=id I.loc;obtain⟨y,d⟩:=u.any i I.free λz=>(h _ z).2.1 rfl;exact I.step (ch:=ch) h (λb o d hb a e n=>u.keep b o e n (λz=>(Zu.mp (I.g7 b z)).elim d hb) a) (λb o _ _ a e n=>u.any e n a) (λb o a e n=>u.free b o e n a) (λb o a e=>u.there b o e a) u.c_ u.iF u.iT (λv l=>by
  obtain⟨B,f,k,g,t⟩:=l;rw[i]at g;cases g;exact⟨_,f,k,d,t⟩) j q
theorem Inv.turned{t':Nat}{it:ae}(I:Inv X j8 σ H s)(k:∀b o,b≠it->s.heap.get? b=some o->h'.get? b=some o)(g:H it=none)(f:it≠X.env.locals)
  (h1:it∈X.ex\/X.aM.heap.objs.size<=it) (t:∀x c,X.env.cells.lookup x=some c->c≠it) (h:∀p∈X.pn++j8,p.1≠it):Inv X j8 σ H {s with heap:=h',toks:=t'}:=by
 have d:∀b u,H b=some u->b≠it:=λb u e z=>by rw[z,g]at e;cases e
 refine I.step (g':=s.gens) (d':=s.drawn) (ch:=[it]) (λb hb=>?_) (λb o _ _ a e _=>k b o (λz=>a (by simp[z])) e) (λb o _ _ a e _=>⟨o.slots,k b o (λz=>a (by simp[z])) e⟩) (λ_ _ _ _ n=>n)
  (λb o a e=>⟨o,k b o (λz=>a (by simp[z])) e⟩) (λ_ _ e=>e) (λ_ _ _ e=>e) (λb y e=>⟨#[],by rw[e];simp⟩) (λm j=>?_) (λb u e=>?_) I.bare
 ·have e:b=it:=by simpa using hb
  subst e;exact⟨h1,f,t,h⟩
 ·obtain⟨o,i,l,w,r⟩:=j;exact⟨o,i,l,k _ o (YE f) w,r⟩
 ·refine(I.aO b u e).de (λc v a q=>k c v ?_ q) (λ_ q=>q) λ_ _ q=>q;rcases a with z|z
  ·rw[z];exact d b u e
  ·exact d c _ z
theorem Inv.tok(I:Inv X j8 σ H s)(t:Nat):Inv X j8 σ H {s with toks:=t}:=I.un (h':=s.heap) (t':=t) Un.refl I.aO
theorem Inv.kept{t':Nat}(I:Inv X j8 σ H s)(k:∀b u,s.heap.get? b=some u->h'.get? b=some u):Inv X j8 σ H {s with heap:=h',toks:=t'}:=I.un (Un.kept k) (I.aO.kept k)
theorem Inv.laid{a:ae}{o:HO}{t':Nat}(I:Inv X j8 σ H s)(k:∀b u,s.heap.get? b=some u->h'.get? b=some u)(c:s.heap.objs.size<=a)(new:bo X.prog X.w (upd H a o) h' a o):
  Inv X j8 σ (upd H a o) {s with heap:=h',toks:=t'}:=I.un (Un.laid k c (I.aO.fresh c)) (I.aO.laid k c new)
theorem Inv.write{x e:ae}{o:HO}{t':Nat}(I:Inv X j8 σ H s)(a:EV (H x))(d:e=x\/H e=some (.own x))(k:∀b u,b≠e->s.heap.get? b=some u->h'.get? b=some u)(c:∃u,h'.get? e=some u)
  (new:bo X.prog X.w (upd H x o) h' x o):Inv X j8 σ (upd H x o) {s with heap:=h',toks:=t'}:=I.un (Un.write a d k c) (I.aO.write a d k c new)
theorem Inv.nJ{a:List (ae×aw)}(I:Inv X j8 σ H s)(h:∀p∈a,s.heap.get? p.1=some p.2/\H p.1=none/\p.1≠X.env.locals/\p.1∉X.fs/\∀v,p.2.data≠.cell v):Inv X a σ H s:=
 ⟨I.ok,I.os,I.bare,I.base,I.loc,I.cell,I.free,I.dM,λp b=>(ZW.mp b).elim (λz=>I.pin p (WC _ z)) (h p),I.aO,I.len⟩
theorem Sj{N:List ar}(c:N.Nodup){i j:Nat}{x:ar}(a:N[i]?=some x)(b:N[j]?=some x):i=j:=by
 obtain⟨h1,d⟩:=cz a;obtain⟨f,e⟩:=cz b;exact(List.getElem_inj c).mp (d.trans e.symm)
theorem q41{M:Model}{A:aj}{E:aa->ab->Prop}{i:Nat}{x:ar}{v:V}{u:aa}{Q:Unit->ab->Prop}(I:Inv X j8 σ H s)(hN:X.N.Nodup)(D:X.N[i]?=some x)(w:Loc X.env.scope x)(r:RelV v u)
  (h:∀s',Inv X j8 (σ.set i (some v)) H s'->(∃a,Heap.SameBut a s.heap s'.heap/\(a=X.env.locals\/X.env.cells.lookup x=some a))->Q () s') (hf:X.fn x=true\/X.env.scope.names.lookup x=some .local:=by first|exact .inl rfl|exact .inr rfl|assumption):af M A (storeName X.env x u) Q E s:=by
 obtain⟨m,P,hl⟩:=id I.loc;have Nv:(X.env.scope.kind==.class||(X.env.scope.kind==.module&&X.env.locals != X.env.globals))=false:=by rw[I.ok.kind];rfl
 have D_:i<σ.length:=by rw[I.len];exact(cz D).1
 have zI:=I.zI;have g:∀{a:ae}{h':ao},(∃o,s.heap.get? a=some o/\H a=none)->Heap.SameBut a s.heap h'->dJ X.prog X.w H h':=λ{a h'} ha f b ob e=>by
  obtain⟨_,_,xb⟩:=ha;refine(I.aO b ob e).de (λc K t q=>(f.2 c ?_).trans q) (λ_ q=>q) λ_ _ q=>q;rintro rfl;rcases t with rfl|t
  ·rw[xb]at e;cases e
  ·rw[xb]at t;cases t
 rcases w with hk|hk
 ·refine wpAny_storeName_local hk P (λh' zm f=>?_) Nv;obtain⟨oL,_,_,T,_⟩:=id P;refine h _ ⟨I.ok,I.os,I.bare,⟨λb o e n hb w=>?_,λb o e n hb w=>?_,I.base.free,λb o e w=>?_,I.base.c_,I.base.iF,I.base.iT⟩,⟨_,zm,λj y N l B Y=>?_⟩,λy c e=>?_,I.free,I.dM,λp R=>?_,g ⟨oL,T,I.free⟩ f,by simpa using I.len⟩ ⟨_,f,.inl rfl⟩
  ·exact(f.2 b (Zy (ZT (Zn e) I.ok.above))).trans (I.base.keep b o e n hb w)
  ·obtain⟨S,l⟩:=I.base.slot b o e n hb w;exact⟨S,(f.2 b (Zy (ZT (Zn e) I.ok.above))).trans l⟩
  ·obtain⟨Z,l⟩:=I.base.there b o e w;exact⟨Z,(f.2 b (Zy (ZT (Zn e) I.ok.above))).trans l⟩
  ·by_cases C:j=i
   ·subst C;rw[D]at l;cases l;rw[List.getElem?_set_self D_]at B;cases B;exact⟨u,r,.inl ⟨hk,by simp⟩⟩
   ·rw[List.getElem?_set_ne (YE C)]at B;obtain⟨O,W,q⟩:=hl j y N l B Y;refine⟨O,W,?_⟩;rcases q with⟨k,e⟩|⟨k,c,e,z⟩
    ·refine .inl ⟨k,?_⟩;have:y≠x:=λe=>C (Sj hN l (e▸D));simp[this,e]
    ·exact .inr ⟨k,c,e,z.sameBut f (zI y c e)⟩
  ·obtain⟨K,z⟩:=I.cell y c e;exact⟨K,z.sameBut f (zI y c e)⟩
  ·obtain⟨e,n,ne,U,d⟩:=I.pin p R;exact⟨(f.2 p.1 ne).trans e,n,ne,U,d⟩
 ·have L:X.fn x=true:=by
   rcases hf with z|z
   ·exact z
   ·rw[z]at hk;cases hk
  obtain⟨c,t⟩:=I.ok.has x (.inl hk);obtain⟨K,z⟩:=I.cell x c t;refine wpAny_storeName_cell I.ok.kind hk t z (λh' HM f=>?_);obtain⟨oc,F,M4⟩:=id z;refine h {s with heap:=h'} ⟨I.ok,I.os,I.bare,⟨λb o e n hb w=>?_,λb o e n hb w=>?_,I.base.free,λb o e w=>?_,I.base.c_,I.base.iF,I.base.iT⟩,⟨m,P.sameBut f (YE (zI x c t)),λj y N l B Y=>?_⟩,λy J e=>?_,I.free,I.dM,λp R=>?_,g ⟨oc,F,I.dM x c t⟩ f,by simpa using I.len⟩ ⟨c,f,.inr t⟩
  ·exact(f.2 b (Zy (ZT (Zn e) (I.ok.ER x c L t)))).trans (I.base.keep b o e n hb w)
  ·obtain⟨S,l⟩:=I.base.slot b o e n hb w;exact⟨S,(f.2 b (Zy (ZT (Zn e) (I.ok.ER x c L t)))).trans l⟩
  ·obtain⟨Z,l⟩:=I.base.there b o e w;exact⟨Z,(f.2 b (Zy (ZT (Zn e) (I.ok.ER x c L t)))).trans l⟩
  ·by_cases C:j=i
   ·subst C;rw[D]at l;cases l;rw[List.getElem?_set_self D_]at B;cases B;exact⟨u,r,.inr ⟨.inl hk,c,t,HM⟩⟩
   ·rw[List.getElem?_set_ne (YE C)]at B;obtain⟨O,W,q⟩:=hl j y N l B Y;refine⟨O,W,?_⟩;rcases q with q|⟨k,J,e,z'⟩
    ·exact .inl q
    ·refine .inr ⟨k,J,e,z'.sameBut f ?_⟩;rintro rfl;exact C (Sj hN l (I.ok.inj _ _ _ e t▸D))
  ·by_cases G:J=c
   ·subst G;exact⟨_,HM⟩
   ·obtain⟨w2,z2⟩:=I.cell y J e;exact⟨w2,z2.sameBut f G⟩
  ·obtain⟨e,n,ne,U,d⟩:=I.pin p R;refine⟨(f.2 p.1 ?_).trans e,n,ne,U,d⟩;intro q;rw[q,F]at e;have q':oc=p.2:=ZE e;exact d K (by rw[<- q'];exact M4)
theorem Ca{M:Model}{A:aj}{E:aa->ab->Prop}{i:Nat}{x:ar}{v:V}{u:aa}{Q:Unit->ab->Prop}(I:Inv X j8 σ H s)(b:X.N.Nodup)(c:X.N[i]?=some x)(e:Loc X.env.scope x)(r:RelV v u)
  (h:∀a,Inv X j8 (σ.set i (some v)) H a->Q () a) (f:X.fn x=true\/X.env.scope.names.lookup x=some .local:=by first|exact .inl rfl|exact .inr rfl|assumption):af M A (storeName X.env x u) Q E s:=
 q41 I b c e r (λa d _=>h a d) f
theorem Inv.EO{s':ab}{ch:List ae}(I:Inv X j8 σ H s)(d:s'.os=s.os)(u:Un (mW X.stack) ch H H' s.heap s'.heap)(g:dJ X.prog X.w H' s'.heap)(f:AllBare s'.gens)
  (a:∀b∈ch,(b∈X.ex\/X.aM.heap.objs.size<=b)/\b≠X.env.locals/\(∀x c,X.env.cells.lookup x=some c->c≠b)/\∀p∈X.pn++j8,p.1≠b):Inv X j8 σ H' s':=by
 obtain⟨h',g',d',t',h⟩:=s';have e:h=s.os:=d;subst e;exact I.call (g':=g') (t':=t') (d':=d') u g f a
end
abbrev XK:=aa->Option ae->Hp->Prop
abbrev St:=List (Option V)
abbrev VK:=V->Hp->Prop
abbrev TE:=St->Hp->VK->Prop
abbrev TT:=St->Hp->(Bool->Hp->Prop)->Prop
abbrev TA:=St->Hp->(List V->Hp->Prop)->Prop
structure Ends where
 nx:St->Hp->Prop
 rt:VK
 bk:St->Hp->Prop:=λ_ _=>False
 ct:St->Hp->Prop:=λ_ _=>False
abbrev TS:=Ends->St->Hp->Prop
def EP(X:Cx)(b:List (ae×aw))(σ:St)(Q:VK)(u:aa)(s':ab):Prop:=∃v a,Inv X b σ a s'/\RelV v u/\Q v a
def TP(X:Cx)(c:List (ae×aw))(σ:St)(Q:Bool->Hp->Prop)(b:Bool)(s':ab):Prop:=∃a,Inv X c σ a s'/\Q b a
def AP(X:Cx)(c:List (ae×aw))(σ:St)(Q:List V->Hp->Prop)(us:List aa)(s':ab):Prop:=∃b a,Inv X c σ a s'/\Vals b us/\Q b a
def SP(X:Cx)(c:List (ae×aw))(D:Ends)(f:Flow)(s':ab):Prop:=
 match f with
 |.next=>∃a b,Inv X c a b s'/\D.nx a b
 |.brk=>∃a b,Inv X c a b s'/\D.bk a b
 |.cont=>∃a b,Inv X c a b s'/\D.ct a b
 |.ret u=>∃v a b,Inv X c a b s'/\RelV v u/\D.rt v b
def PE(X:Cx)(e:av)(t:TE):Prop:=
 ∀(b:List (ae×aw))(s:ab)(a:St)(H:Hp)(Q:VK),Inv X b a H s->t a H Q->af (ah X.prog X.w) X.A (eval e X.env) (EP X b a Q) X.xe s
def PT(X:Cx)(e:av)(t:TT):Prop:=
 ∀(b:List (ae×aw))(s:ab)(a:St)(H:Hp)(Q:Bool->Hp->Prop),Inv X b a H s->t a H Q->af (ah X.prog X.w) X.A (isTrue e X.env (eval e X.env)) (TP X b a Q) X.xe s
def PW(X:Cx)(e:av)(t:TT):Prop:=
 ∀(whole:Sem aa)(b:List (ae×aw))(s:ab)(a:St)(H:Hp)(Q:Bool->Hp->Prop),Inv X b a H s->t a H Q->af (ah X.prog X.w) X.A (isTrue e X.env whole) (TP X b a Q) X.xe s
theorem PW.pt{X:Cx}{e:av}{t:TT}(h:PW X e t):PT X e t:=h _
def PA(X:Cx)(c:List av)(t:TA):Prop:=
 ∀(pos:aC)(b:List (ae×aw))(s:ab)(a:St)(H:Hp)(Q:List V->Hp->Prop),Inv X b a H s->t a H Q->af (ah X.prog X.w) X.A (spliced (backTo pos (starEach c X.env))) (AP X b a Q) X.xe s
def PS(X:Cx)(st:aA)(t:TS):Prop:=
 ∀(b:List (ae×aw))(s:ab)(a:St)(H:Hp)(D:Ends),Inv X b a H s->t D a H->af (ah X.prog X.w) X.A (exec st X.env) (SP X b D) X.xe s
def lR(X:Cx)(st:List aA)(t:TS):Prop:=
 ∀(b:List (ae×aw))(s:ab)(a:St)(H:Hp)(D:Ends),Inv X b a H s->t D a H->af (ah X.prog X.w) X.A (execs st X.env) (SP X b D) X.xe s
theorem bz{α:Type}{t:Sem α}{Q b:α->ab->Prop}{M:Model}{A:aj}{E:aa->ab->Prop}{s:ab}(h:af M A t Q E s)(c:∀a s,Q a s->b a s):af M A t b E s:=Y7 h c λ_ _ x=>x
section
variable{X:Cx}
inductive Bf(i:Nat)(σ:St)(H:Hp)(Q:VK):Prop
 |mk(v:_)(e0:σ[i]?=some (some v))(e1:Q v H)
def pB(i:Nat):TE:=λa H Q=>Bf i a H Q
def tC(v:V):TE:=λ_ H Q=>Q v H
theorem xH4{i:Nat}{x:ar}{b:aC}(k:X.N[i]?=some x)(w:xo X.env.scope x)(d:(x==("__debug__":ar))=false:=by decide)(y:(x==("__classdict__":ar))=false:=by decide):PE X (.Name x b) (pB i):=by
 intro q s n H Q I h;obtain⟨v,e,h⟩:=h;obtain⟨m,j,t⟩:=I.loc;obtain⟨u,r,l⟩:=t i x v k e w;have a:EP X q n Q u s:=⟨v,H,I,r,h⟩;rcases l with⟨hk,p⟩|⟨hk,c,f,g⟩
 ·exact wpAny_Name (wpAny_loadName_local I.ok.kind hk j p a) d
 ·rcases hk with hk|hk
  ·exact wpAny_Name (wpAny_loadName_cell I.ok.kind hk f g a) d
  ·exact wpAny_Name (wpAny_loadName_free I.ok.kind hk f g a y) d
theorem aV {i j pos}:PE X (.Constant (.int i) j pos) (tC (.int i)):=λ_ _ _ H _ I h=>wpAny_Constant_int ⟨.int i,H,I.tok _,⟨_,rfl⟩,h⟩
theorem lY {b j pos}:PE X (.Constant (.bool b) j pos) (tC (.bl b)):=λ_ _ _ H _ I h=>Constant_bool ⟨.bl b,H,I,rfl,h⟩
theorem Ax {x j pos}:PE X (.Constant (.str x) j pos) (tC (.str x)):=λ_ _ _ H _ I h=>Calls.Constant_str ⟨.str x,H,I.tok _,⟨_,rfl⟩,h⟩
def Gl(X:Cx)(x:ar):Prop:=X.env.kindOf x=some .globalImplicit
theorem K8{E:aa->ab->Prop}{d:List (ae×aw)}{s:ab}{σ:St}{H:Hp}{x:ar}{u:aa}{a:aC}{Q:aa->ab->Prop}(I:Inv X d σ H s)(b:Gl X x)(c:X.mg x=some u)(h:Q u s)
  (e:(x==("__debug__":ar))=false:=by decide):af (ah X.prog X.w) X.A (eval (.Name x a) X.env) Q E s:=
 Calls.Name_function_global I.ok.kind b (Calls.loadGlobal_global (by rw[I.ok.glob];exact I.mod.glob.keeps I.bk) c h) e
theorem yd{E:aa->ab->Prop}{e:List (ae×aw)}{s:ab}{σ:St}{H:Hp}{x:ar}{u:aa}{a:aC}{Q:aa->ab->Prop}(I:Inv X e σ H s)(b:Gl X x)(d:X.mg x=none)(f:bootBuiltins x=some u)(h:Q u s)
  (g:x ≠ "__name__":=by decide) (i:(x==("__debug__":ar))=false:=by decide):af (ah X.prog X.w) X.A (eval (.Name x a) X.env) Q E s:=by
 obtain⟨j,h1,c⟩:=I.mod.blt;exact Calls.Name_function_global I.ok.kind b (Calls.loadGlobal_builtin (by rw[I.ok.glob];exact I.mod.glob.keeps I.bk) d (by rw[I.ok.blt];exact h1.keeps I.bk) ((c x g).trans f) h) i
theorem gI{x:ar}{v:V}{u:aa}{a:aC}(b:Gl X x)(c:X.mg x=some u)(r:RelV v u)(d:(x==("__debug__":ar))=false:=by decide):PE X (.Name x a) (tC v):=
 λ_ _ _ H _ I h=>K8 I b c ⟨v,H,I,r,h⟩ d
theorem Ad{x:ar}{v:V}{u:aa}{a:aC}(b:Gl X x)(c:X.mg x=none)(d:bootBuiltins x=some u)(r:RelV v u)(e:x ≠ "__name__":=by decide)(f:(x==("__debug__":ar))=false:=by decide):PE X (.Name x a) (tC v):=
 λ_ _ _ H _ I h=>yd I b c d ⟨v,H,I,r,h⟩ e f
variable{a b:av}{ta tb:TE}{pos:aC}
def PC(X:Cx)(op:CmpOp)(a b:av)(t:TE):Prop:=
 ∀(d:List (ae×aw))(s:ab)(c:St)(H:Hp)(Q:VK),Inv X d c H s->t c H Q ->
  af (ah X.prog X.w) X.A (eval a X.env) (λv e=>af (ah X.prog X.w) X.A (eval b X.env) (λu f=>af (ah X.prog X.w) X.A (compareOp op v u) (EP X d c Q) X.xe f) X.xe e) X.xe s
inductive tB_(Q:Bool->Hp->Prop)(x:V)(H1:Hp):Prop
 |mk(c:_)(e0:x=.bl c)(e1:Q c H1)
def tB(t:TE):TT:=λd H Q=>t d H λx c=>tB_ Q x c
theorem LG{op:CmpOp}{t:TE}(h:PC X op a b t)(h1:behindInMarks op b=false:=by first|exact qv _ 'b' 'b'|rfl):PE X (.Compare a [op] [b] pos) t:=λd s c H Q I e=>wpAny_Compare1 (h d s c H Q I e) h1
theorem GV{op:CmpOp}{t:TE}(h:PC X op a b t)(h1:behindInMarks op b=false:=by first|exact qv _ 'b' 'b'|rfl):PT X (.Compare a [op] [b] pos) (tB t):=by
 intro i s e H Q I f;refine wpAny_isTrue_Compare1 (bz (h i s e H _ I f) λv r h1=>bz h1 λu n l=>bz l λc p ⟨x,g,j,k,m⟩=>?_) h1;obtain⟨d,rfl,q⟩:=m;cases k;exact Yc ⟨g,j,q⟩
theorem l4{e:av}{t:TE}(h:PE X e t)(i:∀c,isTrue e X.env c=(do let v <- c;standAt e.pos;holding [v] (truthy v)):=by intro _;rfl):PT X e (tB t):=by
 intro j s f H Q I k;refine isTrue_plain (bz (h j s f H _ I k) λv p ⟨x,n,l,m,g⟩=>?_) (i _);obtain⟨d,rfl,q⟩:=g;cases m;exact Yc ⟨n,l,q⟩
variable{tA Fp:TT}{rest:List av}
def J7(t u:TT):TT:=λd H Q=>t d H λc e=>if c=true then u d e Q else Q false e
def tOr(t u:TT):TT:=λd H Q=>t d H λc e=>if c=true then Q true e else u d e Q
def JX(t:TT):TT:=λd H Q=>t d H λc e=>Q (!c) e
theorem T3(f:PT X a tA):PW X (.BoolOp .And [a] pos) tA:=by
 intro i g s d H Q I h;refine isTrue_and (bz (f g s d H Q I h) λc j e=>?_);cases c with
 |true=>exact isTrue_and_nil e
 |false=>exact e
theorem sF(f:PT X a tA):PW X (.BoolOp .Or [a] pos) tA:=by
 intro i g s d H Q I h;refine isTrue_or (bz (f g s d H Q I h) λc j e=>?_);cases c with
 |false=>exact isTrue_or_nil e
 |true=>exact e
theorem PN(j:PT X a tA)(hb:PW X (.BoolOp .And (b::rest) pos) Fp):PW X (.BoolOp .And (a::b::rest) pos) (J7 tA Fp):=by
 intro k f s e H Q I h;refine isTrue_and (bz (j f s e H _ I h) λc l ⟨i,g,d⟩=>?_);cases c with
 |true=>exact hb k f l e i Q g d
 |false=>exact⟨i,g,d⟩
theorem p9(j:PT X a tA)(hb:PW X (.BoolOp .Or (b::rest) pos) Fp):PW X (.BoolOp .Or (a::b::rest) pos) (tOr tA Fp):=by
 intro k f s e H Q I h;refine isTrue_or (bz (j f s e H _ I h) λc l ⟨i,g,d⟩=>?_);cases c with
 |true=>exact⟨i,g,d⟩
 |false=>exact hb k f l e i Q g d
theorem tI(e:PT X a tA):PT X (.UnaryOp .Not a pos) (JX tA):=by
 intro f s d H Q I h;exact isTrue_not (e f s d H (λc g=>Q (!c) g) I h)
inductive xB(tb:TE)(σ:St)(Q:VK)(x:V)(H1:Hp):Prop
 |mk(c:_)(e0:x=.bl c)(e1:if c=true then tb σ H1 Q else Q (.bl false) H1)
def xQ4(ta tb:TE):TE:=λc H Q=>ta c H λx d=>xB tb c Q x d
inductive xx(Q:VK)(x:V)(H1:Hp):Prop
 |mk(c:_)(e0:x=.bl c)(e1:Q (.bl (!c)) H1)
def xQ5(ta:TE):TE:=λd H Q=>ta d H λx c=>xx Q x c
theorem vb {op}{t:TE}(h:PE X a t):PE X (.BoolOp op [a] pos) t:=λd s c H Q I e=>BoolOp_one (h d s c H Q I e)
theorem va(j:PE X a ta)(hb:PE X (.BoolOp .And (b::rest) pos) tb):PE X (.BoolOp .And (a::b::rest) pos) (xQ4 ta tb):=by
 intro f s e H Q I h;refine BoolOp_and (bz (j f s e H _ I h) λv l ⟨x,i,g,k,d⟩=>?_);obtain⟨c,rfl,d⟩:=d;cases k;refine Yc ?_;cases c with
 |true=>exact hb f l e i Q g d
 |false=>exact⟨.bl false,i,g,rfl,d⟩
theorem xH5(g:PE X a ta):PE X (.UnaryOp .Not a pos) (xQ5 ta):=by
 intro i s f H Q I h;refine UnaryOp_ (bz (g i s f H _ I h) λv l ⟨x,e,j,k,d⟩=>?_);obtain⟨c,rfl,d⟩:=d;cases k;exact not_of (Yc ⟨.bl (!c),e,j,rfl,d⟩)
def tIf(t:TT)(ta tb:TE):TE:=λd H Q=>t d H λc e=>if c=true then ta d e Q else tb d e Q
theorem xj4{c:av}(hc:PT X c tA)(l:PE X a ta)(hb:PE X b tb):PE X (.IfExp c a b pos) (tIf tA ta tb):=by
 intro f s e H Q I h;refine wpAny_IfExp (bz (hc f s e H _ I h) λd j ⟨k,i,g⟩=>?_);cases d with
 |true=>exact l f j e k Q i g
 |false=>exact hb f j e k Q i g
end
def cq(K:PySem.W.Frag)(H:Hp)(a:ae)(xs:List V):Prop:=
 Rd H a (.lst xs) \/
  ∃(o:aw)(b:Array aa)(n:Nat),K.lookup a=some o/\o.cls=.type "list" /\ o.dict=none/\o.data=.seq b n/\b.size<=sizeLine/\Vals xs b.toList
def bg(K:PySem.W.Frag)(H:Hp)(a:ae)(xs:List V):Prop:=
 Rd H a (.tup xs) \/
  ∃(o:aw)(b:Array aa)(n:Nat),K.lookup a=some o/\o.cls=.type "tuple" /\ o.data=.seq b n/\b.size<=sizeLine/\Vals xs b.toList
def Ot:aa->Option V
 |.none=>some .cU
 |.bool b=>some (.bl b)
 |.int i _=>some (.int i)
 |.str x _=>some (.str x)
 |.bytes b _=>some (.pj b)
 |.float b _=>some (.zy b)
 |.ref a=>some (.ref a)
 |.type n=>some (.ty n)
 |_=>none
theorem RelV.abs{x:V}{u:aa}(r:RelV x u):Ot u=some x:=by
 cases x with
 |cU=>cases r;rfl
 |bl _=>cases r;rfl
 |int _=>obtain⟨t,rfl⟩:=r;rfl
 |str _=>obtain⟨t,rfl⟩:=r;rfl
 |pj _=>obtain⟨t,rfl⟩:=r;rfl
 |zy _=>obtain⟨t,rfl⟩:=r;rfl
 |ref _=>cases r;rfl
 |ty _=>cases r;rfl
theorem RelV.inj{x y:V}{u:aa}(r:RelV x u)(q:RelV y u):x=y:=ZE (r.abs.symm.trans q.abs)
theorem Vals.inj:∀{a c:List V}{b:List aa},Vals a b->Vals c b->a=c
 |_,_,_,.nil,.nil=>rfl
 |_,_,_,.cons r t,.cons e d=>by rw[r.inj e,Vals.inj t d]
section
variable{X:Cx}{j8:List (ae×aw)}{σ:St}{H:Hp}{s:ab}{a:ae}{xs ys:List V}
theorem cq.of{K:PySem.W.Frag}(h:H a=some (.lst xs)):cq K H a xs:=.inl (.inl h)
theorem bg.of{K:PySem.W.Frag}(h:H a=some (.tup xs)):bg K H a xs:=.inl (.inl h)
theorem Inv.list(I:Inv X j8 σ H s)(h:cq X.K H a xs):∃b:List aa,Vals xs b/\PlainL s.heap a b.toArray/\xs.length<=sizeLine:=by
 rcases h with h|⟨o,b,n,hk,d,g,f,c,r⟩
 ·obtain⟨z,b,n,r,e⟩:=h.ok I.aO;exact⟨b,r,⟨_,n,e,rfl,rfl,rfl⟩,z⟩
 ·refine⟨b.toList,r,⟨o,n,I.gK a o hk,d,g,by simpa using f⟩,?_⟩;have e:=r.length;simp only[ZO]at e;exact yQ e c
theorem Inv.tuple(I:Inv X j8 σ H s)(h:bg X.K H a xs):∃b:List aa,Vals xs b/\IsTup s.heap a b.toArray/\xs.length<=sizeLine:=by
 rcases h with h|⟨o,b,n,hk,d,f,c,r⟩
 ·obtain⟨z,b,r,p⟩:=h.ok I.aO;exact⟨b,r,p,z⟩
 ·refine⟨b.toList,r,⟨o,I.gK a o hk,d,n,by simpa using f⟩,?_⟩;have e:=r.length;simp only[ZO]at e;exact yQ e c
theorem Inv.ku(I:Inv X j8 σ H s)(h:cq X.K H a xs)(h':cq X.K H a ys):xs=ys:=by
 obtain⟨g,r,⟨o,n,e,_,_,d⟩,_⟩:=I.list h;obtain⟨b,i,⟨k,j,c,_,_,f⟩,_⟩:=I.list h';rw[e]at c;cases c;rw[d]at f;injection f with d1 _
 have:g=b:=by simpa using ZZ Array.toList d1
 subst this;exact r.inj i
theorem Inv.iJ(I:Inv X j8 σ H s)(h:bg X.K H a xs)(h':bg X.K H a ys):xs=ys:=by
 obtain⟨g,r,⟨o,e,_,n,d⟩,_⟩:=I.tuple h;obtain⟨b,i,⟨k,c,_,j,f⟩,_⟩:=I.tuple h';rw[e]at c;cases c;rw[d]at f;injection f with d1 _
 have:g=b:=by simpa using ZZ Array.toList d1
 subst this;exact r.inj i
end
abbrev Cx.ix(X:Cx)(E:aa->ab->Prop):Cx:={X with xe:=E}
abbrev Cx.Hk(X:Cx):Cx:=X.ix λ_ _=>False
theorem Cx.Ok.ix{X:Cx}(ok:X.Ok)(E:aa->ab->Prop):(X.ix E).Ok:=
 ⟨ok.mod,ok.kind,ok.glob,ok.blt,ok.above,ok.inj,ok.has,ok.ER,ok.hd,ok.frames,ok.Fq,ok.exf,ok.bs,ok.xl,ok.qu,ok.uE,ok.gg,ok.zv⟩
theorem Cx.Ok.dW{X:Cx}{E:aa->ab->Prop}(ok:(X.ix E).Ok):X.Ok:=
 ⟨ok.mod,ok.kind,ok.glob,ok.blt,ok.above,ok.inj,ok.has,ok.ER,ok.hd,ok.frames,ok.Fq,ok.exf,ok.bs,ok.xl,ok.qu,ok.uE,ok.gg,ok.zv⟩
section
variable{X:Cx}{j8:List (ae×aw)}{σ:St}{H:Hp}{s:ab}{E:aa->ab->Prop}
theorem Inv.ix(I:Inv X j8 σ H s)(E:aa->ab->Prop):Inv (X.ix E) j8 σ H s:=⟨I.ok.ix E,I.os,I.bare,I.base,I.loc,I.cell,I.free,I.dM,I.pin,I.aO,I.len⟩
theorem Inv.dW(I:Inv (X.ix E) j8 σ H s):Inv X j8 σ H s:=⟨I.ok.dW,I.os,I.bare,I.base,I.loc,I.cell,I.free,I.dM,I.pin,I.aO,I.len⟩
theorem SP.dW{D:Ends}{f:Flow}{s':ab}(h:SP (X.ix E) j8 D f s'):SP X j8 D f s':=by
 cases f with
 |next=>obtain⟨a,b,I,q⟩:=h;exact⟨a,b,I.dW,q⟩
 |brk=>obtain⟨a,b,I,q⟩:=h;exact⟨a,b,I.dW,q⟩
 |cont=>obtain⟨a,b,I,q⟩:=h;exact⟨a,b,I.dW,q⟩
 |ret u=>obtain⟨v,a,b,I,r,q⟩:=h;exact⟨v,a,b,I.dW,r,q⟩
theorem lR.Hk{st:List aA}{t:TS}(h:lR X.Hk st t):lR X st t:=λj8 s σ H D I a=>
 Y7 (h j8 s σ H D (I.ix _) a) (λ_ _ q=>q.dW) λ_ _ z=>False.elim z
end
section
variable{X:Cx}{st:aA}{rest:List aA}{t u:TS}{e:av}{te:TE}{pos:aC}
def xQ6:TS:=λD a H=>D.nx a H
def xw(t u:TS):TS:=λD a H=>t {D with nx:=u D} a H
theorem fU:lR X [] xQ6:=λ_ _ a H _ I h=>wpAny_execs_nil ⟨a,H,I,h⟩
theorem iA(h1:PS X st t)(c:lR X rest u):lR X (st::rest) (xw t u):=by
 intro b s d H D I h;refine wpAny_execs_cons (bz (h1 b s d H {D with nx:=u D} I h) λf j q=>?_);cases f with
 |next=>
  obtain⟨a,i,g,q⟩:=q;exact c b j a i D g q
 |ret v=>exact q
 |brk=>exact q
 |cont=>exact q
theorem dB(h1:PS X st t):lR X [st] t:=by
 intro b s a H D I h;refine wpAny_execs_cons (bz (h1 b s a H D I h) λf c q=>?_);cases f with
 |next=>exact wpAny_execs_nil q
 |ret v=>exact q
 |brk=>exact q
 |cont=>exact q
theorem Inv.quiet{a:List (ae×aw)}{σ:St}{H:Hp}{s:ab}(I:Inv X a σ H s):interactive X.env=false:=by simp[interactive,I.ok.kind]
def xQ7(te:TE):TS:=λD a H=>te a H λ_ b=>D.nx a b
theorem tN(c:PE X e te)(hs:swapsWith e none pos.line X.env=pure false:=by rfl):PS X (.Expr e pos) (xQ7 te):=by
 intro d s a H D I h;exact wpAny_Expr_any (bz (c d s a H _ I h) λv j ⟨x,g,f,i,b⟩=>⟨a,g,f,b⟩) I.quiet hs
def JV(te:TE):TS:=λD a H=>te a H D.rt
theorem cQ(d:PE X e te):PS X (.Return (some e) pos) (JV te):=by
 intro f s a H D I h;exact wpAny_Return_some (bz (d f s a H _ I h) λv j ⟨x,b,g,i,c⟩=>⟨x,a,b,g,i,c⟩)
def xQ8:TS:=λD _ H=>D.rt .cU H
theorem T2:PS X (.Return none pos) xQ8:=λ_ _ a H _ I h=>wpAny_Return_none ⟨.cU,a,H,I,rfl,h⟩
def JZ(c:TT)(t u:TS):TS:=λD a H=>c a H λb d=>if b=true then t D a d else u D a d
theorem fb{c:av}{a b:List aA}{j:TT}(hc:PT X c j)(n:lR X a t)(hb:lR X b u):PS X (.If c a b pos) (JZ j t u):=by
 intro g s f H D I h;refine wpAny_If (bz (hc g s f H _ I h) λd l ⟨m,k,i⟩=>?_);cases d with
 |true=>exact n g l f m D k i
 |false=>exact hb g l f m D k i
def xH6:TS:=λ_ _ _=>False
theorem Gh{a:List aA}:lR X a xH6:=λ_ _ _ _ _ _ h=>h.elim
end
abbrev TG:=V->St->Hp->(St->Hp->Prop)->Prop
abbrev uM:=List V->St->Hp->(St->Hp->Prop)->Prop
def PG(X:Cx)(a:av)(t:TG):Prop:=
 ∀(d:List (ae×aw))(s:ab)(c:St)(H:Hp)(v:V)(u:aa)(Q:St->Hp->Prop),Inv X d c H s->RelV v u->t v c H Q ->
  af (ah X.prog X.w) X.A (assign a X.env u) (λ_ f=>∃b e,Inv X d b e f/\Q b e) X.xe s
def Ii(X:Cx)(h:List av)(t:uM):Prop:=
 ∀(d:List (ae×aw))(s:ab)(b:St)(H:Hp)(f:List V)(c:List aa)(Q:St->Hp->Prop),Inv X d b H s->Vals f c->t f b H Q ->
  af (ah X.prog X.w) X.A (assignInOrder ((assignEach h X.env).map (·.2)) c) (λ_ g=>∃a e,Inv X d a e g/\Q a e) X.xe s
abbrev zO:=V->V->V->Hp->(Hp->Prop)->Prop
def zP(X:Cx)(t:zO):Prop:=
 ∀(d:List (ae×aw))(s:ab)(b:St)(H:Hp)(o i v:V)(c a u:aa)(Q:Hp->Prop),Inv X d b H s->RelV o c->RelV i a->RelV v u->t o i v H Q ->
  af (ah X.prog X.w) X.A (setItem c a u) (λ_ f=>∃e,Inv X d b e f/\Q e) X.xe s
section
variable{X:Cx}{pos:aC}
def ir(i:Nat):TG:=λv a H Q=>Q (a.set i (some v)) H
theorem Ac{i:Nat}{x:ar}(a:X.N.Nodup)(b:X.N[i]?=some x)(d:Loc X.env.scope x)(e:X.fn x=true\/X.env.scope.names.lookup x=some .local:=by first|exact .inl rfl|exact .inr rfl|assumption):PG X (.Name x pos) (ir i):=by
 intro g s f H v u Q I r h;exact wpAny_assign_Name (Ca I a b d r (λj c=>⟨_,H,c,h⟩) e)
def rM:uM:=λa b H Q=>a=[]/\Q b H
inductive zu(t:TG)(u:uM)(vs:List V)(σ:St)(H:Hp)(Q:St->Hp->Prop):Prop
 |mk(v:_)(r:_)(e0:vs=v::r)(e1:t v σ H λσ' H'=>u r σ' H' Q)
def tU(t:TG)(u:uM):uM:=λb a H Q=>zu t u b a H Q
theorem qh:Ii X [] rM:=by
 intro c s a H d b Q I r h;obtain⟨e,h⟩:=h;subst e;cases r;exact assignInOrder_nil ⟨a,H,I,h⟩
theorem gc{e:av}{a:List av}{t:TG}{u:uM}(h1:PG X e t)(j:Ii X a u)
  (hs:(assignEach (e::a) X.env).map (·.2)=assign e X.env::(assignEach a X.env).map (·.2):=by rfl):Ii X (e::a) (tU t u):=by
 intro c s d H q n Q I r h;obtain⟨v,p,l,h⟩:=h;subst l;cases r with
 |cons r f=>
  rw[hs];refine assignInOrder_cons (bz (h1 c s d H _ _ _ I r h) λ_ m ⟨b,g,i,k⟩=>?_);exact j c m b g _ _ Q i f k
inductive Ey(K:PySem.W.Frag)(n:Nat)(t:uM)(v:V)(σ:St)(H:Hp)(Q:St->Hp->Prop):Prop
 |mk(a:_)(xs:_)(e0:v=.ref a)(e1:bg K H a xs)(e2:xs.length=n)(e3:t xs σ H Q)
def rL(K:PySem.W.Frag)(n:Nat)(t:uM):TG:=λv a H Q=>Ey K n t v a H Q
theorem qg{c:List av}{k:Nat}{t:uM}{n:Nat}(hc:X.calm=true)(h:Ii X c t)
  (p:(assignEach c X.env).length=n:=by rfl) (j:(assignEach c X.env).findIdx? (·.1)=none:=by rfl):PG X (.Tuple c k pos) (rL X.K n t):=by
 intro i s g H v u Q I r d;obtain⟨a,l,B,q,x,d⟩:=d;subst B;cases r;obtain⟨D,f,y,C⟩:=I.tuple q;refine assign_Tuple_tuple (I.ok.hd hc) y (by simp[p,<- x,f.length]) j λw m=>?_;have A:Inv X i g H {s with heap:=w}:=I.kept (t':=s.toks) λb o e=>m b o (Zy (Zn e)) e;exact h i _ g H l _ Q A (by simpa using f) d
def NR(b e:TE)(t:zO):TG:=λv a H Q=>b a H λo f=>e a f λi d=>t o i v d λc=>Q a c
theorem GU{o i:av}{f e:TE}{t:zO}(B:PE X o f)(j:PE X i e)(hs:zP X t)
  (l:∀v,assign (.Subscript o i pos) X.env v=(do
   let a <- holding [v] (eval o X.env)
   let b <- holding [v,a] (eval i X.env)
   standAt pos
   holding [v,a,b] (setItem a b v)
   release [v,a,b] []):=by intro _;rfl):PG X (.Subscript o i pos) (NR f e t):=by
 intro d s c H v u Q I r h;rw[l];refine Za (ZY (bz (B d s c H _ I h) λa G ⟨x,n,w,A,C⟩=>?_));refine Za (ZY (bz (j d G c n _ w C) λb q ⟨y,m,p,g,k⟩=>?_));refine Za (Uz (Za (ZY (bz (hs d q c m x y v a b u _ p A g r k) λ_ J ⟨E,F,D⟩=>?_))));exact wpAny_release ⟨c,E,F,D⟩
def pF(te:TE)(g:TG):TS:=λD a H=>te a H λx b=>g x a b D.nx
theorem sE{a e:av}{te:TE}{g:TG}(d:PE X e te)(i:PG X a g)(hs:swapsWithSole [a] e pos.line X.env=pure false:=by rfl)(hw:swappedStores [a] e X.env=pure none:=by rfl)
  (h1:(assignEach [a] X.env).map (·.2)=[assign a X.env]:=by rfl):PS X (.Assign [a] e pos) (pF te g):=by
 intro c s b H D I h;refine wpAny_Assign_stores (bz (d c s b H _ I h) λv m ⟨x,f,j,k,l⟩=>?_) hs hw;rw[h1];exact bz (i c m b f x v _ j k l) λ_ n q=>q
theorem xH7{i:Nat}{x:ar}{e:av}{te:TE}{a:aC}(f:X.N.Nodup)(b:X.N[i]?=some x)(d:Loc X.env.scope x)(c:PE X e te)(hs:swapsWith e (some (.Name x a)) pos.line X.env=pure false:=by rfl)(q:X.fn x=true\/X.env.scope.names.lookup x=some .local:=by first|exact .inl rfl|exact .inr rfl|assumption):
  PS X (.Assign [.Name x a] e pos) (pF te (ir i)):=by
 intro l s g H D I h;refine wpAny_Assign_Name (bz (c l s g H _ I h) λv t ⟨y,j,m,n,p⟩=>?_) hs;exact Ca m f b d n (λr k=>⟨_,j,k,p⟩) q
def JW(i j:Nat)(ta:TA):TS:=λD a H=>ta a H λb c=>∃v w,b=[v,w]/\D.nx ((a.set i (some v)).set j (some w)) c
theorem xH8{i j:Nat}{x y:ar}{a b:av}{ta:TA}{g l pt:aC}{kt k2 LH} (hc:X.calm=true) (n:X.N.Nodup) (E:X.N[i]?=some x) (F:X.N[j]?=some y) (J:i≠j)
  (m:X.env.scope.names.lookup x=some .local) (A:X.env.scope.names.lookup y=some .local) (N:PA X [a,b] ta)
  (hw:swappedStores [.Tuple [.Name x g,.Name y l] kt pt] (.Tuple [a,b] k2 LH) X.env=pure (some [x,y]))
  (hs:swapsWithSole [.Tuple [.Name x g,.Name y l] kt pt] (.Tuple [a,b] k2 LH) pos.line X.env=pure false:=by rfl):
  PS X (.Assign [.Tuple [.Name x g,.Name y l] kt pt] (.Tuple [a,b] k2 LH) pos) (JW i j ta):=by
 intro u s r H D I h;rw[exec_Assign_arm];refine Za (Uz ?_);rw[hs];refine Za (Zb ?_);rw[Zi 'b'];refine Za (Tuple_ (bz (N _ u s r H _ I h) λM f ⟨W,t,Q,R,k⟩=>?_));obtain⟨v,w,S,k⟩:=k;subst S;obtain⟨d,c,rfl,L,O⟩:∃d c,M=[d,c]/\RelV v d/\RelV w c:=by
  cases R with
  |cons p q=>
   cases q with
   |cons C U=>
    cases U;exact⟨_,_,rfl,p,C⟩
 refine ZS ?_ (by show 2<=sizeLine;decide);have P:Inv X u r t {f with heap:=f.heap.push {cls:=.type "tuple",data:=.seq [d,c].toArray}}:=Q.kept (t':=f.toks) λb o e=>Zc _ e;rw[hw];refine Za (Zb ?_);show af (ah X.prog X.w) X.A (do rule "assign.swapped-stores";let items <- unpackItems (.ref f.heap.objs.size) 2 none;assignInOrder [λv=>bindName X.env y v,λv=>bindName X.env x v] items.reverse;pure Flow.next) _ _ _;refine Za (Y8 (Za (unpackItems_tuple (items:=#[d,c]) (I.ok.hd hc) (IsTup.new f.heap _) λh' G=>?_)));have T:=P.kept (h':=h') (t':=f.toks) λb o e=>G b o (Zy (Zn e)) e;show af _ _ (assignInOrder [λv=>bindName X.env y v,λv=>bindName X.env x v] [c,d] >>= λ_=>pure Flow.next) _ _ _;refine Za (assignInOrder_cons (wpAny_bindName (Ca T n F (.inl A) O (λV K=>?_) (.inr A))));refine assignInOrder_cons (wpAny_bindName (Ca K n E (.inl m) L (λY B=>assignInOrder_nil (Zb ?_)) (.inr m)));rw[List.set_comm _ _ (YE J)]at B;exact⟨_,t,B,k⟩
end
structure It where
 go:Nat->Hp->Prop
 lV:Nat->Hp->V->Hp->Prop
 stop:Nat->Hp->Prop
def gz(X:Cx)(a:List (ae×aw))(H:Hp)(b:ae):Prop:=
 H b=none/\b≠X.env.locals/\b∉X.fs/\(b∈X.ex\/X.aM.heap.objs.size<=b)/\(∀x c,X.env.cells.lookup x=some c->c≠b)/\∀p∈X.pn++a,p.1≠b
theorem Inv.iG{X:Cx}{a:List (ae×aw)}{σ:St}{H d:Hp}{s:ab}{b:ae}(I:Inv X a σ H s)(hb:s.heap.objs.size<=b)(f:d b=none):gz X a d b:=by
 refine⟨f,Wm (ZT I.lt hb),I.LS hb,.inr (ZF I.sz hb),λx c e z=>?_,λp g z=>?_⟩
 ·obtain⟨v,q⟩:=I.cell x c e;exact absurd (ZT q.lt (by rw[z];exact hb)) (YO _)
 ·exact absurd (ZT (Zn (I.pin p g).1) (by rw[z];exact hb)) (YO _)
structure Turn(P:ag)(w:ai)(K:PySem.W.Frag)(tg:av)(J:It)(fp:List ae)(it:ae)(tn:Nat->ao->Prop):Prop where
 mem:it∈fp
 obj:∀i h,tn i h->∀b∈fp,∃o,h.get? b=some o/\∀v,o.data≠.cell v
 keep:∀i h h',tn i h->(∀b∈fp,∀o,h.get? b=some o->h'.get? b=some o)->tn i h'
 item:∀(X:Cx),X.prog=P->X.w=w->X.K=K->X.calm=true->∀(i:Nat)(j8:List (ae×aw))(s:ab)(σ:St)(H:Hp)(E:aa->ab->Prop),Inv X j8 σ H s->(∀b∈fp,gz X j8 H b)->tn i s.heap->J.go i H ->
  af (ah P w) X.A (pyNext (.ref it)) (λr s1=>∃u,r=some u /\
   af (ah P w) X.A (letOwnedTupleGo tg (.ref it) u) (λ_ s2=>∃x H',Inv X j8 σ H' s2/\RelV x u/\J.lV i H x H'/\tn (i+1) s2.heap/\∀b∈fp,H' b=none) E s1) E s
 done:∀(X:Cx),X.prog=P->X.w=w->X.K=K->X.calm=true->∀(i:Nat)(j8:List (ae×aw))(s:ab)(σ:St)(H:Hp)(E:aa->ab->Prop),Inv X j8 σ H s->(∀b∈fp,gz X j8 H b)->tn i s.heap->J.stop i H ->
  af (ah P w) X.A (pyNext (.ref it)) (λr s1=>r=none/\Inv X j8 σ H s1) E s
 self:∀(A:aj)(i:Nat)(s:ab)(Q:aa->ab->Prop)(E:aa->ab->Prop),tn i s.heap->Q (.ref it) s->af (ah P w) A (pyIter (.ref it)) Q E s
abbrev TI:=St->Hp->(It->Hp->Prop)->Prop
def PIE(X:Cx)(f:List (ae×aw))(σ:St)(i:av)(R:It->Hp->Prop)(h:aa)(e:ab):Prop:=
 ∃(d:ae)(c:List ae)(g:Nat->ao->Prop)(J:It)(a:Hp),h=.ref d/\Inv X f σ a e/\Turn X.prog X.w X.K i J c d g/\g 0 e.heap/\(∀b∈c,gz X f a b)/\R J a
def PI(X:Cx)(d iter:av)(c:TI):Prop:=
 ∀(b:List (ae×aw))(s:ab)(a:St)(H:Hp)(R:It->Hp->Prop),Inv X b a H s->c a H R ->
  af (ah X.prog X.w) X.A (eval iter X.env) (λv e=>af (ah X.prog X.w) X.A (pyIter v) (PIE X b a d R) X.xe e) X.xe s
theorem Fc{M:Model}{A:aj}{E:aa->ab->Prop}{s:ab}{b:av}{it:ae}{u:aa}{o:aw}{n:String}{vs:Array aa}{Q:Unit->ab->Prop}(c:s.heap.get? it=some o)(hc:o.cls=.type n)(e:o.data=.fields vs)
  (d:["enumerate","zip","dict_itemiterator","dict_reverseitemiterator","odict_iterator","itertools.zip_longest","itertools.pairwise"].contains n=false) (a:Q () s):af M A (letOwnedTupleGo b (.ref it) u) Q E s:=by
 unfold letOwnedTupleGo;cases b<;>first
  |exact Zb a
  |(cases u<;>first
    |exact Zb a
    |(refine Za (wpAny_load c ?_)
      rw[hc,e];show af M A (if(["enumerate","zip","dict_itemiterator","dict_reverseitemiterator","odict_iterator","itertools.zip_longest","itertools.pairwise"].contains n&&vs[0]?==some (rawInt _))=true then _ else _) Q E s;rw[Zi (by intro h;rw[d,US]at h;cases h)];exact Zb a))
def A8(K:PySem.W.Frag)(a:ae):It:=
 ⟨λi H=>∃b x,cq K H a b/\b[i]?=some x,λi H x c=>c=H/\∀b,cq K H a b->b[i]?=some x,λi H=>∃b,cq K H a b/\b.length<=i⟩
def A7(K:PySem.W.Frag)(a:ae):It:=
 ⟨λi H=>∃b x,bg K H a b/\b[i]?=some x,λi H x c=>c=H/\∀b,bg K H a b->b[i]?=some x,λi H=>∃b,bg K H a b/\b.length<=i⟩
def mh(a:Int)(n:Nat):It:=⟨λi _=>i<n,λi H x b=>b=H/\x=.int (a+i),λi _=>n<=i⟩
theorem q45{P:ag}{w:ai}{K:PySem.W.Frag}{S:av}(a it:ae):Turn P w K S (A8 K a) [it] it (λi h=>h.IsListIter it a i) where
 mem:=by simp
 obj:=λi h f b hb=>by
  have e:b=it:=by simpa using hb
  subst e;obtain⟨o,e,c,d⟩:=f;exact⟨o,e,λv z=>by rw[d]at z;cases z⟩
 keep:=λi h l f k=>f.at λo e=>k it (by simp) o e
 item:=by
  intro X y B F J i M s G H E I m f C;subst y B F;obtain⟨N,x,j,g⟩:=C;obtain⟨T,r,p,Q⟩:=I.list j;obtain⟨u,W,ru⟩:=r.get g;obtain⟨n,q,R,A,D,t⟩:=m it (by simp);refine wpAny_pyNext_list_item f p.isList (x:=u) (by simpa using W) λl L Z=>?_;have Y:Inv X M G H {s with heap:=l}:=I.turned (t':=s.toks) (λb o hb e=>(Z.2 b hb).trans e) n q A D t;obtain⟨o,e,c,d⟩:=id L;exact⟨u,rfl,Fc (s:={s with heap:=l}) e c d 'b' ⟨x,H,Y,ru,⟨rfl,λys V=>by rw[I.ku V j];exact g⟩,L,λb hb=>(m b hb).1⟩⟩
 done:=by
  intro X y B F J i M s G H E I m f C;subst y B F;obtain⟨N,j,g⟩:=C;obtain⟨T,r,p,Q⟩:=I.list j;obtain⟨n,q,R,A,D,t⟩:=m it (by simp);have U:=r.length;exact wpAny_pyNext_list_end (I.ok.hd J) f p.isList (by simp;exact wt U g) λl O=>⟨rfl,I.turned (t':=s.toks) (λb o hb e=>O b o hb e) n q A D t⟩
 self:=λ_ _ _ _ _ f h=>wpAny_pyIter_listiter f h
theorem qZ8{P:ag}{w:ai}{K:PySem.W.Frag}{T:av}(a it:ae):Turn P w K T (A7 K a) [it] it (λi h=>h.IsTupleIter it a i) where
 mem:=by simp
 obj:=λi h f b hb=>by
  have e:b=it:=by simpa using hb
  subst e;obtain⟨o,e,c,d⟩:=f;exact⟨o,e,λv z=>by rw[d]at z;cases z⟩
 keep:=λi h l f k=>f.at λo e=>k it (by simp) o e
 item:=by
  intro X y B G L i N s J H E I m f C;subst y B G;obtain⟨O,x,j,g⟩:=C;obtain⟨F,r,p,R⟩:=I.tuple j;obtain⟨u,W,ru⟩:=r.get g;obtain⟨n,q,S,A,D,t⟩:=m it (by simp);refine wpAny_pyNext_tuple_item f (show s.heap.IsTuple a F.toArray from p) (x:=u) (by simpa using W) λl M Z=>?_;have Y:Inv X N J H {s with heap:=l}:=I.turned (t':=s.toks) (λb o hb e=>(Z.2 b hb).trans e) n q A D t;obtain⟨o,e,c,d⟩:=id M;exact⟨u,rfl,Fc (s:={s with heap:=l}) e c d 'b' ⟨x,H,Y,ru,⟨rfl,λys V=>by rw[I.iJ V j];exact g⟩,M,λb hb=>(m b hb).1⟩⟩
 done:=by
  intro X y B G L i N s J H E I m f C;subst y B G;obtain⟨O,j,g⟩:=C;obtain⟨F,r,p,R⟩:=I.tuple j;obtain⟨n,q,S,A,D,t⟩:=m it (by simp);have U:=r.length;exact wpAny_pyNext_tuple_end (I.ok.hd L) f (show s.heap.IsTuple a F.toArray from p) (by simp;exact wt U g) λl Q=>⟨rfl,I.turned (t':=s.toks) (λb o hb e=>Q b o hb e) n q A D t⟩
 self:=λ_ _ _ _ _ f h=>wpAny_pyIter_tupleiter f h
theorem qZ9{P:ag}{w:ai}{K:PySem.W.Frag}{M:av}(it:ae)(d:Int)(n:Nat):Turn P w K M (mh d n) [it] it (λi h=>IsRangeIter h it (d+(i:Nat)*1) ((n:Int)-(i:Nat)) 1) where
 mem:=by simp
 obj:=λi h a b hb=>by
  have e:b=it:=by simpa using hb
  subst e;exact⟨_,a,λv z=>by
   have L:Data.fields _=Data.cell v:=z;cases L⟩
 keep:=λi h c a k=>k it (by simp) _ a
 item:=by
  intro X m r y l i D s A H E I f a u;subst m r y;obtain⟨g,j,J,p,x,q⟩:=f it (by simp);have W:=Walks.range (prog:=X.prog) (w:=X.w) (I.ok.hd l) it d 1 n;refine W.item i s _ _ u a λv c B N C G=>?_;obtain⟨t,rfl⟩:=N;have O:Inv X D A H {s with heap:=c,toks:=B}:=I.turned (λb o hb e=>G b o (by simpa using hb) e) g j p x q;refine⟨_,rfl,Fc (s:={s with heap:=c,toks:=B}) (n:= "range_iterator") C rfl rfl 'b' ⟨.int (d+i),H,O,⟨t,?_⟩,⟨rfl,rfl⟩,C,λb hb=>(f b hb).1⟩⟩;rw[Int.mul_one]
 done:=by
  intro X m r y l i D s A H E I f a u;subst m r y;obtain⟨g,j,J,p,x,q⟩:=f it (by simp);exact wpAny_pyNext_range_end (I.ok.hd l) a (by have:n<=i:=u;lia) λc F=>⟨rfl,I.turned (t':=s.toks) (λb o hb e=>F b o hb e) g j p x q⟩
 self:=λ_ _ _ _ _ a h=>wpAny_pyIter_rangeiter a h
section
variable{X:Cx}{tg:av}
inductive zc(K:PySem.W.Frag)(R:It->Hp->Prop)(x:V)(H1:Hp):Prop
 |mk(a:_)(e0:x=.ref a)(e1:(∃xs,cq K H1 a xs))(e2:R (A8 K a) H1)
def xQ9(K:PySem.W.Frag)(b:TE):TI:=λa H R=>b a H λx c=>zc K R x c
inductive Dz(K:PySem.W.Frag)(R:It->Hp->Prop)(x:V)(H1:Hp):Prop
 |mk(a:_)(e0:x=.ref a)(e1:(∃xs,bg K H1 a xs))(e2:R (A7 K a) H1)
def DA(K:PySem.W.Frag)(b:TE):TI:=λa H R=>b a H λx c=>Dz K R x c
theorem sH{l:av}{f:TE}(m:PE X l f):PI X tg l (xQ9 X.K f):=by
 intro k s g H R I h;refine bz (m k s g H _ I h) λv d ⟨x,j,c,n,r⟩=>?_;obtain⟨a,e,⟨t,i⟩,q⟩:=r;subst e;cases n;obtain⟨y,u,p,w⟩:=c.list i;refine Xy p.isList ?_;refine⟨d.heap.objs.size,[d.heap.objs.size],_,_,j,rfl,c.kept (t':=d.toks) λb o e=>Zc _ e,q45 a _,⟨_,Zj _ rfl,rfl,rfl⟩,λb hb=>?_,q⟩;have e:b=d.heap.objs.size:=by simpa using hb
 subst e;exact c.iG (Zd _) (c.aO.fresh (Zd _))
theorem yc{l:av}{f:TE}(n:PE X l f):PI X tg l (DA X.K f):=by
 intro m s g H R I h;refine bz (n m s g H _ I h) λv c ⟨x,j,d,r,t⟩=>?_;obtain⟨a,e,⟨u,i⟩,q⟩:=t;subst e;cases r;obtain⟨k,w,p,y⟩:=d.tuple i;refine Wn (show c.heap.IsTuple a k.toArray from p) ?_;refine⟨c.heap.objs.size,[c.heap.objs.size],_,_,j,rfl,d.kept (t':=c.toks) λb o e=>Zc _ e,qZ8 a _,⟨_,Zj _ rfl,rfl,rfl⟩,λb hb=>?_,q⟩;have e:b=c.heap.objs.size:=by simpa using hb
 subst e;exact d.iG (Zd _) (d.aO.fresh (Zd _))
theorem jz{d:List (ae×aw)}{σ:St}{H:Hp}{s:ab}{R:It->Hp->Prop}{E:aa->ab->Prop}{a c:Int}{t u v:Tok}{tk:Nat}(I:Inv X d σ H s)(h1:-(2^62)<=a)(h:a<2^62)(g:-(2^62)<=c)(j:c<2^62)
  (q:R (mh a (c-a).toNat) H):af (ah X.prog X.w) X.A (pyIter (.ref s.heap.objs.size)) (PIE X d σ tg R) E {s with heap:=s.heap.push {cls:=.type "range",data:=.fields #[.int a t,.int c u,.int 1 v]},toks:=tk}:=by
 refine wpAny_pyIter_range (IsRange.new ..) (small_one h1 h g j) ?_;have f:Inv X d σ H {s with heap:=s.heap.push {cls:=.type "range",data:=.fields #[.int a t,.int c u,.int 1 v]},toks:=tk}:=I.kept λb o e=>Zc _ e;refine⟨(s.heap.push {cls:=.type "range",data:=.fields #[.int a t,.int c u,.int 1 v]}).objs.size,[(s.heap.push {cls:=.type "range",data:=.fields #[.int a t,.int c u,.int 1 v]}).objs.size],_,_,H,rfl,
  f.kept (t':=tk) λb o e=>Zc _ e,qZ9 _ a (c-a).toNat,?_,λb hb=>?_,q⟩
 ·have i:a+((0:Nat):Int)*1=a:=by simp
  have k:(((c-a).toNat:Nat):Int)-((0:Nat):Int)=Builtin.Range.rangeSize a c 1:=by rw[rangeSize_one];split<;>lia
  show IsRangeIter _ _ (a+((0:Nat):Int)*1) ((((c-a).toNat:Nat):Int)-((0:Nat):Int)) 1;rw[i,k];exact Zj _ rfl
 ·have e:b=(s.heap.push {cls:=.type "range",data:=.fields #[.int a t,.int c u,.int 1 v]}).objs.size:=by simpa using hb
  subst e;exact f.iG (Zd _) (f.aO.fresh (Zd _))
inductive zb(R:It->Hp->Prop)(vs:List V)(H1:Hp):Prop
 |mk(j:Int)(e0:vs=[.int j])(e1:-(2^62)<=j)(e2:j<2^62)(e3:R (mh 0 j.toNat) H1)
def QW(ta:TA):TI:=λa H R=>ta a H λb c=>zb R b c
inductive za(R:It->Hp->Prop)(vs:List V)(H1:Hp):Prop
 |mk(i:Int)(j:Int)(e0:vs=[.int i,.int j])(e1:(-(2^62)<=i/\i<2^62/\-(2^62)<=j/\j<2^62))(e2:R (mh i (j-i).toNat) H1)
def xR0(ta:TA):TI:=λa H R=>ta a H λb c=>za R b c
theorem ym{a:av}{ta:TA}{p b:aC}(l:Gl X "range")(g:X.mg "range"=none)(i:PA X [a] ta)(hs:starEach [a] X.env=[(false,eval a X.env)]:=by rfl):PI X tg (.Call (.Name "range" p) [a] [] b) (QW ta):=by
 intro m s f H R I h;refine Call_ (yd I l g boot_range (Xb (bz (i b m s f H _ I h) λv y ⟨x,w,n,u,c⟩=>?_) hs rfl));obtain⟨j,e,c,d,q⟩:=c;subst e;cases u with
 |cons r k=>
  cases k;obtain⟨t,rfl⟩:=r;exact call_range_1 (jz n 'a' 'a' c d (by simpa using q))
theorem q46{a b:av}{ta:TA}{p c:aC}(v:Gl X "range")(n:X.mg "range"=none)(u:PA X [a,b] ta)(hs:starEach [a,b] X.env=[(false,eval a X.env),(false,eval b X.env)]:=by rfl)(g:starEach [b] X.env=[(false,eval b X.env)]:=by rfl):
  PI X tg (.Call (.Name "range" p) [a,b] [] c) (xR0 ta):=by
 intro w s l H R I h;refine Call_ (yd I v n boot_range (Xb (bz (u c w s l H _ I h) λC G ⟨F,E,x,y,f⟩=>?_) (by rw[hs,g]) (by rw[g];rfl)));obtain⟨i,j,e,⟨f,k,B,m⟩,q⟩:=f;subst e;cases y with
 |cons r d=>
  cases d with
  |cons A d=>
   cases d;obtain⟨t,rfl⟩:=r;obtain⟨D,rfl⟩:=A;exact call_range_2 (jz x f k B m q)
def J4(f:TI)(g:TG)(tb:TS):TS:=λD a H=>f a H λJ e=>∃W:Nat->Nat->St->Hp->Prop,(∃m,W 0 m a e)/\∀i m a H,W i m a H ->
 (J.stop i H/\D.nx a H)\/(J.go i H/\∃N:St->Hp->Prop,(∀c b,N c b->∃d,d<m/\W (i+1) d c b)/\∀x b,J.lV i H x b->g x a b λh j=>tb {D with nx:=N,ct:=N,bk:=D.nx} h j)
def CD(fp:List ae)(h:ao):List (ae×aw):=fp.filterMap λb=>(h.get? b).map λo=>(b,o)
theorem Gp{fp:List ae}{h:ao}{b:ae}{o:aw}(hb:b∈fp)(e:h.get? b=some o):(b,o)∈CD fp h:=V6.mpr ⟨b,hb,by rw[e];rfl⟩
theorem q47{fp:List ae}{h:ao}{p:ae×aw}(c:p∈CD fp h):p.1∈fp/\h.get? p.1=some p.2:=by
 obtain⟨b,hb,e⟩:=V6.mp c;cases q:h.get? b with
 |none=>rw[q]at e;cases e
 |some o=>
  rw[q]at e;have a:(b,o)=p:=ZE e;subst a;exact⟨hb,q⟩
theorem Inv.pinned{a:List (ae×aw)}{σ:St}{H:Hp}{s:ab}{fp:List ae}(I:Inv X a σ H s)(i:∀b∈fp,gz X a H b)(f:∀b∈fp,∃o,s.heap.get? b=some o/\∀v,o.data≠.cell v):Inv X (a++CD fp s.heap) σ H s:=
 I.nJ λp g=>(ZW.mp g).elim (λz=>I.pin p (Yg _ z)) λz=>by
  obtain⟨hb,e⟩:=q47 z;obtain⟨j,h,k,_⟩:=i p.1 hb;obtain⟨o,c,d⟩:=f p.1 hb;rw[e]at c;cases c;exact⟨e,j,h,k,d⟩
theorem Inv.dX{a pl:List (ae×aw)}{σ:St}{H:Hp}{s:ab}(I:Inv X (a++pl) σ H s):Inv X a σ H s:=I.nJ λp b=>I.pin p (Yg _ (WC _ b))
theorem og{iter:av}{t:List aA}{R:TI}{g:TG}{tb:TS}{K:aC}(B:PassesOwn (ah X.prog X.w) X.A X.env X.xe)(hc:X.calm=true)(hi:PI X tg iter R)(hg:PG X tg g)(hb:lR X t tb)
  (hs:∀x,foldedSetIterable iter X.env x=pure x:=by intro _;rfl):PS X (.For tg iter t [] K) (J4 R g tb):=by
 intro w s Q H D I h;refine wpAny_For (bz (hi w s Q H _ I h) λv s1 h1=>bz h1 λMr s2 h2=>?_) hs;obtain⟨it,F,Z,J,H2,e,I2,T,cg,f2,W,⟨m0,w0⟩,A⟩:=h2;subst e;have L:∀{p:Hp},(∀b∈F,p b=none)->∀b∈F,gz X w p b:=λhn b hb=>⟨hn b hb,(f2 b hb).2⟩;refine codeAny_forLoop_any (λn s'=>∃i c p,Inv X w c p s'/\Z i s'.heap/\(∀b∈F,p b=none)/\W i n c p) ?_ m0 ⟨0,Q,H2,I2,cg,λb hb=>(f2 b hb).1,w0⟩;rintro n U ⟨i,y,G,Y,V,ED,w3⟩;rcases A i n y G w3 with⟨E,qn⟩|⟨go,N,hN,step⟩
 ·refine W3 B (bz (T.done X rfl rfl rfl hc i w U y G X.xe Y (L ED) V E) λr s4 ⟨P,I4⟩=>?_);subst P;exact wpAny_execs_nil ⟨y,G,I4,qn⟩
 ·refine W3 B (bz (T.item X rfl rfl rfl hc i w U y G X.xe Y (L ED) V go) λr s4 ⟨u,P,h4⟩=>?_);subst P;refine W3 B (bz h4 λ_ S ⟨x,H5,I5,r5,y5,O,NW⟩=>?_);have OA:=I5.pinned (L NW) (T.obj _ _ O);refine W3 B (bz (hg _ S y H5 x u _ OA r5 (step x H5 y5)) λ_ s6 ⟨OW,H6,I6,q6⟩=>?_);refine W3 B (bz (hb _ s6 OW H6 _ I6 q6) λf M q=>?_);have a:∀{k:St}{j:Hp},Inv X (w++CD F S.heap) k j M->N k j->∃m,m<n/\∃i c p,Inv X w c p M/\Z i M.heap/\(∀b∈F,p b=none)/\W i m c p:=λ{k j} l C=>by
   obtain⟨m',hm,w7⟩:=hN k j C;refine⟨m',hm,i+1,k,j,l.dX,T.keep _ _ _ O λb hb o e=>(l.pin (b,o) (Yg _ (Yg _ (Gp hb e)))).1,λb hb=>?_,w7⟩;obtain⟨o,e,d⟩:=T.obj _ _ O b hb;exact(l.pin (b,o) (Yg _ (Yg _ (Gp hb e)))).2.1
  cases f with
  |next=>obtain⟨k,j,l,C⟩:=q;exact a l C
  |cont=>obtain⟨k,j,l,C⟩:=q;exact a l C
  |brk=>obtain⟨k,j,l,q⟩:=q;exact⟨k,j,l.dX,q⟩
  |ret v=>obtain⟨x7,k,j,l,r7,q⟩:=q;exact⟨x7,k,j,l.dX,r7,q⟩
end
theorem xj6{K:PySem.W.Frag}{a:ae}{xs:List V}{g:TG}{tb:TS}{D:Ends}{σ:St}{H:Hp}(Pv:Nat->St->Hp->Prop)(h0:Pv 0 σ H)(n:∀i σ H,i<=xs.length->Pv i σ H->cq K H a xs)
  (hs:∀i x σ H,xs[i]?=some x->Pv i σ H->g x σ H λh f=>tb {D with nx:=Pv (i+1),ct:=Pv (i+1),bk:=D.nx} h f) (r:∀σ H,Pv xs.length σ H->D.nx σ H):
  ∃W:Nat->Nat->St->Hp->Prop,(∃m,W 0 m σ H)/\∀i m σ H,W i m σ H ->
   ((A8 K a).stop i H/\D.nx σ H)\/((A8 K a).go i H/\∃N:St->Hp->Prop,(∀b c,N b c->∃k,k<m/\W (i+1) k b c)/\∀x c,(A8 K a).lV i H x c->g x σ c λh f=>tb {D with nx:=N,ct:=N,bk:=D.nx} h f):=by
 refine⟨λi m σ H=>m=xs.length-i/\i<=xs.length/\Pv i σ H,⟨xs.length,by simp,Zs _,h0⟩,?_⟩;rintro i m σ H ⟨rfl,j,p⟩;have q:=n i σ H j p;by_cases d:i<xs.length
 ·refine .inr ⟨⟨xs,xs[i],q,by simp[d]⟩,Pv (i+1),λb c l=>⟨xs.length-(i+1),q9 d,rfl,d,l⟩,λx c y=>?_⟩;obtain⟨e,y⟩:=y;subst e;exact hs i x σ _ (y xs q) p
 ·have e:i=xs.length:=by exact oJ j d
  subst e;exact .inl ⟨⟨xs,q,Zd _⟩,r σ H p⟩
theorem Hf{K:PySem.W.Frag}{a:ae}{xs:List V}{g:TG}{tb:TS}{D:Ends}{σ:St}{H:Hp}(Pv:Nat->St->Hp->Prop)(h0:Pv 0 σ H)(n:∀i σ H,i<=xs.length->Pv i σ H->bg K H a xs)
  (hs:∀i x σ H,xs[i]?=some x->Pv i σ H->g x σ H λh f=>tb {D with nx:=Pv (i+1),ct:=Pv (i+1),bk:=D.nx} h f) (r:∀σ H,Pv xs.length σ H->D.nx σ H):
  ∃W:Nat->Nat->St->Hp->Prop,(∃m,W 0 m σ H)/\∀i m σ H,W i m σ H ->
   ((A7 K a).stop i H/\D.nx σ H)\/((A7 K a).go i H/\∃N:St->Hp->Prop,(∀b c,N b c->∃k,k<m/\W (i+1) k b c)/\∀x c,(A7 K a).lV i H x c->g x σ c λh f=>tb {D with nx:=N,ct:=N,bk:=D.nx} h f):=by
 refine⟨λi m σ H=>m=xs.length-i/\i<=xs.length/\Pv i σ H,⟨xs.length,by simp,Zs _,h0⟩,?_⟩;rintro i m σ H ⟨rfl,j,p⟩;have q:=n i σ H j p;by_cases d:i<xs.length
 ·refine .inr ⟨⟨xs,xs[i],q,by simp[d]⟩,Pv (i+1),λb c l=>⟨xs.length-(i+1),q9 d,rfl,d,l⟩,λx c y=>?_⟩;obtain⟨e,y⟩:=y;subst e;exact hs i x σ _ (y xs q) p
 ·have e:i=xs.length:=by exact oJ j d
  subst e;exact .inl ⟨⟨xs,q,Zd _⟩,r σ H p⟩
theorem Gg{d:Int}{n:Nat}{g:TG}{tb:TS}{D:Ends}{σ:St}{H:Hp}(Pv:Nat->St->Hp->Prop)(h0:Pv 0 σ H)
  (hs:∀i σ H,i<n->Pv i σ H->g (.int (d+i)) σ H λh f=>tb {D with nx:=Pv (i+1),ct:=Pv (i+1),bk:=D.nx} h f) (q:∀σ H,Pv n σ H->D.nx σ H):
  ∃W:Nat->Nat->St->Hp->Prop,(∃m,W 0 m σ H)/\∀i m σ H,W i m σ H ->
   ((mh d n).stop i H/\D.nx σ H)\/((mh d n).go i H/\∃N:St->Hp->Prop,(∀a b,N a b->∃j,j<m/\W (i+1) j a b)/\∀x b,(mh d n).lV i H x b->g x σ b λh f=>tb {D with nx:=N,ct:=N,bk:=D.nx} h f):=by
 refine⟨λi m σ H=>m=n-i/\i<=n/\Pv i σ H,⟨n,by simp,Zs _,h0⟩,?_⟩;rintro i m σ H ⟨rfl,l,p⟩;by_cases c:i<n
 ·refine .inr ⟨c,Pv (i+1),λa b k=>⟨n-(i+1),q9 c,rfl,c,k⟩,λx b y=>?_⟩;obtain⟨e,y⟩:=y;subst e y;exact hs i σ _ c p
 ·have e:i=n:=by exact oJ l c
  subst e;exact .inl ⟨Zd _,q σ H p⟩
abbrev R2:=V->V->Hp->VK->Prop
def eJ(X:Cx)(f:aa->aa->Sem aa)(r:R2):Prop:=
 ∀(b:List (ae×aw))(s:ab)(a:St)(H:Hp)(x y:V)(v u:aa)(Q:VK),Inv X b a H s->RelV x v->RelV y u->r x y H Q ->
  af (ah X.prog X.w) X.A (f v u) (EP X b a Q) X.xe s
def Ov(X:Cx)(f:aa->Sem aa)(r:V->Hp->VK->Prop):Prop:=
 ∀(b:List (ae×aw))(s:ab)(a:St)(H:Hp)(x:V)(v:aa)(Q:VK),Inv X b a H s->RelV x v->r x H Q ->
  af (ah X.prog X.w) X.A (f v) (EP X b a Q) X.xe s
def f_(X:Cx)(f:aa)(r:List V->Hp->VK->Prop):Prop:=
 ∀(d:List (ae×aw))(s:ab)(a:St)(H:Hp)(b:List V)(c:List aa)(Q:VK),Inv X d a H s->Vals b c->r b H Q ->
  af (ah X.prog X.w) X.A (call f c) (EP X d a Q) X.xe s
def Bg(r:R2)(ta tb:TE):TE:=λa H Q=>ta a H λx b=>tb a b λy c=>r x y c Q
def tUn(r:V->Hp->VK->Prop)(ta:TE):TE:=λb H Q=>ta b H λx a=>r x a Q
inductive rI_(C:Int->Int->Prop)(g:Int->Int->V)(x y:V)(H:Hp)(Q:VK):Prop
 |mk(i:_)(j:_)(e0:x=.int i)(e1:y=.int j)(e2:C i j)(e3:Q (g i j) H)
def rI(C:Int->Int->Prop)(g:Int->Int->V):R2:=λx y H Q=>rI_ C g x y H Q
inductive Kj(g:Int->Int->V)(x y:V)(H:Hp)(Q:VK):Prop
 |mk(i:_)(j:_)(e0:x=.int i)(e1:y=.int j)(e2:Q (g i j) H)
def uY(g:Int->Int->V):R2:=λx y H Q=>Kj g x y H Q
inductive rU_(g:Int->V)(x:V)(H:Hp)(Q:VK):Prop
 |mk(i:_)(e0:x=.int i)(e1:Q (g i) H)
def rU(g:Int->V):V->Hp->VK->Prop:=λx H Q=>rU_ g x H Q
section
variable{X:Cx}{a b c:av}{ta tb tc:TE}{pos:aC}
theorem zJ(m:PE X a ta)(hb:PE X b tb){g:List (ae×aw)}{s:ab}{σ:St}{H:Hp}{R:V->V->Hp->Prop}(I:Inv X g σ H s)
  (h:ta σ H λx i=>tb σ i λy d=>R x y d){Q:aa->ab->Prop}{f:aa->aa->Sem aa}
  (w:∀v u e x y d,Inv X g σ d e->RelV x v->RelV y u->R x y d->af (ah X.prog X.w) X.A (f v u) Q X.xe e):
  af (ah X.prog X.w) X.A (eval a X.env) (λv l=>af (ah X.prog X.w) X.A (eval b X.env) (λu r=>af (ah X.prog X.w) X.A (f v u) Q X.xe r) X.xe l) X.xe s:=by
 refine bz (m g s σ H _ I h) λv A ⟨x,i,p,q,t⟩=>?_;refine bz (hb g A σ i _ p t) λu e ⟨y,d,n,j,k⟩=>?_;exact w v u e x y d n q j k
theorem a_{op:Operator}{r:R2}(m:eJ X (binaryOp op) r)(e:PE X a ta)(hb:PE X b tb):PE X (.BinOp a op b pos) (Bg r ta tb):=by
 intro j s d H Q I h;exact wpAny_BinOp (zJ e hb I h λv u i x y f g l k q=>m j i d f x y v u Q g l k q)
theorem xR1{op:UnaryOp}{r:V->Hp->VK->Prop}(f:Ov X (unaryOp op) r)(i:PE X a ta):PE X (.UnaryOp op a pos) (tUn r ta):=by
 intro e s d H Q I h;exact UnaryOp_ (bz (i e s d H _ I h) λv l ⟨x,m,j,k,g⟩=>f e l d m x v Q j k g)
theorem AD{f:aa->aa->Sem aa}{C:Int->Int->Prop}{g:Int->Int->Int}
  (d:∀(i j:Int)(t u:Tok)(s:ab)(Q:aa->ab->Prop)(E:aa->ab->Prop),C i j->Q (.int (g i j) s.toks) {s with toks:=s.toks+1}->af (ah X.prog X.w) X.A (f (.int i t) (.int j u)) Q E s):
  eJ X f (rI C λi j=>.int (g i j)):=by
 intro p s n H x y v u Q I m l h;obtain⟨i,j,rfl,rfl,e,q⟩:=h;obtain⟨t,rfl⟩:=m;obtain⟨k,rfl⟩:=l;exact d i j t k s _ _ e ⟨.int (g i j),H,I.tok _,⟨_,rfl⟩,q⟩
theorem yx{f:aa->aa->Sem aa}{g:Int->Int->Int}
  (d:∀(i j:Int)(t u:Tok)(s:ab)(Q:aa->ab->Prop)(E:aa->ab->Prop),Q (.int (g i j) s.toks) {s with toks:=s.toks+1}->af (ah X.prog X.w) X.A (f (.int i t) (.int j u)) Q E s):
  eJ X f (uY λi j=>.int (g i j)):=by
 intro n s m H x y v u Q I l k h;obtain⟨i,j,rfl,rfl,q⟩:=h;obtain⟨t,rfl⟩:=l;obtain⟨e,rfl⟩:=k;exact d i j t e s _ _ ⟨.int (g i j),H,I.tok _,⟨_,rfl⟩,q⟩
theorem yy{f:aa->aa->Sem aa}{g:Int->Int->Bool}
  (d:∀(i j:Int)(t u:Tok)(s:ab)(Q:aa->ab->Prop)(E:aa->ab->Prop),Q (.bool (g i j)) s->af (ah X.prog X.w) X.A (f (.int i t) (.int j u)) Q E s):
  eJ X f (uY λi j=>.bl (g i j)):=by
 intro n s m H x y v u Q I l k h;obtain⟨i,j,rfl,rfl,q⟩:=h;obtain⟨t,rfl⟩:=l;obtain⟨e,rfl⟩:=k;exact d i j t e s _ _ ⟨.bl (g i j),H,I,rfl,q⟩
def OV(i j:Int):Prop:=0<j/\j<1073741824
def EY(i j:Int):Prop:=0<=j/\j<=1000000/\i.natAbs<2^64
def su(i j:Int):Prop:=(-(2^64)<i/\i<2^64)\/(-(2^64)<j/\j<2^64)
theorem su.ok{i j:Int}(h:su i j):IntMulOk i j:=by
 rcases h with⟨h1,d⟩|⟨h1,d⟩
 ·exact .of_left (intBits_le_64 h1 d)
 ·exact .of_right (intBits_le_64 h1 d)
theorem q00(k:Nat):(0:Int)<=2^k:=by
 rw[two_pow_cast];exact V7 _
theorem df:eJ X (binaryOp .Add) (uY λi j=>.int (i+j)):=yx λ_ _ _ _ _ _ _ q=>add_int q
theorem gA:eJ X (binaryOp .Sub) (uY λi j=>.int (i-j)):=yx λ_ _ _ _ _ _ _ q=>sub_int q
theorem qe:eJ X (binaryOp .Mult) (rI su λi j=>.int (i*j)):=AD λ_ _ _ _ _ _ _ d q=>mul_int q d.ok
theorem yh:eJ X (binaryOp .FloorDiv) (rI OV λi j=>.int (i/j)):=AD λi j _ _ _ _ _ d q=>by
 have h1:(0:Int)<j:=d.1;have e:j<1073741824:=d.2;exact floordiv_int 'a' (by rw[V8 i 'a'];exact q) (.inl (PyProof.noPylong_small 'a'))
theorem u_:eJ X (binaryOp .Mod) (rI (λ_ j=>0<j) λi j=>.int (i%j)):=AD λi j _ _ _ _ _ d q=>by
 have h1:(0:Int)<j:=d;exact mod_int' 'a' (by rw[Int.fmod_eq_emod_of_nonneg i 'a'];exact q)
theorem xI0:eJ X (binaryOp .Pow) (rI EY λi j=>.int (i^j.toNat)):=AD λ_ _ _ _ _ _ _ d q=>pow_int_small d.1 d.2.1 d.2.2 q
theorem nF:eJ X (binaryOp .LShift) (rI EY λi j=>.int (i*2^j.toNat)):=AD λ_ _ _ _ _ _ _ d q=>lshift_int_small d.1 d.2.1 d.2.2 q
theorem PM:eJ X (binaryOp .RShift) (rI (λ_ j=>0<=j) λi j=>.int (i/2^j.toNat)):=AD λi j _ _ _ _ _ d q=>
 rshift_int d (by rw[V8 i (q00 _)];exact q)
theorem PL:eJ X (binaryOp .BitAnd) (uY λi j=>.int (Builtin.bitAnd i j)):=yx λ_ _ _ _ _ _ _ q=>and_int q
theorem unI{f:aa->Sem aa}{g:Int->Int}
  (d:∀(i:Int)(t:Tok)(s:ab)(Q:aa->ab->Prop)(E:aa->ab->Prop),Q (.int (g i) s.toks) {s with toks:=s.toks+1}->af (ah X.prog X.w) X.A (f (.int i t)) Q E s):
  Ov X f (rU λi=>.int (g i)):=by
 intro k s j H x v Q I e h;obtain⟨i,rfl,q⟩:=h;obtain⟨t,rfl⟩:=e;exact d i t s _ _ ⟨.int (g i),H,I.tok _,⟨_,rfl⟩,q⟩
theorem xI1:Ov X (unaryOp .USub) (rU λi=>.int (-i)):=unI λ_ _ _ _ _ q=>neg_int q
end
def BE:V->V->Bool
 |.cU,.cU=>true|.cU,.int _=>true|.int _,.cU=>true|.cU,.bl _=>true|.bl _,.cU=>true|.cU,.str _=>true|.str _,.cU=>true
 |.int _,.int _=>true|.bl _,.bl _=>true|.str _,.str _=>true|.pj _,.pj _=>true
 |.int _,.str _=>true|.str _,.int _=>true|.bl _,.str _=>true|.str _,.bl _=>true
 |_,_=>false
def rEq:R2:=λx y H Q=>BE x y=true/\Q (.bl (decide (x=y))) H
def rNe:R2:=λx y H Q=>BE x y=true/\Q (.bl (!decide (x=y))) H
theorem T1{i j:Int}:decide (V.int i=V.int j)=(i==j):=by
 rw[Yn];simp
theorem PK{i j:Bool}:decide (V.bl i=V.bl j)=(i==j):=by
 rw[Yn];simp
theorem TZ{i j:ar}:decide (V.str i=V.str j)=(i==j):=by
 rw[Yn];simp
theorem TY{i j:Array UInt8}:decide (V.pj i=V.pj j)=(i.toList==j.toList):=by
 rw[Yn];cases i;cases j;simp
section
variable{X:Cx}{a b c:av}{ta tb tc:TE}{pos:aC}
theorem fi{f:List (ae×aw)}{σ:St}{H:Hp}{s:ab}{Q:VK}{k d:Bool}(I:Inv X f σ H s)(q:Q (.bl k) H)(e:k=d):EP X f σ Q (.bool d) s:=by
 subst e;exact⟨.bl k,H,I,rfl,q⟩
theorem p7:eJ X (compareOp .Eq) rEq:=by
 intro l s k H x y v u Q I g d h;obtain⟨f,q⟩:=h;cases x with
 |cU=>
  cases g;cases y with
  |cU=>cases d;exact PySem.EqNone.eq_none_none (fi I q (by simp))
  |bl j=>cases d;exact PySem.EqNone.eq_none_bool (fi I q (by simp))
  |int j=>obtain⟨e,rfl⟩:=d;exact PySem.EqNone.eq_none_int (fi I q (by simp))
  |str j=>obtain⟨e,rfl⟩:=d;exact PySem.EqNone.eq_none_str (fi I q (by simp))
  |_=>exact absurd (show false=true from f) Zv
 |bl i=>
  cases g;cases y with
  |cU=>cases d;exact PySem.EqNone.eq_bool_none (fi I q (by simp))
  |bl j=>cases d;exact eq_bool (fi I q PK)
  |str j=>obtain⟨e,rfl⟩:=d;exact PySem.EqMixed.eq_bool_str (fi I q (by simp))
  |_=>exact absurd (show false=true from f) Zv
 |int i=>
  obtain⟨t,rfl⟩:=g;cases y with
  |cU=>cases d;exact PySem.EqNone.eq_int_none (fi I q (by simp))
  |int j=>obtain⟨e,rfl⟩:=d;exact eq_int (fi I q T1)
  |str j=>obtain⟨e,rfl⟩:=d;exact PySem.EqMixed.eq_int_str (fi I q (by simp))
  |_=>exact absurd (show false=true from f) Zv
 |str i=>
  obtain⟨t,rfl⟩:=g;cases y with
  |cU=>cases d;exact PySem.EqNone.eq_str_none (fi I q (by simp))
  |bl j=>cases d;exact PySem.EqMixed.eq_str_bool (fi I q (by simp))
  |int j=>obtain⟨e,rfl⟩:=d;exact PySem.EqMixed.eq_str_int (fi I q (by simp))
  |str j=>obtain⟨e,rfl⟩:=d;exact eq_str (fi I q TZ)
  |_=>exact absurd (show false=true from f) Zv
 |pj i=>
  obtain⟨t,rfl⟩:=g;cases y with
  |pj j=>obtain⟨e,rfl⟩:=d;exact PySem.W.eq_bytes (fi I q TY)
  |_=>exact absurd (show false=true from f) Zv
 |_=>cases y<;>exact absurd (show false=true from f) Zv
theorem IH:eJ X (compareOp .NotEq) rNe:=by
 intro l s k H x y v u Q I g d h;obtain⟨f,q⟩:=h;cases x with
 |cU=>
  cases g;cases y with
  |cU=>cases d;exact PySem.EqNone.ne_none_none (fi I q (by simp))
  |bl j=>cases d;exact PySem.EqNone.ne_none_bool (fi I q (by simp))
  |int j=>obtain⟨e,rfl⟩:=d;exact PySem.EqNone.ne_none_int (fi I q (by simp))
  |str j=>obtain⟨e,rfl⟩:=d;exact PySem.EqNone.ne_none_str (fi I q (by simp))
  |_=>exact absurd (show false=true from f) Zv
 |bl i=>
  cases g;cases y with
  |cU=>cases d;exact PySem.EqNone.ne_bool_none (fi I q (by simp))
  |bl j=>cases d;exact ne_bool (fi I q (ZZ not PK))
  |str j=>obtain⟨e,rfl⟩:=d;exact PySem.EqMixed.ne_bool_str (fi I q (by simp))
  |_=>exact absurd (show false=true from f) Zv
 |int i=>
  obtain⟨t,rfl⟩:=g;cases y with
  |cU=>cases d;exact PySem.EqNone.ne_int_none (fi I q (by simp))
  |int j=>obtain⟨e,rfl⟩:=d;exact ne_int (fi I q (ZZ not T1))
  |str j=>obtain⟨e,rfl⟩:=d;exact PySem.EqMixed.ne_int_str (fi I q (by simp))
  |_=>exact absurd (show false=true from f) Zv
 |str i=>
  obtain⟨t,rfl⟩:=g;cases y with
  |cU=>cases d;exact PySem.EqNone.ne_str_none (fi I q (by simp))
  |bl j=>cases d;exact PySem.EqMixed.ne_str_bool (fi I q (by simp))
  |int j=>obtain⟨e,rfl⟩:=d;exact PySem.EqMixed.ne_str_int (fi I q (by simp))
  |str j=>obtain⟨e,rfl⟩:=d;exact ne_str (fi I q (ZZ not TZ))
  |_=>exact absurd (show false=true from f) Zv
 |pj i=>
  obtain⟨t,rfl⟩:=g;cases y with
  |pj j=>obtain⟨e,rfl⟩:=d;exact PySem.W.ne_bytes (fi I q (ZZ not TY))
  |_=>exact absurd (show false=true from f) Zv
 |_=>cases y<;>exact absurd (show false=true from f) Zv
theorem nE:eJ X (compareOp .Lt) (uY λi j=>.bl (decide (i<j))):=yy λ_ _ _ _ _ _ _ q=>lt_int q
theorem tT:eJ X (compareOp .LtE) (uY λi j=>.bl (decide (i<=j))):=yy λ_ _ _ _ _ _ _ q=>le_int q
theorem QV:eJ X (compareOp .Gt) (uY λi j=>.bl (decide (j<i))):=yy λ_ _ _ _ _ _ _ q=>gt_int q
theorem dA(b:av){op:CmpOp}(h:op≠.In:=by decide)(d:op≠.NotIn:=by decide):behindInMarks op b=false:=by
 have e:(op==CmpOp.In)=false:=by cases op<;>first|rfl|exact absurd rfl h
 have f:(op==CmpOp.NotIn)=false:=by cases op<;>first|rfl|exact absurd rfl d
 cases b<;>simp[behindInMarks,e,f]
theorem mF{op:CmpOp}{r:R2}(n:eJ X (compareOp op) r)(f:PE X a ta)(hb:PE X b tb)(e:behindInMarks op b=false):PE X (.Compare a [op] [b] pos) (Bg r ta tb):=by
 intro k s d H Q I h;exact wpAny_Compare1 (zJ f hb I h λv u j x y g i m l q=>n k j d g x y v u Q i m l q) e
inductive xu(Q:Bool->Hp->Prop)(x:V)(H':Hp):Prop
 |mk(k:_)(e0:x=.bl k)(e1:Q k H')
def QU(t:TE):TT:=λd H Q=>t d H λx e=>xu Q x e
theorem gB{op:CmpOp}{r:R2}(B:eJ X (compareOp op) r)(m:PE X a ta)(hb:PE X b tb)(l:behindInMarks op b=false):PT X (.Compare a [op] [b] pos) (QU (Bg r ta tb)):=by
 intro f s d H Q I h;refine wpAny_isTrue_Compare1 (bz (m f s d H _ I h) λv G ⟨x,p,w,A,C⟩=>bz (hb f G d p _ w C) λu t ⟨y,n,q,g,i⟩=>
  bz (B f t d n x y v u _ q A g i) λc J ⟨z,E,F,j,k,e,D⟩=>?_) l
 subst e;cases j;exact Yc ⟨E,F,D⟩
inductive sT(r':R2)(tc:TE)(σ:St)(Q:VK)(y z:V)(H3:Hp):Prop
 |mk(k:_)(e0:z=.bl k)(e1:(if k=true then tc σ H3 λw' H4=>r' y w' H4 Q else Q (.bl false) H3))
def PJ(r e:R2)(ta tb tc:TE):TE:=λd H Q=>ta d H λx h=>tb d h λy g=>r x y g λz f=>sT e tc d Q y z f
theorem Si{op i:CmpOp}{r l:R2}(P:eJ X (compareOp op) r)(O:eJ X (compareOp i) l)(E:PE X a ta)(hb:PE X b tb)(hc:PE X c tc)
  (D:lastMarks [op,i] [b,c]=false:=by with_unfolding_all rfl):PE X (.Compare a [op,i] [b,c] pos) (PJ r l ta tb tc):=by
 intro g s f H Q I h;refine Compare_chain (bz (E g s f H _ I h) λv V ⟨x,J,M,N,R⟩=>chain_link (bz (hb g V f J _ M R) λu L ⟨y,F,K,j,t⟩=>
  bz (P g L f F x y v u _ K N j t) λd U ⟨z,n,p,A,k,e,m⟩=>?_)) D
 subst e;cases A;refine Yc ?_;cases k with
 |false=>exact ite_ff ⟨.bl false,n,p,rfl,m⟩
 |true=>exact ite_tt (chain_last (bz (hc g U f n _ p m) λB q ⟨G,T,w,S,C⟩=>O g q f T y G u B Q w j S C))
theorem xj7{op i:CmpOp}{r l:R2}(T:eJ X (compareOp op) r)(S:eJ X (compareOp i) l)(F:PE X a ta)(hb:PE X b tb)(hc:PE X c tc)
  (E:lastMarks [op,i] [b,c]=false:=by with_unfolding_all rfl):PT X (.Compare a [op,i] [b,c] pos) (QU (PJ r l ta tb tc)):=by
 intro g s f H Q I h;refine isTrue_chain (bz (F g s f H _ I h) λv s1 ⟨x,K,P,R,V⟩=>test_link (bz (hb g s1 f K _ P V) λu M ⟨y,G,L,j,w⟩=>
  bz (T g M f G x y v u _ L R j w) λd s3 ⟨z,n,p,B,k,e,m⟩=>?_)) E
 subst e;cases B;refine Yc ?_;cases k with
 |false=>
  obtain⟨k',U,q'⟩:=m;cases U;exact ite_ff ⟨n,p,q'⟩
 |true=>
  refine ite_tt (test_last (bz (hc g s3 f n _ p m) λC t ⟨J,Z,A,Y,D⟩=>bz (S g t f Z y J u C _ A j Y D) λd' s5 ⟨z2,q,I5,N,k2,O,W⟩=>?_));subst O;cases N;exact Yc ⟨q,I5,W⟩
theorem CC:(sizeLine:Nat)<2^63:=by rw[XY];decide
theorem iq{x:V}{us:List aa}(r:Vals [x] us):∃u,us=[u]/\RelV x u:=by
 cases r with
 |cons d e=>cases e;exact⟨_,rfl,d⟩
theorem IG{x y:V}{us:List aa}(r:Vals [x,y] us):∃u d,us=[u,d]/\RelV x u/\RelV y d:=by
 cases r with
 |cons h e=>
  cases e with
  |cons g f=>cases f;exact⟨_,_,rfl,h,g⟩
inductive m_(xs:List V)(H:Hp)(Q:VK):Prop
 |mk(i:_)(aT:xs=[.int i])(cV:Q (.int (if i<0 then -i else i)) H)
theorem Sh:f_ X (.builtin "abs") m_:=by
 intro j s d H e f Q I r h;obtain⟨i,rfl,q⟩:=h;obtain⟨u,rfl,t,rfl⟩:=iq r;exact call_abs_int λu g=>⟨.int (if i<0 then -i else i),H,I.tok _,⟨_,rfl⟩,q⟩
inductive lN(xs:List V)(H:Hp)(Q:VK):Prop
 |mk(i:_)(j:_)(aT:xs=[.int i,.int j])(cV:Q (.int (if j>i then j else i)) H)
theorem Tg(hc:X.calm=true):f_ X (.builtin "max") lN:=by
 intro v s f H e g Q I r h;obtain⟨i,j,rfl,q⟩:=h;obtain⟨u,l,rfl,⟨t,rfl⟩,⟨p,rfl⟩⟩:=IG r;refine max_two_ints (I.ok.hd hc) λn m k=>⟨_,H,I.kept k,?_,q⟩;by_cases d:j>i
 ·rw[Zk d,Zk d];exact⟨_,rfl⟩
 ·rw[Zi d,Zi d];exact⟨_,rfl⟩
inductive lJ(xs:List V)(H:Hp)(Q:VK):Prop
 |mk(i:_)(j:_)(aT:xs=[.int i,.int j])(cV:Q (.int (if j<i then j else i)) H)
theorem Kw(hc:X.calm=true):f_ X (.builtin "min") lJ:=by
 intro v s f H e g Q I r h;obtain⟨i,j,rfl,q⟩:=h;obtain⟨u,l,rfl,⟨t,rfl⟩,⟨p,rfl⟩⟩:=IG r;refine min_two_ints (I.ok.hd hc) λn m k=>⟨_,H,I.kept k,?_,q⟩;by_cases d:j<i
 ·rw[Zk d,Zk d];exact⟨_,rfl⟩
 ·rw[Zi d,Zi d];exact⟨_,rfl⟩
theorem Ce:f_ X (.type "int") (λd H Q=>(∃i,d=[.int i]/\Q (.int i) H)\/∃k,d=[.bl k]/\Q (.int (if k then 1 else 0)) H):=by
 intro j s f H d g Q I r h;rcases h with⟨i,rfl,q⟩|⟨k,rfl,q⟩
 ·obtain⟨u,rfl,t,rfl⟩:=iq r;exact call_int_int ⟨.int i,H,I,⟨_,rfl⟩,q⟩
 ·obtain⟨u,rfl,e⟩:=iq r;cases e;exact call_int_bool ⟨.int (if k then 1 else 0),H,I.tok _,⟨_,rfl⟩,q⟩
end
structure nc(h:ao)(x dx C:ae)(mA:ar->Option aa):Prop where
 obj:h.get? x=some (PySem.W.instObj C dx)
 ns:h.Ns1 dx mA
 ne:dx≠x
theorem q51{h:ao}{d:ae}{c:ar->Option aa}(n:h.Ns1 d c):∃f,h.get? d=some f/\∀name,PySem.W.lookIn name f=some (c name):=by
 obtain⟨o,b,p,g,m,hk,_,k⟩:=n;refine⟨o,g,λname=>?_⟩;have e:=k name;unfold nsFind findBy at e;rw[<- Array.find?_toList]at e;unfold PySem.W.lookIn;rw[m];dsimp only;split
 ·rename_i y q;rw[q]at e;exact ZZ some e
 ·rename_i q;rw[q]at e;have a:b.toList.any (·.refKey)=false:=by
   rw[XZ];intro y l;obtain⟨z,t,i⟩:=hk y (Array.mem_toList_iff.mp l);simp[DictEntry.refKey,i]
  have j:¬b.toList.any (·.refKey)=true:=by rw[a];exact Zv
  rw[Zi j];exact ZZ some e
theorem nc.look{h:ao}{x b C:ae}{c:ar->Option aa}(I:nc h x b C c):∃a,PySem.W.InstAt h x (PySem.W.instObj C b) C (some a)/\∀name,PySem.W.lookIn name a=some (c name):=
 let ⟨a,ho,hl⟩:=q51 I.ns
 ⟨a,⟨I.obj,rfl,rfl,ho⟩,hl⟩
section
variable{x dx C f:ae}{mA:ar->Option aa}{name:ar}{v:aa}
theorem xy0{a:Bool}{Q:aa->ab->Prop}(X:K.In s.heap)(I:nc s.heap x dx C mA)(b:PySem.W.plainGet K C name=true)(e:PySem.W.hasDictIn K C=true)
  (c:PySem.W.findIn K (.ref C) name=some none) (g:mA name=some v) (i:PySem.W.handedIn v=true) (h:Q v {s with toks:=s.toks+1}):
  af (ah prog w) A (getAttr (.ref x) name a) Q E s:=by
 obtain⟨j,J,d⟩:=I.look;exact PySem.W.get_value X J (VX b).1 (PySem.W.findObj_own e c rfl (by rw[d,g])) i h
theorem xj8{pl:Sem Bool}{Q:aa×List aa->ab->Prop}(X:K.In s.heap)(I:nc s.heap x dx C mA)(a:PySem.W.plainGet K C name=true)
  (g:PySem.W.findIn K (.ref C) name=some (some (.ref f))) (b:PySem.W.isFn K (.ref f)=true) (d:mA name=none) (h:Q (.ref f,[.ref x]) s):
  af (ah prog w) A (getMethod (.ref x) name pl) Q E s:=by
 obtain⟨e,J,c⟩:=I.look;exact PySem.W.method_fn X J (VX a).1 (VX a).2 g (XC.mp b) (by show(PySem.W.lookIn name e).map (·.isSome)=some false;rw[c,d];rfl) h
theorem xy1{i:List ar}{Q:Unit->ab->Prop}(X:K.In s.heap)(I:nc s.heap x dx C mA)
  (hs:PySem.W.findIn K (.ref C) "__setattr__"=some (some (.builtin "object.__setattr__"))) (m:PySem.W.plainOver K C=true) (u:PySem.W.takerIn K C name=some none) (q:PySem.W.hasDictIn K C=true)
  (hw:PySem.Within mA i) (hsz:i.length<=sizeLine)
  (h:∀c,nc c x dx C (λy=>if y=name then some v else mA y)->Heap.SameBut dx s.heap c->Q () {s with heap:=c,toks:=s.toks+2}):
  af (ah prog w) A (setAttr (.ref x) name v) Q E s:=by
 obtain⟨G,J,H⟩:=I.look;refine PySem.W.set_plain X J hs (PySem.W.osa_open (s:={s with toks:=s.toks+1}) (r:=none) X J m u λb=>?_);obtain⟨D,p,n⟩:=PySem.W.any_some q;have l:s.heap.get? x=some ⟨.ref C,some dx,.plain,#[]⟩:=I.obj;refine Za (Zb (Za (Za (wpAny_loadPart l (Za (PySem.W.Looks.here (s:={s with toks:=s.toks+1}) (PySem.W.looks_clsIn X p) ?_))))));rw[n];refine Zb (a:=some dx) (Za (Zb (Za ?_)));refine wpAny_nsSet1 (s:={s with toks:=s.toks+1}) I.ns λc g j=>?_;obtain⟨F,k,t,d,e,B⟩:=g.count (PySem.Within.cons name v hw);refine Za (wpAny_lookBehind d (by rw[e];exact pastItsLine_dict (ZF B (by rw[ZM];exact t6 hsz))) ?_);exact Zb (h _ ⟨(j.2 _ (YE I.ne)).trans I.obj,g,I.ne⟩ j)
theorem xj9{R:Result->ab->Prop}{vs:List aa}{b:List (ar×aa)}(X:K.In s.heap)(e:PySem.W.makesIn K C=true)
  (c:PySem.W.findIn K (.ref C) "__init__"=some (some (.ref f))) (i:PySem.W.typeIn K (.ref f)=some (.type "function"))
  (h:codeAny (ah prog w) (A.under (.builtin "type.__call__" ⟨.ref C::vs,b⟩)) (.call (.ref f) ⟨.ref (s.heap.objs.size+1)::vs,b⟩) (PySem.W.InitBack (s.heap.objs.size+1) R)
   {s with heap:=(s.heap.push PySem.W.emptyDict).push (PySem.W.instObj C s.heap.objs.size)}):
  codeAny (ah prog w) A (.call (.ref C) ⟨vs,b⟩) R s:=by
 obtain⟨k,g,d,t,j⟩:=s;exact PySem.W.make_core (PySem.W.makes_of X e) (PySem.W.looks_findIn X c) (λa=>PySem.W.bind_fn X a i) (.inl rfl) h
end
def cD(f:ar)(v:V):List (ar×V)->List (ar×V)
 |[]=>[(f,v)]
 |(g,x)::r=>if g=f then(g,v)::r else(g,x)::cD f v r
theorem Rf(f g:ar)(v:V):∀fs:List (ar×V),(cD f v fs).lookup g=if g=f then some v else fs.lookup g
 |[]=>by
  show List.lookup g [(f,v)]=_;by_cases h:g=f
  ·have hb:(g==f)=true:=XC.mpr h;simp only[List.lookup,hb,Zk h]
  ·have hb:(g==f)=false:=Xf.mpr h;simp only[List.lookup,hb,Zi h]
 |(k,x)::r=>by
  have a:=Rf f g v r;rw[show cD f v ((k,x)::r)=(if k=f then(k,v)::r else(k,x)::cD f v r)from rfl];by_cases hk:k=f
  ·rw[Zk hk];by_cases h:g=k
   ·have hb:(g==k)=true:=XC.mpr h;simp only[List.lookup,hb,Zk (h.trans hk)]
   ·have hb:(g==k)=false:=Xf.mpr h;simp only[List.lookup,hb,Zi (λe:g=f=>h (e.trans hk.symm))]
  ·rw[Zi hk];by_cases h:g=k
   ·have hb:(g==k)=true:=XC.mpr h;simp only[List.lookup,hb,Zi (λe:g=f=>hk (h.symm.trans e))]
   ·have hb:(g==k)=false:=Xf.mpr h;simp only[List.lookup,hb];exact a
theorem Kv(f:ar)(v:V):∀fs:List (ar×V),f∈(cD f v fs).map (·.1)/\∀g,g∈fs.map (·.1)->g∈(cD f v fs).map (·.1)
 |[]=>⟨by simp[cD],λg h=>by simp at h⟩
 |(k,x)::r=>by
  obtain⟨b,a⟩:=Kv f v r;rw[show cD f v ((k,x)::r)=(if k=f then(k,v)::r else(k,x)::cD f v r)from rfl];by_cases hk:k=f
  ·rw[Zk hk];subst hk;exact⟨by simp,λg h=>by simpa using h⟩
  ·rw[Zi hk];refine⟨?_,λg h=>?_⟩
   ·rw[ZB];exact Zp _ b
   ·rw[ZB]at h ⊢;rcases Zu.mp h with e|e
    ·exact Zu.mpr (.inl e)
    ·exact Zp _ (a g e)
theorem Rc(f:ar)(v:V):∀fs:List (ar×V),(cD f v fs).length<=fs.length+1
 |[]=>by simp[cD]
 |(k,x)::r=>by
  have a:=Rc f v r;rw[show cD f v ((k,x)::r)=(if k=f then(k,v)::r else(k,x)::cD f v r)from rfl];by_cases hk:k=f
  ·rw[Zk hk,ZM,ZM];exact gT
  ·rw[Zi hk,ZM,ZM];exact t6 a
theorem dG.some_of{v:V}{o:Option aa}(r:dG (some v) o):∃u,o=some u/\RelV v u:=by
 cases o with
 |none=>exact(show False from r).elim
 |some u=>exact⟨u,rfl,r⟩
theorem dG.none_of{o:Option aa}(r:dG none o):o=none:=by
 cases o with
 |none=>rfl
 |some u=>exact(show False from r).elim
theorem q52{v:V}{u:aa}(r:RelV v u):PySem.W.handedIn u=true:=by
 cases v with
 |cU=>cases(show u=Value.none from r);rfl
 |bl b=>cases(show u=Value.bool b from r);rfl
 |int i=>obtain⟨t,e⟩:=(show ∃t,u=Value.int i t from r);cases e;rfl
 |str x=>obtain⟨t,e⟩:=(show ∃t,u=Value.str x t from r);cases e;rfl
 |pj b=>obtain⟨t,e⟩:=(show ∃t,u=Value.bytes b t from r);cases e;rfl
 |zy b=>obtain⟨t,e⟩:=(show ∃t,u=Value.float b t from r);cases e;rfl
 |ref a=>cases(show u=Value.ref a from r);rfl
 |ty n=>cases(show u=Value.type n from r);rfl
section
variable{H H':Hp}{h h':ao}{a C dx:ae}{fs fs':List (ar×V)}
theorem He(c:dJ P w H h)(e:H a=some (.ins C dx fs)):∃b,nc h a dx C b/\(∀f,dG (fs.lookup f) (b f))/\PySem.Within b (fs.map (·.1))/\fs.length<=1000/\H dx=some (.own a):=by
 obtain⟨d,z,ne,ob,b,n,r,q⟩:=(show bo P w H h a (.ins C dx fs)from c a _ e);exact⟨b,⟨ob,n,ne⟩,r,q,z,d⟩
end
structure sj(K:PySem.W.Frag)(C:ae):Prop where
 pg:PySem.W.plainGet K C Str.empty=true
 hd:PySem.W.hasDictIn K C=true
 po:PySem.W.plainOver K C=true
 sa:PySem.W.findIn K (.ref C) "__setattr__"=some (some (.builtin "object.__setattr__"))
theorem sj.get{K:PySem.W.Frag}{C:ae}(c:sj K C)(f:ar):PySem.W.plainGet K C f=true:=c.pg
def cG(K:PySem.W.Frag)(C:ae)(f:ar):Prop:=PySem.W.findIn K (.ref C) f=some none
theorem cG.Be{K:PySem.W.Frag}{C:ae}{f:ar}(n:cG K C f):PySem.W.takerIn K C f=some none:=by
 unfold PySem.W.takerIn;rw[show PySem.W.findIn K (.ref C) f=some none from n]
 rfl
structure Meth(K:PySem.W.Frag)(C:ae)(m:ar)(f:ae):Prop where
 at_:PySem.W.findIn K (.ref C) m=some (some (.ref f))
 fn:PySem.W.isFn K (.ref f)=true
 kp:PySem.W.keepIn K (.ref f)=true
section
variable{X:Cx}{j8:List (ae×aw)}{σ:St}{H:Hp}{s:ab}{a C dx:ae}{fs:List (ar×V)}{f:ar}{v:V}{A:aj}{E:aa->ab->Prop}
theorem q01{b:Bool}{Q:aa->ab->Prop}(I:Inv X j8 σ H s)(e:H a=some (.ins C dx fs))(c:sj X.K C)(n:cG X.K C f)(l:fs.lookup f=some v)
  (h:∀u d,Inv X j8 σ H d->RelV v u->Q u d):af (ah X.prog X.w) A (getAttr (.ref a) f b) Q E s:=by
 obtain⟨g,O,r,_,_,_⟩:=He I.aO e;obtain⟨u,i,ru⟩:=dG.some_of (v:=v) (o:=g f) (by rw[<- l];exact r f);exact xy0 I.gK O (c.get f) c.hd n i (q52 ru) (h u _ (I.tok _) ru)
theorem q02{m:ar}{g:ae}{pl:Sem Bool}{Q:aa×List aa->ab->Prop}(I:Inv X j8 σ H s)(e:H a=some (.ins C dx fs))(c:sj X.K C)(k:Meth X.K C m g)(l:fs.lookup m=none)
  (h:Q (.ref g,[.ref a]) s):af (ah X.prog X.w) A (getMethod (.ref a) m pl) Q E s:=by
 obtain⟨d,O,r,_,_,_⟩:=He I.aO e;have b:d m=none:=dG.none_of (by rw[<- l];exact r m);exact xj8 I.gK O (c.get m) k.at_ k.fn b h
theorem q03{y:V}{u:aa}{Q:Unit->ab->Prop}(I:Inv X j8 σ H s)(e:H a=some (.ins C dx fs))(c:sj X.K C)(n:cG X.K C f)(F:fs.length<1000)(B:RelV y u)
  (h:∀l,Inv X j8 σ (upd H a (.ins C dx (cD f y fs))) l->Q () l):af (ah X.prog X.w) A (setAttr (.ref a) f u) Q E s:=by
 obtain⟨j,O,r,k,_,i⟩:=He I.aO e;have t:(fs.map (·.1)).length<=sizeLine:=by rw[Zg,XY];lia
 refine xy1 I.gK O c.sa c.po n.Be c.hd k t λw d p=>h _ ?_;have D:∃o,w.get? dx=some o:=let ⟨o,_,_,e',_⟩:=d.ns;⟨o,e'⟩;refine I.write (x:=a) (e:=dx) (by rw[e];exact True.intro) (.inr i) (λb q hb z=>(p.2 b hb).trans z) D ?_;refine⟨by rw[bV O.ne];exact i,?_,O.ne,d.obj,_,d.ns,λg=>?_,λg m=>?_⟩
 ·have:=Rc f y fs;lia
 ·show dG ((cD f y fs).lookup g) (if g=f then some u else j g);rw[Rf];by_cases q:g=f
  ·rw[Zk q,Zk q];exact B
  ·rw[Zi q,Zi q];exact r g
 ·by_cases q:g=f
  ·rw[q];exact(Kv f y fs).1
  ·refine(Kv f y fs).2 g (k g λz=>m ?_);show(if g=f then some u else j g)=none;rw[Zi q];exact z
theorem Inv.made(I:Inv X j8 σ H s):Inv X j8 σ (upd (upd H s.heap.objs.size (.own (s.heap.objs.size+1))) (s.heap.objs.size+1) (.ins C s.heap.objs.size []))
  {s with heap:=(s.heap.push PySem.W.emptyDict).push (PySem.W.instObj C s.heap.objs.size)}:=by
 have c:(s.heap.push PySem.W.emptyDict).get? s.heap.objs.size=some PySem.W.emptyDict:=Zj s.heap rfl;have h:((s.heap.push PySem.W.emptyDict).push (PySem.W.instObj C s.heap.objs.size)).get? (s.heap.objs.size+1)=some (PySem.W.instObj C s.heap.objs.size):=by
  have:=Zj (s.heap.push PySem.W.emptyDict) (o:=PySem.W.instObj C s.heap.objs.size) rfl
  rwa [Z0]at this
 have g:(s.heap.push PySem.W.emptyDict).Ns s.heap.objs.size (λ_=>none):=⟨PySem.W.emptyDict,#[],_,c,rfl,(λe d=>absurd d (by simp)),λ_=>rfl⟩;have i:=I.laid (a:=s.heap.objs.size) (o:=.own (s.heap.objs.size+1)) (h':=s.heap.push PySem.W.emptyDict) (t':=s.toks) (λb u q=>Zc _ q) (Zd _) ⟨_,c⟩;refine i.laid (a:=s.heap.objs.size+1) (o:=.ins C s.heap.objs.size []) (t':=s.toks) (λb u q=>Zc _ q) (Vg (Z0 _ _)) ?_;have ne:s.heap.objs.size≠s.heap.objs.size+1:=Zy (ZN _);refine⟨by rw[bV ne,aX],Zs _,ne,h,λ_=>none,(Heap.Ns1.of_empty g).at λo q=>Zc _ q,λ_=>True.intro,λy j=>absurd rfl j⟩
theorem xy2{prog:ag}{w:ai}{env:Env}{e:av}{f:ar}{b:aC}{s:ab}{Q:aa->ab->Prop}(hb:attributeBase e f env (eval e env)=eval e env)
  (h:af (ah prog w) A (eval e env) (λo c=>af (ah prog w) A (getAttr o f true) Q E c) E s):af (ah prog w) A (eval (.Attribute e f b) env) Q E s:=
 Attribute_any_ h (by rw[arm_eval_Attribute,hb])
end
inductive Bh(K:PySem.W.Frag)(f:ar)(Q:VK)(x:V)(H1:Hp):Prop
 |mk(a:_)(C:_)(dx:_)(fs:_)(v:_)(e0:x=.ref a)(e1:H1 a=some (.ins C dx fs))(e2:sj K C)(e3:cG K C f)(e4:fs.lookup f=some v)(e5:Q v H1)
def Bi(K:PySem.W.Frag)(ta:TE)(f:ar):TE:=λb H Q=>ta b H λx a=>Bh K f Q x a
inductive BF(K:PySem.W.Frag)(f:ar)(y:V)(D:Ends)(σ:St)(x:V)(H2:Hp):Prop
 |mk(a:_)(C:_)(dx:_)(fs:_)(e0:x=.ref a)(e1:H2 a=some (.ins C dx fs))(e2:sj K C)(e3:cG K C f)(e4:fs.length<1000)(e5:D.nx σ (upd H2 a (.ins C dx (cD f y fs))))
def Kc(K:PySem.W.Frag)(ta d:TE)(f:ar):TS:=λD a H=>d a H λy b=>ta a b λx c=>BF K f y D a x c
section
variable{X:Cx}{o e value:av}{f:ar}{pos pos' eZ:aC}{ta tv:TE}
theorem yb(b:PE X e ta)(hb:attributeBase e f X.env (eval e X.env)=eval e X.env):PE X (.Attribute e f pos) (Bi X.K ta f):=by
 intro j s d H Q I h;refine xy2 hb (bz (b j s d H _ I h) λu y ⟨x,g,m,k,a,C,t,fs,v,ex,p,c,n,l,q⟩=>?_);subst ex;obtain rfl:u=Value.ref a:=k;exact q01 m p c n l λr w i ru=>⟨v,g,i,ru,q⟩
theorem LF(i:PE X o ta)(t:PE X value tv)(hs:swapsWith value (some (.Attribute o f pos')) pos.line X.env=pure false):PS X (.Assign [.Attribute o f pos'] value pos) (Kc X.K ta tv f):=by
 intro d s b H D I h;refine plainObj_wpAny_Assign_Attribute (bz (t d s b H _ I h) λu B ⟨y,k,v,p,q⟩=>bz (i d B b k _ v q) λj G ⟨x,F,m,r,a,C,E,fs,ex,w,c,n,l,g⟩=>?_) hs;subst ex;obtain rfl:j=Value.ref a:=r;exact q03 m w c n l p λJ A=>⟨b,_,A,g⟩
end
section
variable{X:Cx}{j8:List (ae×aw)}{σ:St}{H:Hp}{s:ab}{A:aj}{E:aa->ab->Prop}{Q:aa->ab->Prop}{c:aa}{b:Bool}
inductive gp(K:PySem.W.Frag)(H:Hp):V->aa->Prop where
 |cU:gp K H .cU (.type "NoneType")
 |bl (x:Bool):gp K H (.bl x) (.type "bool")
 |int (i:Int):gp K H (.int i) (.type "int")
 |str (x:ar):gp K H (.str x) (.type "str")
 |zy (x:UInt64):gp K H (.zy x) (.type "float")
 |lst {a:ae}{xs:List V}(e:H a=some (.lst xs)):gp K H (.ref a) (.type "list")
 |gC {a:ae}{o:aw}{xs:List V}(e:H a=some (.gC o (.lst xs))):gp K H (.ref a) (.type "list")
 |tup {a:ae}{xs:List V}(e:H a=some (.tup xs)):gp K H (.ref a) (.type "tuple")
 |dK {a:ae}{kvs:List (Key×V)}(e:H a=some (.dK kvs)):gp K H (.ref a) (.type "dict")
 |dT {a:ae}{kvs:List (List Key×V)}(e:H a=some (.dT kvs)):gp K H (.ref a) (.type "dict")
 |ins {a C dx:ae}{fs:List (ar×V)}(e:H a=some (.ins C dx fs)) (cl:sj K C) (ha:PySem.W.findIn K (.ref C) "__class__"=some (some (.builtin "object.__class__")))
   (hn:PySem.W.specialIn K (.builtin "object.__class__") "__get__"=some (some (.builtin "getset_descriptor.__get__"))) (sQ:PySem.W.takesIn K (.builtin "object.__class__")=some true)
   (hm:PySem.W.mroIn K C (.type "object")=some true):gp K H (.ref a) (.ref C)
theorem q54{x:V}{u t:aa}(I:Inv X j8 σ H s)(d:RelV x u)(ty:gp X.K H x t)(e:PySem.W.kitOne X.K t c=some b)(h:∀v,Q (.bool b) {s with toks:=v}):
  af (ah X.prog X.w) A (call (.builtin "isinstance") [u,c]) Q E s:=by
 cases ty with
 |cU=>cases(show u=Value.none from d);exact YQ PySem.W.kitx_none I.gK True.intro e (λz=>nomatch z) h
 |bl y=>cases(show u=Value.bool y from d);exact YQ PySem.W.kitx_bool I.gK True.intro e (λz=>nomatch z) h
 |int i=>obtain⟨t,q⟩:=(show ∃t,u=Value.int i t from d);cases q;exact YQ PySem.W.kitx_int I.gK True.intro e (λz=>nomatch z) h
 |str y=>obtain⟨t,q⟩:=(show ∃t,u=Value.str y t from d);cases q;exact YQ PySem.W.kitx_str I.gK True.intro e (λz=>nomatch z) h
 |zy y=>obtain⟨t,q⟩:=(show ∃t,u=Value.float y t from d);cases q;exact YQ PySem.W.kitx_float I.gK True.intro e (λz=>nomatch z) h
 |@lst a j f=>
  cases(show u=Value.ref a from d);obtain⟨_,_,n,_,h1⟩:=(show bo X.prog X.w H s.heap a (.lst j)from I.aO a _ f);exact YQ PySem.W.kitx_list I.gK ⟨_,h1,rfl⟩ e (λz=>nomatch z) h
 |@gC a ob j f=>
  cases(show u=Value.ref a from d);obtain⟨_,_,_,n,_,h1⟩:=(show bo X.prog X.w H s.heap a (.gC ob (.lst j))from I.aO a _ f);exact YQ PySem.W.kitx_list I.gK ⟨_,h1,rfl⟩ e (λz=>nomatch z) h
 |@tup a j f=>
  cases(show u=Value.ref a from d);obtain⟨_,_,_,p⟩:=(show bo X.prog X.w H s.heap a (.tup j)from I.aO a _ f);obtain⟨o,h1,k,_⟩:=p;exact YQ PySem.W.kitx_tuple I.gK ⟨o,h1,k⟩ e (λz=>nomatch z) h
 |@dK a g f=>
  cases(show u=Value.ref a from d);obtain⟨_,_,M,_,p⟩:=(show bo X.prog X.w H s.heap a (.dK g)from I.aO a _ f);obtain⟨o,r,D,h1,k,_⟩:=p;exact YQ PySem.W.kitx_dict I.gK ⟨o,h1,k.1⟩ e (λz=>nomatch z) h
 |@dT a g f=>
  cases(show u=Value.ref a from d);obtain⟨_,_,j,_,o,r,D,h1,k,_⟩:=(show bo X.prog X.w H s.heap a (.dT g)from I.aO a _ f);exact YQ PySem.W.kitx_dict I.gK ⟨o,h1,k.1⟩ e (λz=>nomatch z) h
 |@ins a C G fs f l B m F w=>
  cases(show u=Value.ref a from d);obtain⟨L,O,_⟩:=He I.aO f;obtain⟨K,J,_⟩:=O.look;exact YQ (PySem.W.kitx_own (l.get _) l.hd B m F w) I.gK J e (λz=>nomatch z) h
end
structure bh(k:Nat)(A:aj):Prop where
 hd:A.handled=none
 dp:A.depth+3*k+5<recursionLimit
 un:A.units+16*k+200<cLine
 gd:A.guards=some []
theorem bh.mono{j k:Nat}{A:aj}(r:bh k A)(h:j<=k):bh j A:=⟨r.hd,by have:=r.dp;lia,by have:=r.un;lia,r.gd⟩
theorem bh.deeper{k:Nat}{A:aj}(r:bh (k+1) A)(env:Env):bh k (A.deeper env):=
 ⟨r.hd,by have:=r.dp;show A.depth+1+3*k+5<_;lia,by have:=r.un;show A.units+3+16*k+200<_;lia,r.gd⟩
theorem q04{A:aj}{C:ae}{us:List aa}{a:List (ar×aa)}:(A.under (.builtin "type.__call__" ⟨.ref C::us,a⟩)).depth=A.depth+1:=by
 first|rfl|simp[Around.under,Code.weight,Code.isCreation,Code.isGuard,Code.isCaller,Code.frames,Code.isFrame,guardIds]
theorem q05{A:aj}{C:ae}{us:List aa}{a:List (ar×aa)}:(A.under (.builtin "type.__call__" ⟨.ref C::us,a⟩)).units=A.units+1:=by
 first|rfl|simp[Around.under,Code.cUnits,Code.frames,Code.isFrame]
theorem qP9{A:aj}{C:ae}{us:List aa}{a:List (ar×aa)}:(A.under (.builtin "type.__call__" ⟨.ref C::us,a⟩)).guards=A.guards:=by
 first|rfl|(unfold Around.under;simp[Code.guards,Code.isGuard,guardIds,pushGuards])|(cases h:A.guards<;>simp[Around.under,Code.guards,Code.isGuard,guardIds,pushGuards,h])
theorem bh.make{k:Nat}{A:aj}(r:bh (k+1) A)(C:ae)(us:List aa)(a:List (ar×aa)):bh k (A.under (.builtin "type.__call__" ⟨.ref C::us,a⟩)):=
 ⟨r.hd,by have:=r.dp;rw[q04];lia,by have:=r.un;rw[q05];lia,by rw[qP9];exact r.gd⟩
theorem bh.depth{k:Nat}{A:aj}(r:bh k A):A.depth<recursionLimit:=by have:=r.dp;lia
theorem bh.units{k:Nat}{A:aj}(r:bh k A):A.units+64<cLine:=by have:=r.un;lia
def pD:TA:=λ_ H Q=>Q [] H
def v_(ta:TE)(tr:TA):TA:=λa H Q=>ta a H λx d=>tr a d λb c=>Q (x::b) c
section
variable{X:Cx}{e:av}{es:List av}{te:TE}{t:TA}{pos:aC}
theorem aQ:PA X [] pD:=λ_ _ _ _ H Q I h=>Calls.spliced_nil ⟨[],H,I,.nil,h⟩
theorem aF(i:PE X e te)(f:PA X es t)(hs:starEach (e::es) X.env=(false,eval e X.env)::starEach es X.env:=by rfl):PA X (e::es) (v_ te t):=by
 intro pos b s a H Q I h;rw[hs];show af _ _ (spliced ((false,eval e X.env)::backTo pos (starEach es X.env))) _ _ s;refine V9 (bz (i b s a H _ I h) λu q ⟨x,k,m,n,p⟩=>?_);exact bz (f pos b q a k _ m p) λr v ⟨c,j,l,d,g⟩=>⟨x::c,j,l,.cons n d,g⟩
def JU(t:TA):TE:=λc H Q=>t c H λa b=>a.length<=sizeLine/\∀p,b p=none->Q (.ref p) (upd b p (.tup a))
def JY(t:TA):TE:=λc H Q=>t c H λa b=>a.length<=sizeLine/\∀p,b p=none->Q (.ref p) (upd b p (.lst a))
theorem eM {x1} (h:PA X es t):PE X (.Tuple es x1 pos) (JU t):=by
 intro k s f H Q I j;refine wpAny_Tuple_spliced (bz (h pos k s f H _ I j) λi a ⟨g,c,d,r,z,q⟩=>⟨by rw[<- r.length];exact z,?_⟩);have l:c a.heap.objs.size=none:=d.aO.fresh (Zd _);refine⟨.ref a.heap.objs.size,upd c a.heap.objs.size (.tup g),d.laid (t':=a.toks) (λb u e=>Zc _ e) (Zd _) ?_,rfl,q _ l⟩;exact⟨z,i,r,⟨_,Zj _ rfl,rfl,⟨_,rfl⟩,rfl⟩⟩
theorem n_(h:PA X es t):PE X (.List es pos) (JY t):=by
 intro k s f H Q I j;refine wpAny_List_spliced (bz (h pos k s f H _ I j) λi a ⟨g,c,d,r,z,q⟩=>⟨by rw[<- r.length];exact z,?_⟩);have l:c a.heap.objs.size=none:=d.aO.fresh (Zd _);refine⟨.ref a.heap.objs.size,upd c a.heap.objs.size (.lst g),d.laid (t':=a.toks) (λb u e=>Zc _ e) (Zd _) ?_,rfl,q _ l⟩;exact⟨z,i,0,r,Zj _ rfl⟩
end
abbrev Sp:=List V->Hp->VK->XK->Prop
abbrev sr:=List Env->Hp->ab->XK->aa->ab->Prop
structure ng(P:ag)(w:ai)(K:PySem.W.Frag)(mg:ar->Option aa)(base:ao)(A:aj)(outer:List Env)(s:ab)(H:Hp):Prop where
 frames:A.frames=some outer
 mod:Mod K mg base
 bs:∀b o,base.get? b=some o->s.heap.get? b=some o/\H b=none
 xl:base.objs.size<=s.heap.objs.size
 gg:s.heap.FunFrames base outer
 zv:∀b∈mW outer,H b=none
 aO:dJ P w H s.heap
 bare:AllBare s.gens
def CE(outer:List Env)(P:ag)(w:ai)(H:Hp)(s:ab)(Q:VK)(u:aa)(s':ab):Prop:=
 ∃v a,s'.os=s.os/\AllBare s'.gens/\Un (mW outer) [] H a s.heap s'.heap/\dJ P w a s'.heap/\RelV v u/\Q v a
def CR(CX:sr)(outer:List Env)(P:ag)(w:ai)(H:Hp)(s:ab)(Q:VK)(E:XK)(r:Result)(s':ab):Prop:=
 match r with
 |.ok (.ret u)=>CE outer P w H s Q u s'
 |.ok _=>False
 |.error e=>CX outer H s E e s'
structure aE(P:ag)(w:ai)(K:PySem.W.Frag)(mg:ar->Option aa)(base:ao)(CX:sr)(k:Nat)(f:ae)(fd:ak)(ps:List ar)(sp:Sp):Prop where
 len:∀vs H Q E,sp vs H Q E->vs.length=ps.length
 run:∀(A:aj)(outer:List Env)(s:ab)(H:Hp)(args:Args)(us:List aa)(vs:List V)(Q:VK)(E:XK),bh k A->ng P w K mg base A outer s H->BindsTo s fd args (ps.zip us)->Vals vs us->sp vs H Q E ->
  codeAny (ah P w) A (.call (.ref f) args) (CR CX outer P w H s Q E) s
theorem ng.make{P:ag}{w:ai}{K:PySem.W.Frag}{mg:ar->Option aa}{base:ao}{A:aj}{outer:List Env}{s:ab}{H:Hp}(e:ng P w K mg base A outer s H)(C:ae)(us:List aa)(a:List (ar×aa)):
  ng P w K mg base (A.under (.builtin "type.__call__" ⟨.ref C::us,a⟩)) outer s H:=⟨by first|exact e.frames|(simpa[Around.under,Code.envs,Code.isFrame,pushEnvs]using e.frames),e.mod,e.bs,e.xl,e.gg,e.zv,e.aO,e.bare⟩
section
variable{X:Cx}{j8:List (ae×aw)}{σ:St}{H:Hp}{s s':ab}
theorem Inv.EI(I:Inv X j8 σ H s):ng X.prog X.w X.K X.mg X.base X.A X.stack s H:=
 ⟨I.ok.frames,I.ok.mod,I.bs,ZF I.ok.xl I.sz,I.stack,I.nr,I.aO,I.bare⟩
theorem Inv.after{Q:VK}{u:aa}(I:Inv X j8 σ H s)(h:CE X.stack X.prog X.w H s Q u s'):EP X j8 σ Q u s':=by
 obtain⟨v,j,c,a,un,f,r,q⟩:=h;obtain⟨i,g,d,t,e⟩:=s';obtain rfl:e=s.os:=c;exact⟨v,j,I.call (h':=i) (g':=g) (d':=d) (t':=t) (ch:=[]) un f a (λb z=>absurd z (by simp)),r,q⟩
end
def Fb(sp:Sp)(b:List V)(E:XK)(t:TA):TE:=λa H Q=>t a H λc d=>sp (c++b) d Q E
inductive xy(C:ae)(m:ar)(sp:Sp)(iH:List V)(E:XK)(t:TA)(σ:St)(Q:VK)(x:V)(H1:Hp):Prop
 |mk(a:_)(dx:_)(fs:_)(e0:x=.ref a)(e1:H1 a=some (.ins C dx fs))(e2:fs.lookup m=none)(e3:t σ H1 λvs H2=>sp (x::(vs++iH)) H2 Q E)
def xR2(C:ae)(m:ar)(sp:Sp)(b:List V)(E:XK)(ta:TE)(t:TA):TE:=λa H Q=>ta a H λx c=>xy C m sp b E t a Q x c
def xR3(C:ae)(sp:Sp)(e:List V)(E:XK)(t:TA):TE:=λc H Q=>t c H λf b=>∀x a,b x=none->b a=none->a≠x ->
 sp (.ref x::(f++e)) (upd (upd b a (.own x)) x (.ins C a [])) (λv d=>v=.cU/\Q (.ref x) d) E
def Binds(K:PySem.W.Frag)(c:ak)(ps:List ar)(b:List aa):Prop:=
 ∀(s:ab)(a:List aa),K.In s.heap->(a++b).length=ps.length->BindsTo s c ⟨a,[]⟩ (ps.zip (a++b))
theorem Binds.all{K:PySem.W.Frag}{c:ak}{ps:List ar}(h:∀a:List aa,a.length=ps.length->bindArgs c ⟨a,[]⟩=pure (ps.zip a)):Binds K c ps []:=λs a _ b=>by
 rw[XU]at b ⊢;exact .of_eq (h a b)
def Aw(CX:sr)(X:Cx)(E:XK):Prop:=∀(c:List (ae×aw))(b:St)(H:Hp)(s:ab)(e:aa)(a:ab),Inv X c b H s->CX X.stack H s E e a->X.xe e a
section
variable{X:Cx}{CX:sr}{k:Nat}{f C:ae}{fd:ak}{ps:List ar}{sp:Sp}{iH:List V}{ds:List aa}{E:XK}{x m:ar}{p pos apos:aC}{e o:av}{es:List av}{ta:TE}{t:TA}
theorem PH{b:List (ae×aw)}{σ:St}{H:Hp}{s:ab}{Q:VK}{us:List aa}{vs:List V}(F:aE X.prog X.w X.K X.mg X.base CX k f fd ps sp)(g:bh k X.A)(hb:Binds X.K fd ps ds)(l:Vals iH ds)(j:Aw CX X E)
  (I:Inv X b σ H s) (r:Vals vs us) (h:sp (vs++iH) H Q E):af (ah X.prog X.w) X.A (call (.ref f) us) (EP X b σ Q) X.xe s:=by
 have c:Vals (vs++iH) (us++ds):=r.append l;have i:(us++ds).length=ps.length:=by rw[<- c.length];exact F.len _ _ _ _ h
 refine wpAny_call (Wo (F.run X.A X.stack s H ⟨us,[]⟩ (us++ds) (vs++iH) Q E g I.EI (hb s us I.gK i) c h) λr n a=>?_);cases r with
 |error e=>exact j b σ H s e n I a
 |ok d=>
  cases d with
  |ret u=>exact I.after a
  |next=>exact False.elim a
  |brk=>exact False.elim a
  |cont=>exact False.elim a
theorem K7(F:aE X.prog X.w X.K X.mg X.base CX k f fd ps sp)(b:bh k X.A)(n:Gl X x)(j:X.mg x=some (.ref f))(hk:PySem.W.keepIn X.K (.ref f)=true)(hb:Binds X.K fd ps ds)(v:Vals iH ds)(d:Aw CX X E)
  (l:PA X (e::es) t) (w:(x==("__debug__":ar))=false:=by decide) (c:starEach (e::es) X.env=(false,eval e X.env)::starEach es X.env:=by rfl) (i:(backTo pos (starEach es X.env)).any (·.1)=false:=by rfl):
  PE X (.Call (.Name x p) (e::es) [] pos) (Fb sp iH E t):=by
 intro u s g H Q I h;refine W7 (K8 I n j ?_ w);refine Ua (h₀:=X.base) I.ok.mod.sO hk (bz (l pos u s g H _ I h) λy D ⟨B,A,a,r,q⟩=>⟨a.gK,?_⟩) c i;exact PH F b hb v d a r q
theorem sG{pl:Sem Bool}(w:PE X o ta)(c:sj X.K C)(d:Meth X.K C m f)(F:aE X.prog X.w X.K X.mg X.base CX k f fd ps sp)(v:bh k X.A)(hb:Binds X.K fd ps ds)(L:Vals iH ds)(A:Aw CX X E)(D:PA X (e::es) t)
  (n:starEach (e::es) X.env=(false,eval e X.env)::starEach es X.env:=by rfl) (B:(backTo pos (starEach es X.env)).any (·.1)=false:=by rfl)
  (J:eval (.Call (.Attribute o m apos) (e::es) [] pos) X.env=(do
   let ov <- eval o X.env
   standAt apos.atName
   let (f,first) <- holding [ov] (getMethod ov m pl)
   callWith pos f first (backTo pos (starEach (e::es) X.env)) (backToKw pos (keywordEach [] X.env))):=by rfl):
  PE X (.Call (.Attribute o m apos) (e::es) [] pos) (xR2 C m sp iH E ta t):=by
 intro i s b H Q I h;refine PySem.W.methodCall_KW (pl:=pl) (bz (w i s b H _ I h) λu N ⟨x,G,j,K,a,O,fs,ex,M,l,q⟩=>?_) J;subst ex;obtain rfl:u=Value.ref a:=K;refine q02 j M c d l ?_;refine Ua (first:=[.ref a]) (h₀:=X.base) I.ok.mod.sO d.kp (bz (D pos i N b G _ j q) λus R ⟨vs,P,g,r,y⟩=>⟨g.gK,?_⟩) n B;exact PH (us:=.ref a::us) (vs:=.ref a::vs) F v hb L A g (.cons rfl r) y
structure Mk(K:PySem.W.Frag)(C f:ae):Prop where
 makes:PySem.W.makesIn K C=true
 init:PySem.W.findIn K (.ref C) "__init__"=some (some (.ref f))
 fn:PySem.W.isFn K (.ref f)=true
 kp:PySem.W.keepIn K (.ref C)=true
theorem xk1{d:List (ae×aw)}{σ:St}{H:Hp}{s:ab}{Q:VK}{us:List aa}{vs:List V}(M:Mk X.K C f)(F:aE X.prog X.w X.K X.mg X.base CX k f fd ps sp)(j:bh (k+1) X.A)(hb:Binds X.K fd ps ds)(B:Vals iH ds)
  (l:Aw CX X E) (I:Inv X d σ H s) (r:Vals vs us)
  (h:∀x b,H x=none->H b=none->b≠x->sp (.ref x::(vs++iH)) (upd (upd H b (.own x)) x (.ins C b [])) (λv q=>v=.cU/\Q (.ref x) q) E):
  af (ah X.prog X.w) X.A (call (.ref C) us) (EP X d σ Q) X.xe s:=by
 have i:=h (s.heap.objs.size+1) s.heap.objs.size (I.aO.fresh (Xu _)) (I.aO.fresh (Zd _)) (Zy (ZN _));have c:=Inv.made (C:=C) I;have g:Vals (V.ref (s.heap.objs.size+1)::(vs++iH)) (Value.ref (s.heap.objs.size+1)::(us++ds)):=.cons rfl (r.append B);have y:(Value.ref (s.heap.objs.size+1)::us++ds).length=ps.length:=by
  have e:=g.length;rw[F.len _ _ _ _ i]at e;exact e.symm
 refine wpAny_call (xj9 (f:=f) I.gK M.makes M.init (XC.mp M.fn) (Wo (F.run _ X.stack _ _ ⟨Value.ref (s.heap.objs.size+1)::us,[]⟩ (Value.ref (s.heap.objs.size+1)::(us++ds)) _ _ E (j.make C us [])
  (c.EI.make C us []) (hb _ (Value.ref (s.heap.objs.size+1)::us) c.gK y) g i) λr G a=>?_))
 cases r with
 |error e=>exact l d σ _ _ e G c a
 |ok w=>
  cases w with
  |ret u=>
   obtain⟨v,A,J,n,ev,D⟩:=c.after a;subst ev;exact⟨n,⟨V.ref (s.heap.objs.size+1),A,J,rfl,D⟩⟩
  |next=>exact False.elim a
  |brk=>exact False.elim a
  |cont=>exact False.elim a
theorem TX(M:Mk X.K C f)(F:aE X.prog X.w X.K X.mg X.base CX k f fd ps sp)(b:bh (k+1) X.A)(n:Gl X x)(j:X.mg x=some (.ref C))(hb:Binds X.K fd ps ds)(v:Vals iH ds)(d:Aw CX X E)
  (l:PA X (e::es) t) (w:(x==("__debug__":ar))=false:=by decide) (c:starEach (e::es) X.env=(false,eval e X.env)::starEach es X.env:=by rfl) (i:(backTo pos (starEach es X.env)).any (·.1)=false:=by rfl):
  PE X (.Call (.Name x p) (e::es) [] pos) (xR3 C sp iH E t):=by
 intro u s g H Q I h;refine W7 (K8 I n j ?_ w);refine Ua (h₀:=X.base) I.ok.mod.sO M.kp (bz (l pos u s g H _ I h) λy D ⟨B,A,a,r,q⟩=>⟨a.gK,?_⟩) c i;exact xk1 M F b hb v d a r q
end
structure aI(N P:List ar)(sc:az):Prop where
 kind:sc.kind=.function
 co:sc.isCoroutine=false
 gen:sc.isGenerator=false
 nd:N.Nodup
 pre:N.take P.length=P
 par:∀x∈P,sc.names.lookup x=some .local\/sc.names.lookup x=some .cell
 yH:∀y∈sc.names,y.2≠.free
theorem Tf{a:ar->Option NameKind}{x:ar}:∀{binds:List (ar×aa)}{m:ar->Option aa},(∀v,(x,v)∉binds)->bindL a binds m x=m x
 |[],_,_=>rfl
 |(n,v)::r,m,h=>by
  unfold bindL;rw[Tf λw b=>h w (Zp _ b)];split
  ·have:x≠n:=by rintro rfl;exact h v Zz
   simp[this]
  ·rfl
theorem Te{a:ar->Option NameKind}{x:ar}:∀{binds:List (ar×aa)}{m:ar->Option aa},(∀v,(x,v)∉binds)->bindC a binds m x=m x
 |[],_,_=>rfl
 |(n,v)::r,m,h=>by
  unfold bindC;rw[Te λw b=>h w (Zp _ b)];split
  ·rfl
  ·have:x≠n:=by rintro rfl;exact h v Zz
   simp[this]
theorem Td{a:ar->Option NameKind}{x:ar}{v:aa}:∀{P:List ar}{b:List aa}{i:Nat}{m:ar->Option aa},P.Nodup->P[i]?=some x->b[i]?=some v->a x=some .local ->
  bindL a (P.zip b) m x=some v
 |[],_,_,_,_,h,_,_=>by simp at h
 |_::_,[],_,_,_,_,h,_=>by simp at h
 |p::P,w::b,0,m,nd,h1,c,hk=>by
  simp at h1 c;subst h1;subst c;show bindL a ((p,w)::P.zip b) m p=_;unfold bindL;rw[Tf λv d=>(Yu.mp nd).1 (UN d).1,Zk hk];simp
 |p::P,w::b,i+1,m,nd,h1,c,hk=>by
  show bindL a ((p,w)::P.zip b) m x=_;unfold bindL;exact Td (i:=i) (Yu.mp nd).2 (by simpa using h1) (by simpa using c) hk
theorem Tb{a:ar->Option NameKind}{x:ar}{v:aa}:∀{P:List ar}{b:List aa}{i:Nat}{m:ar->Option aa},P.Nodup->P[i]?=some x->b[i]?=some v->a x≠some .local ->
  bindC a (P.zip b) m x=some v
 |[],_,_,_,_,h,_,_=>by simp at h
 |_::_,[],_,_,_,_,h,_=>by simp at h
 |p::P,w::b,0,m,nd,h1,c,hk=>by
  simp at h1 c;subst h1;subst c;show bindC a ((p,w)::P.zip b) m p=_;unfold bindC;rw[Te λv d=>(Yu.mp nd).1 (UN d).1,Zi hk];simp
 |p::P,w::b,i+1,m,nd,h1,c,hk=>by
  show bindC a ((p,w)::P.zip b) m x=_;unfold bindC;exact Tb (i:=i) (Yu.mp nd).2 (by simpa using h1) (by simpa using c) hk
def start(N:List ar)(vs:List V):St:=vs.map some++List.replicate (N.length-vs.length) none
def oO(CX:sr)(P:ag)(w:ai)(K:PySem.W.Frag)(mg:ar->Option aa)(base:ao)(N:List ar)(a:ar)(scope:az)(f:ae)(b:aa)(A:aj)(outer:List Env)(s:ab)(H:Hp)(E:XK):Cx where
 prog:=P
 w:=w
 K:=K
 mg:=mg
 base:=base
 A:=A.deeper (envOfC a scope s.heap.objs.size f b)
 N:=N
 aM:=s
 aN:=H
 env:=envOfC a scope s.heap.objs.size f b
 outer:=outer
 stack:=envOfC a scope s.heap.objs.size f b::outer
 ex:=[]
 calm:=true
 fn:=λ_=>true
 pn:=[]
 xe:=λe g=>af (ah P w) (A.deeper (envOfC a scope s.heap.objs.size f b)) (leaving (envOfC a scope s.heap.objs.size f b) e) (λ_ c=>CX outer H s E e c) (λd c=>CX outer H s E d c) g
theorem Sg{a:az}{n:Nat}{x:ar}(h:a.names.lookup x=some .cell):∃c,(cellsFrom n a.names []).lookup x=some c:=by
 have q:=PySem.W.cellsFrom_some a.names n [] (.inl h);exact X5.mp q
theorem q56{CX:sr}{P:ag}{w:ai}{K:PySem.W.Frag}{mg:ar->Option aa}{base:ao}{N ps:List ar}{d:ar}{scope:az}{f:ae}{B:aa}{A:aj}{outer:List Env}{s G:ab}{H:Hp}{E:XK}{us:List aa}{vs:List V}
  (S:aI N ps scope) (M:A.handled=none) (j:ng P w K mg base A outer s H) (L:vs.length=ps.length) (r:Vals vs us)
  (x:InCallC s s.heap.objs.size (bindL (envOfC d scope s.heap.objs.size f B).kindOf (ps.zip us) λ_=>none) (cellsFrom (s.heap.objs.size+1) scope.names []) (bindC (envOfC d scope s.heap.objs.size f B).kindOf (ps.zip us) λ_=>none) G):
  Inv (oO CX P w K mg base N d scope f B A outer s H E) [] (start N vs) H G:=by
 have Q:ps.length<=N.length:=by have:=ZZ List.length S.pre;rw[Wd]at this;lia
 obtain⟨h1,R,rfl,hk⟩:=x.done;have C:∀b:ae,b∉(oO CX P w K mg base N d scope f B A outer s H E).ex:=λb z=>absurd (show b∈([]:List ae)from z) (by simp);refine⟨⟨j.mod,S.kind,rfl,rfl,Zd _,λy z c h1 g=>?_,λy l=>?_,λy c _ h=>?_,λ_=>M,Around.frames_deeper j.frames,.inr ⟨rfl,rfl⟩,λb z=>absurd z (C b),j.bs,j.xl,λb _ _=>C b,λb z=>absurd z (C b),j.gg,j.zv⟩,
  rfl,j.bare,Un.kept hk,⟨_,x.toInCall.ns,λi y v h1 g O=>?_⟩,λy c h=>⟨_,x.cell y c h⟩,j.aO.fresh (Zd _),λy c h=>?_,λp t=>absurd (show p∈([]:List (ae×aw))from t) (by simp),j.aO.kept hk,?_⟩
 ·exact name_of_addr x.apart (Wa h1) (Wa g)
 ·have l:scope.names.lookup y=some .cell\/scope.names.lookup y=some .free:=l;rcases l with l|l
  ·exact Sg l
  ·exact absurd rfl (S.yH _ (Wa l))
 ·exact XX (x.above y c (Wa h))
 ·have m:i<vs.length:=by
   unfold start at g;by_cases m:i<vs.length
   ·exact m
   ·rw[Zq (by simpa using m)]at g;rw[List.getElem?_replicate]at g;split at g<;>cases g
  have J:vs[i]?=some v:=by
   unfold start at g;rw[Zr (by simpa using m),Zh]at g;cases e:vs[i]? with
   |none=>rw[e]at g;cases g
   |some a=>rw[e]at g;cases g;rfl
  obtain⟨u,F,I⟩:=r.get J;have t:ps[i]?=some y:=by
   rw[<- S.pre,List.getElem?_take_of_lt (oz m L)];exact h1
  have D:ps.Nodup:=by rw[<- S.pre];exact S.nd.sublist (List.take_sublist _ _)
  refine⟨u,I,?_⟩;rcases S.par y (ZH t)with k|k
  ·exact .inl ⟨k,Td D t F k⟩
  ·obtain⟨c,e⟩:=Sg (n:=s.heap.objs.size+1) k;refine .inr ⟨.inl k,c,e,?_⟩;have q:=x.cell y c e;rw[Tb D t F (by show scope.names.lookup y≠_;rw[k];decide)]at q;exact q
 ·exact j.aO.fresh (XX (x.above y c (Wa h)))
 ·unfold start;show _=N.length;rw[Zw,Zg,List.length_replicate];lia
theorem xR4{CX:sr}{P:ag}{w:ai}{K:PySem.W.Frag}{mg:ar->Option aa}{base:ao}{k:Nat}{f:ae}{name c:ar}{d:Arguments}{g:List aA}{scope:az}{R kV p M l ct oc:aa}{O od:Option ae}
  {qp:Array (Option aa)}{N ps:List ar}{sp:Sp}(lk:K.lookup f=some ⟨oc,od,.func (PySem.W.fnOf name c d g scope R kV p M O l ct),qp⟩) (vA:PySem.W.codeIn K l c=true) (S:aI N ps scope)
  (len:∀i H Q E,sp i H Q E->i.length=ps.length)
  (rK:∀(A:aj)(a:List Env)(s:ab)(H:Hp)(i:List V)(Q:VK)(E:XK),bh k (A.deeper (envOfC c scope s.heap.objs.size f l))->sp i H Q E ->
   ∃t,lR (oO CX P w K mg base N c scope f l A a s H E) g t/\t {nx:=λ_ j=>Q .cU j,rt:=Q} (start N i) H):
  aE P w K mg base CX (k+1) f (PySem.W.fnOf name c d g scope R kV p M O l ct) ps sp:=by
 refine⟨len,λA a s H U Y i Q E D C hb r L=>?_⟩;have hl:=len _ _ _ _ L;have T:K.In s.heap:=C.mod.sO.keeps λb o e=>(C.bs b o e).1;have lim:s.heap.NoLimit:=C.mod.nolimit.keeps λb o e=>(C.bs b o e).1;have jE:∀y∈ps.zip Y,scope.names.lookup y.1=some .local\/(scope.names.lookup y.1=some .cell/\((cellsFrom (s.heap.objs.size+1) scope.names []).lookup y.1).isSome=true):=λ⟨n,v⟩ hy=>by
  rcases S.par n (UN hy).1 with q|q
  ·exact .inl q
  ·exact .inr ⟨q,PySem.W.cellsFrom_some _ _ _ (.inl q)⟩
 refine codeAny_call_function D.depth (T _ _ lk) rfl S.co S.gen rfl (PySem.W.codeRec_of T vA) (hb _ _ _ _ ?_);refine wpAny_newFunctionEnv_cells S.kind jE λenv X W x=>?_;subst X;refine⟨lim.keeps x.toInCall.keep,codeAny_func ?_⟩;obtain⟨t,ht,Z⟩:=rK A a s H i Q E (D.deeper _) L;have I:Inv (oO CX P w K mg base N c scope f l A a s H E) [] (start N i) H W:=q56 S D.hd C hl r x;refine Y7 (ht [] W (start N i) H _ I Z) (λfl G m=>?_) λe G m=>m;have B:∀{h:St}{j:Hp}{v:V}{u:aa},Inv (oO CX P w K mg base N c scope f l A a s H E) [] h j G->RelV v u->Q v j->CE a P w H s Q u G:=
  λ{h j v u} J F q=>⟨v,j,J.os,J.bare,J.base,J.aO,F,q⟩
 cases fl with
 |ret u=>
  obtain⟨v,h,j,J,F,q⟩:=m;exact B J F q
 |next=>
  obtain⟨h,j,J,q⟩:=m;exact B (v:=V.cU) (u:=Value.none) J rfl q
 |brk=>
  obtain⟨_,_,_,q⟩:=m;exact False.elim q
 |cont=>
  obtain⟨_,_,_,q⟩:=m;exact False.elim q
section
variable{X:Cx}{x:ar}{p pos:aC}{e:av}{es:List av}{t:TA}{id T:String}{r:List V->Hp->VK->Prop}
def Q6(r:List V->Hp->VK->Prop)(t:TA):TE:=λa H Q=>t a H λb c=>r b c Q
theorem dH(hc:f_ X (.builtin id) r)(l:Gl X x)(i:X.mg x=none)(m:bootBuiltins x=some (.builtin id))(j:PA X (e::es) t)(d:x ≠ "__name__":=by decide)(v:(x==("__debug__":ar))=false:=by decide)
  (c:starEach (e::es) X.env=(false,eval e X.env)::starEach es X.env:=by rfl) (g:(backTo pos (starEach es X.env)).any (·.1)=false:=by rfl):PE X (.Call (.Name x p) (e::es) [] pos) (Q6 r t):=by
 intro b s a H Q I h;refine W7 (yd I l i m ?_ d v);exact PyProof.Rows.callWith_builtin1 (bz (j pos b s a H _ I h) λf y ⟨u,k,n,q,w⟩=>hc b y a k u f Q n q w) c g
theorem hV(hc:f_ X (.type T) r)(l:Gl X x)(i:X.mg x=none)(m:bootBuiltins x=some (.type T))(j:PA X (e::es) t)(d:x ≠ "__name__":=by decide)(v:(x==("__debug__":ar))=false:=by decide)
  (c:starEach (e::es) X.env=(false,eval e X.env)::starEach es X.env:=by rfl) (g:(backTo pos (starEach es X.env)).any (·.1)=false:=by rfl):PE X (.Call (.Name x p) (e::es) [] pos) (Q6 r t):=by
 intro b s a H Q I h;refine W7 (yd I l i m ?_ d v);exact Xb (bz (j pos b s a H _ I h) λf y ⟨u,k,n,q,w⟩=>hc b y a k u f Q n q w) c g
end
end L2
namespace HT
open PySem PyProof.Rows
theorem uJ{t b:ae}{vs a:List aa}{Q:aa->ab->Prop}(v:IsTup s.heap t vs.toArray)(hb:IsTup s.heap b a.toArray)(p:vs≠[])
  (h1:a=[]->Q (.ref t) s) (x:a≠[]->Q (.ref s.heap.objs.size) {s with heap:=s.heap.push {cls:=.type "tuple",data:=.seq (vs++a).toArray}})
  (hsz:vs.length+a.length<=sizeLine):af (ah prog w) A (binaryOp .Add (.ref t) (.ref b)) Q E s:=by
 obtain⟨⟨cls,u,data,k⟩,f,j,n,q⟩:=id v;obtain⟨⟨y,m,g,h⟩,d,r,l,i⟩:=id hb;simp only at j q r i;subst j q r i;have e:vs.toArray++a.toArray=(vs++a).toArray:=by simp
 by_cases c:a=[]
 ·exact concat_meets ⟨_,f,rfl⟩ ⟨_,d,rfl⟩ noFill_tuple_add seq_tuple_add Vh Vb (WX _ _)
   (tuple_addW1 t b vs.toArray a.toArray n l u m k h (by simpa using p) (by simp[c])) ⟨f,d,h1 c⟩
 ·refine concat_meets ⟨_,f,rfl⟩ ⟨_,d,rfl⟩ noFill_tuple_add seq_tuple_add Vh Vb (WX _ _)
   (tuple_addW2 t b vs.toArray a.toArray n l u m k h (by simpa using p) (by simpa using c) (by rw[ZI,ZI];exact hsz)) ⟨f,d,?_⟩
  rw[e];exact x c
def dy(n d:Nat):Option Int->Nat
 |none=>d
 |some v=>if v<0 then(v+(n:Int)).toNat else min v.toNat n
theorem xI4(n d:Nat)(b:d<=n)(o:Option Int):dy n d o<=n:=by
 cases o with
 |none=>exact b
 |some v=>
  show(if v<0 then(v+(n:Int)).toNat else min v.toNat n)<=n;by_cases a:v<0
  ·rw[Zk a];lia
  ·rw[Zi a];exact Nat.min_le_right _ _
theorem TV(v:Int)(n d:Nat):(if v<0 then max (v+(n:Int)) 0 else min v (n:Int))=((dy n d (some v):Nat):Int):=by
 show(if v<0 then max (v+(n:Int)) 0 else min v (n:Int))=(((if v<0 then(v+(n:Int)).toNat else min v.toNat n):Nat):Int);by_cases a:v<0
 ·simp only[Zk a];lia
 ·simp only[Zi a];lia
theorem q06(a b:Option Int)(n:Nat):Builtin.Slice.sliceAdjust a b 1 (n:Int)=(((dy n 0 a:Nat):Int),((dy n n b:Nat):Int)):=by
 have h1:¬((1:Int)<0):=by lia
 unfold Builtin.Slice.sliceAdjust;simp only[h1,ZX];refine XG ?_ ?_
 ·cases a with
  |none=>rfl
  |some v=>exact TV v n 0
 ·cases b with
  |none=>rfl
  |some v=>exact TV v n n
theorem q07(i j:Nat):Builtin.Slice.slicePlaces (i:Int) (j:Int) 1=j-i:=by
 unfold Builtin.Slice.slicePlaces;have h1:(1:Int)>0:=by lia
 simp only[h1,Xh,Int.ediv_one];split<;>lia
theorem Tw{v:aa}{o:Option Int}{Q:Option Int->ab->Prop}(p:IsPart v o)(h:Q o s):af (ah prog w) A (Builtin.Slice.slicePartIndex v) Q E s:=by
 cases p with
 |none=>exact slicePart_none h
 |int i t=>exact slicePart_int h
theorem qu4{g:ae}{f c:aa}{a b:Option Int}{n:Nat}{Q:Int×Int×Nat->ab->Prop}(hs:s.heap.IsSliceOf g f c .none)(pl:IsPart f a)(i:IsPart c b)
  (h:Q (((dy n 0 a:Nat):Int),1,dy n n b-dy n 0 a) s):af (ah prog w) A (Builtin.Slice.sliceApplied (.ref g) (pure (n:Int))) Q E s:=by
 obtain⟨k,e,j,d⟩:=id hs;unfold Builtin.Slice.sliceApplied Builtin.Slice.sliceFields;refine Za (Za (Xg e d (x:=f) rfl (Za (Xg e d (x:=c) rfl (Za (Xg e d (x:=.none) rfl (Zb ?_)))))));refine Za (slicePart_none ?_);show af _ _ (if((1:Int)==0)=true then _ else _) _ _ s;rw[Zi 'b'];refine Za (Tw pl (Za (Tw i (Za (Zb ?_)))));show af _ _ (match Builtin.Slice.sliceAdjust a b 1 (n:Int)with|(a,b)=>pure (a,(1:Int),Builtin.Slice.slicePlaces a b 1)) _ _ s;rw[q06 a b n];show af _ _ (pure (((dy n 0 a:Nat):Int),(1:Int),Builtin.Slice.slicePlaces ((dy n 0 a:Nat):Int) ((dy n n b:Nat):Int) 1)) _ _ s;rw[q07];exact Zb h
theorem xk2(xs:Array aa)(i k:Nat):((List.range k).filterMap λ(m:Nat)=>xs[((i:Int)+(m:Int)*1).toNat]?).toArray=((xs.toList.drop i).take k).toArray:=by
 have e:(λ(m:Nat)=>xs[((i:Int)+(m:Int)*1).toNat]?)=λm=>xs[i+m]?:=by
  funext m;have:((i:Int)+(m:Int)*1).toNat=i+m:=by lia
  rw[this]
 rw[e];have:=pick_run xs i k;rw[List.filterMap_map]at this;have a:((λx=>xs[x]?)∘λx=>i+x)=λm=>xs[i+m]?:=rfl;rw[a]at this;rw[this]
theorem fw{t f:ae}{items:Array aa}{j i:aa}{a b:Option Int}{Q:aa->ab->Prop}(d:IsTup s.heap t items)(hs:s.heap.IsSliceOf f j i .none)(pl:IsPart j a)(k:IsPart i b)
  (hw:¬(dy items.size 0 a=0/\dy items.size items.size b=items.size))
  (h:Q (.ref s.heap.objs.size) {s with heap:=s.heap.push {cls:=.type "tuple",data:=.seq ((items.toList.drop (dy items.size 0 a)).take (dy items.size items.size b-dy items.size 0 a)).toArray}})
  (hsz:items.size<=sizeLine):af (ah prog w) A (getItem (.ref t) (.ref f)) Q E s:=by
 have c:sizeOk (.seq ((items.toList.drop (dy items.size 0 a)).take (dy items.size items.size b-dy items.size 0 a)).toArray):=by
  show((items.toList.drop (dy items.size 0 a)).take (dy items.size items.size b-dy items.size 0 a)).toArray.size<=sizeLine;rw[ZI,Wd,List.length_drop,ZO];lia
 have v:dy items.size items.size b<=items.size:=xI4 _ _ (Zd _) b;obtain⟨n,p,g,u⟩:=id hs;have e:s.TypeIs (.ref f) "slice":=⟨n,p,g⟩;unfold getItem
 try with_reducible refine ZY ?_
 first|refine Za (Zb ?_)|skip
 refine Za (wpAny_sequenceKey d.typeIs 'b' ?_);refine Za (Z3 (name:=Str.ofString "__getitem__") d.typeIs X9
  (Z2 X9 d.typeIs entry_tuple_getitem ?_ (args_tuple_getitem _ _)))
 show af _ _ (Builtin.Tuple.tupleItemsOf (.ref t) >>= _) _ _ s;refine Za (tupleItemsOf_ d ?_);refine Za (WP e ?_);rw[Zk 'b'];refine Za (qu4 hs pl k ?_);have l:¬((((dy items.size 0 a:Nat):Int)==0&&(1:Int)==1&&(dy items.size items.size b-dy items.size 0 a)==items.size)=true):=by
  intro q;rw[We,We]at q;have r:((dy items.size 0 a:Nat):Int)=0:=eq_of_beq q.1.1;have x:dy items.size items.size b-dy items.size 0 a=items.size:=eq_of_beq q.2;exact hw ⟨by lia,by lia⟩
 show af _ _ (if(((dy items.size 0 a:Nat):Int)==0&&(1:Int)==1&&(dy items.size items.size b-dy items.size 0 a)==items.size)=true then _ else _) _ _ s;rw[Zi l,xk2]
 first
  |exact Za (m:=Builtin.Tuple.tupleExact _) (ZS (Zb ⟨_,rfl,Zb h⟩) c)
  |exact Za (m:=Builtin.Tuple.tupleExact _) (ZS (Za (Zb (Zb ⟨_,rfl,Zb h⟩))) c)
  |exact Za (Za (m:=Builtin.Tuple.tupleExact _) (ZS (Zb (Zb ⟨_,rfl,Zb h⟩)) c))
  |exact Za (Za (m:=Builtin.Tuple.tupleExact _) (ZS (Zb ⟨_,rfl,Zb h⟩) c))
end HT
namespace L2
open PySem PySem.Spec PyProof.Rows
abbrev TO:=St->Hp->(Option Int->Hp->Prop)->Prop
def PO(X:Cx)(e:Option av)(t:TO):Prop:=
 ∀(b:List (ae×aw))(s:ab)(a:St)(H:Hp)(Q:Option Int->Hp->Prop),Inv X b a H s->t a H Q ->
  af (ah X.prog X.w) X.A (evalPart e X.env) (λu d=>∃o c,Inv X b a c d/\IsPart u o/\Q o c) X.xe s
def xy3:TO:=λ_ H Q=>Q none H
def xR5(t:TE):TO:=λa H Q=>t a H λx b=>∃i,x=.int i/\Q (some i) b
section
variable{X:Cx}{e:av}{te:TE}{lo hi:Option av}{tl th:TO}{pos p2:aC}
theorem TU:PO X none xy3:=by
 intro b s a H Q I h;rw[evalPart_none];exact Zb ⟨none,H,I,.none,h⟩
theorem TR(h:PE X e te):PO X (some e) (xR5 te):=by
 intro c s a H Q I d;rw[evalPart_some];refine bz (h c s a H _ I d) λu k ⟨x,j,f,g,b⟩=>?_;obtain⟨i,rfl,q⟩:=b;obtain⟨t,rfl⟩:=g;exact⟨some i,j,f,.int i t,q⟩
def SlR(X:Cx)(r:V->Option Int->Option Int->Hp->VK->Prop):Prop:=
 ∀(d:List (ae×aw))(s:ab)(a:St)(H:Hp)(x:V)(v f b:aa)(lo hi:Option Int)(c:ae)(Q:VK),Inv X d a H s->RelV x v->s.heap.IsSliceOf c f b .none->IsPart f lo->IsPart b hi->r x lo hi H Q ->
  ∃T id,typeLookup (.type T) "__getitem__"=pure (some (.builtin id))/\s.TypeIs v T/\af (ah X.prog X.w) X.A (getItem v (.ref c)) (EP X d a Q) X.xe s
def tSl(r:V->Option Int->Option Int->Hp->VK->Prop)(te:TE)(tl th:TO):TE:=λa H Q=>te a H λx d=>tl a d λl c=>th a c λu b=>r x l u b Q
theorem Sf{r:V->Option Int->Option Int->Hp->VK->Prop}(k:SlR X r)(m:PE X e te)(E:PO X lo tl)(J:PO X hi th):PE X (.Subscript e (.Slice lo hi none p2) pos) (tSl r te tl th):=by
 intro d s c H Q I h;refine Subscript_ (bz (m d s c H _ I h) λv O ⟨x,y,F,G,K⟩=>?_);refine wpAny_Slice (bz (E d O c y _ F K) λg C ⟨l,w,B,L,n⟩=>bz (J d C c w _ B n) λf a ⟨u,i,N,j,M⟩=>?_);rw[evalPart_none];refine Zb ?_;have p:Inv X d c i {a with heap:=a.heap.push {cls:=.type "slice",data:=.fields #[g,f,.none]}}:=N.kept (t':=a.toks) λb ob q=>Zc _ q;obtain⟨T,id,t,D,A⟩:=k d {a with heap:=a.heap.push {cls:=.type "slice",data:=.fields #[g,f,.none]}} c i x v g f l u a.heap.objs.size Q p G (Heap.IsSliceOf.new ..) L j M;show af (ah X.prog X.w) X.A (subscriptTail e (.Slice lo hi none p2) v (.ref a.heap.objs.size)) (EP X d c Q) X.xe {a with heap:=a.heap.push {cls:=.type "slice",data:=.fields #[g,f,.none]}};exact tail_any (ops:=[.ref a.heap.objs.size,v]) D t A (by with_unfolding_all rfl)
def mZ(xs:List V)(lo hi:Option Int):List V:=(xs.drop (HT.dy xs.length 0 lo)).take (HT.dy xs.length xs.length hi-HT.dy xs.length 0 lo)
theorem qQ1(xs:List V)(lo hi:Option Int):(mZ xs lo hi).length<=xs.length:=by
 unfold mZ;rw[Wd,List.length_drop];lia
inductive BG(K:PySem.W.Frag)(x:V)(lo hi:Option Int)(H:Hp)(Q:VK):Prop
 |mk(a:_)(xs:_)(e0:x=.ref a)(e1:bg K H a xs)(e2:¬(HT.dy xs.length 0 lo=0/\HT.dy xs.length xs.length hi=xs.length))(e3:∀p,H p=none->Q (.ref p) (upd H p (.tup (mZ xs lo hi))))
def Kh(K:PySem.W.Frag):V->Option Int->Option Int->Hp->VK->Prop:=λx lo hi H Q=>BG K x lo hi H Q
theorem PF:SlR X (Kh X.K):=by
 intro y s t H x v A w lo hi u Q I n k p i h;obtain⟨a,c,rfl,j,l,q⟩:=h;cases n;obtain⟨m,r,g,f⟩:=I.tuple j;have d:m.toArray.size=c.length:=by rw[ZI];exact r.length.symm
 refine⟨"tuple",_,X9.lookup,g.typeIs,?_⟩;refine HT.fw g k p i (by rw[d];exact l) ?_ (by rw[d];exact f);rw[d];refine⟨.ref s.heap.objs.size,_,I.laid (t':=s.toks) (o:=.tup (mZ c lo hi)) (λb ob q=>Zc _ q) (Zd _) ?_,rfl,q _ (I.aO.fresh (Zd _))⟩;exact⟨ZF (qQ1 c lo hi) f,_,(r.drop (HT.dy c.length 0 lo)).take (HT.dy c.length c.length hi-HT.dy c.length 0 lo),cP.new _ _⟩
inductive xZ(K:PySem.W.Frag)(x y:V)(H:Hp)(Q:VK):Prop
 |mk(a:_)(b:_)(xs:_)(ys:_)(e0:x=.ref a)(e1:y=.ref b)(e2:bg K H a xs)(e3:bg K H b ys)(e4:xs≠[])(e5:xs.length+ys.length<=sizeLine)(e6:(ys=[]->Q (.ref a) H))(e7:(ys≠[]->∀p,H p=none->Q (.ref p) (upd H p (.tup (xs++ys)))))
def xR6(K:PySem.W.Frag):R2:=λx y H Q=>xZ K x y H Q
theorem Vals.i8{xs:List V}{us:List aa}(r:Vals xs us):us=[]<->xs=[]:=by
 cases r with
 |nil=>simp
 |cons _ _=>simp
theorem xy4:eJ X (binaryOp .Add) (xR6 X.K):=by
 intro C s t H x y v u Q I n m h;obtain⟨a,b,g,p,rfl,rfl,l,hb,k,f,r,j⟩:=h;cases n;cases m;obtain⟨B,d,i,_⟩:=I.tuple l;obtain⟨A,c,p2,_⟩:=I.tuple hb;refine HT.uJ i p2 (λz=>k (d.i8.mp z)) (λz=>⟨.ref a,H,I,rfl,r (c.i8.mp z)⟩) (λz=>?_) (by rw[<- d.length,<- c.length];exact f);refine⟨.ref s.heap.objs.size,_,I.laid (t':=s.toks) (o:=.tup (g++p)) (λb ob q=>Zc _ q) (Zd _) ?_,rfl,j (λw=>z (c.i8.mpr w)) _ (I.aO.fresh (Zd _))⟩;exact⟨by rw[Zw];exact f,_,d.append c,cP.new _ _⟩
end
def uv(n:Nat)(i:Int):Option Nat:=if 0<=i then(if i<n then some i.toNat else none)else if -(n:Int)<=i then some (i+n).toNat else none
def xm{α:Type}(xs:List α)(i:Int):Option α:=(uv xs.length i).bind λj=>xs[j]?
theorem TQ{n:Nat}{i:Int}{j:Nat}(h:uv n i=some j):seqIndex? i n=some j/\j<n/\-(n:Int)<=i/\i<n:=by
 unfold uv at h;by_cases a:0<=i
 ·rw[Zk a]at h;by_cases h1:i<n
  ·rw[Zk h1]at h;have e:i.toNat=j:=ZE h;exact⟨by rw[seqIndex_of a h1,e],by lia,by lia,h1⟩
  ·rw[Zi h1]at h;cases h
 ·rw[Zi a]at h;by_cases h1:-(n:Int)<=i
  ·rw[Zk h1]at h;have e:(i+n).toNat=j:=ZE h;exact⟨by rw[seqIndex_neg (qX a) h1,e],by lia,h1,by lia⟩
  ·rw[Zi h1]at h;cases h
theorem K6{α:Type}{xs:List α}{i:Int}{v:α}(h:xm xs i=some v):∃j,seqIndex? i xs.length=some j/\xs[j]?=some v/\j<xs.length/\-(xs.length:Int)<=i/\i<xs.length:=by
 unfold xm at h;cases e:uv xs.length i with
 |none=>rw[e]at h;cases h
 |some j=>
  rw[e]at h;obtain⟨h1,c,a,b⟩:=TQ e;exact⟨j,h1,h,c,a,b⟩
theorem oY{α:Type}{xs:List α}{j:Nat}{v:α}(h:xs[j]?=some v):xm xs (j:Int)=some v:=by
 have a:j<xs.length:=(cz h).1;have e:uv xs.length (j:Int)=some j:=by
  unfold uv;rw[Zk nO,Zk 'a'];simp
 unfold xm;rw[e];exact h
def TN(b:av):Prop:=∀o i,subscripted b false o i=operate [o,i] (getItem o i)
def nX(X:Cx)(r:R2):Prop:=
 ∀(value slice:av)(b:List (ae×aw))(s:ab)(a:St)(H:Hp)(x y:V)(v u:aa)(Q:VK),Inv X b a H s->RelV x v->RelV y u->r x y H Q ->
  subscripted slice false v u=operate [v,u] (getItem v u)->af (ah X.prog X.w) X.A (subscriptTail value slice v u) (EP X b a Q) X.xe s
def Ij(X:Cx)(id:String)(r:V->List V->Hp->VK->Prop):Prop:=
 ∀(d:List (ae×aw))(s:ab)(a:St)(H:Hp)(x:V)(b:List V)(v:aa)(c:List aa)(Q:VK),Inv X d a H s->RelV x v->Vals b c->r x b H Q ->
  af (ah X.prog X.w) X.A (call (.builtin id) (v::c)) (EP X d a Q) X.xe s
section
variable{X:Cx}{a b:av}{ta tb:TE}{pos:aC}
theorem nX.or{r e:R2}(h:nX X r)(h':nX X e):nX X (λx y H Q=>r x y H Q\/e x y H Q):=by
 intro c d g s f H x y v u Q I k j q i;rcases q with q|q
 ·exact h c d g s f H x y v u Q I k j q i
 ·exact h' c d g s f H x y v u Q I k j q i
theorem xR7{r:R2}(c:nX X r)(e:PE X a ta)(hb:PE X b tb)(hs:TN b):PE X (.Subscript a b pos) (Bg r ta tb):=by
 intro j s d H Q I h;exact Subscript_ (zJ e hb I h λv u i x y f g l k q=>c a b j i d f x y v u Q g l k q (hs _ _))
inductive BJ(K:PySem.W.Frag)(x y:V)(H:Hp)(Q:VK):Prop
 |mk(p:_)(xs:_)(i:_)(v:_)(e0:x=.ref p)(e1:y=.int i)(e2:cq K H p xs)(e3:xm xs i=some v)(e4:Q v H)
def tD(K:PySem.W.Frag):R2:=λx y H Q=>BJ K x y H Q
inductive BH(K:PySem.W.Frag)(x y:V)(H:Hp)(Q:VK):Prop
 |mk(p:_)(xs:_)(i:_)(v:_)(e0:x=.ref p)(e1:y=.int i)(e2:bg K H p xs)(e3:xm xs i=some v)(e4:Q v H)
def tw(K:PySem.W.Frag):R2:=λx y H Q=>BH K x y H Q
inductive BI(x y:V)(H:Hp)(Q:VK):Prop
 |mk(z:_)(i:_)(c:_)(e0:x=.str z)(e1:y=.int i)(e2:z.length<=sizeLine)(e3:xm z.cps.toList i=some c)(e4:Q (.str ⟨#[c]⟩) H)
def pZ:R2:=λx y H Q=>BI x y H Q
theorem cC:nX X (tD X.K):=by
 intro f k n s l H x y v u Q I J G h m;obtain⟨p,O,i,z,rfl,rfl,C,B,q⟩:=h;cases J;obtain⟨t,rfl⟩:=G;obtain⟨E,r,g,S⟩:=I.list C;obtain⟨j,h1,M,R,K,L⟩:=K6 B;obtain⟨w,A,D⟩:=r.get M;have F:=r.length;have P:=CC;have c:EP X n l Q w s:=⟨z,H,I,D,q⟩;by_cases d:0<=i
 ·have e:i.toNat=j:=by
   rw[seqIndex_of d L]at h1;exact ZE h1
  exact item_listR g.isList d 'a' (by rw[e];simpa using A) c m
 ·have e:(i+(E.toArray.size:Int)).toNat=j:=by
   rw[seqIndex_neg (qX d) K]at h1;rw[ZI,<- F];exact ZE h1
  exact Vi (x:=w) g.isList.typeIs slot_list_getitem.lookup
   (wpAny_getItem_list_neg (Q:=λr N=>r=w/\EP X n l Q r N) g.isList (qX d) (by rw[ZI]<;>lia) 'a' (by rw[e];simpa using A) ⟨rfl,c⟩) m
theorem bf:nX X (tw X.K):=by
 intro c e g s f H x y v u Q I D C h n;obtain⟨p,J,i,z,rfl,rfl,m,l,q⟩:=h;cases D;obtain⟨t,rfl⟩:=C;obtain⟨N,r,k,M⟩:=I.tuple m;obtain⟨j,h1,F,L,O,P⟩:=K6 l;obtain⟨w,E,A⟩:=r.get F;have B:=r.length;have K:=CC;have d:EP X g f Q w s:=⟨z,H,I,A,q⟩;exact Vi (x:=w) k.typeIs slot_tuple_getitem.lookup
  (getItem_tuple (j:=j) (Q:=λr G=>r=w/\EP X g f Q r G) k 'a' 'a' (by rw[ZI,<- B];exact h1) (by simpa using E) ⟨rfl,d⟩) n
theorem xI5:nX X pZ:=by
 intro d e G s D H x y v u Q I m l h g;obtain⟨z,i,c,rfl,rfl,C,f,q⟩:=h;obtain⟨t,rfl⟩:=m;obtain⟨F,rfl⟩:=l;obtain⟨j,h1,w,E,n,p⟩:=K6 f;have k:z.cps.toList.length=z.length:=by simp[Str.length]
 rw[k]at h1 n p;have B:=CC;exact tail_any (typeIs_str s z t) slot_str_getitem.lookup (getItem_str (c:=c) (by
  have A:decide (i < -(2^63:Int))=false:=Zm 'a';have r:decide (i>=2^63)=false:=Zm 'a';rw[A,r,UA]) (by rw[h1];simpa using w) ⟨.str ⟨#[c]⟩,H,I.tok _,⟨_,rfl⟩,q⟩) g
def Q9(K:PySem.W.Frag):R2:=λx y H Q=>tD K x y H Q\/tw K x y H Q\/pZ x y H Q
theorem xI6:nX X (Q9 X.K):=cC.or (bf.or xI5)
theorem q08(c:List aa)(n j:Nat)(u:aa):Obj.mapSeq (·.setIfInBounds j u) {cls:=.type "list",data:=.seq c.toArray n}={cls:=.type "list",data:=.seq (c.set j u).toArray n}:=by
 simp[Obj.mapSeq]
theorem Inv.lst{d:List (ae×aw)}{σ:St}{H:Hp}{s:ab}{p:ae}{xs:List V}(I:Inv X d σ H s)(h:H p=some (.lst xs)):
  ∃(c:List aa)(n:Nat),Vals xs c/\s.heap.get? p=some {cls:=.type "list",data:=.seq c.toArray n}/\xs.length<=sizeLine:=by
 obtain⟨z,c,n,r,e⟩:=I.aO p _ h;exact⟨c,n,r,e,z⟩
theorem Inv.yK{g:List (ae×aw)}{σ:St}{H:Hp}{s:ab}{p:ae}{xs ys:List V}{d its':List aa}{n c:Nat}{f:aw->aw}(I:Inv X g σ H s)(h:H p=some (.lst xs))
  (j:s.heap.get? p=some {cls:=.type "list",data:=.seq d.toArray n}) (i:f {cls:=.type "list",data:=.seq d.toArray n}={cls:=.type "list",data:=.seq its'.toArray c}) (r:Vals ys its') (hz:ys.length<=sizeLine) (t:Nat):
  Inv X g σ (upd H p (.lst ys)) {s with heap:=s.heap.update p f,toks:=t}:=by
 have e:(s.heap.update p f).get? p=some {cls:=.type "list",data:=.seq its'.toArray c}:=by
  rw[Yh f j (by rw[i]<;>rfl),i]
 refine I.write (x:=p) (e:=p) (by rw[h];trivial) (.inl rfl) (λb u hb q=>(Xe _ _ (YE hb)).trans q) ⟨_,e⟩ ?_;exact⟨hz,its',c,r,e⟩
inductive xY(o i v:V)(H:Hp)(Q:Hp->Prop):Prop
 |mk(p:_)(xs:_)(k:_)(j:_)(e0:o=.ref p)(e1:i=.int k)(e2:H p=some (.lst xs))(e3:uv xs.length k=some j)(e4:Q (upd H p (.lst (xs.set j v))))
def xR8:V->V->V->Hp->(Hp->Prop)->Prop:=λo i v H Q=>xY o i v H Q
theorem Lu:zP X xR8:=by
 intro F s B H o i v K G u Q I D E A h;obtain⟨p,x,k,j,rfl,rfl,f,y,q⟩:=h;cases D;obtain⟨t,rfl⟩:=E;obtain⟨l,n,r,e,C⟩:=I.lst f;obtain⟨h1,L,g,m⟩:=TQ y;have d:=r.length;have J:=CC;have w:Inv X F B (upd H p (.lst (x.set j v))) {s with heap:=s.heap.update p (Obj.mapSeq (·.setIfInBounds j u))}:=
  I.yK f e (q08 l n j u) (r.set A j) (by rw[UO];exact C) s.toks
 by_cases c:0<=k
 ·have hk:k.toNat=j:=by
   rw[seqIndex_of c m]at h1;exact ZE h1
  exact PySem.W.ki_setAt e c 'a' (by rw[ZI,<- d];exact m) (by rw[hk];exact⟨_,w,q⟩)
 ·have hk:(k+(l.toArray.size:Int)).toNat=j:=by
   rw[seqIndex_neg (qX c) g]at h1;rw[ZI,<- d];exact ZE h1
  exact PySem.W.ki_setBack e (qX c) (by rw[ZI,<- d];exact g) 'a' (by rw[hk];exact⟨_,w,q⟩)
def vz:V->Bool
 |.cU=>true
 |.bl _=>true
 |.int _=>true
 |.str _=>true
 |_=>false
def xg:V->V->Bool
 |.cU,.cU=>true
 |.bl a,.bl b=>a==b
 |.bl a,.int b=>(if a then 1 else 0)==b
 |.int a,.bl b=>a==(if b then 1 else 0)
 |.int a,.int b=>a==b
 |.str a,.str b=>a==b
 |_,_=>false
theorem xI7{A:aj}{s:ab}{y x:V}{u v:aa}(e:RelV y u)(c:RelV x v)(g:vz y=true)(f:vz x=true):SeqAt.EqAt A s u v (xg y x):=by
 cases y with
 |cU=>
  cases e;cases x with
  |cU=>cases c;exact SeqAt.EqAt.same _
  |bl b=>cases c;exact SeqAt.EqAt.none_bool b
  |int b=>obtain⟨t,rfl⟩:=c;exact SeqAt.EqAt.none_int b t
  |str b=>obtain⟨t,rfl⟩:=c;exact SeqAt.EqAt.none_str b t
  |_=>exact absurd (show false=true from f) Zv
 |bl a=>
  cases e;cases x with
  |cU=>cases c;exact SeqAt.EqAt.bool_none a
  |bl b=>cases c;exact SeqAt.EqAt.bool_bool a b
  |int b=>obtain⟨t,rfl⟩:=c;exact SeqAt.EqAt.bool_int a b t
  |str b=>obtain⟨t,rfl⟩:=c;exact SeqAt.EqAt.bool_str a b t
  |_=>exact absurd (show false=true from f) Zv
 |int a=>
  obtain⟨d,rfl⟩:=e;cases x with
  |cU=>cases c;exact SeqAt.EqAt.int_none a d
  |bl b=>cases c;exact SeqAt.EqAt.int_bool a d b
  |int b=>obtain⟨t,rfl⟩:=c;exact SeqAt.EqAt.int_int a d b t
  |str b=>obtain⟨t,rfl⟩:=c;exact SeqAt.EqAt.int_str a d b t
  |_=>exact absurd (show false=true from f) Zv
 |str a=>
  obtain⟨d,rfl⟩:=e;cases x with
  |cU=>cases c;exact SeqAt.EqAt.str_none a d
  |bl b=>cases c;exact SeqAt.EqAt.str_bool a d b
  |int b=>obtain⟨t,rfl⟩:=c;exact SeqAt.EqAt.str_int a d b t
  |str b=>obtain⟨t,rfl⟩:=c;exact SeqAt.EqAt.str_str a d b t
  |_=>exact absurd (show false=true from f) Zv
 |_=>exact absurd (show false=true from g) Zv
def uF(x:V)(u:aa):Bool:=match u with
 |.none=>xg .cU x
 |.bool b=>xg (.bl b) x
 |.int i _=>xg (.int i) x
 |.str z _=>xg (.str z) x
 |_=>false
theorem PD{x y:V}{u:aa}(r:RelV y u)(f:vz y=true):uF x u=xg y x:=by
 cases y with
 |cU=>cases r;rfl
 |bl b=>cases r;rfl
 |int i=>obtain⟨t,rfl⟩:=r;rfl
 |str z=>obtain⟨t,rfl⟩:=r;rfl
 |_=>exact absurd (show false=true from f) Zv
theorem K5{x:V}:∀{c:List V}{d:List aa},Vals c d->c.all vz=true->d.any (uF x)=c.any λy=>xg y x
 |_,_,.nil,_=>rfl
 |y::c,u::d,.cons r t,f=>by
  rw[List.all_cons,We]at f;rw[Xc,Xc,PD r f.1,K5 t f.2]
theorem Ls{A:aj}{s:ab}{x:V}{v:aa}(g:RelV x v)(h:vz x=true):∀{d:List V}{e:List aa},Vals d e->d.all vz=true->∀u∈e,SeqAt.EqAt A s u v (uF x u)
 |_,_,.nil,_=>λu c=>by cases c
 |y::d,u::e,.cons r t,f=>λi c=>by
  rw[List.all_cons,We]at f;rcases Zu.mp c with rfl|c
  ·rw[PD r f.1];exact xI7 r g f.1 h
  ·exact Ls g h t f.2 i c
def Hq(x:V)(xs:List V):Bool:=xs.any λy=>xg y x
inductive Ki(K:PySem.W.Frag)(neg:Bool)(x y:V)(H:Hp)(Q:VK):Prop
 |mk(p:_)(xs:_)(e0:y=.ref p)(e1:(cq K H p xs\/bg K H p xs))(e2:vz x=true)(e3:xs.all vz=true)(e4:Q (.bl (if neg then !Hq x xs else Hq x xs)) H)
def rIn(K:PySem.W.Frag)(neg:Bool):R2:=λx y H Q=>Ki K neg x y H Q
theorem qI4:eJ X (compareOp .NotIn) (rIn X.K true):=by
 intro n s m H x y v u Q I g k h;obtain⟨p,l,rfl,c,i,fs,q⟩:=h;cases k;rcases c with c|c
 ·obtain⟨d,r,f,j⟩:=I.list c;refine SeqAt.notIn_listAt (uF x) f.isList (λw e=>Ls g i r fs w (by simpa using e)) ⟨.bl _,H,I,rfl,?_⟩;rw[show d.toArray.any (uF x)=d.any (uF x) by simp,K5 r fs];exact q
 ·obtain⟨d,r,f,j⟩:=I.tuple c;refine SeqAt.notIn_tupleAt (uF x) f (λw e=>Ls g i r fs w (by simpa using e)) ⟨.bl _,H,I,rfl,?_⟩;rw[show d.toArray.any (uF x)=d.any (uF x) by simp,K5 r fs];exact q
inductive il(K_:PySem.W.Frag)(xs:List V)(H:Hp)(Q:VK):Prop
 |mk(p:_)(ys:_)(aT:xs=[.ref p])(cV:(cq K_ H p ys\/bg K_ H p ys))(cw:Q (.int ys.length) H)
theorem tR:f_ X (.builtin "len") (il X.K):=by
 intro v s n H l t Q I r h;obtain⟨p,g,rfl,c,q⟩:=h;obtain⟨u,rfl,k⟩:=iq r;cases k;have m:=CC;rcases c with c|c
 ·obtain⟨j,d,e,i⟩:=I.list c;have f:=d.length;exact Calls.call_len_list e.isList (by simp only[ZI]<;>lia) ⟨.int g.length,H,I.tok _,⟨s.toks+1,by rw[ZI,f]⟩,q⟩
 ·obtain⟨j,d,e,i⟩:=I.tuple c;have f:=d.length;exact len_tuple e (by simp only[ZI]<;>lia) ⟨.int g.length,H,I.tok _,⟨s.toks+1,by rw[ZI,f]⟩,q⟩
inductive dN(K_:PySem.W.Frag)(xs:List V)(H:Hp)(Q:VK):Prop
 |mk(p:_)(ys:_)(aT:xs=[.ref p])(cV:((cq K_ H p ys/\∀l,H l=none->Q (.ref l) (upd H l (.tup ys)))\/(bg K_ H p ys/\Q (.ref p) H)))
theorem qE3:f_ X (.type "tuple") (dN X.K):=by
 intro l s k H y A Q I r h;obtain⟨p,m,rfl,h⟩:=h;obtain⟨u,rfl,w⟩:=iq r;cases w;rcases h with⟨f,q⟩|⟨f,q⟩
 ·obtain⟨g,i,j,d⟩:=I.list f;have x:=i.length;refine call_tuple_list j.isList (λc t=>?_) (by simp only[ZI]<;>exact wt x d);have n:Inv X l k H {s with heap:=c}:=I.kept (t':=s.toks) t;have v:Inv X l k (upd H c.objs.size (.tup m)) {s with heap:=c.push {cls:=.type "tuple",data:=.seq g.toArray}}:=
   n.laid (t':=s.toks) (λb o e=>Zc _ e) (Zd _) (show bo X.prog X.w _ _ _ (.tup m)from⟨d,g,i,cP.new _ _⟩)
  exact⟨.ref c.objs.size,_,v,rfl,q _ (n.aO.fresh (Zd _))⟩
 ·obtain⟨g,i,j,d⟩:=I.tuple f;exact call_tuple_same j ⟨.ref p,H,I,rfl,q⟩
def JR(K:PySem.W.Frag)(T:String)(x:V)(H:Hp):Prop:=match x with
 |.str _=>T="str"
 |.int _=>T="int"
 |.ref p=>(T="list" /\ ∃d,cq K H p d)\/(T="tuple" /\ ∃o,K.lookup p=some o/\o.cls=.type "tuple" /\ o.dict=none) \/
   (T="dict" /\ ((∃c,H p=some (.dK c))\/∃c,H p=some (.dT c)))\/(T="set" /\ ∃S n,H p=some (.set S n))
 |_=>False
theorem PB{l:List (ae×aw)}{σ:St}{H:Hp}{s:ab}{T:String}{x:V}{v:aa}(I:Inv X l σ H s)(r:RelV x v)(ty:JR X.K T x H):
  s.TypeIs v T/\∀a,v=.ref a->∃ob,s.heap.get? a=some ob/\ob.dict=none:=by
 cases x with
 |str z=>
  obtain⟨t,rfl⟩:=r;cases(show T="str"from ty);exact⟨typeIs_str s z t,λ_ e=>nomatch e⟩
 |int i=>
  obtain⟨t,rfl⟩:=r;cases(show T="int"from ty);exact⟨typeIs_int s i t,λ_ e=>nomatch e⟩
 |ref p=>
  cases r;rcases ty with⟨rfl,m,j⟩|⟨rfl,o,hk,k,g⟩|⟨rfl,hk⟩|⟨rfl,S,n,hk⟩
  ·obtain⟨q,_,h,_⟩:=I.list j;refine⟨h.isList.typeIs,λa e=>?_⟩;cases e;obtain⟨o,n,e,c,g,_⟩:=h;exact⟨o,e,g⟩
  ·refine⟨⟨o,I.gK p o hk,k⟩,λa e=>?_⟩;cases e;exact⟨o,I.gK _ o hk,g⟩
  ·have z:∃o,s.heap.get? p=some o/\o.ExactDict:=by
    rcases hk with⟨f,hk⟩|⟨f,hk⟩
    ·obtain⟨_,_,_,_,o,_,_,e,ex,_⟩:=I.aO p _ hk;exact⟨o,e,ex⟩
    ·obtain⟨_,_,_,_,o,_,_,e,ex,_⟩:=I.aO p _ hk;exact⟨o,e,ex⟩
   obtain⟨o,e,ex⟩:=z;refine⟨⟨o,e,ex.1⟩,λa d=>?_⟩;cases d;exact⟨o,e,ex.2.1⟩
  ·obtain⟨o,_,_,_,e,ex,_⟩:=I.aO p _ hk;refine⟨⟨o,e,ex.1⟩,λa d=>?_⟩;cases d;exact⟨o,e,ex.2.1⟩
 |_=>exact False.elim ty
def J6(K:PySem.W.Frag)(T:String)(r:V->List V->Hp->VK->Prop)(e:TE):TE:=λd H Q=>e d H λx c=>JR K T x c/\r x [] c Q
def Q7(K:PySem.W.Frag)(T:String)(r:V->List V->Hp->VK->Prop)(f:TE)(t:TA):TE:=λc H Q=>f c H λx d=>JR K T x d/\t c d λe g=>r x e g Q
variable{o e:av}{es:List av}{to:TE}{t:TA}{name:ar}{apos cY:aC}{T id:String}{r:V->List V->Hp->VK->Prop}
theorem xI8(pa:PlainAttrs T)(slot:Slot T name id)(q:typeOf (.builtin id)=pure (.type "method_descriptor"))(k:Ij X id r)(m:PE X o to)
  (j:attributeBase o name X.env (eval o X.env)=eval o X.env:=by rfl) (i:(apos.endLine==cY.line)=true:=by rfl):PE X (.Call (.Attribute o name apos) [] [] cY) (J6 X.K T r to):=by
 intro d s c H Q I h;refine wpAny_Call_method0_late j i (bz (m d s c H _ I h) λv u ⟨x,l,f,g,ty,p⟩=>?_);obtain⟨h1,n⟩:=PB f g ty;exact⟨T,id,pa,slot,q,h1,n,Vj rfl (PySem.evalArgs_none (k d u c l x [] v [] Q f g .nil p))⟩
theorem E_(pa:PlainAttrs T)(slot:Slot T name id)(G:typeOf (.builtin id)=pure (.type "method_descriptor"))(n:Ij X id r)(D:PE X o to)(p:PA X (e::es) t)
  (l:attributeBase o name X.env (eval o X.env)=eval o X.env:=by rfl)
  (w:((backTo cY (starEach (e::es) X.env)).all (λx=>!x.1)&&(backToKw cY (keywordEach [] X.env)).all (λx=>x.1.isSome)
   && decide ((e::es).length+([]:List Keyword).length+(if([]:List Keyword).isEmpty then 0 else 1)<30))=true:=by rfl)
  (k:(apos.endLine==cY.line)=true:=by rfl) (hs:starEach (e::es) X.env=(false,eval e X.env)::starEach es X.env:=by rfl) (y:(backTo cY (starEach es X.env)).any (·.1)=false:=by rfl):
  PE X (.Call (.Attribute o name apos) (e::es) [] cY) (Q7 X.K T r to t):=by
 intro d s c H Q I h;refine wpAny_Call_method_late l w k rfl (bz (D d s c H _ I h) λv J ⟨x,u,f,g,ty,F⟩=>?_);obtain⟨h1,E⟩:=PB f g ty;refine⟨T,id,pa,slot,G,h1,E,?_⟩;have hA:=p cY d J c u _ f F;rw[hs]at hA ⊢;refine Vj (by show(false||(backTo cY (starEach es X.env)).any (·.1))=false;rw[y]<;>rfl) (Calls.evalArgs_plain ?_);exact bz hA λm B ⟨C,q,A,i,j⟩=>n d B c q x C v m Q A g i j
end
def MtM(X:Cx)(id:String)(r:V->List V->Hp->VK->Prop):Prop:=
 ∀(d:List (ae×aw))(s:ab)(a:St)(H:Hp)(x:V)(b:List V)(v:aa)(c:List aa)(Q:VK),Inv X d a H s->RelV x v->Vals b c->r x b H Q ->
  af (ah X.prog X.w) X.A (call (.builtin id) (v::c)) (EP X d a Q) X.xe s
theorem Vals.one{x:V}{us:List aa}(h:Vals [x] us):∃u,us=[u]/\RelV x u:=by
 cases h with
 |cons r t=>cases t;exact⟨_,rfl,r⟩
section
variable{X:Cx}{j8:List (ae×aw)}{σ:St}{H:Hp}{s:ab}{l b:ae}{xs ys zs:List V}
theorem Inv.Me{a its':List aa}{n:Nat}{f:Array aa->Array aa}{t':Nat}(I:Inv X j8 σ H s)(c:H l=some (.lst xs))
  (e:s.heap.get? l=some {cls:=.type "list",data:=.seq a.toArray n}) (g:f a.toArray=its'.toArray) (d:Vals ys its') (hz:ys.length<=sizeLine):
  Inv X j8 σ (upd H l (.lst ys)) {s with heap:=s.heap.update l (Obj.mapSeq f),toks:=t'}:=by
 have q:=PySem.IsL.update e f;rw[g]at q;refine I.write (x:=l) (e:=l) (by rw[c];exact trivial) (.inl rfl) (λi u hb h=>(Xe s.heap (Obj.mapSeq f) (YE hb)).trans h) ⟨_,q⟩ ?_;exact⟨hz,its',_,d,q⟩
theorem Inv.Mi{a:List aa}{t':Nat}(I:Inv X j8 σ H s)(c:Vals ys a)(hz:ys.length<=sizeLine):
  Inv X j8 σ (upd H s.heap.objs.size (.lst ys)) {s with heap:=s.heap.push {cls:=.type "list",data:=.seq a.toArray},toks:=t'}:=
 I.laid (λ_ _ q=>Zc _ q) (Zd _) ⟨hz,a,0,c,Zj _ rfl⟩
theorem Inv.fresh(I:Inv X j8 σ H s):H s.heap.objs.size=none:=I.aO.fresh (Zd _)
theorem Inv.yL(I:Inv X j8 σ H s)(c:H l=some (.lst xs)):xs.length<=sizeLine/\∃(a:List aa)(n:Nat),Vals xs a/\xs.length=a.length/\s.heap.get? l=some {cls:=.type "list",data:=.seq a.toArray n}:=by
 obtain⟨z,a,n,r,e⟩:=I.aO l _ c;exact⟨z,a,n,r,r.length,e⟩
end
section
variable{X:Cx}
inductive p5(x:V)(vs:List V)(H:Hp)(Q:VK):Prop
 |mk(l:_)(xs:_)(y:_)(e0:x=.ref l)(e1:vs=[y])(e2:H l=some (.lst xs))(e3:xs.length<sizeLine)(e4:Q .cU (upd H l (.lst (xs++[y]))))
def xy5:V->List V->Hp->VK->Prop:=λx a H Q=>p5 x a H Q
theorem An:MtM X "list.append" xy5:=by
 intro k s i H x p v j Q I f c h;obtain⟨l,g,y,rfl,rfl,a,d,q⟩:=h;cases f;obtain⟨u,rfl,ru⟩:=c.one;obtain⟨z,b,n,r,m,e⟩:=I.yL a;refine call_meets F.slot_list_append ⟨_,e,rfl⟩ F.entry_list_append (F.args_list_append_2 _ _) (PySem.list_append l b.toArray n u (by rw[ZI];lia)) ⟨e,?_⟩;refine⟨.cU,_,I.Me (its':=b++[u]) a e (by simp) (r.append (.cons ru .nil)) ?_,rfl,q⟩;rw[Zw,List.length_singleton];exact km d
inductive BK(x y:V)(H:Hp)(Q:VK):Prop
 |mk(l:_)(b:_)(xs:_)(zs:_)(e0:x=.ref l)(e1:y=.ref b)(e2:H l=some (.lst xs))(e3:H b=some (.lst zs))(e4:xs.length+zs.length<=sizeLine)(e5:∀p,H p=none->Q (.ref p) (upd H p (.lst (xs++zs))))
def Kk:R2:=λx y H Q=>BK x y H Q
theorem Pz:eJ X (binaryOp .Add) Kk:=by
 intro C s w H x y v u Q I j i h;obtain⟨l,b,t,zs,rfl,rfl,g,p,f,q⟩:=h;cases j;cases i;obtain⟨z,c,n,r,D,e⟩:=I.yL g;obtain⟨B,a,A,d,E,k⟩:=I.yL p;refine PySem.P.add_list e k ?_ (by rw[ZI,ZI];lia);have m:c.toArray++a.toArray=(c++a).toArray:=by simp
 rw[m];exact⟨.ref _,_,I.Mi (t':=s.toks) (r.append d) (by rw[Zw];exact f),rfl,q _ I.fresh⟩
end
end L2
namespace Att
open PySem PySem.W PySem.Calls PyProof.Rows
theorem qx0{P:Params}{h:ao}:∀(c:List Int)(d:List aa),WellAll P h d (c.map WData.int)->IntsAre d c:=by
 intro c
 induction c with
 |nil=>
  intro d w;rw[WQ]at w;cases w;exact .nil
 |cons n c e=>
  intro d w;rw[ZB]at w;cases w with
  |cons a b=>
   cases a;exact .cons _ _ (e _ b)
theorem q62{l:OpenLaw}{n:Nat}(m:l.most=some n){P:Params}{h:ao}{args:List WData}{c:List aa}
  (j:l.row.toRowW.claim.pre args=true) (s:WellAll P h c args):
  ∃a i b,c=[Value.ref a]/\args=[WData.list (b.map WData.int)]/\h.get? a=some {cls:=.type "list",data:=.seq i.toArray}/\IntsAre i b/\b.length<=n:=by
 have u:WShape.hasAll [] args [.list .int]=true:=(pre_splitW j).1;have g:l.pre.holds [] {args:=args}=true:=(pre_splitW j).2;obtain⟨d,r,rfl,h1,v⟩:=hasAllW_cons u;obtain rfl:=hasAllW_nil v;obtain⟨B,rfl,p⟩:=hasW_list h1;obtain⟨b,rfl⟩:=items_int p;have A:b.length<=n:=by
  unfold OpenLaw.pre at g;have e:(WTm.not (.lt (.lit (.int (n:Int))) (.len (.arg 0)))).holds [] {args:=[.list (b.map .int)]}=true:=by
   have e:=(holds_andW g).1;rw[m]at e;exact e
  have f:=condW_of e (w_not (w_lt w_lit (w_len_list (w_arg rfl))));rw[Zg]at f;refine Wf λq=>?_;have y:(n:Int)<((b.length:Nat):Int):=by lia
  first
   |(rw[Zo y]at f;exact absurd f 'b')
   |(simp at f;lia)
 cases s with
 |cons k x=>
  cases x;cases k with
  |list w t=>exact⟨_,_,b,rfl,rfl,w,qx0 b _ t,A⟩
theorem q63(l:OpenLaw)(args:List WData):l.row.toRowW.claim.post args (.bool true) args=true:=
 postW_of (r:=l.row.toRowW) (X:=(true==true))
  (show WShape.has [] (.bool true) .bool=true by first|rfl|decide|simp[WShape.has,WShape.arms,WShape.armsAll])
  (show(WTm.eq .res (.lit (.bool true))).value [] {args:=args,res:=some (.bool true),after:=args}=some (.bool (true==true))from w_eq_bool (w_res rfl) w_lit) rfl
theorem lz{l:OpenLaw}{n:Nat}{q:ag}{loose:List ar}{XP:(ar->Option aa)->ao->Prop}{YP:ai->ao->Prop}{d:DefRec}
  (A:l.most=some n) (H:d.params.defaults=[])
  (call:∀(w:ai)(p b:ab)(j t:ar->Option aa)(h:ae)(o:aw)(s i c:aa)(a:ae)(g:List aa)(k:List Int),
   Ground q loose [] XP w p j t b.heap->YP w b.heap ->
   b.heap.get? h=some o->o.data=.func (docDef d.name d.params d.body d.scope s i c)->b.heap.CodeRec i d.name->j d.name=some (.ref h) ->
   b.heap.get? a=some {cls:=.type "list",data:=.seq g.toArray}->IntsAre g k->k.length<=n->b.gens=#[] ->
   codeAny (ah l.prog w) callerA (.call (.ref h) ⟨[.ref a],[]⟩) (λr m=>r=.ok (.ret (.bool true))/\OldK b.heap m.heap/\m.os=b.os/\AllBare m.gens) b):
  WalkO q loose XP YP l.row.toRowW d [] (λf g=>PySem.call f g):=by
 intro w p b j t G Y h o s i c K kV P N R x O I y u as S v M B J;obtain rfl:K=.none:=Dflts.none x H;obtain rfl:kV=.none:=Dflts.noKw x;obtain⟨a,g,k,rfl,rfl,F,e,T⟩:=q62 A S B;refine enter_call (Wo (call w p b j t h o s i c a g k G Y P (fd_plain N) R O F e T I) λr m D=>?_);obtain⟨rfl,Q,C,L⟩:=D;exact⟨.inl ⟨.bool true,.bool true,[],rfl,λ_=>rfl,.bool true,q63 l _,λ_=>⟨List.Pairwise.nil,λ_ E=>(nomatch E)⟩⟩,Q,C,L⟩
end Att
namespace L2
open PySem PySem.Spec PyProof.Rows
theorem Ta:∀{b:List aa}{a:List Int},IntsAre b a->Vals (a.map V.int) b
 |_,_,.nil=>.nil
 |_,_,.cons n t h=>.cons ⟨t,rfl⟩ (Ta h)
def zQ(H:Hp):Prop:=∀b,H b=none\/∃o a,H b=some (.gC o (.lst a))
theorem xk4{P:ag}{w:ai}{K:PySem.W.Frag}{mg G:ar->Option aa}{CX:sr}{k:Nat}{E a:ae}{R:ak}{x:ar}{sp:Sp}{c:ab}{vs:List aa}{B:List Int}
  (O:K.In c.heap) (p:c.heap.Ns mainGlobals mg) (hb:c.heap.Ns builtinsNs G) (I:∀x:ar,x ≠ "__name__"->G x=bootBuiltins x) (Na:c.heap.NoLimit) (hg:c.gens=#[])
  (D:c.heap.get? a=some {cls:=.type "list",data:=.seq vs.toArray}) (M:IntsAre vs B) (Q:B.length<=sizeLine) (Z:bh k callerA)
  (F:∀f:ao,K.In f->f.Ns mainGlobals mg->aE P w K mg f CX k E R [x] sp) (Y:∀(s:ab)(u:aa),BindsTo s R ⟨[u],[]⟩ [(x,u)])
  (W:∀H:Hp,zQ H->cq K H a (B.map V.int)->sp [.ref a] H (λv _=>v=.bl true) λ_ _ _=>False)
  (NK:∀H e g,CX [] H c (λ_ _ _=>False) e g->False):
  codeAny (ah P w) callerA (.call (.ref E) ⟨[.ref a],[]⟩) (λr g=>r=.ok (.ret (.bool true))/\OldK c.heap g.heap/\g.os=c.os/\AllBare g.gens) c:=by
 have N:=Ta M;have Mj:=M.length;have i:∀H:Hp,zQ H->cq K H a (B.map V.int)->dJ P w H c.heap->(∀b,H b≠none->b=a)->(H a≠none->K.lookup a=none) ->
   codeAny (ah P w) callerA (.call (.ref E) ⟨[.ref a],[]⟩) (λr g=>r=.ok (.ret (.bool true))/\OldK c.heap g.heap/\g.os=c.os/\AllBare g.gens) c:=by
  intro H U hS L hA hK;have T:∀{b:ae}{o:aw},c.heap.get? b=some o->H b=none->(jb c.heap H).get? b=some o:=λe n=>xj3 e n;have CT:∀{b:ae}{o:aw}{t:Array aB}{y:Nat},c.heap.get? b=some o->o.data=.dict t y->H b=none:=λ{b o t y} e d=>by
   cases q:H b with
   |none=>rfl
   |some u=>
    have J:b=a:=hA b (by rw[q];simp);subst J;rw[D]at e;cases e;have d':Data.seq vs.toArray _=Data.dict t y:=d;cases d'
  have C:∀{b:ae}{m:ar->Option aa},c.heap.Ns b m->(jb c.heap H).Ns b m:=λ{b m} ⟨o,t,y,e,d,r⟩=>⟨o,t,y,T e (CT e d),d,r⟩;have l:K.In (jb c.heap H):=λb o e=>T (O b o e) (by
   cases q:H b with
   |none=>rfl
   |some u=>
    have J:b=a:=hA b (by rw[q];simp);subst J;rw[hK (by rw[q];simp)]at e;cases e)
  have hM:Mod K mg (jb c.heap H):=⟨l,C p,⟨G,C hb,I⟩,let ⟨mc,h1,h2⟩:=Na;⟨mc,C h1,h2⟩⟩;have e0:ng P w K mg (jb c.heap H) callerA [] c H:=⟨rfl,hM,λb o e=>xx7 e,Vg (q40 _ _),trivial,λb hb=>absurd (show b∈([]:List ae)from hb) (by simp),L,.of_eq hg⟩;refine Wo ((F _ l (C p)).run callerA [] c H ⟨[.ref a],[]⟩ [.ref a] [.ref a] _ _ Z e0 (Y c (.ref a)) (.cons rfl .nil) (W H U hS)) λr g h=>?_;cases r with
  |error e=>exact(NK H e g h).elim
  |ok fl=>
   cases fl with
   |next=>exact False.elim h
   |brk=>exact False.elim h
   |cont=>exact False.elim h
   |ret u=>
    obtain⟨v,H',os,j,un,X,r',q⟩:=h;have q':v=.bl true:=q;subst q';obtain rfl:u=Value.bool true:=r';refine⟨rfl,OldK.of_keep λb o e=>?_,os,j⟩;cases q:H b with
    |none=>exact un.keep b o e q (by intro z;exact absurd (show b∈([]:List ae)from z) (by simp)) (by simp)
    |some u=>
     rcases U b with z|⟨ob,xs,z⟩
     ·rw[q]at z;cases z
     ·have z2:=un.iF b ob _ z;obtain⟨S,_⟩:=L b _ z;obtain⟨e2,_⟩:=X b _ z2;rw[e]at S;cases S;exact e2
 cases hk:K.lookup a with
 |some o=>
  have e:=O a o hk;rw[D]at e;cases e;refine i (λ_=>none) (λ_=>.inl rfl) (.inr ⟨_,vs.toArray,_,hk,rfl,rfl,rfl,by rw[ZI,Mj];exact Q,by simpa using N⟩) (λb u z=>by have A:(none:Option HO)=some u:=z;cases A) (λb z=>absurd rfl z) λz=>absurd rfl z
 |none=>
  refine i (λb=>if b=a then some (.gC {cls:=.type "list",data:=.seq vs.toArray} (.lst (B.map V.int)))else none) (λb=>?_) (.inl (.inr ⟨{cls:=.type "list",data:=.seq vs.toArray},Zk rfl⟩)) (λb u z=>?_) (λb z=>?_) λ_=>hk
  ·by_cases hb:b=a
   ·exact .inr ⟨_,_,Zk hb⟩
   ·exact .inl (Zi hb)
  ·by_cases hb:b=a
   ·have A:=(Zk hb).symm.trans z;cases A;subst hb;exact⟨D,by rw[Zg];exact Q,vs,_,N,D⟩
   ·have A:=(Zi hb).symm.trans z;cases A
  ·by_cases hb:b=a
   ·exact hb
   ·exact absurd (Zi hb) z
theorem xy6{l:PySem.W.OpenLaw}{n k:Nat}{q:ag}{loose:List ar}{XP:(ar->Option aa)->ao->Prop}{YP:ai->ao->Prop}{d:DefRec}{K:Params->PySem.W.Frag}{CX:ai->sr}{sp:ai->Sp}{x:ar}
  (D:l.most=some n) (O:n<=sizeLine) (M:d.params.defaults=[]) (B:bh k callerA)
  (C:∀(w:ai)(h:ao),YP w h->(K w.params).In h)
  (F:∀(w:ai)(g:ar->Option aa)(i:ae)(h:ao),(K w.params).In h->h.Ns mainGlobals g->g d.name=some (.ref i) ->
   ∃m:ak,(∀(s:ab)(u:aa),BindsTo s m ⟨[u],[]⟩ [(x,u)]) /\
    ∀b:ao,(K w.params).In b->b.Ns mainGlobals g->aE l.prog w (K w.params) g b (CX w) k i m [x] (sp w))
  (A:∀(w:ai)(H:Hp)(a:ae)(j:List Int),j.length<=n->zQ H->cq (K w.params) H a (j.map V.int)->sp w [.ref a] H (λv _=>v=.bl true) λ_ _ _=>False)
  (P:∀(w:ai)(H:Hp)(s:ab)(e:aa)(p:ab),CX w [] H s (λ_ _ _=>False) e p->False):
  PySem.W.WalkO q loose XP YP l.row.toRowW d [] (λf y=>PySem.call f y):=by
 refine Att.lz D M λw U E g X i o W T L a y j G Y ho Z vA Q J c r N=>?_;have t:=C w _ Y;obtain⟨m,hb,R⟩:=F w g i _ t G.T.g Q;exact xk4 t G.T.g G.T.b G.T.builtins G.T.nolimit N J c (ZF r O) B R hb (λH S I=>A w H a j r S I) λH e p=>P w H E e p
abbrev aW:sr:=λ_ _ _ _ _ _=>False
abbrev E0:XK:=λ_ _ _=>False
theorem mD{X:Cx}:Aw aW X E0:=λ_ _ _ _ _ _ _ h=>h.elim
structure bj(K:PySem.W.Frag)(x qual:ar)(st:aA)(f:ae)(fd:ak):Prop where
 ex:∃(oc:aa)(od:Option ae)(kV doc pm:aa)(an:Option ae)(cA ct:aa)(qp:Array (Option aa)),
  fd=PySem.W.fnOf x qual (qj st) (oZ st) (ck st) .none kV doc pm an cA ct/\K.lookup f=some ⟨oc,od,.func fd,qp⟩/\PySem.W.codeIn K cA qual=true
 kp:PySem.W.keepIn K (.ref f)=true
theorem bj.ok{x b:ar}{st:aA}{f:ae}{e:ak}{N ps:List ar}{k:Nat}{sp:Sp}(F:bj K x b st f e)(S:aI N ps (ck st))(len:∀c H Q E,sp c H Q E->c.length=ps.length)
  (l:∀(d:aa)(A:aj)(a:List Env)(s:ab)(H:Hp)(c:List V)(Q:VK)(E:XK),bh k (A.deeper (envOfC b (ck st) s.heap.objs.size f d))->sp c H Q E ->
   ∃t,lR (oO aW P w K mg base N b (ck st) f d A a s H E).Hk (oZ st) t/\t {nx:=λ_ n=>Q .cU n,rt:=Q} (start N c) H):aE P w K mg base aW (k+1) f e ps sp:=by
 obtain⟨C,u,kV,j,y,B,d,r,v,rfl,m,p⟩:=F.ex;refine xR4 m p S len λA a s H c Q E i g=>?_;obtain⟨t,h,q⟩:=l d A a s H c Q E i g;exact⟨t,h.Hk,q⟩
theorem bj.binds{x a:ar}{st:aA}{f:ae}{j:ak}{ps:List ar}(F:bj K x a st f j)
  (h:∀(kV b c:aa)(e:Option ae)(i d:aa)(g:List aa),g.length=ps.length->bindArgs (PySem.W.fnOf x a (qj st) (oZ st) (ck st) .none kV b c e i d) ⟨g,[]⟩=pure (ps.zip g)):Binds K j ps []:=by
 obtain⟨n,m,kV,b,c,e,i,d,p,rfl,l,k⟩:=F.ex;exact .all (h kV b c e i d)
theorem LD{x a:ar}{st:aA}{f:ae}{i:aa}{h g:Option ae}{j:Array (Option aa)}{kV b e d ct:aa}(l:K.lookup f=some ⟨i,h,.func (PySem.W.fnOf x a (qj st) (oZ st) (ck st) .none kV b e g d ct),j⟩)
  (c:PySem.W.codeIn K d a=true) (k:PySem.W.keepIn K (.ref f)=true):bj K x a st f (PySem.W.fnOf x a (qj st) (oZ st) (ck st) .none kV b e g d ct):=⟨⟨i,h,kV,b,e,g,d,ct,j,rfl,l,c⟩,k⟩
theorem yk{n:Nat}(h:n<=1000):n<sizeLine:=Ys h 'b'
section
variable{X:Cx}
theorem pv(i:Nat){x:ar}{a:aC}(b:X.N[i]?=some x:=by rfl)(d:xo X.env.scope x:=by first|exact Or.inl rfl|exact Or.inr (Or.inl rfl)|exact Or.inr (Or.inr rfl))(e:(x==("__debug__":ar))=false:=by decide)
  (c:(x==("__classdict__":ar))=false:=by decide):PE X (.Name x a) (pB i):=xH4 b d e c
end
theorem cJ{A B:Prop}(h:B):if false=true then A else B:=by
 rw[Zi Zv];exact h
theorem cM{A B:Prop}(h:A):if true=true then A else B:=by
 rw[Zk rfl];exact h
theorem c7{c A B:Prop}[Decidable c](h1:c->A)(a:¬c->B):if c then A else B:=by
 by_cases h:c
 ·rw[Zk h];exact h1 h
 ·rw[Zi h];exact a h
theorem xR9{c A B:Prop}[Decidable c](hc:c)(h:B):if(!decide c)=true then A else B:=by
 rw[Zo hc];exact cJ h
def aG(H a:Hp):Prop:=∀b o,H b=some o->a b=some o
theorem aG.refl(H:Hp):aG H H:=λ_ _ h=>h
theorem aG.trans{H e d:Hp}(a:aG H e)(b:aG e d):aG H d:=λc o h=>b c o (a c o h)
theorem aG.seq{K:PySem.W.Frag}{H b:Hp}{a:ae}{xs:List V}(e:aG H b)(h:cq K H a xs):cq K b a xs:=by
 rcases h with(h|⟨o,h⟩)|h
 ·exact .inl (.inl (e _ _ h))
 ·exact .inl (.inr ⟨o,e _ _ h⟩)
 ·exact .inr h
section
variable{X:Cx}
theorem KD{env:Env}:∀{names:List (ar×NameKind)}{acc:List (ar×ae)},
  (∀p∈names,p.2=.free->∃c,cellOf env p.1=pure c/\env.cells.lookup p.1=some c) ->
  (∀y c,acc.lookup y=some c->env.cells.lookup y=some c) ->
  ∃b:List (ar×ae),(forIn names acc λp cs=>(if p.2==.free then(do let c <- cellOf env p.1;pure (ForInStep.yield ((p.1,c)::cs)))else pure (ForInStep.yield cs):Sem (ForInStep (List (ar×ae)))))=pure b /\
   (∀y c,b.lookup y=some c->env.cells.lookup y=some c)/\(∀y,(acc.lookup y).isSome=true->(b.lookup y).isSome=true)/\∀p∈names,p.2=.free->(b.lookup p.1).isSome=true
 |[],acc,_,g=>⟨acc,by simp,g,λ_ h=>h,λ_ h=>absurd h (by simp)⟩
 |(n,k)::r,acc,j,g=>by
  by_cases hk:k=.free
  ·subst hk;obtain⟨c,t,s⟩:=j (n,.free) Zz rfl;obtain⟨b,h1,m,f,l⟩:=KD (env:=env) (names:=r) (acc:=(n,c)::acc) (λp a=>j p (Zp _ a)) (λy d h=>by
    rw[YS]at h;cases e:y==n with
    |true=>rw[e]at h;cases h;rw[eq_of_beq e];exact s
    |false=>rw[e]at h;exact g y d h)
   refine⟨b,?_,m,λy e=>f y (by
    rw[YS];cases y==n with
    |true=>rfl
    |false=>exact e),λp a i=>?_⟩
   ·rw[UP];have q:cellOf env n=pure c:=t;simp only[UC,Xh,q,V5];exact h1
   ·rcases Zu.mp a with rfl|a
    ·exact f _ (by simp[YS])
    ·exact l p a i
  ·obtain⟨b,h1,m,f,l⟩:=KD (env:=env) (names:=r) (acc:=acc) (λp a=>j p (Zp _ a)) g;refine⟨b,?_,m,f,λp a i=>?_⟩
   ·rw[UP];have:(k==NameKind.free)=false:=by simpa using hk
    simp only[this,Zt,ZX,V5];exact h1
   ·rcases Zu.mp a with rfl|a
    ·exact absurd i hk
    ·exact l p a i
def E9(h:TI)(te:TE):TE:=λc H Q=>h c H λJ g=>∀D,g D=none->∃W:Nat->Nat->List V->Hp->Prop,(∃m,W 0 m [] (upd g D (.lst []))) /\
 ∀i m a b,W i m a b->b D=some (.lst a)/\a.length<sizeLine/\((J.stop i b/\Q (.ref D) b)\/(J.go i b/\∀y e,J.lV i b y e ->
  te (some y::c) e λv d=>d D=some (.lst a)/\∃f,f<m/\W (i+1) f (a++[v]) (upd d D (.lst (a++[v])))))
theorem qx1{scope:az}{env:Env}(f:∀p∈scope.names,p.2=.free->∃c,env.cells.lookup p.1=some c):
  ∃a:List (ar×ae),closureFor scope env=pure a/\(∀y c,a.lookup y=some c->env.cells.lookup y=some c)/\∀p∈scope.names,p.2=.free->(a.lookup p.1).isSome=true:=by
 obtain⟨a,h1,b,_,g⟩:=KD (env:=env) (names:=scope.names) (acc:=[]) (λp d hk=>by
  obtain⟨c,e⟩:=f p d hk;refine⟨c,?_,e⟩;unfold cellOf;rw[e]) (λy c h=>by simp at h)
 refine⟨a,?_,b,g⟩;unfold closureFor;refine Eq.trans ?_ h1;simp only[bind_pure]
theorem Cg{env:Env}:∀{names:List (ar×NameKind)}{y:ar}{k:NameKind},(names.map λ(n,k)=>if(k==NameKind.free&&env.scope.kind==.function&&env.kindOf n==some .cell)then(n,NameKind.cell)else(n,k)).lookup y=some k ->
  (∀p∈names,p.2≠.cell)->(k=.cell\/k=.free)->∃p∈names,p.1=y/\p.2=.free
 |[],_,_,h,_,_=>by simp at h
 |(n,c)::r,y,k,h,d,hk=>by
  rw[ZB]at h;by_cases f:y=n
  ·subst f;by_cases a:c=.free
   ·exact⟨(y,c),Zz,rfl,a⟩
   ·exfalso;have e:(c==NameKind.free)=false:=by simpa using a
    simp only[e,US,Zt,ZX,YS,UC,Option.some.injEq]at h;rcases hk with z|z
    ·exact d _ Zz (h.trans z)
    ·exact a (h.trans z)
  ·have hb:(y==n)=false:=by simpa using f
   have g:(r.map λ(n,k)=>if(k==NameKind.free&&env.scope.kind==.function&&env.kindOf n==some .cell)then(n,NameKind.cell)else(n,k)).lookup y=some k:=by
    revert h;dsimp only;split<;>(intro h;simpa only[YS,hb]using h)
   obtain⟨p,b,e⟩:=Cg g (λp b=>d p (Zp _ b)) hk;exact⟨p,Zp _ b,e⟩
theorem Rq{env:Env}:∀{names:List (ar×NameKind)}{y:ar},(names.map λ(n,k)=>if(k==NameKind.free&&env.scope.kind==.function&&env.kindOf n==some .cell)then(n,NameKind.cell)else(n,k)).lookup y=some .local ->
  names.lookup y=some .local
 |[],_,h=>by simp at h
 |(n,b)::r,y,h=>by
  rw[ZB]at h;by_cases a:y=n
  ·subst a;rw[YS,UC];revert h;dsimp only;split
   ·intro h;simp[YS]at h
   ·intro h;simpa[YS]using h
  ·have hb:(y==n)=false:=by simpa using a
   rw[YS,hb];refine Rq (env:=env) ?_;revert h;dsimp only;split<;>(intro h;simpa only[YS,hb]using h)
end
section
variable{κ:Type}[DecidableEq κ]
def b_(kvs:List (κ×V))(k:κ):Option V:=(kvs.find? λkv=>decide (kv.1=k)).map (·.2)
def putK(kvs:List (κ×V))(k:κ)(v:V):List (κ×V):=
 if(kvs.any λkv=>decide (kv.1=k))=true then kvs.map (λkv=>if kv.1=k then(kv.1,v)else kv)else kvs++[(k,v)]
theorem om{p:κ×V}{r:List (κ×V)}{k:κ}(e:p.1=k):b_ (p::r) k=some p.2:=by simp[b_,XD,e]
theorem oj{p:κ×V}{r:List (κ×V)}{k:κ}(e:¬p.1=k):b_ (p::r) k=b_ r k:=by simp[b_,XD,e]
theorem o8(k:κ):∀a:List (κ×V),(a.any λkv=>decide (kv.1=k))=(b_ a k).isSome
 |[]=>rfl
 |p::r=>by
  rw[Xc];by_cases e:p.1=k
  ·simp only[om e,Zo e,Bool.true_or,Option.isSome_some]
  ·rw[oj e,Zm e,Bool.false_or];exact o8 k r
theorem Se(k j:κ)(y:V):∀a:List (κ×V),b_ (a.map λkv=>if kv.1=k then(kv.1,y)else kv) j=(b_ a j).map λx=>if j=k then y else x
 |[]=>rfl
 |p::r=>by
  have b:=Se k j y r;rw[ZB];by_cases h:p.1=k
  ·rw[Zk h];by_cases e:p.1=j
   ·rw[om (p:=(p.1,y)) e,om e,VO,Zk (e.symm.trans h)]
   ·rw[oj (p:=(p.1,y)) e,oj e,b]
  ·rw[Zi h];by_cases e:p.1=j
   ·rw[om (p:=p) e,om e,VO,Zi (λz=>h (e.trans z))]
   ·rw[oj (p:=p) e,oj e,b]
theorem S_(k j:κ)(y:V):∀a:List (κ×V),b_ a k=none->b_ (a++[(k,y)]) j=if j=k then some y else b_ a j
 |[],_=>by
  by_cases e:k=j
  ·rw[Zk e.symm];exact om (p:=(k,y)) e
  ·rw[Zi (λz=>e z.symm)];exact oj (p:=(k,y)) e
 |p::r,b=>by
  rw[List.cons_append];have hk:¬p.1=k:=λz=>by rw[om z]at b;cases b
  rw[oj hk]at b;have c:=S_ k j y r b;by_cases e:p.1=j
  ·rw[om e,om e,Zi (λz=>hk (e.trans z))]
  ·rw[oj e,oj e,c]
theorem Sd(kvs:List (κ×V))(k j:κ)(y:V):b_ (putK kvs k y) j=if j=k then some y else b_ kvs j:=by
 unfold putK;by_cases a:(kvs.any λkv=>decide (kv.1=k))=true
 ·rw[Zk a,Se];rw[o8]at a;by_cases e:j=k
  ·obtain⟨x,b⟩:=X5.mp a;rw[Zk e,e,b,VO,Zk rfl]
  ·rw[Zi e];cases b_ kvs j with
   |none=>rfl
   |some x=>rw[VO,Zi e]
 ·rw[Zi a];refine S_ k j y kvs ?_;rw[o8]at a;cases q:b_ kvs k with
  |none=>rfl
  |some x=>rw[q]at a;exact(a rfl).elim
theorem Gr(kvs:List (κ×V))(k:κ)(v:V):(putK kvs k v).length<=kvs.length+1:=by
 unfold putK;split
 ·rw[Zg];exact gT
 ·rw[Zw,ZM,VP];lia
theorem dG.cS{o:Option V}{u:Option aa}(r:dG o u):o.isSome=u.isSome:=by
 cases o with
 |none=>cases u with
  |none=>rfl
  |some _=>exact(show False from r).elim
 |some _=>cases u with
  |none=>exact(show False from r).elim
  |some _=>rfl
theorem dG.getD{o:Option V}{u:Option aa}{d:V}{d':aa}(r:dG o u)(a:RelV d d'):RelV (o.getD d) (u.getD d'):=by
 cases o with
 |none=>cases u with
  |none=>exact a
  |some _=>exact(show False from r).elim
 |some _=>cases u with
  |none=>exact(show False from r).elim
  |some _=>exact r
theorem KV.val{kvs:List (κ×V)}{vs:List (κ×aa)}(r:KV kvs vs)(k:κ):dG (b_ kvs k) (valueAt vs k):=by
 unfold KV at r
 induction r with
 |nil=>exact True.intro
 |@cons p q g a h t f=>
  obtain⟨h1,d⟩:=h;by_cases e:p.1=k
  ·have c:q.1=k:=h1.symm.trans e;have b:valueAt (q::a) k=some q.2:=by simp[valueAt,XD,c]
   rw[om e,b];exact d
  ·have c:¬q.1=k:=λz=>e (h1.trans z);have b:valueAt (q::a) k=valueAt a k:=by simp[valueAt,XD,c]
   rw[oj e,b];exact f
theorem KV.any{kvs:List (κ×V)}{vs:List (κ×aa)}(r:KV kvs vs)(k:κ):(kvs.any λkv=>decide (kv.1=k))=vs.any λkv=>decide (kv.1=k):=by
 unfold KV at r
 induction r with
 |nil=>rfl
 |cons h t a=>rw[Xc,Xc,a,h.1]
theorem KV.pY{kvs:List (κ×V)}{vs:List (κ×aa)}(r:KV kvs vs)(k:κ){y:V}{u:aa}(c:RelV y u):
  KV (kvs.map λkv=>if kv.1=k then(kv.1,y)else kv) (vs.map λkv=>if kv.1=k then(kv.1,u)else kv):=by
 unfold KV at r ⊢
 induction r with
 |nil=>exact .nil
 |@cons p q f d h t b=>
  rw[ZB,ZB];refine .cons ?_ b;obtain⟨h1,a⟩:=h;by_cases e:p.1=k
  ·rw[Zk e,Zk (h1.symm.trans e)];exact⟨h1,c⟩
  ·rw[Zi e,Zi (λz=>e (h1.trans z))];exact⟨h1,a⟩
theorem KV.put{kvs:List (κ×V)}{vs:List (κ×aa)}(r:KV kvs vs)(k:κ){y:V}{u:aa}(a:RelV y u):KV (putK kvs k y) (stored vs k u):=by
 unfold putK stored;rw[r.any k];by_cases e:(vs.any λkv=>decide (kv.1=k))=true
 ·rw[Zk e,Zk e];exact r.pY k a
 ·rw[Zi e,Zi e];exact Paired.snoc r ⟨rfl,a⟩
theorem KV.keys{kvs:List (κ×V)}{vs:List (κ×aa)}(r:KV kvs vs):kvs.map (·.1)=vs.map (·.1):=by
 unfold KV at r
 induction r with
 |nil=>rfl
 |cons h t a=>rw[ZB,ZB,a,h.1]
theorem KV.length{kvs:List (κ×V)}{vs:List (κ×aa)}(r:KV kvs vs):kvs.length=vs.length:=Yx r
end
theorem vy{P:ag}{w:ai}{k:Key}{u:aa}(r:RelV (kV k) u):(g_ P w).is k u=true:=by
 cases k with
 |inl i=>obtain⟨t,e⟩:=(show ∃t,u=Value.int i t from r);subst e;exact qP5 P w i t
 |inr x=>obtain⟨t,e⟩:=(show ∃t,u=Value.str x t from r);subst e;exact qP6 P w x t
theorem Ku{P:ag}{w:ai}:∀{a:List Key}{b:List aa},Vals (a.map kV) b->ItemsAre (g_ P w) a b
 |[],_,r=>by rw[WQ]at r;cases r;exact .nil
 |k::a,_,r=>by
  rw[ZB]at r;cases r with
  |cons h t=>exact .cons (vy h) (Ku t)
abbrev KT(H:Hp):List (List Key×V)->List (List Key×ae×aa)->Prop:=Paired λp q=>p.1=q.1/\H q.2.1=some (.tup (p.1.map kV))/\RelV p.2 q.2.2
theorem KT.val{H:Hp}{kvs:List (List Key×V)}{xs:List (List Key×ae×aa)}(r:KT H kvs xs)(k:List Key):dG (b_ kvs k) ((atKey xs k).map (·.2)):=by
 induction r with
 |nil=>exact True.intro
 |@cons p q g c h t f=>
  obtain⟨h1,_,d⟩:=h;by_cases e:p.1=k
  ·have a:q.1=k:=h1.symm.trans e;have b:atKey (q::c) k=some q.2:=by simp[atKey,XD,a]
   rw[om e,b];exact d
  ·have a:¬q.1=k:=λz=>e (h1.trans z);have b:atKey (q::c) k=atKey c k:=by simp[atKey,XD,a]
   rw[oj e,b];exact f
theorem KT.pY{H:Hp}{kvs:List (List Key×V)}{xs:List (List Key×ae×aa)}(r:KT H kvs xs)(k:List Key){y:V}{u:aa}(d:RelV y u):
  KT H (kvs.map λkv=>if kv.1=k then(kv.1,y)else kv) (xs.map (putAt k u)):=by
 induction r with
 |nil=>exact .nil
 |@cons p q g f h t c=>
  rw[ZB,ZB];refine .cons ?_ c;obtain⟨h1,a,b⟩:=h;unfold putAt;by_cases e:p.1=k
  ·rw[Zk e,Zk (h1.symm.trans e)];exact⟨h1,a,d⟩
  ·rw[Zi e,Zi (λz=>e (h1.trans z))];exact⟨h1,a,b⟩
theorem KT.put{H:Hp}{kvs:List (List Key×V)}{xs:List (List Key×ae×aa)}(r:KT H kvs xs)(k:List Key){b:ae}{y:V}{u:aa}(hb:H b=some (.tup (k.map kV)))(a:RelV y u):
  KT H (putK kvs k y) (storedH xs k b u):=by
 have e:(kvs.any λkv=>decide (kv.1=k))=(atKey xs k).isSome:=by
  rw[o8,(r.val k).cS,Wx]
 unfold putK storedH;rw[e];by_cases q:(atKey xs k).isSome=true
 ·rw[Zk q,Zk q];exact r.pY k a
 ·rw[Zi q,Zi q];exact Paired.snoc r ⟨rfl,hb,a⟩
theorem KT.keeps{H c:Hp}{kvs:List (List Key×V)}{xs:List (List Key×ae×aa)}(r:KT H kvs xs)(d:∀b a,H b=some (.tup a)->c b=some (.tup a)):KT c kvs xs:=
 Paired.qH r λ_ _ z=>⟨z.1,d _ _ z.2.1,z.2.2⟩
section
variable{H:Hp}{h:ao}{a:ae}
theorem IF{u:HO}(ok:dJ P w H h)(e:Rd H a u):bo P w H h a u:=e.ok ok
theorem yu{kvs:List (Key×V)}(ok:dJ P w H h)(e:Rd H a (.dK kvs)):kvs.length<=sizeLine/\(a==sysModules)=false/\∃b,KV kvs b/\h.DictOf (g_ P w) a b:=
 show bo P w H h a (.dK kvs)from IF ok e
theorem QT{kvs:List (Key×V)}(ok:dJ P w H h)(e:H a=some (.dK kvs)):kvs.length<=sizeLine/\(a==sysModules)=false/\∃b,KV kvs b/\h.DictOf (g_ P w) a b:=yu ok (.inl e)
theorem ya{b:List Key}(ok:dJ P w H h)(e:H a=some (.tup (b.map kV))):(tupleKind (g_ P w)).is h b a:=by
 obtain⟨_,f,r,o,h1,d,n,c⟩:=(show bo P w H h a (.tup (b.map kV))from ok a _ e);exact⟨o,f.toArray,n,h1,d,c,by simpa using Ku r⟩
theorem yt{kvs:List (List Key×V)}(ok:dJ P w H h)(e:Rd H a (.dT kvs)):kvs.length<=sizeLine/\(a==sysModules)=false /\
  ∃c,KT H kvs c/\h.DictOfH (tupleKind (g_ P w)) a c:=by
 obtain⟨z,y,c,r,o,g,i,h1,n,f,j,k⟩:=(show bo P w H h a (.dT kvs)from IF ok e);refine⟨z,y,c,r,o,g,i,h1,n,f,j,λx b=>?_,k⟩;have all:∀{l:List (List Key×V)}{m:List (List Key×ae×aa)},KT H l m->∀x∈m,(tupleKind (g_ P w)).is h x.1 x.2.1:=by
  intro l m q
  induction q with
  |nil=>intro x b;exact nomatch b
  |@cons p q u v d t s=>
   intro x b;rcases Zu.mp b with e|b
   ·subst e;exact ya ok (by rw[<- d.1];exact d.2.1)
   ·exact s x b
 exact all r x b
theorem QS{kvs:List (List Key×V)}(ok:dJ P w H h)(e:H a=some (.dT kvs)):kvs.length<=sizeLine/\(a==sysModules)=false /\
  ∃b,KT H kvs b/\h.DictOfH (tupleKind (g_ P w)) a b:=yt ok (.inl e)
end
def dn(H:Hp)(a:ae)(y:V)(r:Option V):Prop:=
 (∃c k,Rd H a (.dK c)/\y=kV k/\r=b_ c k)\/∃c k b,Rd H a (.dT c)/\y=.ref b/\H b=some (.tup (k.map kV))/\r=b_ c k
def gO(H:Hp)(a:ae)(y v:V)(d:Hp):Prop:=
 (∃c k,H a=some (.dK c)/\y=kV k/\c.length<sizeLine/\d=upd H a (.dK (putK c k v))) \/
 ∃c k b,H a=some (.dT c)/\y=.ref b/\H b=some (.tup (k.map kV))/\c.length<sizeLine/\d=upd H a (.dT (putK c k v))
theorem dn.k{H:Hp}{a:ae}{kvs:List (Key×V)}{k:Key}(e:H a=some (.dK kvs)):dn H a (kV k) (b_ kvs k):=.inl ⟨kvs,k,.inl e,rfl,rfl⟩
theorem dn.t{H:Hp}{a b:ae}{kvs:List (List Key×V)}{k:List Key}(e:H a=some (.dT kvs))(c:H b=some (.tup (k.map kV))):dn H a (.ref b) (b_ kvs k):=.inr ⟨kvs,k,b,.inl e,rfl,c,rfl⟩
theorem gO.k{H:Hp}{a:ae}{kvs:List (Key×V)}{k:Key}{v:V}(e:H a=some (.dK kvs))(b:kvs.length<sizeLine):gO H a (kV k) v (upd H a (.dK (putK kvs k v))):=.inl ⟨kvs,k,e,rfl,b,rfl⟩
theorem gO.t{H:Hp}{a b:ae}{kvs:List (List Key×V)}{k:List Key}{v:V}(e:H a=some (.dT kvs))(c:H b=some (.tup (k.map kV)))(d:kvs.length<sizeLine):
  gO H a (.ref b) v (upd H a (.dT (putK kvs k v))):=.inr ⟨kvs,k,b,e,rfl,c,d,rfl⟩
section
variable{X:Cx}{j8:List (ae×aw)}{σ:St}{H:Hp}{s:ab}{a:ae}{y v:V}{u r:aa}{o:Option V}{A:aj}{E:aa->ab->Prop}
theorem Inv.big(I:Inv X j8 σ H s):sysModules<s.heap.objs.size:=by
 have h:mainGlobals<s.heap.objs.size:=(I.mod.glob.keeps I.bk).lt;exact V2 'b' h
theorem q65{Q:aa->ab->Prop}(D:A.units+1<cLine)(I:Inv X j8 σ H s)(g:dn H a y (some v))(q:RelV y u)(h:∀d t,Inv X j8 σ H t->RelV v d->Q d t):
  af (ah X.prog X.w) A (getItem (.ref a) u) Q E s:=by
 rcases g with⟨f,k,e,m,l⟩|⟨f,k,b,e,m,x,l⟩
 ·subst m;obtain⟨z,F,G,c,n⟩:=yu I.aO e;obtain⟨d,j,i⟩:=dG.some_of (v:=v) (o:=valueAt G k) (by rw[l];exact c.val k);exact wpAny_getItem_of (vy q) n.mapOf j (h d _ (I.tok _) i)
 ·subst m;cases(show u=Value.ref b from q);obtain⟨z,F,w,c,n⟩:=yt I.aO e;obtain⟨d,j,i⟩:=dG.some_of (v:=v) (o:=(atKey w k).map (·.2)) (by rw[l];exact c.val k);obtain⟨p,B,C⟩:=Zl.mp j;refine wpAny_getItem_heap (Wp D) (ya I.aO x) n B ?_;rw[C];exact h d _ (I.tok _) i
theorem Oe{Q:aa->ab->Prop}(p:A.units+1<cLine)(I:Inv X j8 σ H s)(g:dn H a y o)(m:RelV y u)(h:∀n,Inv X j8 σ H n->Q (.bool o.isSome) n):
  af (ah X.prog X.w) A (compareOp .In u (.ref a)) Q E s:=by
 rcases g with⟨i,k,e,f,l⟩|⟨i,k,b,e,f,t,l⟩
 ·subst f;obtain⟨z,j,x,c,d⟩:=yu I.aO e;refine wpAny_in_of (vy m) j d.mapOf ?_;rw[<- (c.val k).cS,<- l];exact h _ (I.tok _)
 ·subst f;cases(show u=Value.ref b from m);obtain⟨z,j,w,c,d⟩:=yt I.aO e;refine wpAny_in_heap (Wp p) (ya I.aO t) j d ?_;have q:=(c.val k).cS;rw[Wx]at q;rw[<- q,<- l];exact h _ (I.tok _)
theorem xy8{Q:aa->ab->Prop}(p:A.units+1<cLine)(I:Inv X j8 σ H s)(g:dn H a y o)(m:RelV y u)(h:∀n,Inv X j8 σ H n->Q (.bool (!o.isSome)) n):
  af (ah X.prog X.w) A (compareOp .NotIn u (.ref a)) Q E s:=by
 rcases g with⟨i,k,e,f,l⟩|⟨i,k,b,e,f,t,l⟩
 ·subst f;obtain⟨z,j,x,c,d⟩:=yu I.aO e;refine wpAny_notIn_of (vy m) j d.mapOf ?_;rw[<- (c.val k).cS,<- l];exact h _ (I.tok _)
 ·subst f;cases(show u=Value.ref b from m);obtain⟨z,j,w,c,d⟩:=yt I.aO e;refine wpAny_notIn_heap (Wp p) (ya I.aO t) j d ?_;have q:=(c.val k).cS;rw[Wx]at q;rw[<- q,<- l];exact h _ (I.tok _)
theorem Hc{h':ao}{t':Nat}{ob:HO}(I:Inv X j8 σ H s)(c:EV (H a))(hs:Heap.SameBut a s.heap h')(d:∃q,h'.get? a=some q)(new:bo X.prog X.w (upd H a ob) h' a ob):
  Inv X j8 σ (upd H a ob) {s with heap:=h',toks:=t'}:=
 I.write (x:=a) (e:=a) c (.inl rfl) (λb q hb z=>(hs.2 b hb).trans z) d new
theorem xJ1{P:ag}{w:ai}{c:Hp}{h':ao}{kvs:List (Key×V)}{vs:List (Key×aa)}(z:kvs.length<=sizeLine)(d:(a==sysModules)=false)(b:KV kvs vs)(e:h'.DictOf (g_ P w) a vs):
  bo P w c h' a (.dK kvs):=⟨z,d,vs,b,e⟩
theorem q66{K:Hp}{Q:Unit->ab->Prop}(V:A.units+1<cLine)(I:Inv X j8 σ H s)(g:gO H a y v K)(J:RelV y u)(F:RelV v r)(h:∀L,Inv X j8 σ K L->Q () L):
  af (ah X.prog X.w) A (setItem (.ref a) u r) Q E s:=by
 rcases g with⟨d,k,e,p,l,w⟩|⟨d,k,b,e,p,C,l,w⟩
 ·subst p w;obtain⟨z,x,U,f,B⟩:=QT I.aO e;have m:U.length<=sizeLine:=by rw[<- f.length];exact z
  have t:(putK d k v).length<=sizeLine:=by have:=Gr d k v;exact yO l this
  refine wpAny_setItem_pairs (hsz:=m) (vy J) B λG i n=>h _ ?_;have N:∃q,G.get? a=some q:=let ⟨q,_,_,j,_⟩:=i;⟨q,j⟩;exact Hc I (by rw[e];exact True.intro) n N (xJ1 t x (f.put k F) i)
 ·subst p w;cases(show u=Value.ref b from J);obtain⟨z,x,M,f,B⟩:=QS I.aO e;have m:M.length<=sizeLine:=by rw[<- Yx f];exact z
  have t:(putK d k v).length<=sizeLine:=by have:=Gr d k v;exact yO l this
  refine wpAny_setItem_heap (hsz:=m) (Wp V) (ya I.aO C) B λG i n=>h _ ?_;obtain⟨q,P,R,j,W,O,S,_,T⟩:=i;refine Hc I (by rw[e];exact True.intro) n ⟨q,j⟩ ⟨t,x,_,(f.put k C F).keeps λc Y D=>?_,q,P,R,j,W,O,S,T⟩;rw[bV (Aq D e (λz=>nomatch z))];exact D
end
def EU(i:av):Prop:=∀a b,subscripted i false a b=operate [a,b] (getItem a b)
theorem xy9{prog:ag}{w:ai}{A:aj}{E:aa->ab->Prop}{s:ab}{env:Env}{b a:av}{e:aC}{T id:String}{Q:aa->ab->Prop}
  (n:typeLookup (.type T) "__getitem__"=pure (some (.builtin id))) (hs:EU a)
  (h:af (ah prog w) A (eval b env) (λo j=>af (ah prog w) A (eval a env) (λi d=>d.TypeIs o T/\af (ah prog w) A (getItem o i) Q E d) E j) E s):
  af (ah prog w) A (eval (.Subscript b a e) env) Q E s:=by
 refine Subscript_ (Y7 h (λo j l=>Y7 l (λi d f=>?_) λ_ _ x=>x) λ_ _ x=>x);obtain⟨k,f⟩:=f;unfold subscriptTail;refine Za ?_;rw[getitemInPython_of_ne k.not_modules];refine Za (XE k n ?_);have c:af (ah prog w) A (subscripted a false o i) (λr g=>af (ah prog w) A (letTemporaryGo b o r >>= λ_=>pure r) Q E g) E d:=by
  rw[hs o i];exact wpAny_operating (Y7 f (λr g m=>Za (wpAny_letTemporaryGo (Zb m))) λ_ _ x=>x)
 first
  |exact Zb (Za c)
  |exact Za (Zb (Za c))
  |exact Za c
theorem qQ6{X:Cx}{f:List (ae×aw)}{σ:St}{H:Hp}{s:ab}{a:ae}{y:V}{o:Option V}(I:Inv X f σ H s)(g:dn H a y o):s.TypeIs (.ref a) "dict":=by
 rcases g with⟨d,k,e,_,_⟩|⟨d,k,b,e,_,_,_⟩
 ·obtain⟨_,_,i,_,c⟩:=yu I.aO e;exact c.typeIs
 ·obtain⟨_,_,h,_,c⟩:=yt I.aO e;exact c.typeIs
inductive xA(Q:VK)(x y:V)(H2:Hp):Prop
 |mk(a:_)(v:_)(e0:x=.ref a)(e1:dn H2 a y (some v))(e2:Q v H2)
def xS0(b ty:TE):TE:=λa H Q=>b a H λx d=>ty a d λy c=>xA Q x y c
inductive Bj(Q:VK)(x y:V)(H2:Hp):Prop
 |mk(a:_)(o:_)(e0:x=.ref a)(e1:dn H2 a y o)(e2:Q (.bl o.isSome) H2)
def J5(ty c:TE):TE:=λa H Q=>ty a H λy b=>c a b λx d=>Bj Q x y d
inductive pE(Q:VK)(x y:V)(H2:Hp):Prop
 |mk(a:_)(o:_)(e0:x=.ref a)(e1:dn H2 a y o)(e2:Q (.bl (!o.isSome)) H2)
def xz0(ty c:TE):TE:=λa H Q=>ty a H λy b=>c a b λx d=>pE Q x y d
inductive xU(D:Ends)(σ:St)(v x y:V)(H3:Hp):Prop
 |mk(a:_)(H4:_)(e0:x=.ref a)(e1:gO H3 a y v H4)(e2:D.nx σ H4)
def xS1(b ty e:TE):TS:=λD a H=>e a H λv f=>b a f λx d=>ty a d λy c=>xU D a v x y c
section
variable{X:Cx}{o i e value:av}{pos pos' eZ:aC}{td ty tv:TE}
theorem xz1(r:X.A.units+1<cLine)(t:PE X o td)(f:PE X i ty)(hs:EU i):PE X (.Subscript o i pos) (xS0 td ty):=by
 intro d s b H Q I h;refine xy9 Um.lookup hs (bz (t d s b H _ I h) λu B ⟨x,m,q,p,w⟩=>bz (f d B b m _ q w) λC E ⟨y,l,c,n,a,v,ex,g,j⟩=>?_);subst ex;obtain rfl:u=Value.ref a:=p;exact⟨qQ6 c g,q65 r c g n λD F A k=>⟨v,l,A,k,j⟩⟩
theorem CB(r:X.A.units+1<cLine)(d:PE X i ty)(t:PE X o td):PC X .In i o (J5 ty td):=by
 intro c s b H Q I h;refine bz (d c s b H _ I h) λB A ⟨y,l,q,n,v⟩=>bz (t c A b l _ q v) λu C ⟨x,k,m,p,a,j,ex,g,f⟩=>?_;subst ex;obtain rfl:u=Value.ref a:=p;exact Oe r m g n λD w=>⟨.bl j.isSome,k,w,rfl,f⟩
theorem S9(r:X.A.units+1<cLine)(d:PE X i ty)(t:PE X o td):PC X .NotIn i o (xz0 ty td):=by
 intro c s b H Q I h;refine bz (d c s b H _ I h) λB A ⟨y,l,q,n,v⟩=>bz (t c A b l _ q v) λu C ⟨x,k,m,p,a,j,ex,g,f⟩=>?_;subst ex;obtain rfl:u=Value.ref a:=p;exact xy8 r m g n λD w=>⟨.bl (!j.isSome),k,w,rfl,f⟩
theorem BS(B:X.A.units+1<cLine)(C:PE X o td)(d:PE X i ty)(w:PE X value tv)(hs:swapsWith value (some (.Subscript o i pos')) pos.line X.env=pure false):
  PS X (.Assign [.Subscript o i pos'] value pos) (xS1 td ty tv):=by
 intro c s b H D I h;refine wpAny_Assign_Subscript (bz (w c s b H _ I h) λr K ⟨v,m,A,k,E⟩=>bz (C c K b m _ A E) λu p ⟨x,l,n,t,f⟩=>bz (d c p b l _ n f) λL O ⟨y,N,J,q,a,G,ex,g,F⟩=>?_) hs;subst ex;obtain rfl:u=Value.ref a:=t;exact q66 B J g q k λM j=>⟨b,G,j,F⟩
end
theorem Sb{P:ag}{w:ai}{H:Hp}(h:ao)(hb:sysModules<h.objs.size):bo P w H (h.push {cls:=.type "dict",data:=.dict #[]}) h.objs.size (.dT []):=
 ⟨Zs _,Xf.mpr (YE (Zy hb)),[],.nil,_,#[],0,Zj _ rfl,⟨rfl,rfl,rfl⟩,rfl,rfl,Xv⟩
def xJ2:TE:=λ_ H Q=>∀p,H p=none->Q (.ref p) (upd H p (.dT []))
section
variable{X:Cx}{pos:aC}
theorem F_:PE X (.Dict [] [] pos) xJ2:=λc s b H Q I h=>
 wpAny_Dict_empty ⟨.ref s.heap.objs.size,_,I.laid (a:=s.heap.objs.size) (o:=.dT []) (t':=s.toks) (λ_ _ q=>Zc _ q) (Zd _) (Sb s.heap I.big),rfl,h _ (I.aO.fresh (Zd _))⟩
end
structure M2(X:Cx)(o:av)(m:ar)(apos:aC)(e f:av)(cY:aC):Prop where
 base:attributeBase o m X.env (eval o X.env)=eval o X.env
 N3:((backTo cY (starEach [e,f] X.env)).all (λx=>!x.1)&&(backToKw cY (keywordEach [] X.env)).all (λx=>x.1.isSome)
  && decide (([e,f]:List av).length+([]:List Keyword).length+(if([]:List Keyword).isEmpty then 0 else 1)<30))=true
 line:(apos.endLine==cY.line)=true
 trees:backTo cY (starEach [e,f] X.env)=[(false,eval e X.env),(false,eval f X.env)]
def IsD(H:Hp)(a:ae):Prop:=(∃b,Rd H a (.dK b))\/∃b,Rd H a (.dT b)
theorem xJ3{X:Cx}{i:List (ae×aw)}{σ:St}{H:Hp}{s:ab}{a:ae}(I:Inv X i σ H s)(d:IsD H a):
  s.TypeIs (.ref a) "dict" /\ (∀b,Value.ref a=.ref b->∃ob,s.heap.get? b=some ob/\ob.dict=none)/\(a==sysModules)=false:=by
 rcases d with⟨g,e⟩|⟨g,e⟩
 ·obtain⟨_,h,k,_,c⟩:=yu I.aO e;refine⟨c.typeIs,λb q=>?_,h⟩;cases q;obtain⟨ob,_,_,h1,f,_⟩:=c;exact⟨ob,h1,f.2.1⟩
 ·obtain⟨_,h,j,_,c⟩:=yt I.aO e;refine⟨c.typeIs,λb q=>?_,h⟩;cases q;obtain⟨ob,_,_,h1,f,_⟩:=c;exact⟨ob,h1,f.2.1⟩
section
variable{X:Cx}{j8:List (ae×aw)}{σ:St}{H:Hp}{s:ab}{a:ae}{y d:V}{u r:aa}{o:Option V}{A:aj}{E:aa->ab->Prop}
theorem xJ4{Q:aa->ab->Prop}(w:A.units+1<cLine)(I:Inv X j8 σ H s)(g:dn H a y o)(q:RelV y u)(p:RelV d r)(h:∀n t,Inv X j8 σ H t->RelV (o.getD d) n->Q n t):
  af (ah X.prog X.w) A (call (.builtin "dict.get") [.ref a,u,r]) Q E s:=by
 rcases g with⟨j,k,e,i,l⟩|⟨j,k,b,e,i,x,l⟩
 ·subst i;obtain⟨z,m,B,c,f⟩:=yu I.aO e;refine call_meetsIn Vy f.typeIs PySem.F.entry_dict_get (PySem.F.args_dict_get_3 _ _ _) (meets_dict_get_default (g_ X.prog X.w) a (vy q) m r) ⟨_,f.mapOf,h _ _ (I.tok _) ?_⟩;rw[l];exact(c.val k).getD p
 ·subst i;cases(show u=Value.ref b from q);obtain⟨z,m,v,c,f⟩:=yt I.aO e;refine call_meetsIn Vy f.typeIs PySem.F.entry_dict_get (PySem.F.args_dict_get_3 _ _ _) (meetsH_dict_get_default (tupleKind (g_ X.prog X.w)) a b m r) ⟨Wp w,k,v,ya I.aO x,f,h _ _ (I.tok _) ?_⟩;rw[l];exact(c.val k).getD p
end
def xJ5(e ty f:TE):TE:=λb H Q=>e b H λx c=>∃a,x=.ref a/\IsD c a/\ty b c λy g=>f b g λz d=>∃o,dn d a y o/\Q (o.getD z) d
section
variable{X:Cx}{o e f:av}{apos cY:aC}{td ty tx:TE}
theorem xk6(D:X.A.units+1<cLine)(F:PE X o td)(j:PE X e ty)(v:PE X f tx)(m:M2 X o "get" apos e f cY):PE X (.Call (.Attribute o "get" apos) [e,f] [] cY) (xJ5 td ty tx):=by
 intro c s b H Q I h;refine wpAny_Call_method m.base m.N3 m.line PySem.F.plainAttrs_dict Vy PySem.F.type_dict_get (bz (F c s b H _ I h) λu M ⟨x,r,i,C,a,ex,d,G⟩=>?_);subst ex;obtain rfl:u=Value.ref a:=C;obtain⟨E,w,_⟩:=xJ3 i d;refine⟨E,w,?_⟩;rw[m.trees];refine Vj rfl (Calls.evalArgs_plain (V9 (bz (j c M b r _ i G) λN A ⟨y,q,t,B,l⟩=>
  V9 (bz (v c A b q _ t l) λT S ⟨z,K,L,k,R,g,J⟩=>Calls.spliced_nil ?_))))
 exact xJ4 D L g B k λP O n p=>⟨_,K,n,p,J⟩
end
end L2
namespace cm
open PySem
def g:Nat->Nat
 |0=>0
 |n+1=>5*g n+1
def F:Nat->Nat->Nat
 |0,x=>x
 |n+1,x=>5*F n x+1
theorem zR(n x:Nat):F n x=x+g n*(4*x+1):=by
 induction n with
 |zero=>simp[F,g]
 |succ n a=>
  show 5*F n x+1=x+(5*g n+1)*(4*x+1);rw[a,VL,Nat.one_mul,YR];lia
theorem IE(m n x:Nat):F (m+n) x=F m (F n x):=by
 induction m with
 |zero=>simp[F]
 |succ m a=>
  rw[Nat.succ_add];show 5*F (m+n) x+1=5*F m (F n x)+1;rw[a]
theorem g_F(n:Nat):g n=F n 0:=by
 rw[zR];simp
theorem xS2(m n:Nat):g (m+n)=g n+g m*(4*g n+1):=by
 rw[g_F,IE,zR m,<- g_F n]
theorem QR:∀k:Nat,∃c,g (2^k)=2^k*(2*c+1)
 |0=>⟨0,rfl⟩
 |k+1=>by
  obtain⟨c,a⟩:=QR k;have e:g (2^(k+1))=g (2^k)*(4*g (2^k)+2):=by
   rw[YJ,Nat.mul_two,xS2];generalize g (2^k)=y;rw[WD,WD];lia
  rw[e,a];refine⟨2^k*(2*c+1)*(2*c+1)+c,?_⟩;rw[YJ];generalize 2^k=p;have h1:p*(2*c+1)*(4*(p*(2*c+1))+2)=p*2*((2*c+1)*(2*(p*(2*c+1))+1)):=by
   have:4*(p*(2*c+1))+2=2*(2*(p*(2*c+1))+1):=by lia
   rw[this,YR,YR,Ur (2*c+1) 2]
  rw[h1];congr 1;rw[WD,Nat.mul_one,Ur,Z7 (2*c+1) (p*(2*c+1))];lia
theorem Ha(k a q:Nat):(2^k*a+q)%2^(k+1)=(2^k*(a%2)+q)%2^(k+1):=by
 have b:a=2*(a/2)+a%2:=by lia
 have:2^k*a+q=(2^k*(a%2)+q)+2^(k+1)*(a/2):=by
  have h:2^k*a+q=2^k*(2*(a/2)+a%2)+q:=by rw[<- b]
  rw[h,YJ,WD,YR];lia
 rw[this,Nat.add_mul_mod_self_left]
theorem QP:∀(k x y:Nat),∃r,r<2^k/\F r x%2^k=y%2^k
 |0,x,y=>⟨0,by decide,by simp[Nat.mod_one]⟩
 |k+1,x,y=>by
  obtain⟨r,j,e⟩:=QP k x y;obtain⟨c,f⟩:=QR k;have i:F (2^k+r) x=F r x+2^k*(2*c+1)*(4*F r x+1):=by
   rw[IE,zR (2^k),f]
  have a:2^k*(y/2^k)+y%2^k=y:=Yo y _;have d:2^k*(F r x/2^k)+F r x%2^k=F r x:=Yo _ _;by_cases h:F r x/2^k%2=y/2^k%2
  ·refine⟨r,by lia,?_⟩;rw[<- d,<- a,Ha,h,<- Ha,e]
  ·refine⟨2^k+r,by lia,?_⟩;rw[i];generalize F r x=z at *;have o:(2*c+1)*(4*z+1)=2*(c*(4*z+1)+2*z)+1:=by
    rw[VL,Nat.one_mul,YR];lia
   have g:z+2^k*(2*c+1)*(4*z+1)=2^k*(z/2^k+(2*(c*(4*z+1)+2*z)+1))+z%2^k:=by
    rw[YR,o,WD (2^k) (z/2^k)];lia
   rw[g,<- a,Ha,e];have b:(z/2^k+(2*(c*(4*z+1)+2*z)+1))%2=y/2^k%2:=by lia
   rw[b,<- Ha]
def jo(mask:Nat):Nat->Nat->Nat->Nat
 |0,i,_=>i
 |r+1,i,p=>jo mask r (SetTable.leap mask i p).1 (SetTable.leap mask i p).2
theorem Rb(k:Nat):∀(r i:Nat),jo (2^k-1) r (i%2^k) 0=F r i%2^k
 |0,i=>rfl
 |r+1,i=>by
  have b:0<2^k:=W4 k;show jo (2^k-1) r ((i%2^k*5+1+0/32)%(2^k-1+1)) (0/32)=_;have a:2^k-1+1=2^k:=by exact qP b
  have c:(i%2^k*5+1+0/32)%2^k=(5*i+1)%2^k:=by
   simp only[Nat.zero_div,Y3];rw[Nat.add_mod,Nat.mul_mod,Nat.mod_mod,<- Nat.mul_mod,<- Nat.add_mod,Z7]
  rw[a,c,Nat.zero_div,Rb k r (5*i+1)];have:F r (5*i+1)=F (r+1) i:=by rw[IE r 1 i];rfl
  rw[this]
theorem Tv(mask:Nat):∀(a b i p:Nat),jo mask (a+b) i p=jo mask b (jo mask a i p) (p/32^a)
 |0,b,i,p=>by simp[jo]
 |a+1,b,i,p=>by
  rw[Nat.succ_add];show jo mask (a+b) _ _=jo mask b (jo mask a _ _) _;rw[Tv mask a b];show jo mask b _ (p/32/32^a)=_;rw[XH,YJ,Z7 (32^a) 32]
theorem S8(mask:Nat):∀(a i p:Nat),i<mask+1->jo mask a i p<mask+1
 |0,i,p,h=>h
 |a+1,i,p,_=>S8 mask a _ _ (Yr _ (V3 _))
theorem Ra(k i p j:Nat)(g:i<2^k)(b:p<2^64)(c:j<2^k):∃r,r<13+2^k/\jo (2^k-1) r i p=j:=by
 have h:=S8 (2^k-1) 13 i p 'a';obtain⟨r,d,e⟩:=QP k (jo (2^k-1) 13 i p) j;refine⟨13+r,ui d,?_⟩;rw[Tv];have a:p/32^13=0:=Yl (V2 b 'b');have f:jo (2^k-1) 13 i p=jo (2^k-1) 13 i p%2^k:=(XM 'a').symm;rw[a,f,Rb,e,XM c]
theorem q67(mask i:Nat):SetTable.runEnd mask i-i<=9:=by unfold SetTable.runEnd;split<;>lia
def gY(t:aq):Nat->SetTable.Probe->SetTable.Probe
 |0,p=>p
 |n+1,p=>gY t n (t.advance p)
theorem TM(t:aq):∀(m:Nat)(p:SetTable.Probe),m<=p.more->gY t m p={p with j:=p.j+m,more:=p.more-m}
 |0,p,_=>by simp[gY]
 |m+1,p,h=>by
  have e:t.advance p={p with j:=p.j+1,more:=p.more-1}:=by
   unfold SetTable.advance;rw[Zk 'a']
  show gY t m (t.advance p)=_;rw[e,TM t m _ (by show m<=p.more-1;lia)];congr 1
  ·show p.j+1+m=p.j+(m+1);exact uh
  ·show p.more-1-m=p.more-(m+1);lia
theorem BR(t:aq):∀(a b:Nat)(p:SetTable.Probe),gY t (a+b) p=gY t b (gY t a p)
 |0,b,p=>by simp[gY]
 |a+1,b,p=>by rw[Nat.succ_add];exact BR t a b _
structure Head(t:aq)(i perturb:Nat)(d:Option Nat)(p:SetTable.Probe):Prop where
 e:p={j:=i,more:=SetTable.runEnd t.mask i-i,i:=i,perturb:=perturb,dummy:=d}
theorem q69{t:aq}{i q:Nat}{d:Option Nat}{p:SetTable.Probe}(h:Head t i q d p):∃n,n<=10/\Head t (SetTable.leap t.mask i q).1 (SetTable.leap t.mask i q).2 d (gY t n p):=by
 have a:=q67 t.mask i;refine⟨(SetTable.runEnd t.mask i-i)+1,by lia,⟨?_⟩⟩;rw[BR,TM t _ p (by rw[h.e];exact Zd _)];show t.advance _=_;rw[h.e];unfold SetTable.advance;rw[Zi (by show ¬(SetTable.runEnd t.mask i-i)-(SetTable.runEnd t.mask i-i)>0;lia)]
theorem TL{t:aq}{d:Option Nat}:∀(r:Nat){i q:Nat}{p:SetTable.Probe},Head t i q d p->∃n,n<=10*r/\(gY t n p).j=jo t.mask r i q/\(gY t n p).dummy=d
 |0,i,q,p,h=>⟨0,Zd _,by show p.j=i;rw[h.e],by show p.dummy=d;rw[h.e]⟩
 |r+1,i,q,p,h=>by
  obtain⟨n,e,h1⟩:=q69 h;obtain⟨m,c,a,b⟩:=TL r h1;exact⟨n+m,by lia,by rw[BR];exact a,by rw[BR];exact b⟩
theorem Kt(t:aq):∀(n:Nat)(p:SetTable.Probe),(gY t n p).dummy=p.dummy
 |0,p=>rfl
 |n+1,p=>by
  show(gY t n (t.advance p)).dummy=_;rw[Kt t n];unfold SetTable.advance;split<;>rfl
theorem TK(h:Int):SetTable.bits h<2^64:=by
 unfold SetTable.bits;have:=W8 h (show(0:Int)<2^64 by decide);lia
theorem meet{t:aq}{k:Nat}(a:t.mask=2^k-1)(h:Int){j:Nat}(c:j<2^k):∃n,n<10*SetTable.turns t.mask/\(gY t n (t.probeStart h)).j=j:=by
 have hk:0<2^k:=W4 k;have d:Head t (SetTable.bits h%(t.mask+1)) (SetTable.bits h) none (t.probeStart h):=⟨rfl⟩;obtain⟨r,f,e⟩:=Ra k (SetTable.bits h%(t.mask+1)) (SetTable.bits h) j (by rw[a];have:=Yr (SetTable.bits h) hk;rw[show 2^k-1+1=2^k from qP hk];exact this) (TK h) c;obtain⟨n,g,b,_⟩:=TL r d;refine⟨n,?_,by rw[b];rw[<- a]at e;exact e⟩;unfold SetTable.turns;lia
theorem Lr(j:Nat):SetTable.has #[] j=false:=by
 unfold SetTable.has;simp
theorem G_{t:aq}(a:t.dummies=#[])(j:Nat):(t.slot j=.empty)\/∃i,t.slot j=.live i/\t.place[i]?=some j:=by
 unfold SetTable.slot;simp only;split
 ·rename_i h;exact .inr ⟨_,rfl,by simpa using h⟩
 ·rw[a,Lr];exact .inl rfl
theorem q72{t:aq}(a:t.dummies=#[]){j:Nat}(h:j∉t.place.toList):t.slot j=.empty:=by
 rcases G_ a j with e|⟨i,_,e⟩
 ·exact e
 ·refine absurd ?_ h;have:=Array.mem_of_getElem? e;simpa using this
theorem Py:∀(n:Nat)(l:List Nat),l.length<n->∃j,j<n/\j∉l
 |0,l,h=>absurd h (YB _)
 |n+1,l,h=>by
  by_cases a:n∈l
  ·obtain⟨j,b,c⟩:=Py n (l.erase n) (by rw[WY a];have:=Vk a;lia);refine⟨j,i_ b,λm=>c ?_⟩;exact(VM 'a').mpr m
  ·exact⟨n,ZN n,a⟩
structure cZ(t:aq)(n:Nat):Prop where
 pl:t.place.size=n
 du:t.dummies=#[]
 ma:∃k,t.mask=2^k-1/\1<=k
 le:n<=t.mask
theorem cZ.fill{t:aq}{n:Nat}(h:cZ t n):t.fill=n:=by unfold SetTable.fill;rw[h.pl,h.du];rfl
theorem cZ.way{t:aq}{n:Nat}(h:cZ t n):t.gaveWay=false:=by
 obtain⟨k,e,hk⟩:=h.ma;unfold SetTable.gaveWay;rw[e];obtain⟨k,rfl⟩:∃m,k=m+1:=⟨k-1,by lia⟩;have:=W4 k;have a:(2^(k+1)-1)%2=1:=by rw[YJ];lia
 rw[a]
 rfl
theorem cZ.meets{t:aq}{n:Nat}(g:cZ t n)(h:Int):∃m,m<10*SetTable.turns t.mask/\t.slot (gY t m (t.probeStart h)).j=.empty:=by
 obtain⟨k,e,_⟩:=g.ma;have hk:=W4 k;obtain⟨j,b,d⟩:=Py (2^k) t.place.toList (by simp only[ZO,g.pl];have:=g.le;lia);obtain⟨m,c,a⟩:=meet e h b;exact⟨m,c,by rw[a];exact q72 g.du d⟩
theorem TJ{t:aq}(l:t.dummies=#[])(a:Nat->Int)(h:Int):∀(f m:Nat)(p:SetTable.Probe),m<f->p.dummy=none->t.slot (gY t m p).j=.empty ->
  (∃j,SetTable.probe.go t a h f p=some (.empty j none)) \/
  (∃b j i,b<m/\SetTable.probe.go t a h f p=some (.candidate j i (gY t (b+1) p))/\t.slot j=.live i/\t.place[i]?=some j/\a i=h)
 |0,m,p,h1,_,_=>absurd h1 (YB _)
 |f+1,m,p,h1,d,g=>by
  unfold SetTable.probe.go;rcases G_ l p.j with e|⟨i,e,n⟩
  ·rw[e];exact .inl ⟨p.j,by rw[d]⟩
  ·rw[e];cases m with
   |zero=>
    have k:t.slot p.j=.empty:=g;rw[e]at k;cases k
   |succ m=>
    by_cases c:a i==h
    ·refine .inr ⟨0,p.j,i,V3 _,?_,e,n,by simpa using c⟩;simp only;rw[Zk c]
     rfl
    ·simp only;rw[Zi c];rcases TJ l a h f m (t.advance p) (kj h1) (by rw[<- d];exact Kt t 1 p) g with⟨j,ej⟩|⟨b,j,i',xa,ej,r⟩
     ·exact .inl ⟨j,ej⟩
     ·exact .inr ⟨b+1,j,i',qY xa,ej,r⟩
theorem Ro{α:Type}(xs:Array α)(p:Nat)(x:α):(SetTable.insertAt xs p x).size=xs.size+1:=by
 unfold SetTable.insertAt;simp;lia
theorem qJ1{α:Type}{xs:Array α}{p:Nat}{x y:α}(h:y∈SetTable.insertAt xs p x):y=x\/y∈xs:=by
 unfold SetTable.insertAt at h;rcases Array.mem_append.mp h with h|h
 ·rcases Array.mem_push.mp h with h|h
  ·obtain⟨i,a,e⟩:=VN.mp h;exact .inr (by rw[<- e];exact Us _)
  ·exact .inl h
 ·obtain⟨i,a,e⟩:=VN.mp h;exact .inr (by rw[<- e];exact Us _)
theorem cZ.put{t:aq}{n:Nat}(g:cZ t n)(a:t.tooFull=false)(j:Nat):cZ (t.put j).1 (n+1):=by
 have e:(t.put j).1={t with place:=SetTable.insertAt t.place (SetTable.below t.place j) j}:=by
  unfold SetTable.put;simp only;rw[g.du,Lr];simp[g.du]
 rw[e];refine⟨by rw[Ro,g.pl],g.du,g.ma,?_⟩;show n+1<=t.mask;unfold SetTable.tooFull at a;rw[g.fill]at a;have:=YN a;lia
theorem SY{mask:Nat}{owner:Array (Option Nat)}:∀(f r i p:Nat),r<f->(owner.getD (jo mask r i p) (some 0)).isNone=true ->
  ∃j,SetTable.layClean.free mask owner f i p=some j/\(owner.getD j (some 0)).isNone=true
 |0,r,i,p,h,_=>absurd h (YB _)
 |f+1,r,i,p,h,a=>by
  unfold SetTable.layClean.free;cases e:(List.range (SetTable.runEnd mask i+1-i)).find? λk=>(owner.getD (i+k) (some 0)).isNone with
  |some k=>
   have:=List.find?_some e;exact⟨i+k,rfl,this⟩
  |none=>
   cases r with
   |zero=>
    have b:∀x∈List.range (SetTable.runEnd mask i+1-i),¬(owner.getD (i+x) (some 0)).isNone=true:=by simpa using e
    have c:0∈List.range (SetTable.runEnd mask i+1-i):=Yw.mpr (by unfold SetTable.runEnd;split<;>lia);exact absurd a (b 0 c)
   |succ r=>exact SY f r _ _ (kj h) a
def cnt(owner:Array (Option Nat)):Nat:=(owner.toList.filter Option.isSome).length
theorem Rk:∀(l:List (Option Nat))(j k:Nat),l[j]?=some none->((l.set j (some k)).filter Option.isSome).length=(l.filter Option.isSome).length+1
 |[],j,k,h=>by simp at h
 |a::l,0,k,h=>by
  have:a=none:=by simpa using h
  subst this;simp
 |a::l,j+1,k,h=>by
  have b:=Rk l j k (by simpa using h);rw[List.set_cons_succ,Y9,Y9];split
  ·rw[ZM,ZM,b]
  ·exact b
theorem TH:∀(l:List (Option Nat)),(l.filter Option.isSome).length<l.length->∃j:Nat,l[j]?=some none
 |[],h=>by simp at h
 |none::l,_=>⟨0,rfl⟩
 |some a::l,h=>by
  obtain⟨j,b⟩:=TH l (by simpa using h);exact⟨j+1,by simpa using b⟩
structure Laid(mask:Nat)(owner:Array (Option Nat))(K:Nat):Prop where
 sz:owner.size=mask+1
 ct:cnt owner=K
 lt:∀v,some v∈owner.toList->v<K
theorem Laid.step{mask k K:Nat}{owner:Array (Option Nat)}(m:mask=2^k-1)(g:Laid mask owner K)(s:K<=mask)(h:Int):
  ∃j,SetTable.layClean.free mask owner (SetTable.turns mask) (SetTable.bits h%(mask+1)) (SetTable.bits h)=some j/\Laid mask (owner.setIfInBounds j (some K)) (K+1):=by
 have hk:=W4 k;obtain⟨d,i⟩:=TH owner.toList (by
  have:=g.ct;unfold cnt at this;rw[this,ZO,g.sz];lia)
 have p:d<mask+1:=by
  have:=(cz i).1;rw[ZO,g.sz]at this;exact this
 have e:mask+1=2^k:=by lia
 obtain⟨r,q,f⟩:=Ra k (SetTable.bits h%(mask+1)) (SetTable.bits h) d (by rw[<- e];exact Yr _ (V3 _)) (TK h) (oz p e);rw[<- m]at f;have b:∀j,(owner.getD j (some 0)).isNone=true<->owner.toList[j]?=some none:=λj=>by
  rw[Yt];by_cases c:j<owner.size
  ·simp[Array.getD,c]
  ·simp[Array.getD,c]
 obtain⟨j,l,c⟩:=SY (mask:=mask) (owner:=owner) (SetTable.turns mask) r _ _ (by unfold SetTable.turns;lia) (by rw[f];exact(b d).mpr i);have n:=(b j).mp c;refine⟨j,l,by rw[Array.size_setIfInBounds];exact g.sz,?_,λv a=>?_⟩
 ·unfold cnt;rw[WE,Rk _ _ _ n];have:=g.ct;unfold cnt at this;rw[this]
 ·rw[WE]at a;rcases List.mem_or_eq_of_mem_set a with a|a
  ·have:=g.lt v a;exact i_ this
  ·have:v=K:=by simpa using a
   lia
theorem Sa{mask k:Nat}(e:mask=2^k-1):∀(b:List Int)(a:Array (Option Nat))(K:Nat),Laid mask a K->K+b.length<=mask ->
  ∃f,(b.foldl (λ(d:Option (Array (Option Nat)×Nat)) (h:Int)=>do
   let (a,k) <- d
   let j <- SetTable.layClean.free mask a (SetTable.turns mask) (SetTable.bits h%(mask+1)) (SetTable.bits h)
   pure (a.setIfInBounds j (some k),k+1)) (some (a,K)))=some (f,K+b.length)/\Laid mask f (K+b.length)
 |[],a,K,g,_=>⟨a,rfl,g⟩
 |h::b,a,K,g,i=>by
  rw[ZM]at i;obtain⟨j,l,p⟩:=g.step e (h_ i) h;obtain⟨n,m,c⟩:=Sa e b _ (K+1) p 'a';refine⟨n,?_,by rw[ZM,show K+(b.length+1)=K+1+b.length by lia];exact c⟩;rw[W5,ZM,show K+(b.length+1)=K+1+b.length by lia,<- m];congr 1;show(SetTable.layClean.free mask a (SetTable.turns mask) (SetTable.bits h%(mask+1)) (SetTable.bits h)).bind _=_;rw[l]
  rfl
theorem xz3{mask k:Nat}(c:mask=2^k-1)(hs:Array Int)(d:hs.size<=mask):∃a,SetTable.layClean mask hs=some a/\Laid mask a hs.size:=by
 have b:Laid mask (Array.replicate (mask+1) none) 0:=⟨by simp,by unfold cnt;simp,λv f=>by simp at f⟩;obtain⟨o,e,g⟩:=Sa c hs.toList _ 0 b (by simpa using d);refine⟨o,?_,by simpa using g⟩;unfold SetTable.layClean;rw[<- Array.foldl_toList,e]
 rfl
theorem Lq{α b:Type}{f g:α->Option b}:∀(l:List α),(∀x∈l,f x=g x)->l.filterMap f=l.filterMap g
 |[],_=>rfl
 |a::l,h=>by
  rw[YH,YH,h a Zz,Lq l λx c=>h x (Zp _ c)]
theorem R_:∀(l:List (Option Nat))(a:Nat),((List.range' a l.length).filterMap λj=>((l[j-a]?).getD none).map (λv=>(j,v))).length=(l.filter Option.isSome).length
 |[],a=>rfl
 |x::l,a=>by
  rw[ZM,List.range'_succ,YH];have b:=R_ l (a+1);have e:(List.range' (a+1) l.length).filterMap (λj=>(((x::l)[j-a]?).getD none).map (λv=>(j,v)))=(List.range' (a+1) l.length).filterMap λj=>((l[j-(a+1)]?).getD none).map (λv=>(j,v)):=by
   refine Lq _ λj c=>?_;have:=(List.mem_range'_1.mp c).1;obtain⟨d,rfl⟩:∃d,j=a+1+d:=⟨j-(a+1),qO this⟩;rw[show a+1+d-a=d+1 by lia,show a+1+d-(a+1)=d from mM,List.getElem?_cons_succ]
  rw[e,X1];cases x with
  |none=>simpa using b
  |some v=>simpa using b
theorem q75{mask k finger moves:Nat}{led plain:Bool}(l:mask=2^k-1)(h1:1<=k)(hs:Array Int)(m:hs.size<=mask):
  ∃t c,SetTable.laid mask finger moves led plain hs=some (t,c)/\cZ t hs.size/\t.mask=mask/\t.led=led/\t.moves=moves/\c.size=hs.size/\∀v∈c,v<hs.size:=by
 obtain⟨b,e,g⟩:=xz3 l hs m;have r:∀a:Nat,(List.range (mask+1)).filterMap (λj=>(b.getD j none).map (λv=>(j,v)))=(List.range' 0 b.toList.length).filterMap λj=>((b.toList[j-0]?).getD none).map (λv=>(j,v)):=λ_=>by
  rw[ZO,g.sz,<- List.range_eq_range'];refine Lq _ λj h=>?_;have f:=Yw.mp h;rw[Nat.sub_zero,Yt];simp[Array.getD,g.sz,f]
 have d:((List.range (mask+1)).filterMap (λj=>(b.getD j none).map (λv=>(j,v)))).length=hs.size:=by
  rw[r 0,R_,<- g.ct]
  rfl
 refine⟨_,_,by unfold SetTable.laid;rw[e];rfl,⟨?_,rfl,⟨k,l,h1⟩,m⟩,rfl,rfl,rfl,?_,λv s=>?_⟩
 ·show((((List.range (mask+1)).filterMap (λj=>(b.getD j none).map (λv=>(j,v)))).map (·.1)).toArray).size=_;rw[ZI,Zg,d]
 ·show((((List.range (mask+1)).filterMap (λj=>(b.getD j none).map (λv=>(j,v)))).map (·.2)).toArray).size=_;rw[ZI,Zg,d]
 ·have u:v∈((List.range (mask+1)).filterMap (λj=>(b.getD j none).map (λv=>(j,v)))).map (·.2):=by simpa using s
  obtain⟨q,p,rfl⟩:=ZU.mp u;obtain⟨j,h,n⟩:=V6.mp p;obtain⟨i,ev,rfl⟩:=Zl.mp n;refine g.lt i ?_;have f:=Yw.mp h;have:b[j]'(by rw[g.sz];exact f)=some i:=by simpa[Array.getD,g.sz,f]using ev
  rw[<- this];simp
theorem SW:∀(f k n:Nat),3<=k->n<2^(k+f)->∃a,SetTable.sizeAbove.go n f (2^k)=2^a/\3<=a/\n<2^a/\(2^k<=2*n+8->2^a<=2*n+8)
 |0,k,n,hk,h=>⟨k,rfl,hk,h,λz=>z⟩
 |f+1,k,n,hk,h=>by
  unfold SetTable.sizeAbove.go;by_cases b:2^k<=n
  ·rw[Zk b,<- YJ];obtain⟨a,e,h1,d,c⟩:=SW f (k+1) n (nN hk) (by rw[show k+1+f=k+(f+1)from uh];exact h);exact⟨a,e,h1,d,λ_=>c (by rw[YJ];lia)⟩
  ·rw[Zi b];exact⟨k,rfl,hk,by lia,λz=>z⟩
theorem Rj{n:Nat}(h:n<2^60):∃k,SetTable.sizeAbove n=2^k/\3<=k/\n<2^k/\2^k<=2*n+8:=by
 obtain⟨k,e,h1,b,a⟩:=SW 64 3 n 'b' (V2 h 'b');exact⟨k,e,h1,b,a (by show 8<=2*n+8;exact ub)⟩
theorem qQ7{t:aq}{hs:Array Int}{wanted:Nat}(hw:wanted<2^60)(l:hs.size<wanted):
  ∃b a,t.relaid hs wanted=some (b,a)/\cZ b hs.size/\wanted<=b.mask/\b.mask<=2*wanted+8/\b.led=t.led/\a.size=hs.size/\∀v∈a,v<hs.size:=by
 obtain⟨k,e,h1,f,d⟩:=Rj hw;obtain⟨b,a,i,g,c,j,_,h,ev⟩:=q75 (mask:=2^k-1) (k:=k) (finger:=t.finger) (moves:=t.movedTo (2^k-1)) (led:=t.led) (plain:=t.plain) rfl 'a' hs 'a';refine⟨b,a,?_,g,by rw[c];exact kl f,by rw[c];exact uf d,j,h,ev⟩;unfold SetTable.relaid;rw[e];exact i
theorem q76{α:Type}{c:Array α}{b:Array Nat}(h:∀v∈b,v<c.size):(b.filterMap (c[·]?)).size=b.size:=by
 rw[<- ZO,Array.toList_filterMap,<- ZO (xs:=b)];have:∀l:List Nat,(∀v∈l,v<c.size)->(l.filterMap (c[·]?)).length=l.length:=λl=>by
  induction l with
  |nil=>intro _;rfl
  |cons a l f=>
   intro e;rw[YH];have g:=e a Zz;rw[show c[a]?=some c[a] by simp[g]];simp[f λv d=>e v (Zp _ d)]
 exact this _ λv d=>h v (by simpa using d)
theorem xk7{α:Type}{b:Array α}{a:Array Nat}{y:α}(h:y∈a.filterMap (b[·]?)):y∈b:=by
 obtain⟨v,_,e⟩:=Array.mem_filterMap.mp h;exact Array.mem_of_getElem? e
end cm
namespace cm
open PySem PySem.Spec PyProof.Rows
section
variable{K:Type}[DecidableEq K]{knd:KeyKind prog w K}{A:aj}{E:aa->ab->Prop}{s:ab}
theorem qx9(n:Nat){v:aa}(h:carriedByValue v=true):ofAClassStatement n v=pure false:=by
 cases v with
 |ref a=>simp[carriedByValue]at h
 |_=>first|rfl|(unfold ofAClassStatement;rfl)|(cases n<;>rfl)
theorem fm{M:Model}{a:ae}{o:aw}{items:Array aa}{n:Nat}{Q:Option (Array aa)->ab->Prop}(b:s.heap.get? a=some o)(c:o.data=.seq items n)(h:Q (some items) s):
  af M A (seqItems? (.ref a)) Q E s:=Wg b c h
theorem Rn{k:List K}{a:ae}{Q:Bool->ab->Prop}(hk:IsTupleKey knd s.heap k a)(h:Q false s):af (ah prog w) A (ofAClassStatement 8 (.ref a)) Q E s:=by
 have l:=hk.typeIs;obtain⟨o,d,n,g,_,j,i⟩:=hk;unfold ofAClassStatement;refine Za (WP l ?_);show af _ _ ((if("tuple"=="tuple")=true then pure true else isSubtype (.type "tuple") (.type "tuple")) >>= _) _ _ s;rw[Zk 'b'];refine Za (Zb ?_);simp only[Y0,Zt,ZX];refine Za (fm g j ?_);dsimp only;refine Za ?_;rw[<- W9];refine Wh _ (λb r e=>r.1=none/\e=s/\∀v∈b,carriedByValue v=true) _ ?_ ?_ _ _ ⟨rfl,rfl,i.byValue⟩
 ·rintro v b r e ⟨c,rfl,f⟩;rw[qx9 _ (f v Zz)];refine Za (Zb ?_);simp only[Zt,ZX];exact Zb ⟨rfl,rfl,λu m=>f u (Zp _ m)⟩
 ·rintro⟨q,p⟩ e ⟨c,rfl,_⟩;simp only at c;subst c;exact Zb h
theorem xJ8{l:List K}{a:ae}{Q:Bool->ab->Prop}(hk:IsTupleKey knd s.heap l a)(h:Q false s){c:List aa}(k:∀y∈c,∃b e,y=.ref b/\IsTupleKey knd s.heap e b):
  af (ah prog w) A (searchCouldBeSeen (.ref a) c) Q E s:=by
 unfold searchCouldBeSeen;refine Za ?_;refine Wh _ (λd r f=>r.1=none/\f=s/\∀y∈d,∃b e,y=.ref b/\IsTupleKey knd s.heap e b) _ ?_ ?_ _ _ ⟨rfl,rfl,k⟩
 ·rintro y d r f ⟨g,rfl,j⟩;obtain⟨b,e,rfl,hb⟩:=j y Zz;have i:∀y∈d,∃b e,y=.ref b/\IsTupleKey knd f.heap e b:=λu m=>j u (Zp _ m);dsimp only;split
  ·exact Zb ⟨rfl,rfl,i⟩
  ·refine Za (wpAny_eqIsQuiet_tuple hk ?_);simp only[Y0,Zt,ZX];refine Za (wpAny_eqIsQuiet_tuple hb ?_);simp only[Y0,Zt,ZX];refine Za (Rn hk ?_);simp only[Zt,ZX];refine Za (Rn hb ?_);simp only[Zt,ZX];exact Zb ⟨rfl,rfl,i⟩
 ·rintro⟨p,n⟩ f ⟨g,rfl,_⟩;simp only at g;subst g;exact Zb h
def Hb(v:aa):Prop:=∃b,∀n,hashByValue n v=pure b
theorem Hb.int(k:Int)(t:Tok):Hb (.int k t):=⟨true,λn=>by cases n<;>rfl⟩
theorem Hb.str(x:ar)(t:Tok):Hb (.str x t):=⟨false,λn=>by cases n<;>rfl⟩
theorem qJ4{a:ae}{o:aw}{items:Array aa}{n:Nat}{Q:Bool->ab->Prop}(f:s.heap.get? a=some o)(hc:o.cls=.type "tuple")(k:o.data=.seq items n)(i:∀v∈items.toList,Hb v)(h:∀b,Q b s):
  af (ah prog w) A (hashByValue 8 (.ref a)) Q E s:=by
 have j:s.TypeIs (.ref a) "tuple":=⟨o,f,hc⟩;unfold hashByValue;refine Za (XE j Wz.lookup ?_);dsimp only;refine Za (fm f k ?_);dsimp only[Option.getD];refine Za ?_;rw[<- W9];refine Wh _ (λc r e=>r.1=none/\e=s/\∀v∈c,Hb v) _ ?_ ?_ _ _ ⟨rfl,rfl,i⟩
 ·rintro v c r e ⟨d,rfl,g⟩;obtain⟨b,hb⟩:=g v Zz;rw[hb];refine Za (Zb ?_);cases b with
  |true=>
   simp only[Y0,Zt,ZX];exact Zb ⟨rfl,rfl,λu l=>g u (Zp _ l)⟩
  |false=>
   simp only[Ub,Xh];exact Zb (Zb (h false))
 ·rintro⟨p,m⟩ e ⟨d,rfl,_⟩;simp only at d;subst d;exact Zb (h true)
theorem cZ.fits{t:aq}{n:Nat}(g:cZ t n):t.fits n=true:=by
 unfold SetTable.fits;rw[g.pl,g.fill];simp[g.le]
theorem SV{t:aq}{f:Nat->Int}{h:Int}{p:SetTable.Probe}{pr:Option SetTable.Met}{m:Nat}(g:t.probe f h p=pr)(n:t.dummies=#[])(l:m<10*SetTable.turns t.mask)(c:p.dummy=none)(k:t.slot (gY t m p).j=.empty):
  (∃j,pr=some (.empty j none))\/(∃a j i,a<m/\pr=some (.candidate j i (gY t (a+1) p))/\t.slot j=.live i/\t.place[i]?=some j):=by
 subst g;rcases TJ n f h (10*SetTable.turns t.mask) m p l c k with⟨j,e⟩|⟨a,j,i,h1,e,d,b,_⟩
 ·exact .inl ⟨j,e⟩
 ·exact .inr ⟨a,j,i,h1,e,d,b⟩
theorem xJ9{a b:ae}{o:aw}{d:Array (Int×aa)}{ep:Nat}{t:aq}{O:List K}{h:Int}{Q:SetFound->ab->Prop}(R:A.units<cLine)
  (F:s.heap.get? a=some o) (D:o.data=.set d ep t) (g:cZ t d.size) (hk:IsTupleKey knd s.heap O b) (L:∀e∈d,∃r n,e.2=.ref r/\IsTupleKey knd s.heap n r/\n≠O) (q:∀j,Q (.free j false) s):
  ∀(m c:Nat)(l:Option SetTable.Probe),m<c->m<10*SetTable.turns t.mask->(l.getD (t.probeStart h)).dummy=none->t.slot (gY t m (l.getD (t.probeStart h))).j=.empty ->
   af (ah prog w) A (setSearchFrom a (.ref b) h true c l) Q E s:=by
 intro m
 induction m using Nat.strongRecOn with
 |ind m Z=>
  intro c l H M G x;cases c with
  |zero=>exact absurd H (YB _)
  |succ c=>
   unfold setSearchFrom;refine Za (Z5 F D g.fits ?_);dsimp only;rw[g.way];simp only[Zt,ZX];split
   ·rename_i met p;rcases SV p g.du M G x with⟨j,C⟩|⟨f,j,i,xa,C,N,Y⟩
    ·cases C;dsimp only;exact Zb (q j)
    ·cases C;dsimp only;have J:i<d.size:=by
      have:=(Z8.mp Y).1;rw[g.pl]at this;exact this
     obtain⟨r,n,W,S,P⟩:=L d[i] (Us J);have u:d[i]?=some (d[i].1,.ref r):=by
      rw[<- W];simp[J]
     have sm:t.sameMemory t.moves t.mask=some true:=by
      unfold SetTable.sameMemory;rw[Zk (by simp)]
     have I:∀v,m<v+1->af (ah prog w) A (setSearchFrom a (.ref b) h true v (some (gY t (f+1) (l.getD (t.probeStart h))))) Q E s:=λv hf'=>
      Z (m-(f+1)) 'a' v _ 'a' 'a' (by show(gY t (f+1) _).dummy=none;rw[Kt];exact G) (by
       show t.slot (gY t (m-(f+1)) (gY t (f+1) _)).j=.empty;rw[<- BR,show f+1+(m-(f+1))=m by lia];exact x)
     have k:∀y∈(d.filter (·.1==h)).toList.map (·.2),∃b n,y=.ref b/\IsTupleKey knd s.heap n b:=λy X=>by
      obtain⟨e,HI,rfl⟩:=ZU.mp X;have:e∈d:=by
       have:=(Array.mem_filter.mp (show e∈d.filter (·.1==h) by simpa using HI)).1;exact this
      obtain⟨B,V,U,T,_⟩:=L e this;exact⟨B,V,U,T⟩
     cases hl:t.led with
     |false=>
      simp only[Ub,Xh];refine Za (xJ8 hk ?_ k);simp only[Zt,ZX];rw[u];dsimp only;refine Za (ZY (wpAny_eqBool_tuple R S hk ?_));rw[Zm P];refine Za (Z5 F D g.fits ?_);dsimp only;simp only[Y1,Zt,ZX];rw[sm];dsimp only;simp only[Xh];rw[N];dsimp only;rw[u];dsimp only;refine Za (wpAny_isSame_ref_self ?_);refine Za (Zb ?_);simp only[Xh];exact I c H
     |true=>
      simp only[Y0,Zt,ZX];rw[u];dsimp only;refine Za (ZY (wpAny_eqBool_tuple R S hk ?_));rw[Zm P];refine Za (Z5 F D g.fits ?_);dsimp only;simp only[Y1,Zt,ZX];rw[sm];dsimp only;simp only[Xh];rw[N];dsimp only;rw[u];dsimp only;refine Za (wpAny_isSame_ref_self ?_);refine Za (Zb ?_);simp only[Xh];exact I c H
   ·rename_i p;exact Or.elim (SV rfl g.du M G x) (λ⟨j,e⟩=>(p _ e).elim) (λ⟨_,_,_,_,e,_⟩=>(p _ e).elim)
structure gr(knd:KeyKind prog w K)(h:ao)(a:ae)(Ks:List (List K))(n:Nat):Prop where
 ex:∃o es ep t,h.get? a=some o/\o.ExactSet/\o.data=.set es ep t/\cZ t es.size/\t.tooFull=false/\t.mask<=8*n+8/\es.size=n/\∀e∈es,∃b ks,e.2=.ref b/\ks∈Ks/\IsTupleKey knd h ks b
theorem SU{h:ao}{a b:ae}{o:aw}{i:List K}{f:Array (Int×aa)}{ep:Nat}{t:aq}(x:IsTupleKey knd h i b)(e:h.get? a=some o)(j:o.data=.set f ep t):b≠a:=by
 rintro rfl;obtain⟨g,c,n,k,_,d,_⟩:=x;obtain rfl:g=o:=ZE (k.symm.trans e);rw[j]at d;exact nomatch d
theorem SS{h h':ao}{a b:ae}{d:List K}(x:IsTupleKey knd h d b)(i:b≠a)(hs:Heap.SameBut a h h'):IsTupleKey knd h' d b:=by
 obtain⟨j,c,n,k,g,e,f⟩:=x;exact⟨j,c,n,(hs.2 b i).trans k,g,e,f⟩
theorem TF{h:ao}{a:ae}{o:aw}{d es':Array (Int×aa)}{ep:Nat}{t t':aq}(c:h.get? a=some o)(b:o.data=.set d ep t):
  (h.update a (Obj.putSet es' t')).get? a=some {o with data:=.set es' (ep+1) t'}:=by
 have:=Yh (Obj.putSet es' t') c (by rw[UD es' t' b];rfl);rw[UD es' t' b]at this;exact this
theorem xz4{a b:ae}{I:List K}{O:List (List K)}{n:Nat}{h:Int}{Q:Bool->ab->Prop}(hu:A.units<cLine)(S:gr knd s.heap a O n)(hk:IsTupleKey knd s.heap I b)(hHb:∀o i m,s.heap.get? b=some o->o.data=.seq i m->∀v∈i.toList,Hb v)
  (hn:I∉O) (hsz:n<1200) (q:∀R,Heap.SameBut a s.heap R->gr knd R a (I::O) (n+1)->Q true {s with heap:=R}):
  af (ah prog w) A (setAddHashed a (.ref b) h) Q E s:=by
 obtain⟨o,d,ep,t,D,vE,C,g,hf,HF,rfl,w5⟩:=S.ex;unfold setAddHashed setAddHashedIn;refine ZY (Za (Z5 D C g.fits ?_));dsimp only;have Y:byScan (.ref b) d=false:=rfl;rw[Y];simp only[Zt,ZX];obtain⟨m,hm,DJ⟩:=g.meets h;have wR:m<100000:=by
  unfold SetTable.turns at hm;lia
 refine Za (xJ9 hu D C g hk (λe B=>?_) (λj=>?_) m 100000 none wR hm rfl DJ)
 ·obtain⟨H,G,e1,e2,N⟩:=w5 e B;exact⟨H,G,e1,N,λz=>hn (by rw[<- z];exact e2)⟩
 dsimp only;refine Za (Z5 D C g.fits ?_);dsimp only;have x:=g.put hf j;generalize hp:t.put j=tp at x;obtain⟨J,p⟩:=tp;dsimp only at x ⊢;have Z:J.mask=t.mask:=by
  have:(t.put j).1.mask=t.mask:=rfl;rw[hp]at this;exact this
 have V:b≠a:=SU hk D C;have qA:∀{h1:ao},Heap.SameBut a s.heap h1->∀e∈SetTable.insertAt d p (h,Value.ref b),∃H G,e.2=.ref H/\G∈I::O/\IsTupleKey knd h1 G H:=λ{h1} hs e B=>by
  rcases qJ1 B with rfl|B
  ·exact⟨b,I,rfl,Zz,SS hk V hs⟩
  ·obtain⟨H,G,e1,e2,N⟩:=w5 e B;exact⟨H,G,e1,Zp _ e2,SS N (SU N D C) hs⟩
 have u:(SetTable.insertAt d p (h,Value.ref b)).size=d.size+1:=Ro _ _ _;have y:d.size+1<=sizeLine:=by rw[XY];lia
 have l:∀r:aq,cZ r (d.size+1)->r.mask=t.mask->af (ah prog w) A (do
   storeSet a (SetTable.insertAt d p (h,Value.ref b)) r
   if(!false&&r.tooFull)=true then do
     setRelay a (SetTable.grown (d.size+1))
     pure true
    else pure true) Q E s:=λr g2 AQ=>by
  refine Za (Vl D C ?_ (by rw[u];exact y));have L:=TF (es':=SetTable.insertAt d p (h,Value.ref b)) (t':=r) D C;have X:=Yi s.heap a (Obj.putSet (SetTable.insertAt d p (h,Value.ref b)) r);cases ht:r.tooFull with
  |false=>
   simp only[Y1,Zt,ZX];refine Zb (q _ X ⟨_,_,_,r,L,vE,rfl,by rw[u];exact g2,ht,by lia,u,qA X⟩)
  |true=>
   simp only[Ub,UB,Xh];refine Za ?_;unfold setRelay;refine Za (Z5 L rfl (by rw[u];exact g2.fits) ?_);dsimp only;have F:SetTable.grown (d.size+1)=(d.size+1)*4:=by
    unfold SetTable.grown;rw[Zi 'a']
   obtain⟨k,ek,_,_,P⟩:=Rj (n:=SetTable.grown (d.size+1)) (by rw[F];lia);rw[Zi (by rw[ek,XY];rw[F]at P;lia)];obtain⟨W,f,er,U,hw1,T,_,eo,ev⟩:=qQ7 (t:=r) (hs:=(SetTable.insertAt d p (h,Value.ref b)).map (·.1)) (wanted:=SetTable.grown (d.size+1)) (by rw[F];lia) (by rw[Array.size_map,u,F];lia);rw[Array.size_map]at U eo ev;rw[er];have M:(f.filterMap ((SetTable.insertAt d p (h,Value.ref b))[·]?)).size=d.size+1:=by rw[q76 ev,eo,u]
   refine Za ?_;show af _ _ (if((f.filterMap ((SetTable.insertAt d p (h,Value.ref b))[·]?)).size != (SetTable.insertAt d p (h,Value.ref b)).size)=true then _ else _) _ _ _;rw[Zi (by rw[M,u];simp)];refine Zb ?_;dsimp only;refine Vl L rfl ?_ (by rw[M];exact y);have kN:=TF (es':=f.filterMap ((SetTable.insertAt d p (h,Value.ref b))[·]?)) (t':=W) L rfl;have vJ:=X.trans (Yi _ a (Obj.putSet (f.filterMap ((SetTable.insertAt d p (h,Value.ref b))[·]?)) W));refine Zb (q _ vJ ⟨_,_,_,W,kN,vE,rfl,by rw[M,<- u];exact U,?_,?_,M,λe B=>qA vJ e (xk7 B)⟩)
   ·unfold SetTable.tooFull;rw[U.fill,u];rw[F]at hw1;exact Zm 'a'
   ·rw[F]at T;lia
 cases jR:J.plain with
 |false=>
  simp only[Zt,ZX];refine Za (Zb ?_);simp only[Xh];exact l J x Z
 |true=>
  simp only[Xh];obtain⟨ob,i,nn,wK,kK,AZ,_⟩:=id hk;refine Za (qJ4 wK kK AZ (hHb _ _ _ wK AZ) λc=>?_);cases c with
  |true=>
   simp only[Xh];exact l J x Z
  |false=>
   simp only[Zt,ZX];exact l {J with plain:=false} ⟨x.pl,x.du,x.ma,x.le⟩ Z
end
section
variable{K:Type}[DecidableEq K]{knd:KeyKind prog w K}
def gN(knd:KeyKind prog w K)(h:ao)(c:List K)(b:ae):Prop:=∃o a n,h.get? b=some o/\o.cls=.type "tuple" /\ o.data=.seq a n/\ItemsAre knd c a.toList/\∀v∈a.toList,Hb v
theorem gN.key{h:ao}{a:List K}{b:ae}(x:gN knd h a b):IsTupleKey knd h a b:=let ⟨o,items,n,h1,h2,h3,h4,_⟩:=x;⟨o,items,n,h1,h2,h3,h4⟩
theorem gN.hb{h:ao}{g:List K}{b:ae}(x:gN knd h g b):∀o a m,h.get? b=some o->o.data=.seq a m->∀v∈a.toList,Hb v:=λo a m d f=>by
 obtain⟨k,i,j,h1,_,c,_,e⟩:=x;rw[d]at h1;cases h1;rw[f]at c;cases c;exact e
theorem gN.at{h h':ao}{a:List K}{b:ae}(x:gN knd h a b)(k:∀o,h.get? b=some o->h'.get? b=some o):gN knd h' a b:=let ⟨o,items,n,h1,r⟩:=x;⟨o,items,n,k o h1,r⟩
theorem gr.at{h h':ao}{a:ae}{j:List (List K)}{n:Nat}(S:gr knd h a j n)(k:∀b o,h.get? b=some o->h'.get? b=some o\/b≠a/\¬∃d,IsTupleKey knd h d b):gr knd h' a j n:=by
 obtain⟨o,s,u,t,C,x,A,g,E,v,q,p⟩:=S.ex;refine⟨o,s,u,t,?_,x,A,g,E,v,q,λe l=>?_⟩
 ·rcases k a o C with z|z
  ·exact z
  ·exact absurd rfl z.1
 ·obtain⟨b,d,D,y,f⟩:=p e l;refine⟨b,d,D,y,?_⟩;obtain⟨i,c,m,B,r⟩:=id f;rcases k b i B with z|z
  ·exact⟨i,c,m,z,r⟩
  ·exact absurd ⟨d,f⟩ z.2
variable{R:Result->ab->Prop}{I:ae}{fp wr:List ae}{G:Array GenState->Array GenState->Prop}{n:Nat}{P:Nat->aa->Prop}{St:Nat->ab->Prop}
def QO(knd:KeyKind prog w K)(S:ae)(wr:List ae)(P:Nat->aa->Prop)(val:Nat->List K)(h:ao):Prop:=∀i v,P i v->∃b,v=.ref b/\b≠S/\b∉wr/\gN knd h (val i) b
def xS3(knd:KeyKind prog w K)(wr:List ae)(h:ao):Prop:=∀b∈wr,¬∃a,IsTupleKey knd h a b
theorem q78(W:WalksS prog w A.in1 I fp wr G n P St)(S:ae)(N:S∉fp)(val:Nat->List K)(p:∀i j,i<j->j<n->val i≠val j)(X:n<=1200)(O:A.in1.units<cLine)
  (nt:∀i s,St i s->xS3 knd wr s.heap):
  ∀(k i:Nat)(s:ab),n-i=k->i<=n->St i s->QO knd S wr P val s.heap->(∃d,gr knd s.heap S d i/\∀E∈d,∃j,j<i/\E=val j) ->
   (∀a,Moved (S::wr) G s a->(∃d,gr knd a.heap S d n)->R (.ok (.ret .none)) a) ->
   codeAny (ah prog w) A (.builtin "set.update.loop" ⟨[.ref S,.ref I],[]⟩) R s:=by
 have HR:S∉wr:=λz=>N (W.sub _ z);have T:∀b∈wr,b∈S::wr:=λb hb=>Zp _ hb;have f:∀{i:Nat}{s a:ab}{d:List (List K)}{m:Nat},St i s->Moved wr G s a->gr knd s.heap S d m->gr knd a.heap S d m:=λ{i s a d m} h g r=>r.at λb o e=>by
  by_cases hb:b∈wr
  ·exact .inr ⟨λz=>HR (by rw[<- z];exact hb),nt i s h b hb⟩
  ·exact .inl (g.heap b o hb e)
 intro k
 induction k with
 |zero=>
  intro i s hk V h J C H;have U:i=n:=by lia
  subst U;obtain⟨d,r,_⟩:=C;refine Yp YU ?_;rw[Z9 Yj _];refine Za (W.done s _ _ h λa g=>?_);exact Zb (H a (g.mono T) ⟨d,f h g r⟩)
 |succ k ih=>
  intro i s hk V h J C H;obtain⟨d,r,q⟩:=C;have t:i<n:=by exact yT hk
  refine Yp YU ?_;rw[Z9 Yj _];refine Za (W.item i s _ _ t h λv a hP aJ g=>?_);obtain⟨b,rfl,Ny,Z,hb⟩:=J i v hP;have M:gN knd a.heap (val i) b:=hb.at λo e=>g.heap b o Z e;have S1:gr knd a.heap S d i:=f h g r;refine Za (ZY ?_);unfold setAdd;refine ZY ?_;refine Za (wpAny_pyHash_tuple O M.key ?_);refine xz4 (s:={a with toks:=a.toks+((val i).length+1)}) O S1 M.key M.hb (λz=>?_) (uk t X) λh' B S2=>?_
  ·obtain⟨j,x,e⟩:=q _ z;exact p j i x t e.symm
  ·have l:QO knd S wr P val h':=λj u L=>by
    obtain⟨c,rfl,h1,Q,Y⟩:=J j u L;exact⟨c,rfl,h1,Q,(Y.at λo e=>g.heap c o Q e).at λo e=>(B.2 c h1).trans e⟩
   refine Zb ⟨Xd Yj _,ih (i+1) _ 'a' t (W.frame _ a _ _ aJ (YF _ _) λc D o e=>?_) l ⟨val i::d,S2,λE y=>?_⟩ λxV L6 F=>?_⟩
   ·rw[B.2 c (λz:c=S=>N (by rw[<- z];exact D))];exact e
   ·rcases Zu.mp y with rfl|y
    ·exact⟨i,ZN i,rfl⟩
    ·obtain⟨j,x,e⟩:=q E y;exact⟨j,i_ x,e⟩
   ·refine H xV (Moved.trans W.gtrans ((g.mono T).then_heap (YF _ _) λc o D e=>?_) L6) F;rw[B.2 c (λz:c=S=>D (by rw[z];exact Zz))];exact e
end
end cm
namespace cm
open PySem PySem.Spec
section
variable{K:Type}[DecidableEq K]{knd:KeyKind prog w K}{A:aj}{E:aa->ab->Prop}{s:ab}
abbrev dk(led:Bool):aw:={cls:=.type "set",dict:=none,data:=.set #[] 0 (.fresh 0 0 led)}
theorem q09{h:ao}{a:ae}{led:Bool}(e:h.get? a=some (dk led)):gr knd h a [] 0:=
 ⟨_,#[],0,.fresh 0 0 led,e,⟨rfl,rfl,rfl⟩,rfl,⟨rfl,rfl,⟨3,rfl,by decide⟩,Zs _⟩,by rfl,(by show 7<=8*0+8;decide),rfl,λe b=>by simp at b⟩
theorem ie{l:ae}{items:Array aa}{val:Nat->List K}{Q:aa->ab->Prop}(V:A.handled=none)(hu:A.units+8<cLine)(hl:s.heap.IsTuple l items)
  (hi:∀(i:Nat)(v:aa),items[i]?=some v->∃b,v=.ref b/\gN knd s.heap (val i) b) (k:∀i j,i<j->j<items.size->val i≠val j) (hb:items.size<=1200)
  (h:∀(d:ao)(u:Nat),(∃y,gr knd d s.heap.objs.size y items.size)->(∀b o,b<s.heap.objs.size->s.heap.get? b=some o->d.get? b=some o)->Q (.ref s.heap.objs.size) {s with heap:=d,toks:=u}):
  af (ah prog w) A (call (.type "set") [.ref l]) Q E s:=by
 obtain⟨c,tl,M8⟩:=F.called_set.mro;have Dl:=F.called_set.made;have J8:=F.called_set.sub;refine wpAny_call (VQ ?_);show af _ _ (callAny (.type "set") _) _ _ _;refine Zb ⟨Uc _ (by decide +kernel),Yp F.entry_type_call ?_⟩;rw[Around.under_plain (weight_type_call_type "set" [.ref l] []) rfl];have f1:=F.called_set.notType;have f2:=F.called_set.canCreate;have f3:=F.typeCall_set_1 (.ref l)
 repeat (any_goals first|assumption|wp_step)
 refine Wo (code_set_new_1 (.ref l) (E:=E) (Q₁:=λm H=>∃a:Bool,m=.ref s.heap.objs.size/\H={s with heap:=s.heap.push (dk a)}) λa=>⟨a,rfl,rfl⟩) λr H B=>?_;cases r with
 |error e=>exact B
 |ok W=>
  cases W with
  |ret m=>
   obtain⟨a,rfl,rfl⟩:=B;have C:(s.heap.push (dk a)).get? s.heap.objs.size=some (dk a):=Zj _ rfl;have hT:Shared.TypeIs {s with heap:=s.heap.push (dk a)} (.ref s.heap.objs.size) "set":=⟨_,C,rfl⟩;have i1:=F.called_set.init.lookup;have i2:=F.called_set.init.bind (.ref s.heap.objs.size)
   repeat (any_goals first|assumption|wp_step)
   refine Wo (WF (R:=wants (λr M=>r=.none/\∃d u,M={s with heap:=d,toks:=u}/\(∃y,gr knd d s.heap.objs.size y items.size) /\
     (∀b o,b<s.heap.objs.size->s.heap.get? b=some o->d.get? b=some o)) E) F.called_set.init.plain F.entry_set_init (check_set_init_1 hT ?_)) λxW M x=>?_
   ·obtain⟨ol,L,D,J,N⟩:=id hl;obtain⟨LO,qq,CQ,mG⟩:=ol;simp only at D N;subst D;subst N;have Y:(s.heap.push (dk a)).get? l=some {cls:=.type "tuple",dict:=qq,data:=.seq items J,slots:=mG}:=Zc _ L;have fK:=F.sub_tuple_set;have cg:=F.sub_tuple_frozenset;have ned:(Value.type "tuple"== Value.type "dict")=false:=by decide
    have I:(s.heap.push (dk a)).IsTuple l items:=⟨_,Y,rfl,J,rfl⟩;unfold Builtin.«set.__init__» noKeywords Builtin.Frozenset.updateFrom;generalize Z:pyIter=PI
    wp_walk
    subst Z;refine Wn I ?_;refine Za (Ud ?_);have O:l<s.heap.objs.size:=Zn L;have f:(s.heap.push (dk a)).objs.size=s.heap.objs.size+1:=Z0 _ _;have zk:l≠(s.heap.push (dk a)).objs.size:=by rw[f];exact Zy (Z6 O)
    have T:s.heap.objs.size∉[(s.heap.push (dk a)).objs.size,l]:=by
     rw[f];simp only[Zu,Yd,Wi,not_or];exact⟨Zy (ZN _),Wm O⟩
    refine q78 (knd:=knd) ((Walks.tuple (by simp[V]) _ l zk items).toS) s.heap.objs.size T val k hb (by show A.units+1+1+1<cLine;lia) (λi P st b U=>?_) (items.size-0) 0 _ 'a' (Zs _)
     ⟨⟨_,Zj _ rfl,rfl,rfl⟩,I.push _⟩ (λi v hv=>?_) ⟨[],q09 (Zc _ C),λks D5=>nomatch D5⟩ λP p g=>?_
    ·rintro⟨ks,o',G,n',t,q,e3,_⟩;have:b=(s.heap.push (dk a)).objs.size:=by simpa using U
     subst this;obtain⟨oi,X,x2,x3⟩:=st.1;rw[X]at t;cases t;rw[x2]at q;injection q with q
     exact absurd q 'b'
    ·obtain⟨b,rfl,S⟩:=hi i v hv;have n:b<s.heap.objs.size:=by obtain⟨o',_,_,t,_⟩:=S;exact Zn t
     refine⟨b,rfl,Zy n,(by rw[f];simp only[Zu,Yd,Wi];exact Zy (Z6 n)),S.at λo e=>Zc _ (Zc _ e)⟩
    ·obtain⟨d,g',d',zV,iu⟩:=P;have eg:g'=s.gens:=p.gens;have ed:d'=s.drawn:=p.drawn;have eo:iu=s.os:=p.os;subst eg;subst ed;subst eo;show af _ _ _ _ _ _;refine Zb ?_;show af _ _ (ret Value.none) _ _ _;refine Zb ⟨rfl,d,zV,rfl,g,λb o n e=>?_⟩;exact p.heap b o (by rw[f];simp only[Zu,Yd,Wi,not_or];exact⟨Zy n,Zy (Z6 n)⟩) (Zc _ (Zc _ e))
   ·cases xW with
    |error e=>exact x
    |ok rN=>
     cases rN with
     |ret r=>
      obtain⟨rfl,d,u,rfl,g,kp⟩:=x
      repeat (any_goals first|assumption|wp_step)
      exact h _ _ g kp
     |_=>exact x.elim
  |_=>exact B.elim
end
end cm
namespace L2
open PySem PySem.Spec PyProof.Rows
def uN(r:ae)(n:Nat)(h:ao):Prop:=∃o a b t,h.get? r=some o/\o.ExactSet/\o.data=.set a b t/\t.fits a.size=true/\a.size=n
section
variable{X:Cx}
theorem xS4{k:Key}{u:aa}(r:RelV (kV k) u):cm.Hb u:=by
 cases k with
 |inl i=>obtain⟨t,rfl⟩:=r;exact cm.Hb.int i t
 |inr x=>obtain⟨t,rfl⟩:=r;exact cm.Hb.str x t
theorem Px:∀{c:List Key}{b:List aa},Vals (c.map kV) b->∀v∈b,cm.Hb v
 |[],_,.nil,v,a=>by cases a
 |k::c,_,.cons r t,v,a=>by
  rcases Zu.mp a with rfl|a
  ·exact xS4 r
  ·exact Px t v a
theorem xz5{P:ag}{w:ai}{H:Hp}{h:ao}{b:ae}{a:List Key}(ok:dJ P w H h)(e:H b=some (.tup (a.map kV))):cm.gN (g_ P w) h a b:=by
 obtain⟨_,f,r,o,c,d,n,i⟩:=ok b _ e;exact⟨o,f.toArray,n,c,d,i,by simpa using Ku r,λv g=>Px r v (by simpa using g)⟩
inductive lG(xs:List V)(H:Hp)(Q:VK):Prop
 |mk(p:ae)(bs:List ae)(rows:List (List Key))(aT:xs=[.ref p])(cV:H p=some (.tup (bs.map V.ref)))(cw:bs.length=rows.length)(aR:(∀(i:Nat) b ks,bs[i]?=some b->rows[i]?=some ks->H b=some (.tup (ks.map kV))))(zF:rows.Nodup)(EK:rows.length<=1200)(e6_:∀r,H r=none->Q (.ref r) (upd H r (.ext (uN r rows.length))))
theorem q79(hc:X.calm=true){k:Nat}(N:bh k X.A):f_ X (.type "set") lG:=by
 intro j8 s σ H xs us Q I U h;obtain⟨p,bs,rows,rfl,Y,f,jC,Z,D,q⟩:=h;obtain⟨u,rfl,ru⟩:=iq U;cases ru;obtain⟨_,l,F,E⟩:=I.aO p _ Y;have w:l.length=bs.length:=by have:=F.length;simpa using this.symm
 have un:=N.units;have d:∀(i:Nat)(v:aa),l[i]?=some v->∃b,bs[i]?=some b/\v=.ref b:=λi v m=>by
  have c:i<bs.length:=by rw[<- w];exact(cz m).1
  obtain⟨w',n,C⟩:=F.get (i:=i) (x:=V.ref bs[i]) (by simp[c]);rw[m]at n;cases n;exact⟨bs[i],by simp[c],C⟩
 refine cm.ie (knd:=g_ X.prog X.w) (items:=l.toArray) (val:=λi=>rows.getD i []) (I.ok.hd hc) 'a' (show s.heap.IsTuple p l.toArray from E) (λi v m=>?_) (λi j R y z=>?_) (by rw[ZI,w,f];exact D) λh' tk A O=>?_
 ·obtain⟨b,hb,rfl⟩:=d i v (by simpa using m);have c:i<rows.length:=by rw[<- f];exact(cz hb).1
  have e:rows.getD i []=rows[i]:=by simp[List.getD,c]
  show ∃K,Value.ref b=.ref K/\cm.gN _ s.heap (rows.getD i []) K;rw[e];exact⟨b,rfl,xz5 I.aO (jC i b rows[i] hb (by simp[c]))⟩
 ·rw[ZI,w,f]at y;have J:rows.getD i []=rows.getD j []:=z;have c:i<rows.length:=by exact kr R y
  have n:rows.getD i []=rows[i]:=by simp[List.getD,c]
  have C:rows.getD j []=rows[j]:=by simp[List.getD,y]
  rw[n,C]at J;have:=(List.getElem_inj Z).mp J;lia
 ·obtain⟨Ks,S⟩:=A;obtain⟨o,G,ep,t,L,vE,hd,g,hf,_,T,_⟩:=S.ex;have zm:G.size=rows.length:=by rw[T,ZI,w,f]
  refine⟨.ref s.heap.objs.size,_,I.laid (a:=s.heap.objs.size) (o:=.ext (uN s.heap.objs.size rows.length)) (t':=tk) (λb o e=>O b o (Zn e) e) (Zd _) ⟨⟨o,G,ep,t,L,vE,hd,g.fits,zm⟩,⟨o,L⟩,λh1 h2 W k=>?_⟩,rfl,q _ (I.aO.fresh (Zd _))⟩;obtain⟨M,B,P,t',eI,r⟩:=W;exact⟨M,B,P,t',k M eI,r⟩
inductive iI(xs:List V)(H:Hp)(Q:VK):Prop
 |mk(r:ae)(n:Nat)(aT:xs=[.ref r])(cV:H r=some (.ext (uN r n)))(cw:n<=1200)(aR:Q (.int n) H)
theorem qQ8:f_ X (.builtin "len") iI:=by
 intro p s k H i l Q I c h;obtain⟨r,n,rfl,b,j,q⟩:=h;obtain⟨u,rfl,ru⟩:=iq c;cases ru;obtain⟨⟨o,a,m,t,f,d,e,g,rfl⟩,_⟩:=I.aO r _ b;have hb:(a.size:Int)<=1200:=by lia
 exact call_len_set f d e g (Int.lt_of_le_of_lt hb 'b') ⟨.int a.size,H,I.tok _,⟨_,rfl⟩,q⟩
end
mutual
inductive bF(H:Hp):V->PyData->Prop
 |cU:bF H .cU .none
 |bl (b:Bool):bF H (.bl b) (.bool b)
 |int (i:Int):bF H (.int i) (.int i)
 |str (x:ar):bF H (.str x) (.str x)
 |lst {a:ae}{xs:List V}{ds:List PyData}(h:H a=some (.lst xs)) (r:aS H xs ds):bF H (.ref a) (.list ds)
 |tup {a:ae}{xs:List V}{ds:List PyData}(h:H a=some (.tup xs)) (r:aS H xs ds):bF H (.ref a) (.tuple ds)
inductive aS(H:Hp):List V->List PyData->Prop
 |nil:aS H [] []
 |cons {x:V}{xs:List V}{d:PyData}{ds:List PyData}(h:bF H x d) (r:aS H xs ds):aS H (x::xs) (d::ds)
end
section
variable{H:Hp}{h:ao}
mutual
theorem bF.reads(ok:dJ P w H h):∀{x:V}{d:PyData}{u:aa},bF H x d->RelV x u->∃as,Reads h u d as
 |_,_,u,.cU,r=>⟨[],by cases(show u=Value.none from r);exact .none⟩
 |_,_,u,.bl b,r=>⟨[],by cases(show u=Value.bool b from r);exact .bool b⟩
 |_,_,u,.int i,r=>⟨[],by obtain⟨t,rfl⟩:=r;exact .int i t⟩
 |_,_,u,.str x,r=>⟨[],by obtain⟨t,rfl⟩:=r;exact .str x t⟩
 |_,_,u,.lst (a:=a) e rs,r=>by
  cases(show u=Value.ref a from r);obtain⟨_,k,n,f,c⟩:=ok a _ e;obtain⟨as,g⟩:=aS.reads ok rs f;exact⟨a::as,.list c rfl rfl (by simpa using g)⟩
 |_,_,u,.tup (a:=a) e rs,r=>by
  cases(show u=Value.ref a from r);obtain⟨_,k,f,o,c,j,n,l⟩:=ok a _ e;obtain⟨as,g⟩:=aS.reads ok rs f;exact⟨as,.tuple c j l (by simpa using g)⟩
theorem aS.reads(ok:dJ P w H h):∀{a:List V}{c:List PyData}{b:List aa},aS H a c->Vals a b->∃as,ReadsAll h b c as
 |_,_,_,.nil,.nil=>⟨[],.nil⟩
 |_,_,_,.cons h1 f,.cons r e=>by
  obtain⟨as,g⟩:=bF.reads ok h1 r;obtain⟨bs,d⟩:=aS.reads ok f e;exact⟨as++bs,.cons g d⟩
end
mutual
theorem bF.same{a:Hp}(s:∀b o,H b=some o->a b=some o):∀{x:V}{d:PyData},bF H x d->bF a x d
 |_,_,.cU=>.cU
 |_,_,.bl b=>.bl b
 |_,_,.int i=>.int i
 |_,_,.str x=>.str x
 |_,_,.lst e r=>.lst (s _ _ e) (aS.same s r)
 |_,_,.tup e r=>.tup (s _ _ e) (aS.same s r)
theorem aS.same{d:Hp}(s:∀b o,H b=some o->d b=some o):∀{a:List V}{c:List PyData},aS H a c->aS d a c
 |_,_,.nil=>.nil
 |_,_,.cons h r=>.cons (bF.same s h) (aS.same s r)
end
theorem aS.ints:∀(a:List Int),aS H (a.map V.int) (a.map PyData.int)
 |[]=>.nil
 |n::a=>.cons (.int n) (aS.ints a)
end
section
variable{X:Cx}
inductive rX(x:V)(y:V)(H:Hp)(Q:VK):Prop
 |mk(d:_)(e:_)(aT:bF H x d)(cV:bF H y e)(cw:d.canLay0=true)(aR:e.canLay0=true)(zF:d.depth<=60)(EK:Q (.bl (PyData.eqv d e)) H)
theorem LC{k:Nat}(b:bh k X.A):eJ X (compareOp .Eq) rX:=by
 intro p s n H x y v u Q I j i h;obtain⟨d,e,l,c,f,m,dp,q⟩:=h;obtain⟨as,g⟩:=l.reads I.aO j;obtain⟨bs,a⟩:=c.reads I.aO i;have un:=b.units;exact SeqAt.rcAt_reads g a f m 'a' X.prog X.w X.xe _ ⟨.bl _,H,I,rfl,q⟩
inductive rV(x:V)(y:V)(H:Hp)(Q:VK):Prop
 |mk(d:_)(e:_)(aT:bF H x d)(cV:bF H y e)(cw:d.canLay0=true)(aR:e.canLay0=true)(zF:d.depth<=60)(EK:Q (.bl (!PyData.eqv d e)) H)
theorem xK1{k:Nat}(b:bh k X.A):eJ X (compareOp .NotEq) rV:=by
 intro p s n H x y v u Q I j i h;obtain⟨d,e,l,c,f,m,dp,q⟩:=h;obtain⟨as,g⟩:=l.reads I.aO j;obtain⟨bs,a⟩:=c.reads I.aO i;have un:=b.units;exact SeqAt.rcNeAt_reads g a f m 'a' X.prog X.w X.xe _ ⟨.bl _,H,I,rfl,q⟩
end
theorem KL:∀(a b:List Int),PyData.eqvAll (a.map PyData.int) (b.map PyData.int)=decide (a=b)
 |[],[]=>by simp[PyData.eqvAll]
 |x::a,[]=>by simp[PyData.eqvAll]
 |[],y::b=>by simp[PyData.eqvAll]
 |x::a,y::b=>by
  show(PyData.eqv (.int x) (.int y)&&PyData.eqvAll (a.map PyData.int) (b.map PyData.int))=_;rw[KL a b,show PyData.eqv (.int x) (.int y)=(x==y) by simp[PyData.eqv]];rw[Yn];simp
theorem KJ:∀(a:List Int),PyData.canLayAll0 (a.map PyData.int)=true
 |[]=>by simp[PyData.canLayAll0]
 |x::a=>by
  show(PyData.canLay0 (.int x)&&PyData.canLayAll0 (a.map PyData.int))=true;rw[KJ a];simp[PyData.canLay0]
def dT(a:List Int):PyData:=.tuple (a.map PyData.int)
def dL(a:List Int):PyData:=.list (a.map PyData.int)
theorem LB(a:List Int):(dT a).canLay0=true:=by
 exact KJ a
theorem GK(a:List Int):(dL a).canLay0=true:=by
 exact KJ a
theorem xK2(a b:List Int):PyData.eqv (dT a) (dT b)=decide (a=b):=by
 exact KL a b
theorem LA(a b:List Int):PyData.eqv (dL a) (dL b)=decide (a=b):=by
 exact KL a b
end L2
namespace lT
open PySem PySem.Spec
theorem q10{it t:ae}{i:Nat}{items:Array aa}{x:aa}{Q:aa->ab->Prop}(st:s.heap.IsTupleIter it t i)(d:s.heap.IsTuple t items)(g:items[i]?=some x)
  (q:∀c,c.IsTupleIter it t (i+1)->Heap.SameBut it s.heap c->Q x {s with heap:=c}):af (ah prog w) A (Builtin.SmallTypes.nextOf (.ref it)) Q E s:=by
 obtain⟨o,b,e,a⟩:=id st;obtain⟨k,h,_,j,f⟩:=d;unfold Builtin.SmallTypes.nextOf;refine Za (Z3 (name:=Str.ofString "__next__") st.typeIs XO (Z2 XO st.typeIs F.entry_tuple_iterator_next ?_ (F.args_tuple_iterator_next_1 _)));show af _ _ (field (.ref it) 0 >>= _) _ _ s;refine Za (Xg b a (x:=.ref t) rfl ?_);show af _ _ (if(Value.ref t==Value.none)=true then _ else _) _ _ s;rw[Zi (show ¬((Value.ref t==Value.none)=true)from Zv)];show af _ _ (field (.ref it) 1 >>= _) _ _ s;refine Za (Xg b a (x:=.int i 0) rfl ?_);show af _ _ (seqItems? (.ref t) >>= _) _ _ s;refine Za (Wg h f ?_);simp only[ZG,g];refine Za (XQ b a (by simp) (Zb ⟨x,rfl,Zb (q _ ⟨_,Yh _ b (XS (Yz a _)),(Vm ..).trans e,?_⟩ (Yi ..))⟩));rw[Yz a];simp[rawInt]
theorem q83{it t:ae}{i:Nat}{items:Array aa}{Q:aa->ab->Prop}(f:A.handled=none)(st:s.heap.IsTupleIter it t i)(h:s.heap.IsTuple t items)(k:items[i]?=none)
  (q:∀d e,Heap.ExtBut it s.heap d->(∃o,d.get? e=some o/\o.cls=.type "StopIteration")->E (.ref e) {s with heap:=d}):af (ah prog w) A (Builtin.SmallTypes.nextOf (.ref it)) Q E s:=by
 obtain⟨o,b,n,c⟩:=id st;obtain⟨p,g,_,l,j⟩:=h;unfold Builtin.SmallTypes.nextOf;refine Za (Z3 (name:=Str.ofString "__next__") st.typeIs XO (Z2 XO st.typeIs F.entry_tuple_iterator_next ?_ (F.args_tuple_iterator_next_1 _)));show af _ _ (field (.ref it) 0 >>= _) _ _ s;refine Za (Xg b c (x:=.ref t) rfl ?_);show af _ _ (if(Value.ref t==Value.none)=true then _ else _) _ _ s;rw[Zi (show ¬((Value.ref t==Value.none)=true)from Zv)];show af _ _ (field (.ref it) 1 >>= _) _ _ s;refine Za (Xg b c (x:=.int i 0) rfl ?_);show af _ _ (seqItems? (.ref t) >>= _) _ _ s;refine Za (Wg g j ?_);simp only[ZG,k];refine Za (Y8 (Za (XQ b c (by simp) ?_)));show af _ _ (newExc (.type "StopIteration") [] >>= _) _ _ _;refine Za ?_;simp only[newExc,newTuple];refine Za (ZS ?_ (by size_fits));refine Za (m:=firstArgMember _ _) (WG (a:=Value.none) (by first|rfl|(simp only[firstArgMember];rfl)) ?_);refine ZS ?_ (by size_fits);simp only[raiseNew];refine Za (wpAny_handled ?_)
 first|rw[show A.in1.handled=none from f]|rw[f]
 refine Za (Zb (wpAny_throw ?_));exact q _ _ (((Yi ..).extBut.push _).push _) ⟨_,Zj _ rfl,rfl⟩
theorem iM{e it:ae}{i:Nat}{x a:aa}{St:ao->Prop}{Q:aa->ab->Prop}(G:IsEnum s.heap e it i a)(X:e≠it)
  (nx:∀V:aa->ab->Prop,(∀j,Heap.SameBut it s.heap j->St j->V x {s with heap:=j})->af (ah prog w) A (Builtin.SmallTypes.nextOf (.ref it)) V E s)
  (q:∀h1 j,Heap.SameBut it s.heap h1->St h1->IsEnumOut j e it ((i:Int)+1) x s.heap.objs.size->j.get? s.heap.objs.size=some {cls:=.type "tuple",data:=.seq #[.int i s.toks,x]} ->
   (∀b o,b≠e->h1.get? b=some o->j.get? b=some o)->Q (.ref s.heap.objs.size) {s with heap:=j,toks:=s.toks+1}):
  af (ah prog w) A (Builtin.«enumerate.__next__» ⟨[.ref e],[]⟩) (λI s'=>∃v,I=.done (.ret v)/\Q v s') E s:=by
 obtain⟨l,g,d,c,h⟩:=s;show af _ _ (field (.ref e) 2 >>= _) _ _ _;refine Za (Xg G rfl (x:=.ref it) rfl ?_);refine Za (nx _ λf p W=>?_)
 replace p:Heap.SameBut it l f:=p
 have D:IsEnum f e it i a:=(p.2 e X).trans G;show af _ _ (field (.ref e) 3 >>= _) _ _ ⟨f,g,d,c,h⟩;refine Za (Xg D rfl (x:=rawInt i) rfl ?_);show af _ _ (field (.ref e) 4 >>= _) _ _ ⟨f,g,d,c,h⟩;refine Za (Xg D rfl (x:=.none) rfl ?_);show af _ _ (mkInt i >>= _) _ _ ⟨f,g,d,c,h⟩;refine Za (wpAny_mkInt ?_);show af _ _ (setField (.ref e) 3 (rawInt ((i:Int)+1)) >>= _) _ _ ⟨f,g,d,c+1,h⟩;refine Za (Wq D (by simp) λt S y=>?_)
 replace y:Heap.SameBut e f t:=y
 replace S:IsEnum t e it ((i:Int)+1) a:=S
 show af _ _ (setField (.ref e) 4 .none >>= _) _ _ ⟨t,g,d,c+1,h⟩;refine Za (Wq S (by simp) λm P C=>?_)
 replace C:Heap.SameBut e t m:=C
 replace P:IsEnum m e it ((i:Int)+1) a:=P
 show af _ _ (newTuple [.int i c,x] >>= _) _ _ ⟨m,g,d,c+1,h⟩;refine Za (wpAny_newTuple ?_);have U:m.objs.size=l.objs.size:=by rw[C.1,y.1,p.1]
 have N:e<l.objs.size:=Zn G;obtain⟨k,u⟩:∃k,m.push {cls:=.type "tuple",data:=.seq #[.int i c,x]}=k:=⟨_,rfl⟩;have J:IsEnum k e it ((i:Int)+1) a:=by rw[<- u];exact Zc _ P
 have Y:k.get? l.objs.size=some {cls:=.type "tuple",data:=.seq #[.int i c,x]}:=by rw[<- u,<- U];exact Zj _ rfl
 have Z:∀b o,b≠e->f.get? b=some o->k.get? b=some o:=λb o hb n=>by
  rw[<- u];exact Zc _ (C.extBut b o hb (y.extBut b o hb n))
 rw[u];show af _ _ (Builtin.SmallTypes.ownedTupleIsFree (.ref e) >>= _) _ _ ⟨k,g,d,c+1,h⟩;rw[U];refine Za ?_;unfold Builtin.SmallTypes.ownedTupleIsFree;refine Za (Xg J rfl (x:=.none) rfl (Zb ?_));simp only[Xh];refine Za (Y8 ?_);refine Za (Xg J rfl (x:=a) rfl ?_);refine Za (Wq J (by simp) λB F L=>?_)
 replace L:Heap.SameBut e k B:=L
 replace F:IsEnum B e it ((i:Int)+1) x:=F
 show af _ _ (Builtin.SmallTypes.ownedTupleHandOut (.ref e) (.ref l.objs.size) >>= _) _ _ ⟨B,g,d,c+1,h⟩;refine Za ?_;unfold Builtin.SmallTypes.ownedTupleHandOut;refine Za (Wq F (by simp) λM O K=>?_)
 replace K:Heap.SameBut e B M:=K
 replace O:IsEnumOut M e it ((i:Int)+1) x l.objs.size:=O
 refine Wq O (by simp) λr H R=>?_
 replace R:Heap.SameBut e M r:=R
 replace H:IsEnumOut r e it ((i:Int)+1) x l.objs.size:=H
 have T:∀b o,b≠e->k.get? b=some o->r.get? b=some o:=λb o hb n=>R.extBut b o hb (K.extBut b o hb (L.extBut b o hb n));exact Za (wpAny_letGo (Zb ⟨_,rfl,q f r p W H (T _ _ (Wm N) Y) λb o hb n=>T b o hb (Z b o hb n)⟩))
theorem oq{e it t:ae}{i:Nat}{items:Array aa}{x c:aa}{Q:Option aa->ab->Prop}(g:IsEnum s.heap e it i c)(k:e≠it)(st:s.heap.IsTupleIter it t i)(u:s.heap.IsTuple t items)(m:items[i]?=some x)
  (q:∀h1 a,Heap.SameBut it s.heap h1->IsEnumOut a e it ((i:Int)+1) x s.heap.objs.size->a.IsTupleIter it t (i+1)->a.get? s.heap.objs.size=some {cls:=.type "tuple",data:=.seq #[.int i s.toks,x]} ->
   (∀b o,b≠e->h1.get? b=some o->a.get? b=some o)->Q (some (.ref s.heap.objs.size)) {s with heap:=a,toks:=s.toks+1}):af (ah prog w) A (pyNext (.ref e)) Q E s:=by
 have j:s.TypeIs (.ref e) "enumerate":=⟨_,g,rfl⟩;unfold pyNext;refine Za (XJ (Z3 (name:=Str.ofString "__next__") j Xj (Z2 Xj j Vn
  (iM (St:=λh=>h.IsTupleIter it t (i+1)) g k (λC B=>q10 st u m λa n d=>B a d n) λh1 a d l v y f=>Zb (q h1 a d v ?_ y f)) (Vc _))))
 obtain⟨o,r,p⟩:=l;exact⟨o,f it o (YE k) r,p⟩
theorem next_end{e it t:ae}{i:Nat}{items:Array aa}{c:aa}{Q:Option aa->ab->Prop}(l:A.handled=none)(d:IsEnum s.heap e it i c)(st:s.heap.IsTupleIter it t i)(j:s.heap.IsTuple t items)(m:items[i]?=none)
  (q:∀a,Heap.ExtBut it s.heap a->Q none {s with heap:=a}):af (ah prog w) A (pyNext (.ref e)) Q E s:=by
 have f:s.TypeIs (.ref e) "enumerate":=⟨_,d,rfl⟩;unfold pyNext;refine Za (XJ (Z3 (name:=Str.ofString "__next__") f Xj (Z2 Xj f Vn ?_ (Vc _))));show af _ _ (field (.ref e) 2 >>= _) _ _ _;refine Za (Xg d rfl (x:=.ref it) rfl ?_);refine Za (q83 l st j m λa x k ⟨o,g,h⟩=>?_);exact Za (Wj (T:= "StopIteration") (b:=true) ⟨o,g,h⟩ isSubtype_stop (Zb (q _ k)))
theorem q84(l:ae)(items:Array aa)(n:Nat)(e:Option ae)(k:Array (Option aa)):
  Meets (Builtin.«enumerate.__new__» ⟨[.type "enumerate",.ref l],[]⟩) (λ_ R s=>s.heap.get? l=some {cls:=.type "tuple",dict:=e,data:=.seq items n,slots:=k} /\
   R (.ok (.ret (.ref (s.heap.push {cls:=.type "tuple_iterator",data:=.fields #[.ref l,.int 0 0]}).objs.size)))
    {s with heap:=(s.heap.push {cls:=.type "tuple_iterator",data:=.fields #[.ref l,.int 0 0]}).push {cls:=.type "enumerate",data:=.fields #[.none,.bool false,.ref s.heap.objs.size,rawInt 0,.none,.none]}}):=
 .of_wp λprog w A R s h=>by
  obtain⟨i,g,d,j,f⟩:=s;obtain⟨a,h⟩:=h;have p:=sub_enumerate;have b:Heap.IsTuple (Shared.heap ⟨i,g,d,j,f⟩) l items:=⟨_,a,rfl,n,rfl⟩
  wp_walk using WZ a
  refine wpAny_stack_any λm=>Zb ?_;split
  ·rename_i c _ _ _ _ _;cases(c==Value.type "enumerate")
   all_goals
    wp_walk using WZ a,Wn b
    exact⟨_,rfl,h⟩
  ·wp_walk using WZ a,Wn b
   exact⟨_,rfl,h⟩
theorem rS{l:ae}{items:Array aa}{Q:aa->ab->Prop}(j:s.heap.IsTuple l items)
  (q:∀a,IsEnum a (s.heap.objs.size+1) s.heap.objs.size 0 .none->a.IsTupleIter s.heap.objs.size l 0->(∀b o,s.heap.get? b=some o->a.get? b=some o)->Q (.ref (s.heap.objs.size+1)) {s with heap:=a}):
  af (ah prog w) A (call (.type "enumerate") [.ref l]) Q E s:=by
 obtain⟨⟨c,i,p,k⟩,m,e,n,g⟩:=j
 replace e:c=.type "tuple":=e
 replace g:p=.seq items n:=g
 subst e g;refine callType_new F.called_enumerate 'b' (F.typeCall_enumerate_1 _) (F.newCall_enumerate_1 _) (λd=>F.args_object_init_2 d _) F.entry_enumerate_new (q84 l items n i k) ⟨m,?_⟩;have h:(s.heap.push {cls:=.type "tuple_iterator",data:=.fields #[.ref l,.int 0 0]}).objs.size=s.heap.objs.size+1:=Z0 ..;show _/\_;rw[h];have f:=Zj (s.heap.push {cls:=.type "tuple_iterator",data:=.fields #[.ref l,.int 0 0]}) (o:={cls:=.type "enumerate",data:=.fields #[.none,.bool false,.ref s.heap.objs.size,rawInt 0,.none,.none]}) rfl;rw[h]at f;exact⟨⟨_,f,rfl⟩,q _ f ⟨_,Zc _ (Zj _ rfl),rfl,rfl⟩ λb o x=>Zc _ (Zc _ x)⟩
end lT
namespace L2
open PySem PySem.Spec PyProof.Rows
def Oy(K:PySem.W.Frag)(a:ae):It:=
 ⟨λi H=>∃b x,bg K H a b/\b[i]?=some x,λi H y c=>∃p x,H p=none/\(∀b,bg K H a b->b[i]?=some x)/\c=upd H p (.tup [.int i,x])/\y=.ref p,λi H=>∃b,bg K H a b/\b.length<=i⟩
theorem G9{h:ao}{o a:aw}{b:ae}(e:(h.push o).get? b=some a)(c:b<h.objs.size):h.get? b=some a:=by
 unfold Heap.get? Heap.push at *;simp only[VY]at e;rw[Zi (Zy c)]at e;exact e
theorem q11{P:ag}{w:ai}{K:PySem.W.Frag}{t:List av}{x1:Nat}{eZ:aC}(a e it:ae)(jH:e≠it):
  Turn P w K (.Tuple t x1 eZ) (Oy K a) [e,it] e (λi h=>(∃c,IsEnum h e it i c)/\h.IsTupleIter it a i) where
 mem:=by simp
 obj:=λi h f b hb=>by
  rcases Zu.mp hb with rfl|hb
  ·obtain⟨⟨c,z⟩,_⟩:=f;exact⟨_,z,λv q=>by
    have y:Data.fields _=Data.cell v:=q;cases y⟩
  ·have:b=it:=by simpa using hb
   subst this;obtain⟨_,o,z,_,d⟩:=f;exact⟨o,z,λv q=>by rw[d]at q;cases q⟩
 keep:=λi h h' f k=>by
  obtain⟨⟨c,z⟩,l⟩:=f;exact⟨⟨c,k e (by simp) _ z⟩,l.at λo q=>k it (by simp) o q⟩
 item:=by
  intro X M O T hc i j8 s Y H E I D f Q;subst M O T;obtain⟨⟨c,j⟩,l⟩:=f;obtain⟨xs,x,B,A⟩:=Q;obtain⟨S,G,p,hz⟩:=I.tuple B;obtain⟨u,hu,ru⟩:=G.get A;obtain⟨e0,e1,e2,e3,e4,W⟩:=D e (by simp);obtain⟨F,J,f2,N,R,L⟩:=D it (by simp);refine lT.oq j jH l (show s.heap.IsTuple a S.toArray from p) (x:=u) (by simpa using hu) λh1 h' sb ho g8 ht kp=>?_;refine⟨_,rfl,wpAny_letOwnedTupleGo_enum ho λh2 kW Z=>?_⟩;have V:e<s.heap.objs.size:=Zn j;have Mx:it<s.heap.objs.size:=by obtain⟨o,z,_⟩:=l;exact Zn z
  have fresh:H s.heap.objs.size=none:=I.aO.fresh (Zd _);have C:h1.objs.size=s.heap.objs.size:=sb.1;have J0:Inv X j8 Y (upd H s.heap.objs.size (.tup [.int i,x])) {s with heap:=s.heap.push {cls:=.type "tuple",data:=.seq #[.int i s.toks,u]},toks:=s.toks+1}:=
   I.laid (λb o q=>Zc _ q) (Zd _) ⟨by show 2<=sizeLine;decide,[.int i s.toks,u],.cons ⟨_,rfl⟩ (.cons ru .nil),_,Zj _ rfl,rfl,⟨_,rfl⟩,rfl⟩
  have r:(upd H s.heap.objs.size (.tup [.int i,x])) it=none:=by rw[bV (Zy Mx)];exact F
  have g:(upd H s.heap.objs.size (.tup [.int i,x])) e=none:=by rw[bV (Zy V)];exact e0
  have J1:=J0.turned (it:=it) (h':=h1.push {cls:=.type "tuple",data:=.seq #[.int i s.toks,u]}) (t':=s.toks+1) (λb o hb q=>by
    have q:(s.heap.push {cls:=.type "tuple",data:=.seq #[.int i s.toks,u]}).get? b=some o:=q;by_cases n:b<s.heap.objs.size
    ·have y:s.heap.get? b=some o:=G9 q n;exact Zc _ ((sb.2 b hb).trans y)
    ·have U:b<s.heap.objs.size+1:=by have:=Zn q;rw[Z0]at this;exact this
     have m:b=s.heap.objs.size:=VR (Vo U) (Wf n);subst m;rw[Zj _ rfl]at q;cases q;have:=Zj h1 (o:={cls:=.type "tuple",data:=.seq #[.int i s.toks,u]}) rfl;rw[C]at this;exact this) r J N R L
  have J2:=J1.turned (it:=e) (h':=h') (t':=s.toks+1) (λb o hb q=>by
    have q:(h1.push {cls:=.type "tuple",data:=.seq #[.int i s.toks,u]}).get? b=some o:=q;by_cases n:b<s.heap.objs.size
    ·have y:h1.get? b=some o:=G9 q (by rw[C];exact n);exact kp b o hb y
    ·have U:b<s.heap.objs.size+1:=by have:=Zn q;rw[Z0,C]at this;exact this
     have m:b=s.heap.objs.size:=VR (Vo U) (Wf n);subst m;have:=Zj h1 (o:={cls:=.type "tuple",data:=.seq #[.int i s.toks,u]}) rfl;rw[C]at this;rw[this]at q;cases q;exact ht) g e1 e3 e4 W
  have J3:=J2.turned (it:=e) (h':=h2) (t':=s.toks+1) (λb o hb q=>(Z.2 b hb).trans q) g e1 e3 e4 W;refine⟨.ref s.heap.objs.size,_,J3,rfl,⟨_,x,fresh,λys hy=>by rw[I.iJ hy B];exact A,rfl,rfl⟩,⟨⟨u,by
   have:(((i+1:Nat)):Int)=(i:Int)+1:=by lia
   rw[this];exact kW⟩,g8.at λo q=>(Z.2 it (YE jH)).trans q⟩,λb hb=>?_⟩
  rcases Zu.mp hb with rfl|hb
  ·exact g
  ·have:b=it:=by simpa using hb
   subst this;exact r
 done:=by
  intro X M O T hc i j8 s Y H E I D f Q;subst M O T;obtain⟨⟨c,j⟩,l⟩:=f;obtain⟨xs,B,A⟩:=Q;obtain⟨S,G,p,hz⟩:=I.tuple B;obtain⟨F,J,f2,N,R,L⟩:=D it (by simp);have hl:=G.length;exact lT.next_end (I.ok.hd hc) j l (show s.heap.IsTuple a S.toArray from p) (by simp;exact wt hl A) λh' m=>⟨rfl,I.turned (t':=s.toks) (λb o hb e=>m b o hb e) F J N R L⟩
 self:=λ_ _ _ _ _ f h=>by
  obtain⟨⟨c,j⟩,_⟩:=f;exact Vp j h
section
variable{X:Cx}{elts:List av}{x1:Nat}{eZ:aC}
def xK3(K:PySem.W.Frag)(ta:TA):TI:=λc H R=>ta c H λe b=>∃a,e=[.ref a]/\(∃d,bg K b a d)/\R (Oy K a) b
theorem Lp{e:av}{ta:TA}{p f:aC}(v:Gl X "enumerate")(r:X.mg "enumerate"=none)(t:PA X [e] ta)(hs:starEach [e] X.env=[(false,eval e X.env)]:=by rfl):PI X (.Tuple elts x1 eZ) (.Call (.Name "enumerate" p) [e] [] f) (xK3 X.K ta):=by
 intro k s i H R I h;refine Call_ (yd I v r V4 (Xb (bz (t f k s i H _ I h) λE c ⟨F,j,d,x,y⟩=>?_) hs rfl));obtain⟨a,rfl,⟨B,m⟩,q⟩:=y;obtain⟨u,rfl,ru⟩:=iq x;cases ru;obtain⟨w,C,pt,D⟩:=d.tuple m;refine lT.rS (show c.heap.IsTuple a w.toArray from pt) λn g A l=>?_;refine Vp g ?_;have J:Inv X k i j {c with heap:=n}:=d.kept (t':=c.toks) l;refine⟨c.heap.objs.size+1,[c.heap.objs.size+1,c.heap.objs.size],_,_,j,rfl,J,q11 a _ _ (Nat.succ_ne_self _),⟨⟨.none,g⟩,A⟩,λb hb=>?_,q⟩;rcases Zu.mp hb with rfl|hb
 ·exact d.iG (Xu _) (d.aO.fresh (Xu _))
 ·have:b=c.heap.objs.size:=by simpa using hb
  subst this;exact d.iG (Zd _) (d.aO.fresh (Zd _))
end
section
variable{X:Cx}
def fq(X:Cx)(scope:az)(b:List (ar×ae))(C:ae)(a:List ar)(fp:List ae)(aM:ab)(aN:Hp):Cx:=
 {X with N:=a++X.N,aM:=aM,aN:=aN,env:=compEnvC scope b C X.env,outer:=X.stack,stack:=X.stack,ex:=fp,fn:=λ_=>false,pn:=[],xe:=λ_ _=>False}
def u9(n:Nat)(r:TI)(g:TG)(q:TT)(te:TE):TE:=λf H Q=>r f H λJ k=>∀D,k D=none->∃W:Nat->Nat->List V->Hp->Prop,(∃m,W 0 m [] (upd k D (.lst []))) /\
 ∀i m a c,W i m a c->c D=some (.lst a)/\a.length<sizeLine/\((J.stop i c/\Q (.ref D) c)\/(J.go i c/\∀y l,J.lV i c y l->∀h:St,h.length=n ->
  g y (h++f) l λp s=>q p s λb e=>if b=true then te p e λv j=>j D=some (.lst a)/\∃d,d<m/\W (i+1) d (a++[v]) (upd j D (.lst (a++[v])))else ∃d,d<m/\W (i+1) d a e))
theorem q85{prog:ag}{w:ai}{A:aj}{R:Result->ab->Prop}{s:ab}{b a iter:av}{e:List av}{scope:az}{d:aC}{it acc:aa}{env:Env}(T:Sem Bool)
  (u:compTurn (.ListComp b [⟨a,iter,e,0⟩] scope d) 0 it acc env=(standAt iter.pos >>= λ_=>pyNext it >>= λr=>match r with
   |none=>pure (.done .next)
   |some v=>letOwnedTupleGo a it v >>= λ_=>assign a env v >>= λ_=>T >>= λok=>(if ok=true then(eval b env >>= λx=>call (.builtin "list.append") [acc,x] >>= λ_=>pure ())else pure ()) >>= λ_=>
     again (.compLoop (.ListComp b [⟨a,iter,e,0⟩] scope d) 0 it acc env)))
  (I:Nat->ab->Prop)
  (f:∀n s,I n s->af (ah prog w) A (pyNext it) (λr i=>match r with
   |none=>R (.ok .next) i
   |some v=>af (ah prog w) A (letOwnedTupleGo a it v) (λ_ l=>af (ah prog w) A (assign a env v) (λ_ p=>af (ah prog w) A T (λok j=>
     if ok=true then af (ah prog w) A (eval b env) (λx t=>af (ah prog w) A (call (.builtin "list.append") [acc,x]) (λ_ q=>∃m,m<n/\I m q) (λ_ _=>False) t) (λ_ _=>False) j
     else ∃m,m<n/\I m j) (λ_ _=>False) p) (λ_ _=>False) l) (λ_ _=>False) i) (λ_ _=>False) s)
  (n:Nat) (h:I n s):codeAny (ah prog w) A (.compLoop (.ListComp b [⟨a,iter,e,0⟩] scope d) 0 it acc env) R s:=by
 refine codeAny_loop rfl I (λn s y=>?_) n h;show af _ A ((compTurn (.ListComp b [⟨a,iter,e,0⟩] scope d) 0 it acc env).onRaise (λx=>do noteFrame x env;theTreesLotGoes x)) _ _ s;refine wpAny_noted ?_;rw[u];refine Za (Uz (Za (Y7 (f n s y) (λr i k=>?_) λ_ _ c=>c.elim)));cases r with
 |none=>exact Zb k
 |some v=>
  refine Za (Y7 k (λ_ l B=>?_) λ_ _ c=>c.elim);refine Za (Y7 B (λ_ p C=>Za (Y7 C (λok j g=>?_) λ_ _ c=>c.elim)) λ_ _ c=>c.elim);cases ok with
  |true=>
   rw[Zk rfl]at g;simp only[Xh];exact Za (Za (Y7 g (λx t E=>Za (Y7 E (λ_ q D=>Zb (Zb ⟨rfl,D⟩)) λ_ _ c=>c.elim)) λ_ _ c=>c.elim))
  |false=>
   rw[Zi Zv]at g;simp only[Zt,ZX];exact Za (Zb (Zb ⟨rfl,g⟩))
theorem K4(b a iter:av)(scope:az)(c:aC)(it acc:aa)(env:Env):compTurn (.ListComp b [⟨a,iter,[],0⟩] scope c) 0 it acc env=(standAt iter.pos >>= λ_=>pyNext it >>= λr=>match r with
   |none=>pure (.done .next)
   |some v=>letOwnedTupleGo a it v >>= λ_=>assign a env v >>= λ_=>(pure true:Sem Bool) >>= λok=>(if ok=true then(eval b env >>= λx=>call (.builtin "list.append") [acc,x] >>= λ_=>pure ())else pure ()) >>= λ_=>
     again (.compLoop (.ListComp b [⟨a,iter,[],0⟩] scope c) 0 it acc env)):=by
 rw[compTurn_list1];congr 1
theorem xk8(b a iter c:av)(scope:az)(d:aC)(it acc:aa)(env:Env):compTurn (.ListComp b [⟨a,iter,[c],0⟩] scope d) 0 it acc env=(standAt iter.pos >>= λ_=>pyNext it >>= λr=>match r with
   |none=>pure (.done .next)
   |some v=>letOwnedTupleGo a it v >>= λ_=>assign a env v >>= λ_=>isTrue c env (eval c env) >>= λok=>(if ok=true then(eval b env >>= λx=>call (.builtin "list.append") [acc,x] >>= λ_=>pure ())else pure ()) >>= λ_=>
     again (.compLoop (.ListComp b [⟨a,iter,[c],0⟩] scope d) 0 it acc env)):=by
 rw[compTurn_list];refine UJ λ_=>UJ λr=>?_;cases r with
 |none=>rfl
 |some v=>
  refine UJ λ_=>UJ λ_=>?_;simp only[UP,List.forIn_nil,Xh,bind_assoc,V5];refine UJ λok=>?_;cases ok<;>simp
theorem qR0{P:List (ae×aw)}{σ:St}{H:Hp}{s:ab}{h':ao}{tk:Nat}{scope:az}{t:List (ar×ae)}{C:ae}{nn:List ar}{fp:List ae}{m:ar->Option aa}
  (I:Inv X P σ H s) (E:C=s.heap.objs.size) (keep:∀b o,s.heap.get? b=some o->h'.get? b=some o) (U:h'.Ns C m) (w:∀b∈fp,gz X P H b) (D:∀b∈fp,b<s.heap.objs.size)
  (V:scope.kind=.function) (x:∀y∈scope.names,y.2≠.cell) (W:∀y∈X.N,scope.names.lookup y≠some .local)
  (n:∀y c,t.lookup y=some c->X.env.cells.lookup y=some c) (M:∀p∈scope.names,p.2=.free->(t.lookup p.1).isSome=true)
  (hfr:∀p∈scope.names,p.2=.free->xo X.env.scope p.1/\X.env.scope.names.lookup p.1≠some .local):
  Inv (fq X scope t C nn fp s H) [] ((nn.map λ_=>none)++σ) H {s with heap:=h',toks:=tk}:=by
 have f:∀y c,t.lookup y=some c->∃v,s.heap.IsCell c v:=λy c e=>I.cell y c (n y c e);have Z:∀y c,t.lookup y=some c->c<s.heap.objs.size:=λy c e=>by
  obtain⟨v,q⟩:=f y c e;exact q.lt
 have O:∀c v,s.heap.IsCell c v->h'.IsCell c v:=λc v ⟨o,e,d⟩=>⟨o,keep c o e,d⟩;have N:∀b∈mW X.stack,∃o,s.heap.get? b=some o:=λb hb=>by
  rcases Zu.mp (I.g7 b hb)with e|hb
  ·obtain⟨_,⟨o,_,_,J,_⟩,_⟩:=I.loc;exact⟨o,by rw[e];exact J⟩
  ·obtain⟨_,o,J,_⟩:=I.gg.mem hb;exact⟨o,J⟩
 refine⟨⟨I.ok.mod,V,I.ok.glob,I.ok.blt,Vg E.symm,λy z c h1 g=>I.ok.inj y z c (n y c h1) (n z c g),λy k=>?_,λy c h _=>Bool.noConfusion h,I.ok.hd,I.ok.frames,.inl rfl,λb hb=>⟨?_,λy c e z=>?_⟩,I.bs,
  ZF I.ok.xl I.sz,λb o e hb=>?_,λb hb Y=>?_,I.stack,I.nr⟩,rfl,I.bare,Un.kept keep,⟨m,U,λi y v h1 g a=>?_⟩,λy c e=>?_,?_,λy c e=>?_,λp l=>absurd l (by simp[fq]),I.aO.kept keep,?_⟩
 ·
  have k:(relabel scope X.env).names.lookup y=some .cell\/(relabel scope X.env).names.lookup y=some .free:=k;obtain⟨p,l,B,A⟩:∃p∈scope.names,p.1=y/\p.2=.free:=by
   rcases k with k|k
   ·exact Cg k x (.inl rfl)
   ·exact Cg k x (.inr rfl)
  obtain⟨c,e⟩:=X5.mp (M p l A);exact⟨c,by rw[<- B];exact e⟩
 ·show b≠C;rw[E];exact Zy (D b hb)
 ·exact(w b hb).2.2.2.2.1 y c (n y c e) z
 ·rcases(w b hb).2.2.2.1 with z|z
  ·exact I.ok.qu b o e z
  ·exact absurd (ZT (Zn (I.ok.bs b o e).1) z) (YO _)
 ·rcases Zu.mp (I.g7 b Y)with z|z
  ·exact(w b hb).2.1 z
  ·exact(w b hb).2.2.1 z
 ·
  by_cases R:i<nn.length
  ·rw[Zr (by simpa using R)]at g;simp at g
  ·obtain⟨j,rfl⟩:∃j,i=nn.length+j:=⟨i-nn.length,by lia⟩;have h1:X.N[j]?=some y:=by
    have h1:(nn++X.N)[nn.length+j]?=some y:=h1;rw[Zq (YF _ _),Vd]at h1;exact h1
   have g:σ[j]?=some (some v):=by
    rw[Zq (by simp)]at g;simpa using g
   have a:(relabel scope X.env).names.lookup y=some .local\/(relabel scope X.env).names.lookup y=some .cell\/(relabel scope X.env).names.lookup y=some .free:=a;rcases a with a|a
   ·exact absurd (Rq a) (W y (ZH h1))
   ·obtain⟨p,l,B,A⟩:∃p∈scope.names,p.1=y/\p.2=.free:=by
     rcases a with a|a
     ·exact Cg a x (.inl rfl)
     ·exact Cg a x (.inr rfl)
    obtain⟨Q,r⟩:=hfr p l A;rw[B]at Q r;obtain⟨m0,_,L⟩:=I.loc;obtain⟨u,ru,G⟩:=L j y v h1 g Q;rcases G with⟨G,_⟩|⟨_,c,T,F⟩
    ·exact absurd G r
    ·obtain⟨S,K⟩:=X5.mp (M p l A);rw[B]at K;have:=n y S K;rw[T]at this;cases this;refine⟨u,ru,.inr ⟨a,c,K,O c _ F⟩⟩
 ·obtain⟨v,q⟩:=f y c e;exact⟨v,O c v q⟩
 ·show H C=none;exact I.aO.fresh (Vg E.symm)
 ·exact I.dM y c (n y c e)
 ·show((nn.map λ_=>none)++σ).length=(nn++X.N).length;simp[I.len]
theorem q86{f:List (ae×aw)}{σ σ':St}{H a:Hp}{s s':ab}{h':ao}{scope:az}{t:List (ar×ae)}{C:ae}{nn:List ar}{fp:List ae}
  (I:Inv X f σ H s) (h:C=s.heap.objs.size) (i:∀b∈fp,gz X f H b) (J:Inv (fq X scope t C nn fp s H) [] σ' a s') (sb:Heap.SameBut C s'.heap h'):Inv X f σ a {s' with heap:=h'}:=by
 have ne:∀b o,s.heap.get? b=some o->b≠C:=λb o e=>by rw[h];exact Zy (Zn e)
 have B:Un (mW X.stack) fp H a s.heap s'.heap:=J.base;have U:Un (mW X.stack) fp H a s.heap h':=
  ⟨λb o e n hb d=>(sb.2 b (ne b o e)).trans (B.keep b o e n hb d),λb o e n hb d=>by
   obtain⟨k,q⟩:=B.slot b o e n hb d;exact⟨k,(sb.2 b (ne b o e)).trans q⟩,B.free,λb o e d=>by
   obtain⟨v,q⟩:=B.there b o e d;exact⟨v,(sb.2 b (ne b o e)).trans q⟩,B.c_,B.iF,B.iT⟩
 have g:a C=none:=J.free;have K:dJ X.prog X.w a h':=λb o e=>(J.aO b o e).de (λc u j q=>(sb.2 c (by
  rintro rfl;rcases j with z|z
  ·rw[z,e]at g;cases g
  ·rw[g]at z;cases z)).trans q) (λ_ q=>q) λ_ _ q=>q
 refine I.EO (s':={s' with heap:=h'}) (ch:=fp) J.os U K J.bare λb hb=>?_;obtain⟨_,r,_,l,m,p⟩:=i b hb;exact⟨l,r,m,p⟩
theorem Tu{use:Option (aa->Sem Unit)}{QQ:aa->ab->Prop}{Q:VK}{k:List (ae×aw)}{s:ab}{σ:St}{H:Hp}{nn:List ar}{G:av}{E:List av}{A:aC}{j iter:av}{scope:az}{wi:TI}{g:TG}{tt:TT}{te:TE}(T:Env->Sem Bool)(hc:X.calm=true)(hi:PI X G iter wi)
  (kz:∀it Z env,compTurn (.ListComp j [⟨G,iter,E,0⟩] scope A) 0 it Z env=(standAt iter.pos >>= λ_=>pyNext it >>= λr=>match r with
   |none=>pure (.done .next)
   |some v=>letOwnedTupleGo G it v >>= λ_=>assign G env v >>= λ_=>T env >>= λok=>(if ok=true then(eval j env >>= λx=>call (.builtin "list.append") [Z,x] >>= λ_=>pure ())else pure ()) >>= λ_=>
     again (.compLoop (.ListComp j [⟨G,iter,E,0⟩] scope A) 0 it Z env)))
  (uA:∀l C d aM aN,PG (fq X scope l C nn d aM aN) G g)
  (lh:∀y (t σ:St) H R,t.length=nn.length->g y (t++σ) H R->g y (t++σ) H λσ' w=>(∃iu:St,iu.length=nn.length/\σ'=iu++σ)/\R σ' w)
  (DH:∀l C d aM aN (k:List (ae×aw)) (s:ab) (σ:St) (H:Hp) (Q:Bool->Hp->Prop),Inv (fq X scope l C nn d aM aN) k σ H s->tt σ H Q->af (ah X.prog X.w) X.A (T (compEnvC scope l C X.env)) (TP (fq X scope l C nn d aM aN) k σ Q) (λ_ _=>False) s)
  (he:∀l C d aM aN,PE (fq X scope l C nn d aM aN) j te)
  (jE:scope.kind=.function) (jB:∀y∈scope.names,y.2≠.cell) (jD:∀y∈scope.names,y.2=.local->scope.names.lookup y.1=some .local)
  (jL:∀y∈X.N,scope.names.lookup y≠some .local) (hfr:∀p∈scope.names,p.2=.free->xo X.env.scope p.1/\X.env.scope.names.lookup p.1≠some .local)
  (hs:∀x,foldedSetIterable iter X.env x=pure x) (I:Inv X k σ H s) (h:u9 nn.length wi g tt te σ H Q)
  (fin:∀(D C:ae)(L:Hp)(U:ab)(m4:ar->Option aa),gz X k L C->U.heap.Ns C m4->(∀h',Heap.SameBut C U.heap h'->Inv X k σ L {U with heap:=h'})->Q (.ref D) L->compPost (ah X.prog X.w) X.A X.xe use QQ (.ref D) C (.ok Flow.next) U):
  af (ah X.prog X.w) X.A (comprehension (.ListComp j [⟨G,iter,E,0⟩] scope A) scope X.env (firstIterPos [⟨G,iter,E,0⟩] A) (newList []) false (eval iter X.env) use) QQ X.xe s:=by
 obtain⟨l,Ej,kC,uC⟩:=qx1 (scope:=scope) (env:=X.env) (λp hp hk=>by
  obtain⟨hv,hn⟩:=hfr p hp hk;refine I.ok.has p.1 ?_;rcases hv with z|z
  ·exact absurd z hn
  ·exact z)
 refine wpAny_comprehension_free (use:=use) rfl hs Ej jE jD (bz (hi k s σ H _ I h) λv s1 h1=>bz h1 λMr a h2=>?_);obtain⟨it,d,tn,J,H2,rfl,I2,F,cg,f2,q⟩:=h2;have hD:H2 a.heap.objs.size=none:=I2.aO.fresh (Zd _);obtain⟨W,⟨m0,w0⟩,turn⟩:=q _ hD;refine ZS (wpAny_newFunctionEnv jB (by intro y hy;simp at hy) (λdw mV mT=>?_) jE);dsimp only at mV mT ⊢;have I3:Inv X k σ (upd H2 a.heap.objs.size (.lst [])) {a with heap:=a.heap.push {cls:=.type "list",dict:=none,data:=.seq ([]:List aa).toArray}}:=
  I2.laid (t':=a.toks) (λb u e=>Zc _ e) (Zd _) ⟨Zs _,[],0,.nil,Zj _ rfl⟩
 have fpn:∀b∈d,b≠a.heap.objs.size:=λb hb=>by
  obtain⟨o,e,_⟩:=F.obj 0 a.heap cg b hb;exact Zy (Zn e)
 have zw:∀b∈d,b<(a.heap.push {cls:=.type "list",dict:=none,data:=.seq ([]:List aa).toArray}).objs.size:=λb hb=>by
  obtain⟨o,e,_⟩:=F.obj 0 a.heap cg b hb;rw[Z0];exact Z6 (Zn e)
 have f3:∀b∈d,gz X k (upd H2 a.heap.objs.size (.lst [])) b:=λb hb=>⟨by rw[bV (fpn b hb)];exact(f2 b hb).1,(f2 b hb).2⟩;generalize hg2:a.heap.push {cls:=.type "list",dict:=none,data:=.seq ([]:List aa).toArray}=K at mV mT I3 zw ⊢;have B:∀b o,K.get? b=some o->dw.get? b=some o:=λb o e=>(mT.2 b (Zy (Zn e))).trans (Zc _ e);have J0:=qR0 (nn:=nn) (tk:=a.toks+([]:List (ar×aa)).length) I3 (C:=K.objs.size) rfl B mV f3 zw jE jB jL kC uC hfr;generalize f:fq X scope l K.objs.size nn d {a with heap:=K} (upd H2 a.heap.objs.size (.lst []))=Y at J0;have eY:PE Y j te:=by rw[<- f];exact he _ _ _ _ _
 have eG:PG Y G g:=by rw[<- f];exact uA _ _ _ _ _
 have eT:∀(k:List (ae×aw))(s:ab)(σ:St)(H:Hp)(Q:Bool->Hp->Prop),Inv Y k σ H s->tt σ H Q->af (ah Y.prog Y.w) Y.A (T Y.env) (TP Y k σ Q) Y.xe s:=by rw[<- f];exact DH _ _ _ _ _
 have eP:Y.prog=X.prog:=by rw[<- f];rfl
 have eW:Y.w=X.w:=by rw[<- f];rfl
 have eK:Y.K=X.K:=by rw[<- f];rfl
 have eA:Y.A=X.A:=by rw[<- f];rfl
 have eC:Y.calm=true:=by rw[<- f];exact hc
 have P:Y.env=compEnvC scope l K.objs.size X.env:=by rw[<- f];rfl
 have eX:Y.xe=λ_ _=>False:=by rw[<- f];rfl
 have eN:Y.N=nn++X.N:=by rw[<- f];rfl
 have eEx:Y.ex=d:=by rw[<- f];rfl
 have eFs:Y.fs=mW X.stack:=by rw[<- f];rfl
 have ePn:Y.pn=[]:=by rw[<- f];rfl
 have NX:∀{w:Hp},(∀b∈d,w b=none)->∀b∈d,gz Y [] w b:=λhn b hb=>by
  have g:=f3 b hb;refine⟨hn b hb,?_,?_,.inl (by rw[eEx];exact hb),?_,λp hp=>absurd hp (by rw[ePn];simp)⟩
  ·rw[P];exact Zy (zw b hb)
  ·rw[eFs];intro z;rcases Zu.mp (I3.g7 b z)with z|z
   ·exact g.2.1 z
   ·exact g.2.2.1 z
  ·rw[P];exact λy c e=>g.2.2.2.2.1 y c (kC y c e)
 have N:∀iy:ab,iy={a with heap:=dw,toks:=a.toks+([]:List (ar×aa)).length} ->
   codeAny (ah X.prog X.w) X.A (.compLoop (.ListComp j [⟨G,iter,E,0⟩] scope A) 0 (.ref it) (.ref a.heap.objs.size) (compEnvC scope l K.objs.size X.env))
    (compPost (ah X.prog X.w) X.A X.xe use QQ (.ref a.heap.objs.size) K.objs.size) iy:=by
  rintro iy rfl;refine q85 (T (compEnvC scope l K.objs.size X.env)) (kz _ _ _) (λn s'=>∃i S w t,t.length=nn.length/\Inv Y [] (t++σ) w s'/\tn i s'.heap/\(∀b∈d,w b=none)/\W i n S w) ?_ m0
   ⟨0,[],_,nn.map λ_=>none,by simp,J0,F.keep 0 _ _ cg (λb hb o e=>B b o (by rw[<- hg2];exact Zc _ e)),λb hb=>(f3 b hb).1,w0⟩
  rintro n s3 ⟨i,S,L,t,wP,I4,g8,ED,w3⟩;obtain⟨hDx,hlx,alt⟩:=turn i n S L w3;rcases alt with⟨stop,qn⟩|⟨go,step⟩
  ·have D1:=F.done Y eP eW eK eC i [] s3 _ L (λ_ _=>False) I4 (NX ED) g8 stop;rw[eA]at D1;refine bz D1 λr U ⟨hr,I5⟩=>?_;subst hr;obtain⟨m4,kQ,_⟩:=id I5.loc;rw[P]at kQ;have hC0:L K.objs.size=none:=by
    have:=I5.free;rw[P]at this;exact this
   rw[<- f]at I5;exact fin _ _ L U m4 (I3.iG (Zd _) hC0) kQ (λh' sb=>q86 I3 rfl f3 I5 sb) qn
  ·have G1:=F.item Y eP eW eK eC i [] s3 _ L (λ_ _=>False) I4 (NX ED) g8 go;rw[eA]at G1;refine bz G1 λr U ⟨u,hr,h4⟩=>?_;subst hr;refine bz h4 λ_ s5 ⟨y,H5,I5,r5,y5,uR,NW⟩=>?_;have OA:=I5.pinned (NX NW) (F.obj _ _ uR);have S1:=eG _ s5 _ H5 y u _ OA r5 (lh y t σ H5 _ wP (step y _ y5 t wP));rw[eP,eW,eA,P,eX]at S1;refine bz S1 λ_ s6 ⟨OW,H6,I6,⟨T5,M0,e6⟩,q6⟩=>?_;subst e6;have S2:=eT _ s6 _ _ _ I6 q6;rw[eP,eW,eA,P,eX]at S2;refine bz S2 λok s7 ⟨H7,I7,q7⟩=>?_;have O:∀{s9:ab}{M:Hp}{m':Nat}{zs:List V},Inv Y ([]++CD d s5.heap) (T5++σ) M s9->m'<n->W (i+1) m' zs M->∃m,m<n/\∃i S w t,t.length=nn.length/\Inv Y [] (t++σ) w s9/\tn i s9.heap/\(∀b∈d,w b=none)/\W i m S w:=λ{s9 M m' zs} I9 xa w9=>by
    have pin:∀b∈d,∀ob,s5.heap.get? b=some ob->s9.heap.get? b=some ob/\M b=none:=λb hb ob e=>by
     have z:=I9.pin (b,ob) (Yg _ (Yg _ (Gp hb e)));exact⟨z.1,z.2.1⟩
    refine⟨m',xa,i+1,zs,M,T5,M0,I9.dX,F.keep _ _ _ uR (λb hb ob e=>(pin b hb ob e).1),λb hb=>?_,w9⟩;obtain⟨ob,e,_⟩:=F.obj _ _ uR b hb;exact(pin b hb ob e).2
   cases ok with
   |true=>
    rw[Zk rfl]at q7;rw[Zk rfl];have S3:=eY _ s7 _ _ _ I7 q7;rw[eP,eW,eA,P,eX]at S3;refine bz S3 λxv s8 ⟨v8,H8,I8,r8,hD8,m',xa,w8⟩=>?_;have S4:=An (X:=Y) _ s8 _ H8 (.ref a.heap.objs.size) [v8] (.ref a.heap.objs.size) [xv] (λ_ M=>M=upd H8 a.heap.objs.size (.lst (S++[v8]))) I8 rfl (.cons r8 .nil) ⟨_,S,v8,rfl,rfl,hD8,hlx,rfl⟩;rw[eP,eW,eA,eX]at S4;refine bz S4 λ_ s9 ⟨v9,M,I9,_,e9⟩=>?_;subst e9;exact O I9 xa w8
   |false=>
    rw[Zi Zv]at q7;rw[Zi Zv];obtain⟨m',xa,w8⟩:=q7;exact O I7 xa w8
 exact codeAny_compStart_list (N _ rfl) (F.self _ 0 _ _ _ (F.keep 0 _ _ cg (λb hb o e=>B b o (by rw[<- hg2];exact Zc _ e))) (N _ rfl))
theorem Lo{nn:List ar}{f:av}{e:List av}{d:aC}{a iter:av}{scope:az}{B:TI}{g:TG}{A:TT}{te:TE}(T:Env->Sem Bool)(hc:X.calm=true)(G:PI X f iter B)
  (L:∀t i b,compTurn (.ListComp a [⟨f,iter,e,0⟩] scope d) 0 t i b=(standAt iter.pos >>= λ_=>pyNext t >>= λr=>match r with
   |none=>pure (.done .next)
   |some v=>letOwnedTupleGo f t v >>= λ_=>assign f b v >>= λ_=>T b >>= λok=>(if ok=true then(eval a b >>= λx=>call (.builtin "list.append") [i,x] >>= λ_=>pure ())else pure ()) >>= λ_=>
     again (.compLoop (.ListComp a [⟨f,iter,e,0⟩] scope d) 0 t i b)))
  (P:∀j C m k l,PG (fq X scope j C nn m k l) f g)
  (N:∀y (u c:St) H R,u.length=nn.length->g y (u++c) H R->g y (u++c) H λn U=>(∃E:St,E.length=nn.length/\n=E++c)/\R n U)
  (Z:∀j C m k l (w:List (ae×aw)) (s:ab) (c:St) (H:Hp) (Q:Bool->Hp->Prop),Inv (fq X scope j C nn m k l) w c H s->A c H Q->af (ah X.prog X.w) X.A (T (compEnvC scope j C X.env)) (TP (fq X scope j C nn m k l) w c Q) (λ_ _=>False) s)
  (J:∀j C m k l,PE (fq X scope j C nn m k l) a te)
  (V:scope.kind=.function) (O:∀y∈scope.names,y.2≠.cell) (K:∀y∈scope.names,y.2=.local->scope.names.lookup y.1=some .local)
  (jL:∀y∈X.N,scope.names.lookup y≠some .local) (hfr:∀p∈scope.names,p.2=.free->xo X.env.scope p.1/\X.env.scope.names.lookup p.1≠some .local)
  (hs:∀x,foldedSetIterable iter X.env x=pure x):PE X (.ListComp a [⟨f,iter,e,0⟩] scope d) (u9 nn.length B g A te):=by
 intro w s c H Q I h;rw[eval_ListComp];exact Tu (use:=none) T hc G L P N Z J V O K jL hfr hs I h λD C H3 s4 Y _ S F q=>⟨Y,S,λM W=>⟨.ref _,H3,F M W,rfl,q⟩⟩
theorem Gf{scope a:az}{N:List ar}(h:X.N=N)(e:X.env.scope=a)
  (c:scope.names.all (λy=>y.2 != .cell)=true) (d:scope.names.all (λy=>y.2 != .local||scope.names.lookup y.1==some .local)=true) (g:N.all (λy=>scope.names.lookup y != some .local)=true)
  (hfr:scope.names.all (λp=>p.2 != .free||(a.names.lookup p.1==some .cell||a.names.lookup p.1==some .free))=true):
  (∀y∈scope.names,y.2≠.cell)/\(∀y∈scope.names,y.2=.local->scope.names.lookup y.1=some .local)/\(∀y∈X.N,scope.names.lookup y≠some .local)/\(∀p∈scope.names,p.2=.free->xo X.env.scope p.1/\X.env.scope.names.lookup p.1≠some .local):=by
 refine⟨λy b=>?_,λy b i=>?_,λy b=>?_,λp f hk=>?_⟩
 ·have:=Xm.mp c y b;simpa using this
 ·have:=Xm.mp d y b;simpa[i]using this
 ·have:=Xm.mp g y (by rw[<- h];exact b);simpa using this
 ·have:=Xm.mp hfr p f;rw[hk]at this;have z:a.names.lookup p.1=some .cell\/a.names.lookup p.1=some .free:=by simpa using this
  rw[e];refine⟨.inr z,λq=>?_⟩;rcases z with z|z<;>(rw[z]at q;cases q)
theorem yY{y:V}{b σ:St}{H:Hp}{R:St->Hp->Prop}(d:b.length=1)(h:ir 0 y (b++σ) H R):ir 0 y (b++σ) H λa e=>(∃c:St,c.length=1/\a=c++σ)/\R a e:=by
 match b,d with
 |[o],_=>exact⟨⟨[some y],rfl,rfl⟩,h⟩
theorem Mh{K:PySem.W.Frag}{y:V}{c σ:St}{H:Hp}{R:St->Hp->Prop}(n:c.length=2)(h:rL K 2 (tU (ir 0) (tU (ir 1) rM)) y (c++σ) H R):
  rL K 2 (tU (ir 0) (tU (ir 1) rM)) y (c++σ) H λb m=>(∃e:St,e.length=2/\b=e++σ)/\R b m:=by
 obtain⟨t,u,rfl⟩:=L2.AB n
 ·
  obtain⟨a,g,p,l,s,v,r,k,d,i,f,j,q⟩:=h;exact⟨a,g,p,l,s,v,r,k,d,i,f,j,⟨[some v,some d],rfl,rfl⟩,q⟩
theorem SR{x:ar}{u j:aC}{e iter c:av}{scope:az}{t:TI}{n:TT}{te:TE}(N:List ar)(k:az)(D:X.N=N)(G:X.env.scope=k)(hc:X.calm=true)(E:X.N.Nodup)(A:PI X (.Name x u) iter t)
  (M:∀g C f b d,PT (fq X scope g C [x] f b d) c n) (B:∀g C f b d,PE (fq X scope g C [x] f b d) e te)
  (P:scope.kind=.function:=by rfl) (K:scope.names.all (λy=>y.2 != .cell)=true:=by decide +kernel) (F:scope.names.all (λy=>y.2 != .local||scope.names.lookup y.1==some .local)=true:=by decide +kernel)
  (q:scope.names.lookup x=some .local:=by rfl) (T:N.all (λy=>scope.names.lookup y != some .local)=true:=by decide +kernel)
  (hfr:scope.names.all (λp=>p.2 != .free||(k.names.lookup p.1==some .cell||k.names.lookup p.1==some .free))=true:=by decide +kernel)
  (hs:∀x,foldedSetIterable iter X.env x=pure x:=by intro _;rfl):PE X (.ListComp e [⟨.Name x u,iter,[c],0⟩] scope j) (u9 1 t (ir 0) n te):=by
 obtain⟨U,L,v,w⟩:=Gf D G K F T hfr;refine Lo (nn:=[x]) (λa=>isTrue c a (eval c a)) hc A (λJ m a=>xk8 e _ iter c scope j J m a) (λg C f b d=>?_) (λy V r H R S h=>yY S h) (λg C f b d O s r H Q I h=>M g C f b d O s r H Q I h) B P U L v w hs;have l:(fq X scope g C [x] f b d).env.scope.names.lookup x=some .local:=X2 q;exact Ac (i:=0) (Yu.mpr ⟨λz=>v x z q,E⟩) rfl (.inl l) (.inr l)
theorem xS5{x y:ar}{h m j:aC}{k:Nat}{scope:az}{a:List (ar×ae)}{C:ae}{fp:List ae}{aM:ab}{aN:Hp}(hc:X.calm=true)(g:X.N.Nodup)(l:x≠y)(d:∀z∈X.N,scope.names.lookup z≠some .local)(f:scope.names.lookup x=some .local)(e:scope.names.lookup y=some .local):
  PG (fq X scope a C [x,y] fp aM aN) (.Tuple [.Name x h,.Name y m] k j) (rL X.K 2 (tU (ir 0) (tU (ir 1) rM))):=by
 have b:(fq X scope a C [x,y] fp aM aN).env.scope.names.lookup x=some .local:=X2 f;have c:(fq X scope a C [x,y] fp aM aN).env.scope.names.lookup y=some .local:=X2 e;have nd:(fq X scope a C [x,y] fp aM aN).N.Nodup:=Yu.mpr ⟨λz=>by
  rcases Zu.mp z with z|z
  ·exact l z
  ·exact d x z f,Yu.mpr ⟨λz=>d y z e,g⟩⟩
 exact qg (X:=fq X scope a C [x,y] fp aM aN) hc (gc (Ac (i:=0) nd rfl (.inl b) (.inr b)) (gc (Ac (i:=1) nd rfl (.inl c) (.inr c)) qh))
def AA:TT:=λ_ H Q=>Q true H
theorem FZ{x y:ar}{l q n b:aC}{k:Nat}{a iter:av}{scope:az}{m:TI}{te:TE}(N:List ar)(c:az)(w:X.N=N)(G:X.env.scope=c)(hc:X.calm=true)(D:X.N.Nodup)(u:PI X (.Tuple [.Name x l,.Name y q] k n) iter m)
  (v:∀i C g d f,PE (fq X scope i C [x,y] g d f) a te) (B:x≠y:=by decide)
  (O:scope.kind=.function:=by rfl) (K:scope.names.all (λy=>y.2 != .cell)=true:=by decide +kernel) (E:scope.names.all (λy=>y.2 != .local||scope.names.lookup y.1==some .local)=true:=by decide +kernel)
  (A:scope.names.lookup x=some .local:=by rfl) (M:scope.names.lookup y=some .local:=by rfl) (S:N.all (λy=>scope.names.lookup y != some .local)=true:=by decide +kernel)
  (hfr:scope.names.all (λp=>p.2 != .free||(c.names.lookup p.1==some .cell||c.names.lookup p.1==some .free))=true:=by decide +kernel)
  (hs:∀x,foldedSetIterable iter X.env x=pure x:=by intro _;rfl):PE X (.ListComp a [⟨.Tuple [.Name x l,.Name y q] k n,iter,[],0⟩] scope b) (u9 2 m (rL X.K 2 (tU (ir 0) (tU (ir 1) rM))) AA te):=by
 obtain⟨T,L,r,t⟩:=Gf w G K E S hfr;exact Lo (nn:=[x,y]) (λ_=>pure true) hc u (λJ e j=>K4 a _ iter scope b J e j) (λi C g d f=>xS5 hc D B r A M) (λy U F H R P h=>Mh P h) (λi C g d f V s F H Q I h=>Zb ⟨H,I,h⟩) v O T L r t hs
end
end L2
namespace L2
open PySem PySem.Spec PyProof.Rows PySem.W PySem.Builtin PySem.Builtin.ObjectAttr PySem.Builtin.Getset_descriptor
section
variable{K:Frag}{x C:ae}
def ExcAt(x C:ae)(h:ao):Prop:=∃a b,h.get? x=some a/\a.cls=.ref C/\a.data=.fields b/\b[2]?=some .none
theorem ExcAt.type{M:Model}{h:ao}(I:ExcAt x C h):Looks M h (typeOf (.ref x)) (.ref C):=by
 obtain⟨b,_,h1,c,_⟩:=I;have z:=(Looks.ld (M:=M) (part:=none) h1).andThen (f:=λo=>pure o.cls) (Looks.now (a:=b.cls));rw[c]at z;exact z
theorem xz6{a:aa}{R:Result->ab->Prop}(X:K.In s.heap)(I:ExcAt x C s.heap)(b:mroIn K C (.type "object")=some true)(h:R (.ok (.ret (.ref C))) s):
  codeAny (ah prog w) A (.call (.builtin "getset_descriptor.__get__") ⟨[.builtin "object.__class__",.ref x,a],[]⟩) R s:=by
 obtain⟨h1,c,e,i,d⟩:=s;have g:=I.type (M:=ah prog w);have f:=looks_mroIn (M:=ah prog w) X b;refine WF KF.slot_gs.plain KF.entry_gs ?_;refine KF.slot_gs.check _ _ _ _ _ _ _ _ KF.type_class (KF.args_gs _ _ _) ?_;unfold Builtin.«getset_descriptor.__get__» descrGet;rw[dga_obj];refine Za (Zb ?_);unfold descrGetter descrCheckInstance descrNameAndClass isInstance;simp only[KF.owner_class]
 repeat lk
 refine⟨Uc _ (by decide +kernel),Yp KF.entry_class ?_⟩;unfold Builtin.«object.__class__» shownTypeOf
 repeat lk
 exact h
theorem q87{tk:Tok}{Q:Fin->ab->Prop}(X:K.In s.heap)(I:ExcAt x C s.heap)
  (j:findIn K (.ref C) "__class__"=some (some (.builtin "object.__class__"))) (m:specialIn K (.builtin "object.__class__") "__get__"=some (some (.builtin "getset_descriptor.__get__"))) (b:takesIn K (.builtin "object.__class__")=some true)
  (i:mroIn K C (.type "object")=some true) (hc:(clsIn K C).isSome=true) (h:Q (.done (.ret (.ref C))) s):af (ah prog w) A (Builtin.«object.__getattribute__» ⟨[.ref x,.str "__class__" tk],[]⟩) Q E s:=by
 obtain⟨a,g,d,t,p⟩:=s;have f:=I.type (M:=ah prog w);have l:Looks (ah prog w) a (Builtin.ObjectAttr.find (.ref x) (.ref C) "__class__") (Builtin.ObjectAttr.Found.bind (.builtin "getset_descriptor.__get__") (.builtin "object.__class__")):=by
  have n:=looks_findIn (M:=ah prog w) X j;have c:Looks (ah prog w) a (Builtin.ObjectAttr.getOf (some (.builtin "object.__class__"))) (some (.builtin "getset_descriptor.__get__")):=looks_specialIn X m;have e:=looks_takesIn (M:=ah prog w) X b;have k:Looks (ah prog w) a (Builtin.ObjectAttr.dataDescriptor? (some (.builtin "object.__class__")) (some (.builtin "getset_descriptor.__get__"))) (some (.builtin "getset_descriptor.__get__",.builtin "object.__class__")):=e.andThen .now;exact n.andThen (c.andThen (k.andThen (Looks.tag .now)))
 unfold Builtin.«object.__getattribute__»
 repeat (first|with_reducible refine f.at ?_|with_reducible refine l.at ?_|wp_step)
 refine xz6 X I i ?_
 repeat (any_goals (first|assumption|wp_step))
theorem q88{M:Model}{b:aa}{P:Unit->ab->Prop}(X:K.In s.heap)(I:ExcAt x C s.heap)(hb:mroIn K C (.type "BaseException")=some true)(h:P () s):
  af M A (checkBuiltinCall "BaseException.__getattribute__" ⟨[.ref x,b],[]⟩) P E s:=by
 have hk:builtinKind "BaseException.__getattribute__"=some .slot:=by decide +kernel
 have c:splitId "BaseException.__getattribute__"=some ("BaseException","__getattribute__"):=by decide +kernel
 have a:=F.args_bexc_ga (.ref x) b;obtain⟨j,g,d,t,i⟩:=s;have e:=I.type (M:=M);have f:=looks_mroIn (M:=M) X hb;simp only[checkBuiltinCall,hk,c];refine Za ?_;unfold isInstance;refine Za (e.at (f.at ?_))
 repeat (first|assumption|wp_step)
theorem xk9{tk:Tok}{R:Result->ab->Prop}(X:K.In s.heap)(I:ExcAt x C s.heap)
  (d:findIn K (.ref C) "__class__"=some (some (.builtin "object.__class__"))) (c:specialIn K (.builtin "object.__class__") "__get__"=some (some (.builtin "getset_descriptor.__get__"))) (b:takesIn K (.builtin "object.__class__")=some true)
  (a:mroIn K C (.type "object")=some true) (hb:mroIn K C (.type "BaseException")=some true) (hc:(clsIn K C).isSome=true) (h:R (.ok (.ret (.ref C))) s):
  codeAny (ah prog w) A (.call (.builtin "BaseException.__getattribute__") ⟨[.ref x,.str "__class__" tk],[]⟩) R s:=
 WF F.excAttr_ValueError.ga.plain F.entry_bexc_ga (q88 X I hb (q87 X I d c b a hc h))
theorem q89{Q:Option aa->ab->Prop}(X:K.In s.heap)(I:ExcAt x C s.heap)(k:findIn K (.ref C) "__getattribute__"=some (some (.builtin "BaseException.__getattribute__")))(l:findIn K (.ref C) "__getattr__"=some none)
  (n:findIn K (.ref C) "__class__"=some (some (.builtin "object.__class__"))) (p:specialIn K (.builtin "object.__class__") "__get__"=some (some (.builtin "getset_descriptor.__get__"))) (i:takesIn K (.builtin "object.__class__")=some true)
  (m:mroIn K C (.type "object")=some true) (hb:mroIn K C (.type "BaseException")=some true) (hc:(clsIn K C).isSome=true) (h:Q (some (.ref C)) {s with toks:=s.toks+1}):
  af (ah prog w) A (getAttr? (.ref x) "__class__") Q E s:=by
 have go:=λ(f:aj) (R:Result->ab->Prop) (tk:Tok)=>xk9 (prog:=prog) (w:=w) (A:=f) (R:=R) (s:={s with toks:=s.toks+1}) (tk:=tk) X I n p i m hb hc;obtain⟨u,g,d,t,q⟩:=s;have b:=I.type (M:=ah prog w);have j:=looks_findIn (M:=ah prog w) X k;have c:=looks_findIn (M:=ah prog w) X l;have r:=F.excAttr_ValueError.ga.bind (.ref x);have e:(Value.builtin "BaseException.__getattribute__"== Value.builtin "object.__getattribute__")=false:=by decide +kernel
 have a:(onTheHeap (Value.ref C)&&Value.builtin "BaseException.__getattribute__"== Value.builtin "object.__getattribute__")=false:=by rw[e];rfl
 unfold getAttr? getAttrBy? getAttrBy;refine Za (wpAny_mkText (Za (XJ (ZY (Za (b.at (Za (j.at ?_))))))));dsimp only;rw[Zi (by rw[a];exact Zv)];unfold getAttrByItsOwn
 repeat (any_goals (first|assumption|with_reducible refine b.at ?_|with_reducible refine c.at ?_|wp_step))
 refine go _ _ _ ?_
 repeat (any_goals (first|assumption|wp_step))
structure si(K:Frag)(C:ae):Prop where
 Nj:findIn K (.ref C) "__getattribute__"=some (some (.builtin "BaseException.__getattribute__"))
 uA:findIn K (.ref C) "__getattr__"=some none
 ha:findIn K (.ref C) "__class__"=some (some (.builtin "object.__class__"))
 hn:specialIn K (.builtin "object.__class__") "__get__"=some (some (.builtin "getset_descriptor.__get__"))
 sQ:takesIn K (.builtin "object.__class__")=some true
 hm:mroIn K C (.type "object")=some true
 hb:mroIn K C (.type "BaseException")=some true
 hc:(clsIn K C).isSome=true
theorem xl0(T:si K C):KitX K (.ref x) (.ref C) (ExcAt x C) where
 ty:=λ_ _ _ I=>I.type
 it:=λ_ _ X _=>by
  have a:=T.hc;unfold clsIn at a;split at a
  ·rename_i f j b i c;intro p u t B d l;unfold isType loadHead;refine Za (wpAny_loadPart (d _ _ (X _ _ c)) ?_);exact Zb l
  ·cases a
 ne:=λh g y v n r X m=>by
  have a:=T.hc;refine YV.mpr λq=>?_;have e:C=g:=Value.ref.inj (XC.mp q);subst e;unfold clsIn at a;split at a
  ·rename_i f j b i c;have z:=(X _ _ c).symm.trans m;cases z
  ·cases a
 ca:=λX I k=>q89 X I T.Nj T.uA T.ha T.hn T.sQ T.hm T.hb T.hc k
end
end L2
namespace L2
open PySem PySem.Spec PyProof.Rows PySem.W
section
variable{X:Cx}
def EN:V->Option aa
 |.ty n=>some (.type n)
 |.ref a=>some (.ref a)
 |_=>none
theorem xz7{c:V}{u b:aa}(r:RelV c u)(e:EN c=some b):u=b:=by
 cases c with
 |ty n=>cases e;exact r
 |ref a=>cases e;exact r
 |_=>cases e
def OU(K:Frag)(H:Hp)(x:V)(t:aa):Prop:=∃a C,x=.ref a/\H a=some (.ext (ExcAt a C))/\si K C/\t=.ref C
inductive m9(K_:PySem.W.Frag)(xs:List V)(H:Hp)(Q:VK):Prop
 |mk(x:_)(c:_)(t:_)(cv:_)(b:_)(aT:xs=[x,c])(cV:EN c=some cv)(cw:(gp K_ H x t\/OU K_ H x t))(aR:kitOne K_ t cv=some b)(zF:Q (.bl b) H)
theorem Al:f_ X (.builtin "isinstance") (m9 X.K):=by
 intro w s m H k n Q I r h;obtain⟨x,c,t,v,b,rfl,f,j,hk,q⟩:=h;obtain⟨u,l,rfl,d,i⟩:=IG r;cases xz7 i f;rcases j with ty|⟨a,C,rfl,e,T,rfl⟩
 ·exact q54 I d ty hk λg=>⟨.bl b,H,I.tok _,rfl,q⟩
 ·cases(show u=Value.ref a from d);have p:ExcAt a C s.heap:=(I.aO a _ e).1;exact kia_one (xl0 T) I.gK p hk (λz=>nomatch z) λg=>⟨.bl b,H,I.tok _,rfl,q⟩
theorem SQ{c:List (ae×aw)}{σ:St}{H:Hp}{s s':ab}{h:aw}{d:List ae}(I:Inv X c σ H s)(k:Moved d (λa b=>b=a) {s with heap:=s.heap.push h} s')(p:∀b o,s.heap.get? b=some o->b∈d->False):Inv X c σ H s':=by
 obtain⟨h',n,j,t',i⟩:=s';obtain⟨f,l,m,g,q⟩:=k;cases(show n=s.gens from l);cases(show j=s.drawn from m);cases(show i=s.os from g);exact I.kept (h':=h') (t':=t') λb o e=>f b o (λz=>p b o e z) (Zc _ e)
inductive lQ(xs:List V)(H:Hp)(Q:VK):Prop
 |mk(p:ae)(bs:List Bool)(aT:xs=[.ref p])(cV:H p=some (.lst (bs.map V.bl)))(cw:Q (.bl (bs.all id)) H)
theorem Kr(hc:X.calm=true):f_ X (.builtin "all") lQ:=by
 intro P s M H K N Q I r h;obtain⟨p,bs,rfl,C,q⟩:=h;obtain⟨u,rfl,F⟩:=iq r;cases F;obtain⟨z,c,n,g,l⟩:=I.aO p _ C;have w:s.heap.IsList p c.toArray:=⟨_,l,rfl,_,rfl⟩;have t:c.length=bs.length:=by have:=g.length;simpa using this.symm
 have B:p≠s.heap.objs.size:=Zy (Zn l);refine call_all_walk (Xy w ?_);refine⟨s.heap.objs.size,_,_,_,_,_,λi=>bs.getD i true,rfl,UK (A:=X.A.in1) (I.ok.hd hc) s.heap.objs.size p B c.toArray,⟨⟨_,Zj _ rfl,rfl,rfl⟩,w.at λo e=>Zc _ e⟩,?_,?_⟩
 ·intro i v S R L G d;have j:c[i]?=some v:=by simpa using G
  have a:i<bs.length:=by rw[<- t];exact(cz j).1
  obtain⟨O,m,J⟩:=g.get (x:=V.bl (bs[i])) (i:=i) (by simp[a]);rw[j]at m;cases m;cases(show v=Value.bool bs[i]from J);have y:bs.getD i true=bs[i]:=by simp[List.getD,a]
  dsimp only at d;rw[y]at d;exact Yc d
 ·intro h' E k;refine⟨.bl (bs.all id),H,I.kept (h':=h') (t':=E) (λb o e=>k b o (λz=>?_) (Zc _ e)),?_,q⟩
  ·have:b=s.heap.objs.size:=by simpa using z
   exact YO _ (by rw[this]at e;exact Zn e)
  ·have D:c.toArray.size=bs.length:=by simpa using t
   rw[D];show Value.bool _=Value.bool _;congr 1;rw[Yn,Xm,Xm];constructor
   ·intro z b hb;obtain⟨i,a,e⟩:=ZK.mp hb;have:=z i (Yw.mpr a);simpa[List.getD,a,e]using this
   ·intro z i a;have f:=Yw.mp a;have:=z bs[i] (XN f);simpa[List.getD,f]using this
inductive lP(xs:List V)(H:Hp)(Q:VK):Prop
 |mk(p:ae)(bs:List Bool)(aT:xs=[.ref p])(cV:H p=some (.lst (bs.map V.bl)))(cw:Q (.bl (bs.any id)) H)
theorem Kq(hc:X.calm=true):f_ X (.builtin "any") lP:=by
 intro P s M H K N Q I r h;obtain⟨p,bs,rfl,D,q⟩:=h;obtain⟨u,rfl,G⟩:=iq r;cases G;obtain⟨z,c,n,j,m⟩:=I.aO p _ D;have y:s.heap.IsList p c.toArray:=⟨_,m,rfl,_,rfl⟩;have w:c.length=bs.length:=by have:=j.length;simpa using this.symm
 have C:p≠s.heap.objs.size:=Zy (Zn m);refine call_any_walk (Xy y ?_);refine⟨s.heap.objs.size,_,_,_,_,_,λi=>bs.getD i true,rfl,UK (A:=X.A.in1) (I.ok.hd hc) s.heap.objs.size p C c.toArray,⟨⟨_,Zj _ rfl,rfl,rfl⟩,y.at λo e=>Zc _ e⟩,?_,?_⟩
 ·intro i v S R L J d;have l:c[i]?=some v:=by simpa using J
  have a:i<bs.length:=by rw[<- w];exact(cz l).1
  obtain⟨O,t,f⟩:=j.get (x:=V.bl (bs[i])) (i:=i) (by simp[a]);rw[l]at t;cases t;cases(show v=Value.bool bs[i]from f);have B:bs.getD i true=bs[i]:=by simp[List.getD,a]
  dsimp only at d;rw[B]at d;exact Yc d
 ·intro h' F k;refine⟨.bl (bs.any id),H,I.kept (h':=h') (t':=F) (λb o e=>k b o (λz=>?_) (Zc _ e)),?_,q⟩
  ·have:b=s.heap.objs.size:=by simpa using z
   exact YO _ (by rw[this]at e;exact Zn e)
  ·have E:c.toArray.size=bs.length:=by simpa using w
   rw[E];show Value.bool _=Value.bool _;congr 1;rw[Yn,Ym,Ym];constructor
   ·rintro⟨i,a,e⟩;have g:=Yw.mp a;refine⟨bs[i],XN g,?_⟩;simpa[List.getD,g]using e
   ·rintro⟨b,hb,e⟩;obtain⟨i,a,f⟩:=ZK.mp hb;refine⟨i,Yw.mpr a,?_⟩;have:bs.getD i true=bs[i]:=by simp[List.getD,a]
    rw[this,f];exact e
def best(a:List Int):Nat->Int
 |0=>a.getD 0 0
 |k+1=>if a.getD (k+1) 0>best a k then a.getD (k+1) 0 else best a k
theorem R9(a:List Int):∀k,a.getD (argBest (λi j=>decide (a.getD i 0>a.getD j 0)) k) 0=best a k/\argBest (λi j=>decide (a.getD i 0>a.getD j 0)) k<=k
 |0=>⟨rfl,Zd _⟩
 |k+1=>by
  obtain⟨h1,c⟩:=R9 a k;unfold argBest best;rw[<- h1];by_cases b:a.getD (k+1) 0>a.getD (argBest (λi j=>decide (a.getD i 0>a.getD j 0)) k) 0
  ·rw[Zk (Zo b),Zk b];exact⟨rfl,Zd _⟩
  ·rw[Zi (by simpa using b),Zi b];exact⟨rfl,Ut c⟩
inductive lK(xs:List V)(H:Hp)(Q:VK):Prop
 |mk(p:ae)(ns:List Int)(aT:xs=[.ref p])(cV:H p=some (.lst (ns.map V.int)))(cw:ns≠[])(aR:Q (.int (best ns (ns.length-1))) H)
theorem q90(hc:X.calm=true):f_ X (.builtin "max") lK:=by
 intro j8 s U H S W Q I r h;obtain⟨p,c,rfl,M,N,q⟩:=h;obtain⟨u,rfl,O⟩:=iq r;cases O;obtain⟨z,d,n,m,l⟩:=I.aO p _ M;have D:s.heap.IsList p d.toArray:=⟨_,l,rfl,_,rfl⟩;have C:d.length=c.length:=by have:=m.length;simpa using this.symm
 have J:p≠s.heap.objs.size:=Zy (Zn l);have w:d.toArray.size=c.length:=by simpa using C
 have k:0<c.length:=VZ.mpr N;have a:∀(i:Nat)(v:aa),d.toArray[i]?=some v->∃t,v=.int (c.getD i 0) t:=λi v g=>by
  have y:d[i]?=some v:=by simpa using g
  have f:i<c.length:=by rw[<- C];exact(cz y).1
  obtain⟨Y,B,t,P⟩:=m.get (x:=V.int (c[i])) (i:=i) (by simp[f]);rw[y]at B;cases B;exact⟨t,by rw[P];simp[List.getD,f]⟩
 refine call_max_walkS (Xy D ?_);refine⟨s.heap.objs.size,_,_,_,_,_,_,λi j=>decide (c.getD i 0>c.getD j 0),rfl,(UK (A:=X.A.in1) (I.ok.hd hc) s.heap.objs.size p J d.toArray).toS,⟨⟨_,Zj _ rfl,rfl,rfl⟩,D.at λo e=>Zc _ e⟩,?_,by rw[w];exact k,?_,?_⟩
 ·intro b hb;rw[Z0];rcases Zu.mp hb with rfl|hb
  ·exact ZN _
  ·have:b=p:=by simpa using hb
   subst this;exact Z6 (Zn l)
 ·intro i j L G R Q' T f E K;obtain⟨t,rfl⟩:=a i L f;obtain⟨Z,rfl⟩:=a j G E;exact gt_int K
 ·intro v R g F;rw[w]at g;obtain⟨t,rfl⟩:=a _ v g;rw[(R9 c (c.length-1)).1];refine⟨.int _,H,SQ I F (λb o e hb=>?_),⟨t,rfl⟩,q⟩;have:b=s.heap.objs.size:=by simpa using hb
  exact YO _ (by rw[this]at e;exact Zn e)
theorem xS6{P:ag}{w:ai}{k:Key}{v:aa}(h:(g_ P w).is k v=true):RelV (kV k) v:=by
 rcases sI (show yv k v=true from h)with⟨i,t,rfl,rfl⟩|⟨x,t,rfl,rfl⟩
 ·exact⟨t,rfl⟩
 ·exact⟨t,rfl⟩
theorem G8:∀{a:List V}{b:List aa},a.length=b.length->(∀(i:Nat) x v,a[i]?=some x->b[i]?=some v->RelV x v)->Vals a b
 |[],[],_,_=>.nil
 |[],_::_,h,_=>by simp at h
 |_::_,[],h,_=>by simp at h
 |x::a,u::b,h,f=>.cons (f 0 x u rfl rfl) (G8 (by simpa using h) λi y v d c=>f (i+1) y v (by simpa using d) (by simpa using c))
inductive jg(xs:List V)(H:Hp)(Q:VK):Prop
 |mk(d:ae)(kvs:List (Key×V))(aT:xs=[.ref d])(cV:H d=some (.dK kvs))(cw:∀l,H l=none->Q (.ref l) (upd H l (.lst (kvs.map λkv=>kV kv.1))))
theorem q13(hc:X.calm=true):f_ X (.type "list") jg:=by
 intro P s M H L N Q I r h;obtain⟨d,kvs,rfl,E,q⟩:=h;obtain⟨u,rfl,ru⟩:=iq r;cases ru;obtain⟨z,B,g,b,K⟩:=QT I.aO E;obtain⟨ep,w⟩:=K.dictAt;have p:=b.length;refine kdl_call (kdl_dict (knd:=g_ X.prog X.w) (kvs:=g) (ep:=ep) B) (I.ok.hd hc) w (by rw[<- p];exact z) λO A f c t G m=>?_;refine⟨.ref s.heap.objs.size,_,I.laid (a:=s.heap.objs.size) (o:=.lst (kvs.map λkv=>kV kv.1)) (t':=A) t (Zd _) ⟨by simpa using z,f.toList,c,?_,by simpa using G⟩,rfl,q _ I.fresh⟩;refine G8 (by simp[p,m.1]) λi x v j C=>?_;rw[Zh]at j;obtain⟨kv,F,rfl⟩:=Zl.mp j;obtain⟨k,y,hk,e⟩:=m.2 i v (by simpa using C);have J:g[i]?=some (k,y):=hk;have D:kv.1=k:=by
  have l:(kvs.map (·.1))[i]?=some kv.1:=by rw[Zh,F];rfl
  have n:(g.map (·.1))[i]?=some k:=by rw[Zh,J];rfl
  rw[b.keys]at l;rw[l]at n;exact ZE n
 rw[D];exact xS6 e
inductive ik(xs:List V)(H:Hp)(Q:VK):Prop
 |mk(n:Int)(aT:xs=[.int n])(cV:∀r,H r=none->Q (.ref r) (upd H r (.xX 0 n)))
theorem qK0:f_ X (.type "range") ik:=by
 intro g s c H d f Q I r h;obtain⟨n,rfl,q⟩:=h;obtain⟨u,rfl,t,rfl⟩:=iq r;exact call_range_1 ⟨.ref s.heap.objs.size,_,I.laid (a:=s.heap.objs.size) (o:=.xX 0 n) (λb o e=>Zc _ e) (Zd _) ⟨_,_,_,Zj _ rfl⟩,rfl,q _ I.fresh⟩
inductive jf(xs:List V)(H:Hp)(Q:VK):Prop
 |mk(r:ae)(n:Nat)(aT:xs=[.ref r])(cV:H r=some (.xX 0 (n:Int)))(cw:n<=1000000)(aR:∀l,H l=none->Q (.ref l) (upd H l (.lst ((List.range n).map λ(i:Nat)=>V.int (i:Int)))))
theorem q14(hc:X.calm=true):f_ X (.type "list") jf:=by
 intro J s E H C F Q I p h;obtain⟨r,n,rfl,l,D,q⟩:=h;obtain⟨u,rfl,ru⟩:=iq p;cases ru;obtain⟨t,u,v,B⟩:=I.aO r _ l;refine call_list_range (a:=0) (b:=n) (c:=1) (n:=n) (I.ok.hd hc) B (small_one 'a' 'a' 'a' 'a') (by rw[rangeSize_one];split<;>lia) 'a' λG w d c m A g=>?_;refine⟨.ref s.heap.objs.size,_,I.laid (a:=s.heap.objs.size) (o:=.lst ((List.range n).map λ(i:Nat)=>V.int (i:Int))) (t':=w) m (Zd _) ⟨?_,d.toList,c,?_,by simpa using A⟩,rfl,q _ I.fresh⟩
 ·rw[Zg,YK,XY];lia
 ·refine G8 (by simp[g.1]) λi x v f y=>?_;rw[Zh]at f;obtain⟨j,k,rfl⟩:=Zl.mp f;have e:j=i:=by
   obtain⟨_,e⟩:=cz k;simpa using e.symm
  subst e;obtain⟨t',rfl⟩:=g.2 j v (by simpa using y);exact⟨t',by simp⟩
end
namespace ij
theorem noFill:fillsNumberSlot (.type "tuple") "mul"=pure false:=
 PySem.fillsNumberSlot_seq (id:= "tuple.__mul__") (r:=some (.builtin "tuple.__rmul__")) F.slot_tuple_mul.lookup (by decide +kernel) F.slot_tuple_rmul.lookup (by decide +kernel)
theorem rep:seqRepeat? (.type "tuple")=pure (some (.builtin "tuple.__mul__")):=by
 unfold seqRepeat?
 rw[PySem.seqSlot_of (T:= "tuple") (name:= "__mul__") (id:= "tuple.__mul__") F.slot_tuple_mul.lookup (by decide +kernel),PySem.seqSlot_of (T:= "tuple") (name:= "__rmul__") (id:= "tuple.__rmul__") F.slot_tuple_rmul.lookup (by decide +kernel)]
 rfl
theorem declines(a:Int)(t:Tok)(l:ae)(items:Array aa)(n:Nat)(c:Option ae)(e:Array (Option aa)):
  Meets (Builtin.«int.__rmul__» ⟨[.int a t,.ref l],[]⟩) (λ_ R s=>s.heap.get? l=some {cls:=.type "tuple",dict:=c,data:=.seq items n,slots:=e}/\R (.ok (.ret Value.notImplemented)) s):=
 .of_wp λb w A R s h=>by
  obtain⟨f,g,d,j,i⟩:=s;obtain⟨k,h⟩:=h
  wp_walk
  exact⟨_,rfl,h⟩
theorem mul(k:Int)(t:Tok)(l:ae)(items:Array aa)(n:Nat)(e:Option ae)(p:Array (Option aa))(h1:1<k)(F:k<=1000)(hs:items.size=1):
  Meets (Builtin.«tuple.__mul__» ⟨[.ref l,.int k t],[]⟩) (λ_ R s=>s.heap.get? l=some {cls:=.type "tuple",dict:=e,data:=.seq items n,slots:=p} /\
   R (.ok (.ret (.ref s.heap.objs.size))) {s with heap:=s.heap.push {cls:=.type "tuple",data:=.seq ((List.replicate k.toNat items).foldl (·++·) #[])}}):=
 .of_wp λb w A R s h=>by
  obtain⟨B,g,d,D,C⟩:=s;obtain⟨E,h⟩:=h;have i:(decide (k < -2^63)||decide (k>=2^63))=false:=by simp;lia
  have c:items.isEmpty=false:=by
   cases he:items.isEmpty with
   |false=>rfl
   |true=>rw[Array.isEmpty_iff.mp he]at hs;cases hs
  have x:(items.isEmpty||k==1)=false:=by rw[c];simp;lia
  have r:(decide (k<=0)||items.isEmpty)=false:=by rw[c];simp;lia
  have q:¬((items.size:Int)*k>(2^63-1)/8):=by rw[hs];lia
  have j:Builtin.Tuple.tupleTooMany ((items.size:Int)*k)=false:=by
   rw[hs];show decide (((1:Nat):Int)*k>(sizeLine:Int))=false;rw[XY];exact Zm 'a'
  wp_walk
  refine ZR (λz=>by rw[i]at z;cases z) λ_=>?_
  wp_walk
  refine ZR (λz=>by rw[x]at z;cases z) λ_=>?_;refine ZR (λz=>by rw[r]at z;cases z) λ_=>?_;refine ZR (λz=>absurd z q) λ_=>?_;refine ZR (λz=>by rw[j]at z;cases z) λ_=>?_
  wp_walk
  refine ZR (λz=>absurd z ?_) λ_=>?_
  ·have f:∀(m:Nat)(a:Array aa),(List.foldl (λv u=>v++u) a (List.replicate m items)).size=a.size+m:=λm=>by
    induction m with
    |zero=>intro a;rfl
    |succ m y=>
     intro a;rw[V0,W5,y,Array.size_append,hs];exact uh
   rw[f,XY];simp;lia
  wp_walk
  exact⟨_,rfl,h⟩
end ij
section
variable{X:Cx}
theorem G7:eJ X (binaryOp .Mult) (λx y H Q=>∃(l:ae)(k:Int)(v:V),x=.ref l/\y=.int k/\H l=some (.tup [v])/\1<k/\k<=1000/\∀p,H p=none->Q (.ref p) (upd H p (.tup (List.replicate k.toNat v)))):=by
 intro Z s Y H x y v u Q I M L h;obtain⟨l,k,P,rfl,rfl,G,h1,O,q⟩:=h;cases M;obtain⟨t,rfl⟩:=L;obtain⟨_,K,r,o,g,i,⟨n,Nr⟩,B⟩:=I.aO l _ G;obtain⟨S,D,A,E⟩:=o
 replace i:S=.type "tuple":=i
 replace B:A=.seq K.toArray n:=B
 subst i B;cases r with
 |cons N J=>
  cases J;rename_i d;have R:List.foldl (λw j=>w++j) #[] (List.replicate k.toNat #[d])=(List.replicate k.toNat d).toArray:=by
   have f:∀(m:Nat)(c:List aa),List.foldl (λw j=>w++j) c.toArray (List.replicate m #[d])=(c++List.replicate m d).toArray:=λm=>by
    induction m with
    |zero=>intro c;simp
    |succ m C=>
     intro c;rw[V0,W5,show c.toArray++#[d]=(c++[d]).toArray by simp,C];simp[V0]
   have:=f k.toNat [];simpa using this
  refine wpAny_binaryOp_repeat_ref (T:= "tuple") (U:= "int") 'b' ⟨_,g,rfl⟩ (λW=>typeIs_int W k t) ij.noFill F.fills_int_mul F.slot_int_rmul ij.rep F.slot_int_index.lookup
   (call_meets F.slot_int_rmul (typeIs_int s k t) F.entry_int_rmul (F.args_int_rmul_2 _ _) (ij.declines k t l _ n D E)
    ⟨g,rfl,⟨_,g,rfl⟩,call_meets F.slot_tuple_mul ⟨_,g,rfl⟩ F.entry_tuple_mul (F.args_tuple_mul_2 _ _) (ij.mul k t l _ n D E h1 O rfl) ⟨g,?_⟩⟩)
  rw[R];refine⟨.ref _,_,I.laid (a:=s.heap.objs.size) (o:=.tup (List.replicate k.toNat P)) (t':=s.toks) (λb o e=>Zc _ e) (Zd _) ⟨?_,List.replicate k.toNat d,?_,_,Zj _ rfl,rfl,⟨_,rfl⟩,rfl⟩,rfl,q _ I.fresh⟩
  ·rw[List.length_replicate,XY];lia
  ·generalize k.toNat=m
   induction m with
   |zero=>exact .nil
   |succ m C=>exact .cons N C
end
end L2
namespace Qf
abbrev Row:=List Nat
def mx:List Nat->Nat
 |[]=>0
 |a::l=>max a (mx l)
theorem yr{x:Nat}:∀{l:List Nat},x∈l->x<=mx l
 |a::l,h=>by
  rcases Zu.mp h with rfl|h
  ·exact Nat.le_max_left _ _
  ·exact ZF (yr h) (Nat.le_max_right _ _)
theorem ID{b:Nat}:∀{l:List Nat},(∀x∈l,x<=b)->mx l<=b
 |[],_=>Zs _
 |a::l,h=>Nat.max_le.mpr ⟨h a Zz,ID λx c=>h x (Zp _ c)⟩
theorem xl1{f g:Nat->Nat}{l:List Nat}(h:∀x∈l,f x=g x):mx (l.map f)=mx (l.map g):=by
 rw[YI h]
def IC(p:Nat)(r:Row):Prop:=r.length=4/\∀x∈r,x<p+2
def dv(rows:List Row):Prop:=∀p r,rows[p]?=some r->IC p r
def xA0(a:List Nat)(r:Row):List Nat:=a++[1+mx (r.map (a.getD · 0))]
def gk(rows:List Row):List Nat:=rows.foldl xA0 [0,0]
def dp(rows:List Row)(x:Nat):Nat:=(gk rows).getD x 0
theorem Ge(rows:List Row)(r:Row):gk (rows++[r])=gk rows++[1+mx (r.map (dp rows))]:=by
 unfold gk dp gk;rw[Vq]
 rfl
theorem R8{P:List Row->Prop}(h0:P [])(h1:∀l a,P l->P (l++[a]))(l:List Row):P l:=by
 have:∀m:List Row,P m.reverse:=λm=>by
  induction m with
  |nil=>exact h0
  |cons a m b=>rw[List.reverse_cons];exact h1 _ _ b
 have h:=this l.reverse
 rwa [List.reverse_reverse]at h
theorem B_(rows:List Row):(gk rows).length=rows.length+2:=by
 induction rows using R8 with
 |h0=>rfl
 |h1 l a b=>rw[Ge,Zw,b,Zw];simp
theorem q15{rows:List Row}{r:Row}{x:Nat}(h:x<rows.length+2):dp (rows++[r]) x=dp rows x:=by
 unfold dp;rw[Ge,ZD,ZD,Zr (by rw[B_];exact h)]
theorem q16{rows:List Row}{r:Row}:dp (rows++[r]) (rows.length+2)=1+mx (r.map (dp rows)):=by
 unfold dp;rw[Ge,ZD,Zq (by rw[B_];exact Zd _),B_];simp only[X1,List.getElem?_cons_zero,UE]
 rfl
theorem KP{rows more:List Row}{x:Nat}(h:x<rows.length+2):dp (rows++more) x=dp rows x:=by
 induction more using R8 with
 |h0=>simp
 |h1 l a b=>
  rw[<- YW,q15 (by simp;lia),b]
theorem Lz{rows:List Row}{x:Nat}(h:x<2):dp rows x=0:=by
 have:=KP (rows:=[]) (more:=rows) (x:=x) (by simpa using h);rw[VS]at this;rw[this]
 match x,h with
 |0,_=>rfl
 |1,_=>rfl
theorem q92{rows:List Row}{p:Nat}{r:Row}(a:rows[p]?=some r):rows=rows.take p++[r]++rows.drop (p+1):=by
 have c:=(cz a).1;have b:=(cz a).2;rw[<- b,X6 c,Xi]
theorem vx{rows:List Row}(ok:dv rows){p:Nat}{r:Row}(a:rows[p]?=some r):dp rows (p+2)=1+mx (r.map (dp rows)):=by
 have g:=(cz a).1;have c:(rows.take p).length=p:=by simp;lia
 have e:=q92 a;have h1:dp rows (p+2)=dp (rows.take p++[r]) (p+2):=by
  have:=KP (rows:=rows.take p++[r]) (more:=rows.drop (p+1)) (x:=p+2) (by simp;lia);rw[<- e]at this;exact this
 have b:=q16 (rows:=rows.take p) (r:=r);rw[c]at b;rw[h1,b];congr 1;refine xl1 λx f=>?_;have d:=(ok p r a).2 x f;have:=KP (rows:=rows.take p) (more:=[r]++rows.drop (p+1)) (x:=x) (by rw[c];exact d);rw[<- YW,<- e]at this;exact this.symm
def dU(rows:List Row):Nat->List Nat->Nat->List Nat
 |0,e,_=>e
 |d+1,e,x=>if x<2\/x-2∈e then e else(rows.getD (x-2) []).foldl (dU rows d) e++[x-2]
theorem Kp{f:List Nat->Nat->List Nat}(h:∀e x,∃s,f e x=e++s):∀(l:List Nat)(e:List Nat),∃s,l.foldl f e=e++s
 |[],e=>⟨[],by simp⟩
 |a::l,e=>by
  obtain⟨s,c⟩:=h e a;obtain⟨d,b⟩:=Kp h l (f e a);exact⟨s++d,by rw[W5,b,c,YW]⟩
theorem TC(rows:List Row):∀(d:Nat)(e:List Nat)(x:Nat),∃s,dU rows d e x=e++s
 |0,e,x=>⟨[],by simp[dU]⟩
 |d+1,e,x=>by
  unfold dU;split
  ·exact⟨[],by simp⟩
  ·obtain⟨s,a⟩:=Kp (TC rows d) (rows.getD (x-2) []) e;exact⟨s++[x-2],by rw[a,YW]⟩
structure ip(rows:List Row)(e:List Nat):Prop where
 nd:e.Nodup
 lt:∀p∈e,p<rows.length
 ch:∀(i p:Nat),e[i]?=some p->∀q∈rows.getD p [],q<2\/∃j:Nat,j<i/\e[j]?=some (q-2)
theorem FV(rows:List Row):ip rows []:=⟨Xv,λp a=>(nomatch a),λi p h=>by simp at h⟩
theorem TB{e s:List Nat}{j a:Nat}(h:e[j]?=some a):(e++s)[j]?=some a:=by
 have:=(cz h).1;rw[Zr this];exact h
theorem yj{rows:List Row}(ok:dv rows):∀(d:Nat)(e:List Nat)(x:Nat),ip rows e->x<rows.length+2->dp rows x<=d->ip rows (dU rows d e x)/\(x<2\/x-2∈dU rows d e x)
 |0,e,x,w,n,K=>by
  refine⟨w,?_⟩;by_cases h:x<2
  ·exact .inl h
  ·exfalso;obtain⟨p,rfl⟩:∃p,x=p+2:=⟨x-2,yP h⟩;have A:rows[p]?=some (rows[p]'(kj n)):=by simp[show p<rows.length from kj n]
   rw[vx ok A]at K;lia
 |d+1,e,x,w,n,K=>by
  unfold dU;split
  ·rename_i h;exact⟨w,h⟩
  ·rename_i h;obtain⟨h1,S⟩:=not_or.mp h;obtain⟨p,rfl⟩:∃p,x=p+2:=⟨x-2,by lia⟩;rw[Xn]at S ⊢;have O:p<rows.length:=by exact kj n
   have A:rows[p]?=some rows[p]:=by simp[O]
   have Q:rows.getD p []=rows[p]:=by simp[List.getD,O]
   rw[Q];have W:=vx ok A;have Z:=ok p _ A;have key:∀(l:List Nat)(f:List Nat),(∀q∈l,q<p+2/\dp rows q<=d)->ip rows f->ip rows (l.foldl (dU rows d) f)/\(∀q∈l,q<2\/q-2∈l.foldl (dU rows d) f)/\(∀a∈l.foldl (dU rows d) f,a∈f\/a<p):=λl=>by
    induction l with
    |nil=>exact λf _ L=>⟨L,λq g=>(nomatch g),λa c=>.inl c⟩
    |cons q l ih=>
     intro f R L;obtain⟨P,D⟩:=R q Zz;obtain⟨V,m1⟩:=yj ok d f q L (kr P n) D;obtain⟨p2,m2,n2⟩:=ih (dU rows d f q) (λv k=>R v (Zp _ k)) V;obtain⟨s,hs⟩:=Kp (TC rows d) l (dU rows d f q);refine⟨p2,λv k=>?_,λa c=>?_⟩
     ·rcases Zu.mp k with rfl|k
      ·rcases m1 with z|z
       ·exact .inl z
       ·rw[W5,hs];exact .inr (WC _ z)
      ·exact m2 v k
     ·rcases n2 a c with z|z
      ·
       have below:∀(u:Nat)(B:List Nat)(y:Nat),y<rows.length+2->∀a∈dU rows u B y,a∈B\/a+2<=y:=λu=>by
        induction u with
        |zero=>exact λB y _ a c=>.inl c
        |succ u M=>
         intro B y hy a c;unfold dU at c;split at c
         ·exact .inl c
         ·rename_i hh;obtain⟨X,hh2⟩:=not_or.mp hh;rcases ZW.mp c with c|c
          ·have J:y-2<rows.length:=by lia
           have I:rows.getD (y-2) []=rows[y-2]:=by simp[List.getD,J]
           rw[I]at c;have F:=ok (y-2) rows[y-2] (by simp[J]);have kk:∀(r:List Nat)(t:List Nat),(∀q∈r,q<y-2+2)->∀a∈r.foldl (dU rows u) t,a∈t\/a+2<=y:=λr=>by
            induction r with
            |nil=>exact λt _ a c=>.inl c
            |cons N r E=>
             intro t T a c;rcases E _ (λv k=>T v (Zp _ k)) a c with z|z
             ·have D:=T N Zz;rcases M t N (qW J D) a z with z|z
              ·exact .inl z
              ·exact .inr 'a'
             ·exact .inr z
           exact kk _ _ F.2 a c
          ·have:a=y-2:=by simpa using c
           exact .inr 'a'
       rcases below d f q (kr P n) a z with z|z
       ·exact .inl z
       ·exact .inr 'a'
      ·exact .inr z
   obtain⟨G,k2,k3⟩:=key rows[p] e (λq g=>⟨Z.2 q g,by
    have:dp rows q<=mx (rows[p].map (dp rows)):=yr (ZU.mpr ⟨q,g,rfl⟩);exact II W this K⟩) w
   refine⟨⟨?_,?_,?_⟩,.inr (Yg _ (by simp))⟩
   ·rw[Xz];refine⟨G.nd,by simp,λa c b hb=>?_⟩;have:b=p:=by simpa using hb
    subst this;intro z;subst z;rcases k3 a c with z|z
    ·exact S z
    ·exact YO _ z
   ·intro a c;rcases ZW.mp c with c|c
    ·exact G.lt a c
    ·have:a=p:=by simpa using c
     lia
   ·intro i a m q g;by_cases U:i<(rows[p].foldl (dU rows d) e).length
    ·rw[Zr U]at m;rcases G.ch i a m q g with z|⟨j,C,H⟩
     ·exact .inl z
     ·exact .inr ⟨j,C,TB H⟩
    ·rw[Zq (gS U)]at m;have Y:i-(rows[p].foldl (dU rows d) e).length=0:=by
      have:=(cz m).1;simp at this;exact this
     rw[Y]at m;have:a=p:=by simpa using m.symm
     subst this;rw[Q]at g;rcases k2 q g with z|z
     ·exact .inl z
     ·obtain⟨j,C,H⟩:=ZK.mp z;exact .inr ⟨j,by lia,TB (by simp[C,H])⟩
theorem fc{α:Type}{l:List α}:l.Nodup<->∀i j:Nat,i<j->j<l.length->l[i]?≠l[j]?:=by
 unfold List.Nodup;rw[Yy];constructor
 ·intro h i j b a z;rw[Ze (kr b a),Ze a]at z;exact h i j (kr b a) a b (ZE z)
 ·intro h i j c a b z;refine h i j b a ?_;rw[Ze c,Ze a,z]
theorem BQ{rows:List Row}{p:Nat}(h:p<rows.length):rows[p]?=some (rows.getD p []):=by
 simp[List.getD,h]
def vw(r:Row):Prop:=r=[0,0,0,0]\/r=[1,1,1,1]
instance(r:Row):Decidable (vw r):=by unfold vw;infer_instance
structure Canon(n top:Nat)(rows:List Row):Prop where
 size:n<=12
 n5:dv rows
 o_:top<rows.length+2
 deep:dp rows top<=n
 sS:∀r∈rows,¬vw r
 unlike:rows.Nodup
 ends:dU rows n [] top=List.range rows.length
def ex(q:Nat):Nat:=if q<2 then 1-q else q
theorem xS7(q:Nat):ex (ex q)=q:=by
 by_cases h:q<2
 ·have:ex q=1-q:=Zk h;rw[this];unfold ex;rw[Zk 'a'];lia
 ·have:ex q=q:=Zi h;rw[this,this]
theorem Az{q b:Nat}(h:q<b+2):ex q<b+2:=by unfold ex;split<;>lia
def lr(rows:List Row):List Row:=rows.map (·.map ex)
theorem Pw{rows:List Row}(ok:dv rows):dv (lr rows):=by
 intro p r a;unfold lr at a;rw[Zh]at a;obtain⟨c,b,rfl⟩:=Zl.mp a;refine⟨by rw[Zg];exact(ok p c b).1,λx e=>?_⟩;obtain⟨q,d,rfl⟩:=ZU.mp e;exact Az ((ok p c b).2 q d)
end Qf
namespace L2
open PySem PySem.Spec PyProof.Rows
section
variable{X:Cx}
theorem xl2{i0:Nat}{k:ar}{A L:aC}{nn:List ar}{j:av}{d:List av}{c:aC}{a iter:av}{scope:az}{M:TI}{g:TG}{K:TT}{te:TE}(T:Env->Sem Bool)(hc:X.calm=true)(W:PI X j iter M)
  (kz:∀B l f,compTurn (.ListComp a [⟨j,iter,d,0⟩] scope c) 0 B l f=(standAt iter.pos >>= λ_=>pyNext B >>= λr=>match r with
   |none=>pure (.done .next)
   |some v=>letOwnedTupleGo j B v >>= λ_=>assign j f v >>= λ_=>T f >>= λok=>(if ok=true then(eval a f >>= λx=>call (.builtin "list.append") [l,x] >>= λ_=>pure ())else pure ()) >>= λ_=>
     again (.compLoop (.ListComp a [⟨j,iter,d,0⟩] scope c) 0 B l f)))
  (uA:∀m C fp n q,PG (fq X scope m C nn fp n q) j g)
  (lh:∀y (G i:St) H R,G.length=nn.length->g y (G++i) H R->g y (G++i) H λu H'=>(∃O:St,O.length=nn.length/\u=O++i)/\R u H')
  (DH:∀m C fp n q (w:List (ae×aw)) (s:ab) (i:St) (H:Hp) (Q:Bool->Hp->Prop),Inv (fq X scope m C nn fp n q) w i H s->K i H Q->af (ah X.prog X.w) X.A (T (compEnvC scope m C X.env)) (TP (fq X scope m C nn fp n q) w i Q) (λ_ _=>False) s)
  (Y:∀m C fp n q,PE (fq X scope m C nn fp n q) a te)
  (jE:scope.kind=.function) (jB:∀y∈scope.names,y.2≠.cell) (jD:∀y∈scope.names,y.2=.local->scope.names.lookup y.1=some .local)
  (jL:∀y∈X.N,scope.names.lookup y≠some .local) (hfr:∀p∈scope.names,p.2=.free->xo X.env.scope p.1/\X.env.scope.names.lookup p.1≠some .local)
  (hs:∀x,foldedSetIterable iter X.env x=pure x) (HV:X.N.Nodup) (y8:X.N[i0]?=some k) (N:X.env.scope.names.lookup k=some .local) (MS:swapsWith (.ListComp a [⟨j,iter,d,0⟩] scope c) (some (.Name k A)) L.line X.env=pure true):
  PS X (.Assign [.Name k A] (.ListComp a [⟨j,iter,d,0⟩] scope c) L) (pF (u9 nn.length M g K te) (ir i0)):=by
 intro w s i H EE I h;rw[exec_Assign_Name_used _ _ _ _ MS];refine Za (Uz (Za ?_));show af _ X.A (do let _ <- comprehension (.ListComp a [⟨j,iter,d,0⟩] scope c) scope X.env _ (newList []) false (eval iter X.env) (some (assign (.Name k A) X.env))) _ _ s;refine Za (Y7 (Tu (use:=some (assign (.Name k A) X.env)) (QQ:=λ_ U=>SP X w EE .next U) T hc W kz uA lh DH Y jE jB jD jL hfr hs I h λD C S E m4 t P V qn=>?_) (λ_ U hq=>Zb (Zb hq)) λ_ _ e=>e);have IX:Inv X w i S E:=V E.heap (WA _ _);obtain⟨oC,esC,epC,F,rC⟩:=id P;have Z:=IX.pinned (fp:=[C]) (λb hb=>by
  have:b=C:=by simpa using hb
  subst this;exact t) (λb hb=>by
  have:b=C:=by simpa using hb
  subst this;exact⟨oC,F,λv z=>by rw[rC.1]at z;cases z⟩)
 show af _ X.A (assign (.Name k A) X.env (.ref D)) _ _ E;refine wpAny_assign_Name (Ca (v:=.ref D) Z HV y8 (.inl N) rfl (λs5 J=>?_) (.inr N));have pC:=J.pin (C,oC) (Yg _ (Yg _ (Gp (by simp) F)));refine⟨m4,P.at' (λo e=>by rw[F]at e;cases e;exact pC.1),λh' sb=>⟨_,S,?_,qn⟩⟩;exact J.dX.turned (t':=s5.toks) (λb o hb e=>(sb.2 b hb).trans e) t.1 t.2.1 t.2.2.2.1 t.2.2.2.2.1 t.2.2.2.2.2
theorem Tz{i0:Nat}{c:ar}{v r:aC}{x:ar}{k b:aC}{a iter:av}{scope:az}{u:TI}{te:TE}(N:List ar)(j:az)(F:X.N=N)(K:X.env.scope=j)(hc:X.calm=true)(t:X.N.Nodup)(E:X.N[i0]?=some c)(L:X.env.scope.names.lookup c=some .local)(B:PI X (.Name x k) iter u)
  (D:∀g C f d e,PE (fq X scope g C [x] f d e) a te)
  (T:scope.kind=.function:=by rfl) (O:scope.names.all (λy=>y.2 != .cell)=true:=by decide +kernel) (G:scope.names.all (λy=>y.2 != .local||scope.names.lookup y.1==some .local)=true:=by decide +kernel)
  (q:scope.names.lookup x=some .local:=by rfl) (V:N.all (λy=>scope.names.lookup y != some .local)=true:=by decide +kernel)
  (hfr:scope.names.all (λp=>p.2 != .free||(j.names.lookup p.1==some .cell||j.names.lookup p.1==some .free))=true:=by decide +kernel)
  (hs:∀x,foldedSetIterable iter X.env x=pure x:=by intro _;rfl) (S:swapsWith (.ListComp a [⟨.Name x k,iter,[],0⟩] scope b) (some (.Name c v)) r.line X.env=pure true:=by rfl):
  PS X (.Assign [.Name c v] (.ListComp a [⟨.Name x k,iter,[],0⟩] scope b) r) (pF (u9 1 u (ir 0) AA te) (ir i0)):=by
 obtain⟨W,P,w,A⟩:=Gf F K O G V hfr;refine xl2 (nn:=[x]) (λ_=>pure true) hc B (λM m n=>K4 a _ iter scope b M m n) (λg C f d e=>?_) (λy Y J H R U h=>yY U h) (λg C f d e Z s J H Q I h=>Zb ⟨H,I,h⟩) D T W P w A hs t E L S;have l:(fq X scope g C [x] f d e).env.scope.names.lookup x=some .local:=X2 q;exact Ac (i:=0) (Yu.mpr ⟨λz=>w x z q,t⟩) rfl (.inl l) (.inr l)
end
end L2
namespace L2
open PySem PySem.Spec PyProof.Rows PySem.W
section
variable{X:Cx}
def xK4:TE:=λ_ H Q=>∀p,H p=none->Q (.ref p) (upd H p (.dK []))
theorem xl3{b:aC}:PE X (.Dict [] [] b) xK4:=λd s c H Q I h=>by
 have hb:sysModules<s.heap.objs.size:=V2 'b' (I.mod.glob.keeps I.bk).lt;exact wpAny_Dict_empty ⟨.ref s.heap.objs.size,_,I.laid (a:=s.heap.objs.size) (o:=.dK []) (t':=s.toks) (λ_ _ q=>Zc _ q) (Zd _) ⟨Zs _,Xf.mpr (YE (Zy hb)),[],.nil,Heap.DictOf.new _⟩,rfl,h _ (I.aO.fresh (Zd _))⟩
end
end L2
namespace L2
open PySem PySem.Spec PyProof.Rows
theorem xl4{a:TI}{te:TE}:E9 a te=u9 1 a (ir 0) AA te:=by
 funext σ H Q;unfold E9 u9;congr 1;funext J H1;refine propext (Xo λD=>Xo λ_=>exists_congr λW=>W6 λ_=>Xo λi=>Xo λm=>Xo λd=>Xo λf=>Xo λ_=>W6 λ_=>W6 λ_=>or_congr_right (W6 λ_=>Xo λy=>Xo λe=>Xo λ_=>⟨λh c b=>?_,λh=>?_⟩))
 ·match c,b with
  |[o],_=>
   unfold ir AA;dsimp only;rw[Zk rfl];exact h
 ·have z:=h [none] rfl;unfold ir AA at z;dsimp only at z;rw[Zk rfl]at z;exact z
section
variable{X:Cx}
theorem nH{x:ar}{q b:aC}{a iter:av}{scope:az}{n:TI}{te:TE}(N:List ar)(g:az)(w:X.N=N)(E:X.env.scope=g)(hc:X.calm=true)(A:X.N.Nodup)(u:PI X (.Name x q) iter n)(v:∀f C e c d,PE (fq X scope f C [x] e c d) a te)
  (K:scope.kind=.function:=by rfl) (G:scope.names.all (λy=>y.2 != .cell)=true:=by decide +kernel) (B:scope.names.all (λy=>y.2 != .local||scope.names.lookup y.1==some .local)=true:=by decide +kernel)
  (m:scope.names.lookup x=some .local:=by rfl) (M:N.all (λy=>scope.names.lookup y != some .local)=true:=by decide +kernel)
  (hfr:scope.names.all (λp=>p.2 != .free||(g.names.lookup p.1==some .cell||g.names.lookup p.1==some .free))=true:=by decide +kernel)
  (hs:∀x,foldedSetIterable iter X.env x=pure x:=by intro _;rfl):PE X (.ListComp a [⟨.Name x q,iter,[],0⟩] scope b) (E9 n te):=by
 obtain⟨O,J,r,t⟩:=Gf w E G B M hfr;rw[xl4];refine Lo (nn:=[x]) (λ_=>pure true) hc u (λF j k=>K4 a _ iter scope b F j k) (λf C e c d=>?_) (λy P D H R L h=>yY L h) (λf C e c d S s D H Q I h=>Zb ⟨H,I,h⟩) v K O J r t hs;have l:(fq X scope f C [x] e c d).env.scope.names.lookup x=some .local:=X2 m;exact Ac (i:=0) (Yu.mpr ⟨λz=>r x z m,A⟩) rfl (.inl l) (.inr l)
end
end L2
namespace L2
open PySem
theorem aH{H:Hp}{a b:ae}{o u:HO}(e:H a=some o)(c:H b=none):upd H b u a=some o:=by rw[bV (cI e c)];exact e
theorem bw{H:Hp}{a:ae}{o:HO}(h:H a=none):aG H (upd H a o):=λb u e=>aH e h
def je(H a:Hp):Prop:=∀b u,H b=some (.tup u)->a b=some (.tup u)
theorem aG.c_{H a:Hp}(s:aG H a):je H a:=λb u e=>s b _ e
structure Goes(J:It)(H:Hp)(n:Nat)(item:Nat->V->Hp->Prop):Prop where
 go:∀i H2,i<n->aG H H2->J.go i H2
 yl:∀i H2 y H3,i<n->aG H H2->J.lV i H2 y H3->aG H2 H3/\item i y H3
 st:∀H2,aG H H2->J.stop n H2
theorem Ak{K:PySem.W.Frag}{H:Hp}{a:ae}{xs:List V}(b:H a=some (.tup xs)):Goes (A7 K a) H xs.length (λi y _=>xs[i]?=some y) where
 go:=λi d c s=>⟨xs,xs[i],bg.of (s _ _ b),by simp[c]⟩
 yl:=λi d y f c s h=>by
  obtain⟨e,h⟩:=h;subst e;exact⟨aG.refl _,h xs (bg.of (s _ _ b))⟩
 st:=λd s=>⟨xs,bg.of (s _ _ b),Zd _⟩
theorem tP{K:PySem.W.Frag}{H:Hp}{a:ae}{xs:List V}(b:H a=some (.lst xs)):Goes (A8 K a) H xs.length (λi y _=>xs[i]?=some y) where
 go:=λi d c s=>⟨xs,xs[i],cq.of (s _ _ b),by simp[c]⟩
 yl:=λi d y f c s h=>by
  obtain⟨e,h⟩:=h;subst e;exact⟨aG.refl _,h xs (cq.of (s _ _ b))⟩
 st:=λd s=>⟨xs,cq.of (s _ _ b),Zd _⟩
theorem Ko{K:PySem.W.Frag}{H:Hp}{a:ae}{xs:List V}(b:H a=some (.tup xs)):Goes (Oy K a) H xs.length (λi y d=>∃p x,y=.ref p/\xs[i]?=some x/\d p=some (.tup [.int i,x])) where
 go:=λi e c s=>⟨xs,xs[i],bg.of (s _ _ b),by simp[c]⟩
 yl:=λi e y d c s h=>by
  obtain⟨p,x,f,g,rfl,rfl⟩:=h;exact⟨bw f,p,x,rfl,g xs (bg.of (s _ _ b)),aX⟩
 st:=λe s=>⟨xs,bg.of (s _ _ b),Zd _⟩
theorem oo{J:It}{H:Hp}{n:Nat}{item:Nat->V->Hp->Prop}{te:TE}{σ:St}{Fin:Hp->Prop}{D:ae}(E:H D=none)(c:Nat->V->Hp->Prop)(G:Goes J H n item)(hsz:n<sizeLine)
  (mono:∀i y C a,i<n->je C a->c i y C->c i y a)
  (step:∀i x a,i<n->item i x a->aG H a->∀I:VK,(∀y f,aG a f->c i y f->I y f)->te (some x::σ) a I)
  (fin:∀d a,aG H a->a D=some (.lst d)->d.length=n->(∀i y,d[i]?=some y->c i y a)->Fin a):
  ∃W:Nat->Nat->List V->Hp->Prop,(∃m,W 0 m [] (upd H D (.lst []))) /\
   ∀i m k a,W i m k a->a D=some (.lst k)/\k.length<sizeLine/\((J.stop i a/\Fin a)\/(J.go i a/\∀y f,J.lV i a y f ->
    te (some y::σ) f λv g=>g D=some (.lst k)/\∃w,w<m/\W (i+1) w (k++[v]) (upd g D (.lst (k++[v]))))):=by
 refine⟨λi m d a=>i<=n/\m=n-i/\d.length=i/\a D=some (.lst d)/\aG H a/\∀j y,d[j]?=some y->c j y a,⟨n,Zs _,rfl,rfl,aX,bw E,λj y h=>by simp at h⟩,?_⟩;rintro i m d a ⟨O,rfl,F,t,p,q⟩;refine⟨t,by lia,?_⟩;by_cases K:i=n
 ·subst K;exact .inl ⟨G.st a p,fin d a p t F q⟩
 ·refine .inr ⟨G.go i a 'a' p,λy f M=>?_⟩;obtain⟨r,L⟩:=G.yl i a y f 'a' p M;refine step i y f 'a' L (p.trans r) _ λv g s N=>?_;have A:=s _ _ (r _ _ t);refine⟨A,n-(i+1),by lia,by lia,rfl,by rw[Zw,F];rfl,aX,?_,?_⟩
  ·intro b o e;rw[bV (cI e E)];exact s _ _ (r _ _ (p _ _ e))
  ·have B:je g (upd g D (.lst (d++[v]))):=λb u e=>by
    have:b≠D:=λz=>by subst z;rw[A]at e;cases e
    rw[bV this];exact e
   intro j z l;by_cases P:j<i
   ·rw[Zr 'a']at l;exact mono j z g _ 'a' B (mono j z a g 'a' (r.trans s).c_ (q j z l))
   ·rw[Zq 'a']at l;have:j-d.length=0:=by
     have:=(cz l).1;simp at this;lia
    rw[this]at l;have:z=v:=by simpa using l.symm
    subst this;have:j=i:=by lia
    subst this;exact mono _ _ g _ 'a' B N
theorem Gn{J:It}{H:Hp}{n k:Nat}{item:Nat->V->Hp->Prop}{g:TG}{A:TT}{te:TE}{σ:St}{Fin:Hp->Prop}{D:ae}(F:H D=none)(yes:Nat->Bool)(val:Nat->V)(G:Goes J H n item)(hsz:n<sizeLine)
  (step:∀i x a,i<n->item i x a->aG H a->∀f:St,f.length=k->∀(E:Hp->Prop)(B:VK),(yes i=false->∀c,aG a c->E c)->(yes i=true->∀c,aG a c->B (val i) c) ->
   g x (f++σ) a λs q=>A s q λb j=>if b=true then te s j B else E j)
  (fin:∀a,aG H a->a D=some (.lst (((List.range n).filter yes).map val))->Fin a):
  ∃W:Nat->Nat->List V->Hp->Prop,(∃m,W 0 m [] (upd H D (.lst []))) /\
   ∀i m d a,W i m d a->a D=some (.lst d)/\d.length<sizeLine/\((J.stop i a/\Fin a)\/(J.go i a/\∀y c,J.lV i a y c->∀f:St,f.length=k ->
    g y (f++σ) c λs q=>A s q λb j=>if b=true then te s j λv C=>C D=some (.lst d)/\∃p,p<m/\W (i+1) p (d++[v]) (upd C D (.lst (d++[v])))else ∃p,p<m/\W (i+1) p d j)):=by
 refine⟨λi m u a=>i<=n/\m=n-i/\u=((List.range i).filter yes).map val/\a D=some (.lst u)/\aG H a,⟨n,Zs _,rfl,rfl,aX,bw F⟩,?_⟩;rintro i m u a ⟨Q,rfl,t,w,h⟩;have R:u.length<=i:=by
  rw[t,Zg];exact ZF (Vz _ _) (by simp)
 refine⟨w,by lia,?_⟩;by_cases K:i=n
 ·subst K;exact .inl ⟨G.st a h,fin a h (t▸w)⟩
 ·refine .inr ⟨G.go i a 'a' h,λy c O f P=>?_⟩;obtain⟨r,M⟩:=G.yl i a y c 'a' h O;refine step i y c 'a' M (h.trans r) f P _ _ (λN q l=>?_) (λI q l=>?_)
  ·refine⟨n-(i+1),by lia,by lia,rfl,?_,l _ _ (r _ _ w),(h.trans r).trans l⟩;rw[t,YC,Va];simp[N]
  ·have L:=l _ _ (r _ _ w);refine⟨L,n-(i+1),by lia,by lia,rfl,?_,aX,λb o e=>?_⟩
   ·rw[t,YC,Va];simp[I]
   ·rw[bV (cI e F)];exact l _ _ (r _ _ (h _ _ e))
theorem AF{X:Cx}(K:PySem.W.Frag)(h:X.K=K):nX X (tD K):=h▸cC
theorem uu{X:Cx}(K:PySem.W.Frag)(h:X.K=K):nX X (tw K):=h▸bf
theorem iR{X:Cx}(K:PySem.W.Frag)(h:X.K=K):f_ X (.type "tuple") (dN K):=h▸qE3
theorem Hh{X:Cx}{b l:av}{a:TE}(K:PySem.W.Frag)(h:X.K=K)(c:PE X l a):PI X b l (DA K a):=h▸yc c
end L2
namespace Pr
open PySem L2
abbrev CA:aA:=top 8
abbrev GJ:aA:=top 9
abbrev Cz:aA:=top 10
abbrev CN:aA:=top 11
abbrev tq:aA:=top 12
abbrev G6:aA:=top 13
abbrev E8:aA:=top 16
abbrev BP:aA:=top 18
abbrev pX:aA:=top 19
abbrev CM:aA:=top 20
abbrev FU:aA:=top 21
abbrev Cy:aA:=top 22
abbrev GF:aA:=top 23
abbrev CL:aA:=top 25
abbrev Cw:aA:=top 26
abbrev FK:aA:=top 30
abbrev B9:aA:=top 32
abbrev Cd:aA:=top 33
abbrev K3:aA:=gR (top 34) 0
abbrev x_:aA:=gR (top 34) 1
abbrev Gz:aA:=gR (top 34) 2
abbrev G5:aA:=gR (top 34) 3
abbrev Ly:aA:=gR (top 34) 4
abbrev E7:aA:=gR (top 34) 5
abbrev FJ:aA:=top 35
abbrev uq:aA:=top 37
abbrev tH:aA:=top 38
abbrev Cv:aA:=top 39
abbrev ur:aA:=top 40
abbrev Cu:aA:=top 41
abbrev x9:aA:=top 42
abbrev kx:aA:=top 43
abbrev tM:aA:=top 44
abbrev Gy:aA:=top 45
abbrev Ct:aA:=top 46
abbrev Gx:aA:=top 47
abbrev Cs:aA:=top 48
abbrev FI:aA:=top 49
abbrev Gm:aA:=top 50
abbrev tL:aA:=top 51
abbrev Cr:aA:=top 52
abbrev ja:aA:=top 53
end Pr
namespace L2
open PySem PySem.Spec PyProof.Rows
theorem dz{N P:List ar}{h:az}(a:h.kind=.function:=by rfl)(b:h.isCoroutine=false:=by rfl)(c:h.isGenerator=false:=by rfl)(d:N.Nodup:=by decide +kernel)(e:N.take P.length=P:=by rfl)(f:∀x∈P,h.names.lookup x=some .local\/h.names.lookup x=some .cell:=by decide +kernel)(g:∀y∈h.names,y.2≠.free:=by decide +kernel):aI N P h:=⟨a,b,c,d,e,f,g⟩
section
variable{X:Cx}
theorem cR(i:Nat){x:ar}{e:av}{te:TE}{b a:aC}(c:X.N.Nodup)(f:PE X e te)(d:X.N[i]?=some x:=by rfl)(g:Loc X.env.scope x:=by first|left;rfl|right;rfl)(hs:swapsWith e (some (.Name x a)) b.line X.env=pure false:=by rfl)(h:X.fn x=true\/X.env.scope.names.lookup x=some .local:=by first|left;rfl|right;rfl|assumption):PS X (.Assign [.Name x a] e b) (pF te (ir i)):=xH7 c d g f hs h
theorem eD(i:Nat){x:ar}{a:aC}(b:X.N.Nodup)(c:X.N[i]?=some x:=by rfl)(d:Loc X.env.scope x:=by first|left;rfl|right;rfl)(e:X.fn x=true\/X.env.scope.names.lookup x=some .local:=by first|left;rfl|right;rfl|assumption):PG X (.Name x a) (ir i):=Ac b c d e
theorem cF{k:Nat}{f:ae}{c:ak}{ps:List ar}{sp:Sp}{x:ar}{p b:aC}{e:av}{a:List av}{t:TA}(F:aE X.prog X.w X.K X.mg X.base aW k f c ps sp)(h:bh k X.A)(j:X.mg x=some (.ref f))(hk:PySem.W.keepIn X.K (.ref f)=true)(hb:Binds X.K c ps [])(l:PA X (e::a) t)(d:Gl X x:=by rfl)(m:(x==("__debug__":ar))=false:=by decide)(i:starEach (e::a) X.env=(false,eval e X.env)::starEach a X.env:=by rfl)(g:(backTo b (starEach a X.env)).any (·.1)=false:=by rfl):
  PE X (.Call (.Name x p) (e::a) [] b) (Fb sp [] E0 t):=K7 F h d j hk hb .nil mD l m i g
theorem cW{r:R2}{a b:av}{c:aC}{ta tb:TE}(d:nX X r)(e:PE X a ta)(hb:PE X b tb)(hs:TN b:=by intro _ _;rfl):PE X (.Subscript a b c) (Bg r ta tb):=xR7 d e hb hs
end
end L2
namespace Pr
open PySem L2 Qf
structure eR(mg:ar->Option aa):Prop where
 AG:mg "isinstance"=none
 int:mg "int"=none
 bool:mg "bool"=none
 tuple:mg "tuple"=none
 list:mg "list"=none
 set:mg "set"=none
 len:mg "len"=none
 all:mg "all"=none
 any:mg "any"=none
 enum:mg "enumerate"=none
 range:mg "range"=none
 max:mg "max"=none
 min:mg "min"=none
structure oS(mg:ar->Option aa):Prop where
 first:∃t,mg "FIRST"=some (.int 2 t)
 full:∃t,mg "FULL"=some (.int 1 t)
 great:∃t,mg "GREATEST_SIZE"=some (.int 12 t)
def vN(r:List Nat):List V:=r.map λn:Nat=>V.int (n:Int)
theorem jn(r:List Nat):(vN r).length=r.length:=Zg ..
theorem x8{r:List Nat}{i:Nat}{x:V}(h:(vN r)[i]?=some x):∃n:Nat,r[i]?=some n/\x=.int (n:Int):=by
 unfold vN at h;rw[Zh]at h;obtain⟨n,h1,a⟩:=Zl.mp h;exact⟨n,h1,a.symm⟩
theorem QN{r:List Nat}{i n:Nat}(h:r[i]?=some n):(vN r)[i]?=some (.int (n:Int)):=by
 unfold vN;rw[Zh,h];rfl
theorem Pu{r:List Nat}{i n:Nat}(h:r[i]?=some n):xm (vN r) (i:Int)=some (.int (n:Int)):=oY (QN h)
theorem x6(r:List Nat):vN r=(r.map λn:Nat=>(n:Int)).map V.int:=by unfold vN;rw[YL];rfl
def cf(H:Hp)(p:ae)(rows:List Row):Prop:=∃bs:List ae,H p=some (.tup (bs.map V.ref))/\bs.length=rows.length/\∀(i:Nat) b r,bs[i]?=some b->rows[i]?=some r->H b=some (.tup (vN r))
theorem cf.mono{H a:Hp}{p:ae}{rows:List Row}(h:cf H p rows)(t:je H a):cf a p rows:=by
 obtain⟨bs,h1,d,c⟩:=h;exact⟨bs,t _ _ h1,d,λi b r e f=>t _ _ (c i b r e f)⟩
theorem cf.same{H a:Hp}{p:ae}{rows:List Row}(h:cf H p rows)(t:aG H a):cf a p rows:=h.mono t.c_
def gD(H:Hp)(p:ae)(rows:List Row):Prop:=∃bs:List ae,(H p=some (.tup (bs.map V.ref))\/H p=some (.lst (bs.map V.ref)))/\bs.length=rows.length/\∀(i:Nat) b r,bs[i]?=some b->rows[i]?=some r->H b=some (.tup (vN r))
theorem cf.zs{H:Hp}{p:ae}{rows:List Row}(h:cf H p rows):gD H p rows:=let ⟨bs,a,b,c⟩:=h;⟨bs,.inl a,b,c⟩
theorem gD.same{H a:Hp}{p:ae}{rows:List Row}(h:gD H p rows)(s:aG H a):gD a p rows:=by
 obtain⟨bs,h1,d,c⟩:=h;exact⟨bs,h1.imp (s _ _) (s _ _),d,λi b r e f=>s _ _ (c i b r e f)⟩
def pZ(K:PySem.W.Frag):R2:=λx y H Q=>tD K x y H Q\/tw K x y H Q
theorem ixS{X:Cx}(K:PySem.W.Frag)(h:X.K=K):nX X (pZ K):=(AF K h).or (uu K h)
theorem xA1:aI ["thing"] ["thing"] (ck CA):=dz
inductive pH(vs:List V)(H:Hp)(Q:VK):Prop
 |mk(i:Int)(e0:vs=[.int i])(e1:Q (.bl true) H)
def K2:Sp:=λa H Q _=>pH a H Q
theorem R7{f:ae}{b:ak}(F:bj K "is_whole" "is_whole" CA f b)(B:eR mg):aE P w K mg base aW 1 f b ["thing"] K2:=by
 refine F.ok xA1 (λc H Q E h=>?_) (λe A a s H c Q E d h=>?_)
 ·obtain⟨i,rfl,_⟩:=h
  rfl
 ·obtain⟨i,rfl,q⟩:=h;refine⟨_,dB (cQ (va (dH Al (by rfl) B.AG YD (aF (pv 0) (aF (Ad (v:=.ty "int") (by rfl) B.int Xk rfl) aQ)))
   (vb (xH5 (dH Al (by rfl) B.AG YD (aF (pv 0) (aF (Ad (v:=.ty "bool") (by rfl) B.bool PyProof.Rows.boot_bool rfl) aQ))))))),?_⟩
  exact⟨_,rfl,_,_,_,_,true,rfl,rfl,.inl (.int i),rfl,_,rfl,cM ⟨_,rfl,_,_,_,_,false,rfl,rfl,.inl (.int i),rfl,_,rfl,q⟩⟩
theorem xK6:aI ["thing"] ["thing"] (ck E8):=dz
inductive sV(vs:List V)(H:Hp)(Q:VK):Prop
 |mk(n:Nat)(e0:vs=[.int n])(e1:n<=12)(e2:Q (.bl true) H)
def Pt:Sp:=λa H Q _=>sV a H Q
theorem xA2{f d:ae}{i c:ak}(F:bj K "is_size" "is_size" E8 f i)(B:eR mg)(T:oS mg)(p:mg "is_whole"=some (.ref d))(g:bj K "is_whole" "is_whole" CA d c)(k:Binds K c ["thing"] []):aE P w K mg base aW 2 f i ["thing"] Pt:=by
 have l:aE P w K mg base aW 1 d c ["thing"] K2:=R7 g B;obtain⟨t,a⟩:=T.great;refine F.ok xK6 (λm H Q E h=>?_) (λu A b s H m Q E j h=>?_)
 ·obtain⟨x,rfl,_⟩:=h
  rfl
 ·obtain⟨n,rfl,r,q⟩:=h;refine⟨_,dB (cQ (va (cF l j p g.kp k (aF (pv 0) aQ)) (vb (Si tT tT aV (pv 0) (gI (v:=.int 12) (by rfl) a ⟨_,rfl⟩))))),?_⟩;refine⟨_,rfl,n,rfl,_,rfl,cM ⟨_,rfl,_,_,rfl,rfl,_,rfl,?_⟩⟩;have e:decide ((n:Int)<=12)=true:=Zo 'a';refine c7 (λ_=>⟨_,_,rfl,rfl,?_⟩) (λh1=>absurd (Zo (V7 n)) h1);rw[e];exact q
theorem xl7:aI ["thing","many"] ["thing","many"] (ck BP):=dz
inductive nZ(vs:List V)(H:Hp)(Q:VK):Prop
 |mk(n m:Nat)(e0:vs=[.int n,.int m])(e1:n<m+2)(e2:Q (.bl true) H)
def Ln:Sp:=λa H Q _=>nZ a H Q
theorem xa0{f c:ae}{g b:ak}(F:bj K "is_number" "is_number" BP f g)(B:eR mg)(T:oS mg)(p:mg "is_whole"=some (.ref c))(d:bj K "is_whole" "is_whole" CA c b)(j:Binds K b ["thing"] []):aE P w K mg base aW 2 f g ["thing","many"] Ln:=by
 have k:aE P w K mg base aW 1 c b ["thing"] K2:=R7 d B;obtain⟨u,r⟩:=T.first;refine F.ok xl7 (λl H Q E h=>?_) (λx A a s H l Q E i h=>?_)
 ·obtain⟨n,m,rfl,_⟩:=h
  rfl
 ·obtain⟨n,m,rfl,t,q⟩:=h;refine⟨_,dB (cQ (va (cF k i p d.kp j (aF (pv 0) aQ)) (vb (Si tT nE aV (pv 0) (a_ df (pv 1) (gI (v:=.int 2) (by rfl) r ⟨_,rfl⟩)))))),?_⟩;refine⟨_,rfl,n,rfl,_,rfl,cM ⟨_,rfl,_,_,rfl,rfl,_,rfl,?_⟩⟩;have e:decide ((n:Int)<(m:Int)+2)=true:=Zo 'a';refine c7 (λ_=>⟨_,rfl,_,_,rfl,rfl,_,_,rfl,rfl,?_⟩) (λh1=>absurd (Zo (V7 n)) h1);rw[e];exact q
theorem xA3:aI ["row"] ["row"] (ck GJ):=dz
inductive pK(vs:List V)(H:Hp)(Q:VK):Prop
 |mk(b:ae)(r:Row)(e0:vs=[.ref b])(e1:H b=some (.tup (vN r)))(e2:r.length=4)(e3:∀H',aG H H'->Q (.bl (decide (vw r))) H')
def Qt:Sp:=λa H Q _=>pK a H Q
theorem Qs{l m:List Nat}(h:(l.map λn:Nat=>(n:Int))=m.map λn:Nat=>(n:Int)):l=m:=by
 induction l generalizing m with
 |nil=>cases m with
  |nil=>rfl
  |cons b m=>simp at h
 |cons a l c=>cases m with
  |nil=>simp at h
  |cons b m=>
   rw[ZB,ZB]at h;injection h with h1 h2
   rw[c h2,Int.ofNat.inj h1]
theorem xl8{f:ae}{t:ak}(F:bj K "is_plain" "is_plain" GJ f t)(T:oS mg):aE P w K mg base aW 2 f t ["row"] Qt:=by
 obtain⟨I,G⟩:=T.first;refine F.ok xA3 (λB H Q E h=>?_) (λL A j s H B Q E x h=>?_)
 ·obtain⟨b,r,rfl,_⟩:=h
  rfl
 ·obtain⟨b,r,rfl,hb,y,q⟩:=h;refine⟨_,dB (cQ (va (mF nE (cW bf (pv 0) aV) (gI (v:=.int 2) (by rfl) G ⟨_,rfl⟩) (dA _))
   (vb (mF (LC x) (pv 0) (a_ G7 (eM (aF (cW bf (pv 0) aV) aQ)) aV) (dA _))))),?_⟩
  match r,y with
  |[a,d,c,g],_=>
   refine⟨_,rfl,b,_,0,.int a,rfl,rfl,bg.of hb,rfl,_,_,rfl,rfl,_,rfl,?_⟩;refine c7 (λi=>?_) (λi=>?_)
   ·have C:a<2:=by have:=ZJ i;lia
    refine⟨_,rfl,_,rfl,b,_,0,.int a,rfl,rfl,bg.of hb,rfl,(by show 1<=sizeLine;decide),λp k=>⟨p,4,.int a,rfl,rfl,aX,by decide,by decide,λJ n=>?_⟩⟩;have D:=aH (u:=.tup (List.replicate 4 (V.int a))) (aH (u:=.tup [V.int a]) hb k) n;refine⟨dT [(a:Int),(d:Int),(c:Int),(g:Int)],dT [(a:Int),(a:Int),(a:Int),(a:Int)],.tup D (aS.ints [(a:Int),(d:Int),(c:Int),(g:Int)]),.tup aX (aS.ints [(a:Int),(a:Int),(a:Int),(a:Int)]),LB _,LB _,(by show 1<=60;decide),?_⟩;rw[xK2];have e:decide (([(a:Int),(d:Int),(c:Int),(g:Int)]:List Int)=([(a:Int),(a:Int),(a:Int),(a:Int)]:List Int))=decide (vw [a,d,c,g]):=by
     congr 1;apply propext;unfold vw;constructor
     ·intro z;have:[a,d,c,g]=[a,a,a,a]:=Qs (l:=[a,d,c,g]) (m:=[a,a,a,a]) z;have:a=0\/a=1:=by lia
      rcases this with rfl|rfl
      ·exact .inl ‹_›
      ·exact .inr ‹_›
     ·rintro(z|z)<;>(cases z;rfl)
    rw[e];exact q _ ((bw k).trans (bw n))
   ·have C:¬a<2:=λz=>i (Zo 'a');have e:decide (vw [a,d,c,g])=false:=Zm (by
     rintro(z|z)<;>(cases z;lia))
    have:=q H (aG.refl H);rw[e]at this;exact this
end Pr
namespace Qf
theorem xA4(l:List Nat)(a:Nat):mx (l++[a])=max (mx l) a:=by
 induction l with
 |nil=>show max a 0=max 0 a;lia
 |cons b l c=>show max b (mx (l++[a]))=max (max b (mx l)) a;rw[c];lia
theorem Qr(l:List Nat):∀k,k<l.length->L2.best (l.map λn:Nat=>(n:Int)) k=(mx (l.take (k+1)):Nat)
 |0,h=>by
  cases l with
  |nil=>simp at h
  |cons a l=>show((a:Nat):Int)=((max a 0:Nat):Int);simp
 |k+1,h=>by
  have b:=Qr l k (eO h);have e:(l.map λn:Nat=>(n:Int)).getD (k+1) 0=((l[k+1]:Nat):Int):=by simp[List.getD,h]
  have t:l.take (k+1+1)=l.take (k+1)++[l[k+1]]:=by rw[X6 h]
  unfold L2.best;rw[e,b,t,xA4];split<;>lia
theorem xl9{l:List Nat}(h:l≠[]):L2.best (l.map λn:Nat=>(n:Int)) ((l.map λn:Nat=>(n:Int)).length-1)=(mx l:Nat):=by
 have a:0<l.length:=VZ.mpr h;rw[Zg,Qr l (l.length-1) (gJ a),show l.length-1+1=l.length from qP a,Wk]
theorem xa4{rows:List Row}{i:Nat}{r:Row}(h:rows[i]?=some r):gk (rows.take (i+1))=gk (rows.take i)++[1+mx (r.map (dp (rows.take i)))]:=by
 have b:=(cz h).1;have a:=(cz h).2;rw[<- Ge,<- a,X6 b]
theorem Pq{rows:List Row}{x:Nat}(h:x<rows.length+2):(gk rows)[x]?=some (dp rows x):=by
 unfold dp;rw[ZD];have:x<(gk rows).length:=by rw[B_];exact h
 rw[Ze this];rfl
end Qf
namespace Pr
open PySem L2 Qf
theorem vq{xs ys:List V}(a:xs.length=ys.length)(h:∀(i:Nat) x,xs[i]?=some x->ys[i]?=some x):xs=ys:=by
 refine WB λi=>?_;cases e:xs[i]? with
 |some x=>exact(h i x e).symm
 |none=>
  have:xs.length<=i:=List.getElem?_eq_none_iff.mp e;exact(Xl (wt a this)).symm
theorem iW:aI ["rows","depths","row"] ["rows"] (ck CN):=dz
inductive sY(vs:List V)(H:Hp)(Q:VK):Prop
 |mk(p:ae)(rows:List Row)(e0:vs=[.ref p])(e1:cf H p rows)(e2:dv rows)(e3:rows.length<=900)(e4:∀H' D,aG H H'->H' D=some (.lst (vN (gk rows)))->Q (.ref D) H')
def Pp:Sp:=λa H Q _=>sY a H Q
theorem xA5{f:ae}{W:ak}(F:bj K "depths_of" "depths_of" CN f W)(B:eR mg):aE P w K mg base aW 1 f W ["rows"] Pp:=by
 refine F.ok iW (λvs H Q E h=>?_) (λcA A L s H vs Q E hr h=>?_)
 ·obtain⟨p,rows,rfl,_⟩:=h
  rfl
 ·obtain⟨p,rows,rfl,hR,ok,hn,q⟩:=h;refine⟨_,iA (cR 1 iW.nd (n_ (aF aV (aF aV aQ))))
   (iA (og Yv rfl (yc (pv 0)) (eD 2 iW.nd)
    (dB (tN (E_ XA Xp Xq An (pv 1) (aF (a_ df aV (dH (q90 rfl) (by rfl) B.max VA
     (aF (nH ["rows","depths","row"] (ck CN) rfl rfl rfl iW.nd (yc (pv 2)) (λcl C fp aM aN=>cW (AF K rfl) (pv 2) (pv 0))) aQ))) aQ)))))
   (dB (cQ (pv 1)))),?_⟩
  refine⟨(by show 2<=sizeLine;decide),λD M=>?_⟩;obtain⟨bs,R,j9,jC⟩:=id hR;have kB:=aH (u:=.lst [.int 0,.int 0]) R M;have T:(bs.map V.ref).length=rows.length:=by rw[Zg];exact j9
  refine⟨_,rfl,p,rfl,⟨_,bg.of kB⟩,Hf (K:=K) (a:=p) (xs:=bs.map V.ref) (λi t d=>aG H d/\d D=some (.lst (vN (gk (rows.take i))))/\∃J,t=[some (.ref p),some (.ref D),J])
   ⟨bw M,aX,none,rfl⟩ (λi t d _ ⟨g,_⟩=>bg.of (g _ _ R)) ?_ ?_⟩
  ·rintro i y t d O ⟨g,c,J,rfl⟩;have Y:i<rows.length:=by rw[<- T];exact(cz O).1
   rw[Zh]at O;obtain⟨b,hb,rfl⟩:=Zl.mp O;have v:rows[i]?=some rows[i]:=by simp[Y]
   have N:=g _ _ (jC i b rows[i] hb v);have l:=ok i _ v;have S:(rows.take i).length=i:=by rw[Wd];lia
   have wT:∀x,x<i+2->(gk (rows.take i))[x]?=some (dp (rows.take i) x):=λx k=>Pq (by rw[S];exact k);generalize rows[i]=r at v N l;refine⟨_,rfl,.inl ⟨rfl,_,cq.of c⟩,_,rfl,b,rfl,⟨_,bg.of N⟩,λD2 Z=>oo Z (λj z _=>∃x,r[j]?=some x/\z=.int (dp (rows.take i) x:Nat)) (Ak (K:=K) N) (by rw[jn,l.1];decide) (λ_ _ _ _ _ _ h=>h) ?_ ?_⟩
   ·intro j x H3 hj k I Q' hq;obtain⟨m,G,rfl⟩:=x8 k;have jA:=l.2 m (ZH G);exact⟨_,rfl,_,rfl,D,_,(m:Int),.int (dp (rows.take i) m:Nat),rfl,rfl,cq.of (I _ _ c),Pu (wT m jA),hq _ _ (aG.refl _) ⟨m,G,rfl⟩⟩
   ·intro X H3 I kJ jW jV;have ey:X=(r.map (dp (rows.take i))).map (λn:Nat=>V.int (n:Int)):=by
     refine vq (by rw[jW,jn,Zg,Zg]) λj x k=>?_;obtain⟨m,G,rfl⟩:=jV j x k;rw[Zh,Zh,G];rfl
    have e2:X=((r.map (dp (rows.take i))).map (λn:Nat=>(n:Int))).map V.int:=ey.trans (x6 _);have U:r.map (dp (rows.take i))≠[]:=λz=>by
     have:=ZZ List.length z;rw[Zg,l.1]at this;cases this
    refine⟨D2,(r.map (dp (rows.take i))).map (λn:Nat=>(n:Int)),rfl,e2▸kJ,λz=>U (List.map_eq_nil_iff.mp z),_,_,rfl,rfl,?_⟩;rw[xl9 U];have kI:=I _ _ c;refine⟨D,_,_,rfl,rfl,kI,?_,?_⟩
    ·rw[jn,B_,S];exact yk 'a'
    ·have nD:∀b o,H b=some o->b≠D:=λb o e=>cI e M;refine⟨λb o e=>by rw[bV (nD b o e)];exact I _ _ (g _ _ e),?_,_,rfl⟩;rw[aX,xa4 v];unfold vN;rw[ZL]
     rfl
  ·rintro t d ⟨g,c,J,rfl⟩;refine⟨_,rfl,q d D g ?_⟩;rw[T,Wk]at c;exact c
end Pr
namespace Qf
theorem xm0{rows:List Row}{e:List Nat}(h:ip rows e):e.length<=rows.length:=by
 have:=h.nd.length_le_of_subset (l₂:=List.range rows.length) λp a=>Yw.mpr (h.lt p a);simpa using this
theorem Kn{rows:List Row}(ok:dv rows){d p:Nat}{r:Row}(a:rows[p]?=some r)(h:dp rows (p+2)<=d+1):∀(l e:List Nat),(∀q∈l,q∈r)->ip rows e->ip rows (l.foldl (dU rows d) e)
 |[],_,_,c=>c
 |q::l,e,g,c=>by
  have f:=g q Zz;have k:=(ok p r a).2 q f;have j:=(cz a).1;have b:dp rows q<=d:=by
   have:=yr (ZU.mpr ⟨q,f,rfl⟩:dp rows q∈r.map (dp rows));have e:=vx ok a;exact II e this h
  exact Kn ok a h l _ (λz i=>g z (Zp _ i)) (yj ok d e q c (qW j k) b).1
theorem Ap{rows:List Row}(ok:dv rows){d p:Nat}{r:Row}(a:rows[p]?=some r)(g:dp rows (p+2)<=d+1){q:Nat}(b:q∈r):q<rows.length+2/\dp rows q<=d:=by
 have f:=(ok p r a).2 q b;have c:=(cz a).1;have:=yr (ZU.mpr ⟨q,b,rfl⟩:dp rows q∈r.map (dp rows));have e:=vx ok a;exact⟨qW c f,II e this g⟩
theorem Cq{rows:List Row}(ok:dv rows){x:Nat}(a:x<rows.length+2)(h:dp rows x<=0):x<2:=by
 by_cases z:x<2
 ·exact z
 ·exfalso;have b:x-2<rows.length:=by exact qV a z
  have:=vx ok (BQ b);rw[show x-2+2=x from uj z]at this;lia
end Qf
namespace Pr
open PySem L2 Qf
theorem i5{n:Nat}(h:n<=1191000):n<sizeLine:=Ys h 'b'
def bu(e:ae)(H a:Hp):Prop:=∀b o,H b=some o->b≠e->a b=some o
theorem bu.refl(e:ae)(H:Hp):bu e H H:=λ_ _ h _=>h
theorem bu.trans{e:ae}{H f d:Hp}(a:bu e H f)(b:bu e f d):bu e H d:=λc o h n=>b c o (a c o h n) n
theorem bu.upd{e:ae}{H:Hp}{o:HO}:bu e H (upd H e o):=λb u h n=>by rw[bV n];exact h
theorem bu.of{e:ae}{H a:Hp}(h:aG H a):bu e H a:=λb o q _=>h b o q
theorem bu.c_{e:ae}{H c:Hp}(h:bu e H c){o:HO}(a:H e=some o)(no:∀u,o≠.tup u):je H c:=λb u q=>h b _ q λz=>by
 subst z;rw[q]at a;exact no u (ZE a).symm
def eK(a:List Nat):List (Key×V):=a.map λp:Nat=>(Sum.inl (p:Int),V.bl true)
theorem Po(a:List Nat)(p:Nat):(b_ (eK a) (Sum.inl (p:Int))).isSome=decide (p∈a):=by
 rw[<- o8];unfold eK;rw[List.any_map];by_cases h:p∈a
 ·rw[Zo h,Ym];exact⟨p,h,by simp⟩
 ·rw[Zm h,XZ];intro q b;simp only[Function.comp,Uu];intro z;have:(q:Int)=p:=Wl z;exact h (by rw[<- Int.ofNat.inj this];exact b)
theorem xK7{a:List Nat}{p:Nat}(h:p∉a):putK (eK a) (Sum.inl (p:Int)) (.bl true)=eK (a++[p]):=by
 unfold putK;have:=Po a p;rw[<- o8,Zm h]at this;rw[Zi (by rw[this];decide)];unfold eK;rw[ZL];rfl
theorem pV:aI ["rows","number","ended","quarter"] ["rows","number","ended"] (ck tq):=dz
inductive xN(d:Nat)(vs:List V)(H:Hp)(Q:VK):Prop
 |mk(p e:ae)(x:Nat)(rows:List Row)(es:List Nat)(e0:vs=[.ref p,.int (x:Nat),.ref e])(e1:gD H p rows)(e2:dv rows)(e3:rows.length<=1190900)(e4:x<rows.length+2)(e5:dp rows x<=d)(e6:ip rows es)(e7:H e=some (.dK (eK es)))(e8:∀H',bu e H H'->H' e=some (.dK (eK (dU rows d es x)))->Q .cU H')
def QM(d:Nat):Sp:=λa H Q _=>xN d a H Q
theorem xK9{f:ae}{Z:ak}(F:bj K "end_rows" "end_rows" tq f Z)(T:oS mg)(hE:mg "end_rows"=some (.ref f))(bE:Binds K Z ["rows","number","ended"] []):∀d,aE P w K mg base aW (d+1) f Z ["rows","number","ended"] (QM d):=by
 obtain⟨tf,I⟩:=T.first;intro d
 induction d with
 |zero=>
  refine F.ok pV (λvs H Q E h=>?_) (λcA A D s H vs Q E U h=>?_)
  ·obtain⟨p,e,x,rows,c,rfl,_⟩:=h
   rfl
  ·obtain⟨p,e,x,rows,c,rfl,hR,ok,hn,B,R,S,n,q⟩:=h;have W:A.units+3+1<cLine:=by have:=U.un;exact Ys (YF _ _) (show A.units+3+1+199<cLine from by simpa using this)
   have L:=Cq ok B R;refine⟨_,iA (fb (p9 (gB nE (pv 1) (gI (v:=.int 2) (by rfl) I ⟨_,rfl⟩) (dA _)) (sF (GV (CB W (a_ gA (pv 1) (gI (v:=.int 2) (by rfl) I ⟨_,rfl⟩)) (pv 2))))).pt (dB T2) fU) Gh,?_⟩;refine⟨_,rfl,_,_,rfl,rfl,_,rfl,?_⟩;rw[Zo (show(x:Int)<2 by lia)];exact cM (cM (q H (bu.refl e H) n))
 |succ d ih=>
  refine F.ok pV (λvs H Q E h=>?_) (λcA A D s H vs Q E U h=>?_)
  ·obtain⟨p,e,x,rows,c,rfl,_⟩:=h
   rfl
  ·obtain⟨p,e,x,rows,c,rfl,hR,ok,hn,B,R,S,n,q⟩:=h;have W:A.units+3+1<cLine:=by have:=U.un;exact Ys (YF _ (16*(d+1)+199)) (show A.units+3+1+(16*(d+1)+199)<cLine from by
    have h2:A.units+3+16*(d+1)+200<cLine:=this;lia)
   refine⟨_,iA (fb (p9 (gB nE (pv 1) (gI (v:=.int 2) (by rfl) I ⟨_,rfl⟩) (dA _)) (sF (GV (CB W (a_ gA (pv 1) (gI (v:=.int 2) (by rfl) I ⟨_,rfl⟩)) (pv 2))))).pt (dB T2) fU)
    (iA (og Yv rfl (yc (cW (ixS K rfl) (pv 0) (a_ gA (pv 1) (gI (v:=.int 2) (by rfl) I ⟨_,rfl⟩)))) (eD 3 pV.nd)
     (dB (tN (cF ih U hE F.kp bE (aF (pv 0) (aF (pv 3) (aF (pv 2) aQ)))))))
    (dB (BS W (pv 2) (a_ gA (pv 1) (gI (v:=.int 2) (by rfl) I ⟨_,rfl⟩)) lY (by rfl)))),?_⟩
   refine⟨_,rfl,_,_,rfl,rfl,_,rfl,?_⟩;unfold dU at q;refine c7 (λhc=>?_) (λhc=>?_)
   ·have L:x<2:=by have:=ZJ hc;lia
    rw[Zk (.inl L)]at q;exact cM (q H (bu.refl e H) n)
   ·have L:¬x<2:=λz=>hc (Zo 'a');have ex:(x:Int)-2=((x-2:Nat):Int):=by lia
    have dg:dn H e (.int ((x:Int)-2)) (b_ (eK c) (Sum.inl ((x-2:Nat):Int))):=by rw[ex];exact dn.k (k:=Sum.inl ((x-2:Nat):Int)) n
    refine⟨_,rfl,_,_,rfl,rfl,_,rfl,e,_,rfl,dg,_,rfl,?_⟩;rw[Po];refine c7 (λG=>?_) (λG=>?_)
    ·rw[Zk (.inr (ZJ G))]at q;exact q H (bu.refl e H) n
    ·have M:x-2∉c:=λz=>G (Zo z);rw[Zi (by rintro(z|z);exact L z;exact M z)]at q;have jA:x-2<rows.length:=by lia
     have J:=BQ jA;generalize rows.getD (x-2) []=r at q J;obtain⟨bs,C,t,jC⟩:=id hR;have Y:dp rows (x-2+2)<=d+1:=by rw[show x-2+2=x by lia];exact R
     have wU:bs[x-2]?=some (bs[x-2]'(qI B t ex)):=by simp[show x-2<bs.length from qI B t ex]
     have jP:=jC (x-2) _ r wU J;have LW:∀b∈bs,b≠e:=λb hb z=>by
      obtain⟨j,hj,ej⟩:=ZK.mp hb;have:=jC j b (rows[j]'(oz hj t)) (by rw[Ze hj,ej]) (Ze (oz hj t));rw[z,n]at this;cases this
     have T8:p≠e:=λz=>by
      rw[z,n]at C;rcases C with C|C<;>cases C
     have Es:∀a,bu e H a->gD a p rows:=λa g=>⟨bs,C.imp (λh=>g _ _ h T8) (λh=>g _ _ h T8),t,λi b r e1 e2=>g _ _ (jC i b r e1 e2) (LW b (ZH e1))⟩;have ixx:∀Q':VK,Q' (.ref (bs[x-2]'(qI B t ex))) H->pZ K (.ref p) (.int ((x:Int)-2)) H Q':=λQ' hQ=>by
      rcases C with h|h
      ·exact .inr ⟨p,_,((x-2:Nat):Int),.ref (bs[x-2]'(qI B t ex)),rfl,ZZ V.int ex,bg.of h,oY (by rw[Zh,wU];rfl),hQ⟩
      ·exact .inl ⟨p,_,((x-2:Nat):Int),.ref (bs[x-2]'(qI B t ex)),rfl,ZZ V.int ex,cq.of h,oY (by rw[Zh,wU];rfl),hQ⟩
     refine⟨_,rfl,_,rfl,_,_,rfl,rfl,ixx _ ⟨_,rfl,⟨_,bg.of jP⟩,
      Hf (K:=K) (xs:=vN r) (λi N a=>bu e H a/\a e=some (.dK (eK ((r.take i).foldl (dU rows d) c)))/\∃v3,N=[some (.ref p),some (.int (x:Nat)),some (.ref e),v3])
      ⟨bu.refl e H,n,none,rfl⟩ (λi N a _ ⟨g,_⟩=>bg.of (g.c_ n (λu z=>by cases z) _ _ jP)) ?_ ?_⟩⟩
     ·rintro i y N a hy ⟨g,O,v3,rfl⟩;obtain⟨m,G,rfl⟩:=x8 hy;have hq:=ZH G;obtain⟨b1,b2⟩:=Ap ok J Y hq;refine⟨_,rfl,_,rfl,_,rfl,p,e,m,rows,(r.take i).foldl (dU rows d) c,rfl,Es a g,ok,hn,b1,b2,Kn ok J Y _ c (λz hz=>List.mem_of_mem_take hz) S,O,λH3 s3 y9=>⟨g.trans s3,?_,_,rfl⟩⟩;have wE:=(cz G).1;have X:=(cz G).2;rw[<- X6 wE,Vq,X];exact y9
     ·rintro N a ⟨g,O,v3,rfl⟩;rw[jn,Wk]at O;have pf:=Kn ok J Y r c (λz hz=>hz) S;have l:=(yj ok (d+1) c x S B R).1;unfold dU at l;rw[Zi (by rintro(z|z);exact L z;exact M z)]at l;have eg:rows.getD (x-2) []=r:=by
       rw[ZD,J];rfl
      rw[eg]at l;have AO:x-2∉r.foldl (dU rows d) c:=λz=>by
       have:=(Xz.mp l.nd).2.2 (x-2) z (x-2) (by simp);exact this rfl
      have dq:gO a e (.int ((x:Int)-2)) (.bl true) (upd a e (.dK (eK (r.foldl (dU rows d) c++[x-2])))):=by
       rw[ex,<- xK7 AO];refine gO.k (k:=Sum.inl ((x-2:Nat):Int)) O ?_;unfold eK;rw[Zg];exact i5 (by have:=xm0 pf;lia)
      exact⟨_,rfl,_,rfl,_,_,rfl,rfl,e,_,rfl,dq,q _ (g.trans bu.upd) aX⟩
theorem jx:aI ["rows","top","ended"] ["rows","top"] (ck G6):=dz
inductive nY(d:Nat)(vs:List V)(H:Hp)(Q:VK):Prop
 |mk(p:ae)(x:Nat)(rows:List Row)(e0:vs=[.ref p,.int (x:Nat)])(e1:gD H p rows)(e2:dv rows)(e3:rows.length<=1190900)(e4:x<rows.length+2)(e5:dp rows x<=d)(e6:∀H' D,aG H H'->H' D=some (.lst (vN (dU rows d [] x)))->Q (.ref D) H')
def Ll(d:Nat):Sp:=λa H Q _=>nY d a H Q
theorem xa5{f c:ae}{n i:ak}(F:bj K "places_as_ended" "places_as_ended" G6 f n)(B:eR mg)(T:oS mg)(k:mg "end_rows"=some (.ref c))(j:bj K "end_rows" "end_rows" tq c i)(m:Binds K i ["rows","number","ended"] [])(d:Nat):aE P w K mg base aW (d+2) f n ["rows","top"] (Ll d):=by
 have v:aE P w K mg base aW (d+1) c i ["rows","number","ended"] (QM d):=xK9 j T k m d;refine F.ok jx (λJ H Q E h=>?_) (λN A g s H J Q E r h=>?_)
 ·obtain⟨p,x,rows,rfl,_⟩:=h
  rfl
 ·obtain⟨p,x,rows,rfl,C,ok,u,t,L,q⟩:=h;refine⟨_,iA (cR 2 jx.nd xl3)
   (iA (tN (cF v r k j.kp m (aF (pv 0) (aF (pv 1) (aF (pv 2) aQ)))))
   (dB (cQ (hV (q13 rfl) (by rfl) B.list PyProof.Rows.boot_list (aF (pv 2) aQ))))),?_⟩
  refine λe a=>⟨_,rfl,_,rfl,_,rfl,p,e,x,rows,[],rfl,C.same (bw a),ok,u,t,L,FV rows,aX,λM D y=>?_⟩;refine⟨_,rfl,e,_,rfl,y,λl G=>q _ l ?_ ?_⟩
  ·intro b o z;have I:b≠e:=cI z a;exact aH (D b o (aH z a) I) G
  ·rw[aX];unfold eK vN;rw[YL]
   rfl
def gq(H:Hp)(t:ae)(n top:Nat)(rows:List Row):Prop:=∃p:ae,H t=some (.tup [.int (n:Nat),.int (top:Nat),.ref p])/\cf H p rows
theorem gq.mono{H a:Hp}{t:ae}{n top:Nat}{rows:List Row}(h:gq H t n top rows)(s:je H a):gq a t n top rows:=by
 obtain⟨p,h1,b⟩:=h;exact⟨p,s _ _ h1,b.mono s⟩
theorem xA6{ys:List V}(h:∀(i:Nat) y,ys[i]?=some y->y=.bl true):ys=(List.replicate ys.length true).map V.bl:=by
 refine vq (by simp) λi x a=>?_;have b:=(cz a).1;rw[h i x a];simp[b]
theorem Qq(k:Nat):(List.replicate k true).all id=true:=by
 rw[Xm];intro x a;exact(List.mem_replicate.mp a).2
theorem uT:aI ["thing","before"] ["thing","before"] (ck pX):=dz
inductive xF(vs:List V)(H:Hp)(Q:VK):Prop
 |mk(b:ae)(i:Nat)(r:Row)(e0:vs=[.ref b,.int (i:Nat)])(e1:H b=some (.tup (vN r)))(e2:IC i r)(e3:∀H',aG H H'->Q (.bl true) H')
def QL:Sp:=λa H Q _=>xF a H Q
theorem xL1{f a:ae}{k g:ak}(F:bj K "is_row" "is_row" pX f k)(B:eR mg)(G:mg "is_number"=some (.ref a))(J:bj K "is_number" "is_number" BP a g)(O:Binds K g ["thing","many"] [])(t:aE P w K mg base aW 2 a g ["thing","many"] Ln):aE P w K mg base aW 3 f k ["thing","before"] QL:=by
 refine F.ok uT (λR H Q E h=>?_) (λcA A d s H R Q E p h=>?_)
 ·obtain⟨b,i,r,rfl,_⟩:=h
  rfl
 ·obtain⟨b,i,r,rfl,hb,c,q⟩:=h;refine⟨_,iA (fb (p9 (tI (l4 (dH Al (by rfl) B.AG YD (aF (pv 0) (aF (Ad (v:=.ty "tuple") (by rfl) B.tuple ZP rfl) aQ)))))
    (sF (gB IH (dH tR (by rfl) B.len Yq (aF (pv 0) aQ)) aV (dA _)))).pt (dB (cQ lY)) fU)
   (dB (cQ (dH (Kr rfl) (by rfl) B.all VB (aF (nH ["thing","before"] (ck pX) rfl rfl rfl uT.nd (Hh K rfl (pv 0)) (λZ C Y U W=>cF t p G J.kp O (aF (pv 0) (aF (pv 2) aQ)))) aQ)))),?_⟩
  refine⟨_,rfl,_,_,_,_,true,rfl,rfl,.inl (.tup hb),rfl,_,rfl,cJ ⟨_,rfl,b,_,rfl,.inr (bg.of hb),rfl,_,rfl,xR9 (by rw[jn,c.1];rfl) ?_⟩⟩;refine⟨_,rfl,b,rfl,⟨_,bg.of hb⟩,λD M=>oo M (λ_ z _=>z=.bl true) (Ak (K:=K) hb) (by rw[jn,c.1];decide) (λ_ _ _ _ _ _ h=>h) ?_ ?_⟩
  ·intro j x l T u n V I;obtain⟨m,L,rfl⟩:=x8 u;exact⟨_,rfl,_,rfl,m,i,rfl,c.2 m (ZH L),I _ _ (aG.refl _) rfl⟩
  ·intro S l n N X y;have e:=xA6 y;refine⟨D,List.replicate S.length true,rfl,by rw[<- e];exact N,?_⟩;rw[Qq];exact q l n
theorem pQ:aI ["thing"] ["thing"] (ck CM):=dz
inductive sW(vs:List V)(H:Hp)(Q:VK):Prop
 |mk(p:ae)(rows:List Row)(e0:vs=[.ref p])(e1:cf H p rows)(e2:dv rows)(e3:rows.length<=900)(e4:∀H',aG H H'->Q (.bl true) H')
def Pn:Sp:=λa H Q _=>sW a H Q
theorem xA7{f k:ae}{r c:ak}(F:bj K "are_rows" "are_rows" CM f r)(B:eR mg)(T:mg "is_row"=some (.ref k))(U:bj K "is_row" "is_row" pX k c)(Z:Binds K c ["thing","before"] [])(G:aE P w K mg base aW 3 k c ["thing","before"] QL):aE P w K mg base aW 4 f r ["thing"] Pn:=by
 refine F.ok pQ (λY H Q E h=>?_) (λcA A g s H Y Q E I h=>?_)
 ·obtain⟨p,rows,rfl,_⟩:=h
  rfl
 ·obtain⟨p,rows,rfl,N,ok,L,q⟩:=h;obtain⟨bs,e,j9,X⟩:=id N;refine⟨_,dB (cQ (va (dH Al (by rfl) B.AG YD (aF (pv 0) (aF (Ad (v:=.ty "tuple") (by rfl) B.tuple ZP rfl) aQ)))
   (vb (dH (Kr rfl) (by rfl) B.all VB (aF (FZ ["thing"] (ck CM) rfl rfl rfl pQ.nd (Lp (by rfl) B.enum (aF (pv 0) aQ)) (λcl C fp aM aN=>cF G I T U.kp Z (aF (pv 1) (aF (pv 0) aQ)))) aQ))))),?_⟩
  refine⟨_,rfl,_,_,_,_,true,rfl,rfl,.inl (.tup e),rfl,_,rfl,cM ?_⟩;have n:(bs.map V.ref).length=rows.length:=by rw[Zg];exact j9
  refine⟨_,rfl,p,rfl,⟨_,bg.of e⟩,λD S=>Gn S (λ_=>true) (λ_=>.bl true) (Ko (K:=K) e) (by rw[n];exact yk (qS L)) ?_ ?_⟩
  ·rintro i x j a ⟨t,y,rfl,u,W⟩ l os ho R Q2 q1 J;obtain⟨o1,o2,rfl⟩:=L2.AB ho
   ·
    have O:i<rows.length:=by rw[<- n];exact a
    rw[Zh]at u;obtain⟨b,hb,rfl⟩:=Zl.mp u;have m:rows[i]?=some rows[i]:=by simp[O]
    refine⟨t,_,rfl,bg.of W,rfl,_,_,rfl,_,_,rfl,rfl,?_⟩;refine cM (B:=R j) ?_;exact⟨_,rfl,_,rfl,b,i,rows[i],rfl,l _ _ (X i b _ hb m),ok i _ m,λH3 s3=>J rfl H3 s3⟩
  ·intro j l M;refine⟨D,List.replicate (bs.map V.ref).length true,rfl,?_,?_⟩
   ·rw[M];congr 2;rw[List.map_replicate,List.filter_eq_self.mpr (λ_ _=>rfl)];refine vq (by simp) λi x d=>?_;have a:=(cz d).1;rw[Zh]at d;obtain⟨_,_,rfl⟩:=Zl.mp d;simp at a;rw[Zg,List.getElem?_replicate,Zk a]
   ·rw[Qq];exact q j l
theorem eB:aI ["thing","n","top","rows"] ["thing"] (ck FU):=dz
inductive mq(vs:List V)(H:Hp)(Q:VK):Prop
 |mk(t:ae)(n tp:Nat)(rows:List Row)(e0:vs=[.ref t])(e1:gq H t n tp rows)(e2:n<=12)(e3:dv rows)(e4:rows.length<=900)(e5:tp<rows.length+2)(e6:dp rows tp<=n)(e7:∀H',aG H H'->Q (.bl true) H')
def SO:Sp:=λa H Q _=>mq a H Q
theorem q18{f g k d l:ae}{I e b u x:ak}(F:bj K "is_telling" "is_telling" FU f I)(B:eR mg)
  (U:mg "is_size"=some (.ref g)) (Z:bj K "is_size" "is_size" E8 g e) (N:Binds K e ["thing"] []) (O:aE P w K mg base aW 2 g e ["thing"] Pt)
  (hR:mg "are_rows"=some (.ref k)) (FR:bj K "are_rows" "are_rows" CM k b) (bR:Binds K b ["thing"] []) (M:aE P w K mg base aW 4 k b ["thing"] Pn)
  (T:mg "is_number"=some (.ref d)) (X:bj K "is_number" "is_number" BP d u) (bN:Binds K u ["thing","many"] []) (R:aE P w K mg base aW 2 d u ["thing","many"] Ln)
  (hD:mg "depths_of"=some (.ref l)) (y:bj K "depths_of" "depths_of" CN l x) (bD:Binds K x ["rows"] []):aE P w K mg base aW 5 f I ["thing"] SO:=by
 have GD:aE P w K mg base aW 1 l x ["rows"] Pp:=xA5 y B;refine F.ok eB (λvs H Q E h=>?_) (λcA A j s H vs Q E c h=>?_)
 ·obtain⟨t,n,a,rows,rfl,_⟩:=h
  rfl
 ·obtain⟨t,n,a,rows,rfl,⟨p,r,i⟩,S,ok,C,J,hd,q⟩:=h;have W:bh 1 _:=c.mono 'b';have G:bh 2 _:=c.mono 'b';refine⟨_,iA (fb (p9 (tI (l4 (dH Al (by rfl) B.AG YD (aF (pv 0) (aF (Ad (v:=.ty "tuple") (by rfl) B.tuple ZP rfl) aQ)))))
    (sF (gB IH (dH tR (by rfl) B.len Yq (aF (pv 0) aQ)) aV (dA _)))).pt (dB (cQ lY)) fU)
   (iA (sE (pv 0) (qg rfl (gc (eD 1 eB.nd) (gc (eD 2 eB.nd) (gc (eD 3 eB.nd) qh)))))
   (iA (fb (p9 (tI (l4 (cF O G U Z.kp N (aF (pv 1) aQ))))
    (p9 (tI (l4 (cF M c hR FR.kp bR (aF (pv 3) aQ))))
    (sF (tI (l4 (cF R G T X.kp bN (aF (pv 2) (aF (dH tR (by rfl) B.len Yq (aF (pv 3) aQ)) aQ)))))))).pt (dB (cQ lY)) fU)
   (dB (cQ (mF tT (cW cC (cF GD W hD y.kp bD (aF (pv 3) aQ)) (pv 2)) (pv 1) (dA _)))))),?_⟩
  refine⟨_,rfl,_,_,_,_,true,rfl,rfl,.inl (.tup r),rfl,_,rfl,cJ ⟨_,rfl,t,_,rfl,.inr (bg.of r),rfl,_,rfl,cJ ?_⟩⟩;refine⟨_,rfl,t,_,rfl,bg.of r,rfl,_,_,rfl,_,_,rfl,_,_,rfl,rfl,?_⟩;refine⟨_,rfl,n,rfl,S,_,rfl,cJ ⟨_,rfl,p,rows,rfl,i,ok,C,λH2 m=>⟨_,rfl,cJ ?_⟩⟩⟩;obtain⟨bs,Y,j9,jC⟩:=id i;refine⟨_,rfl,_,rfl,p,_,rfl,.inr (bg.of (m _ _ Y)),a,rows.length,by rw[Zg,j9];rfl,J,_,rfl,cJ ?_⟩;refine⟨_,rfl,p,rows,rfl,i.same m,ok,C,λL D s3 kJ=>?_⟩;refine⟨_,rfl,D,_,(a:Int),.int (dp rows a:Nat),rfl,rfl,cq.of kJ,Pu (Pq J),_,rfl,_,_,rfl,rfl,?_⟩;show Q (V.bl (decide ((dp rows a:Int)<=(n:Int)))) L;rw[Zo 'a'];exact q L (m.trans s3)
def vn(H:Hp)(t:ae)(n top:Nat)(rows:List Row):Prop:=gq H t n top rows/\Canon n top rows/\rows.length<=900
def dQ(r:List Nat):List Key:=r.map λn:Nat=>Sum.inl (n:Int)
theorem p_(r:List Nat):(dQ r).map kV=vN r:=by unfold dQ vN;rw[YL];rfl
theorem Lk{l m:List Nat}(h:dQ l=dQ m):l=m:=by
 have:vN l=vN m:=by rw[<- p_,<- p_,h]
 rw[x6,x6]at this;exact Qs ((List.map_inj_right (λ_ _ z=>V.int.inj z)).mp this)
theorem q19{rows:List Row}(h:rows.Nodup):(rows.map dQ).Nodup:=by
 rw[fc]at h ⊢;intro i j b a z;rw[Zg]at a;refine h i j b a ?_;rw[Zh,Zh,Ze (kr b a),Ze a]at z;rw[Ze 'a',Ze a];congr 1;exact Lk (ZE z)
theorem q20(b:List Int):PyData.depthAll (b.map PyData.int)<=1:=by
 induction b with
 |nil=>simp[PyData.depthAll]
 |cons a b c=>
  rw[ZB];simp only[PyData.depthAll,PyData.depth];lia
theorem R6(a:List Int):(dL a).depth<=2:=by
 have:=q20 a;unfold dL;simp only[PyData.depth];lia
theorem gQ:aI ["thing","top","rows"] ["thing"] (ck Cy):=dz
inductive pJ(vs:List V)(H:Hp)(Q:VK):Prop
 |mk(t:ae)(n tp:Nat)(rows:List Row)(e0:vs=[.ref t])(e1:vn H t n tp rows)(e2:∀H',aG H H'->Q (.bl true) H')
def Qp:Sp:=λa H Q _=>pJ a H Q
theorem xm1{f Z M fA:ae}{fd nT X N:ak}(F:bj K "is_shape" "is_shape" Cy f fd)(B:eR mg)(T:oS mg)
  (hT:mg "is_telling"=some (.ref Z)) (FT:bj K "is_telling" "is_telling" FU Z nT) (bT:Binds K nT ["thing"] []) (GT:aE P w K mg base aW 5 Z nT ["thing"] SO)
  (hP:mg "is_plain"=some (.ref M)) (FP:bj K "is_plain" "is_plain" GJ M X) (bP:Binds K X ["row"] [])
  (hA:mg "places_as_ended"=some (.ref fA)) (FA:bj K "places_as_ended" "places_as_ended" G6 fA N) (bA:Binds K N ["rows","top"] []) (GA:∀d,aE P w K mg base aW (d+2) fA N ["rows","top"] (Ll d)):aE P w K mg base aW 15 f fd ["thing"] Qp:=by
 have GP:aE P w K mg base aW 2 M X ["row"] Qt:=xl8 FP T;refine F.ok gQ (λvs H Q E h=>?_) (λcA A U s H vs Q E k h=>?_)
 ·obtain⟨t,n,I,rows,rfl,_⟩:=h
  rfl
 ·obtain⟨t,n,I,rows,rfl,⟨xf,a,R⟩,q⟩:=h;obtain⟨p,ht,jN⟩:=id xf;obtain⟨bs,m,j9,jC⟩:=id jN;have k8:bh 2 _:=k.mono 'b';have S:bh 5 _:=k.mono 'b';have O:bh (n+2) _:=k.mono (by have:=a.size;lia);refine⟨_,iA (fb (tI (l4 (cF GT S hT FT.kp bT (aF (pv 0) aQ)))) (dB (cQ lY)) fU)
   (iA (sE (Sf PF (pv 0) (TR aV) TU) (qg rfl (gc (eD 1 gQ.nd) (gc (eD 2 gQ.nd) qh))))
   (iA (fb (PW.pt (p9 (l4 (dH (Kq rfl) (by rfl) B.any VC (aF (nH ["thing","top","rows"] (ck Cy) rfl rfl rfl gQ.nd (Hh K rfl (pv 2)) (λcl C fp aM aN=>cF GP k8 hP FP.kp bP (aF (pv 0) aQ))) aQ)))
    (sF (gB nE (dH qQ8 (by rfl) B.len Yq (aF (hV (q79 rfl k) (by rfl) B.set VD (aF (pv 2) aQ)) aQ)) (dH tR (by rfl) B.len Yq (aF (pv 2) aQ)) (dA _))))) (dB (cQ lY)) fU)
   (dB (cQ (mF (LC k) (cF (GA n) O hA FA.kp bA (aF (pv 2) (aF (pv 1) aQ)))
    (hV (q14 rfl) (by rfl) B.list PyProof.Rows.boot_list (aF (hV qK0 (by rfl) B.range PyProof.Rows.boot_range (aF (dH tR (by rfl) B.len Yq (aF (pv 2) aQ)) aQ)) aQ)) (dA _)))))),?_⟩
  refine⟨_,rfl,t,n,I,rows,rfl,xf,a.size,a.n5,R,a.o_,a.deep,λH1 s1=>⟨_,rfl,cJ ?_⟩⟩;have Hu:=s1 _ _ ht;refine⟨_,rfl,_,rfl,t,_,rfl,bg.of Hu,(λz=>absurd (show HT.dy 3 0 (some 1)=0 from z.1) 'b'),λu hu=>?_⟩;refine⟨u,_,rfl,bg.of aX,rfl,_,_,rfl,_,_,rfl,rfl,?_⟩;have sA:aG H (upd H1 u (.tup [.int (I:Nat),.ref p])):=s1.trans (bw hu);refine(λ(go:∀H2,aG H H2->_)=>go _ sA) ?_;intro H2 s2;have jO:=s2 _ _ m;have G:(bs.map V.ref).length=rows.length:=by rw[Zg];exact j9
  refine⟨_,rfl,p,rfl,⟨_,bg.of jO⟩,λD hD=>oo hD (λ_ z _=>z=.bl false) (Ak (K:=K) jO) (by rw[G];exact yk (qS R)) (λ_ _ _ _ _ _ h=>h) ?_ ?_⟩
  ·intro j x Y hj c L Q' hq;have k6:j<rows.length:=by rw[<- G];exact hj
   rw[Zh]at c;obtain⟨b,hb,rfl⟩:=Zl.mp c;have jF:rows[j]?=some rows[j]:=by simp[k6]
   refine⟨_,rfl,b,rows[j],rfl,L _ _ (s2 _ _ (jC j b _ hb jF)),(a.n5 j _ jF).1,λH4 y=>hq _ _ y ?_⟩;rw[Zm (a.sS _ (XN k6))]
  ·intro v Y L kJ jW jV;have e:v=(List.replicate v.length false).map V.bl:=by
    refine vq (by simp) λi x c=>?_;have hi:=(cz c).1;rw[jV i x c];simp[hi]
   have W:aG H Y:=s2.trans L;refine⟨D,List.replicate v.length false,rfl,by rw[<- e];exact kJ,_,rfl,?_⟩;have na:(List.replicate v.length false).any id=false:=by
    rw[XZ];intro x c;rw[(List.mem_replicate.mp c).2];decide
   rw[na];refine cJ ?_;have kF:=W _ _ m;refine⟨_,rfl,p,bs,rows.map dQ,rfl,kF,by rw[Zg];exact j9,λi b ks e1 e2=>?_,q19 a.unlike,by rw[Zg];lia,λr Hw=>?_⟩
   ·rw[Zh]at e2;obtain⟨r0,kZ,rfl⟩:=Zl.mp e2;rw[p_];exact W _ _ (jC i b r0 e1 kZ)
   ·have y:aG H (upd Y r (.ext (uN r (rows.map dQ).length))):=W.trans (bw Hw);have k9:=y _ _ m;refine⟨r,_,rfl,aX,by rw[Zg];lia,_,rfl,p,_,rfl,.inr (bg.of k9),_,_,rfl,rfl,_,rfl,?_⟩;have nl:decide (((rows.map dQ).length:Int)<((bs.map V.ref).length:Int))=false:=Zm (by rw[G,Zg];lia);rw[nl];refine cJ ?_;refine(λ(go:∀H5,aG H H5->_)=>go _ y) ?_;intro H5 J;refine⟨_,rfl,_,rfl,p,I,rows,rfl,(jN.same J).zs,a.n5,(ZF R 'b'),a.o_,a.deep,λH6 D6 s6 w6=>?_⟩;have MZ:=s6 _ _ (J _ _ m);refine⟨_,rfl,p,_,rfl,.inr (bg.of MZ),_,rfl,λg hg=>⟨g,rows.length,rfl,by rw[aX,G],by lia,λl nQ=>?_⟩⟩;have yB:=aH (u:=.lst ((List.range rows.length).map λ(i:Nat)=>V.int (i:Int))) (aH (u:=.xX 0 ((bs.map V.ref).length:Int)) w6 hg) nQ;rw[a.ends,x6]at yB;have e9:((List.range rows.length).map λ(i:Nat)=>V.int (i:Int))=((List.range rows.length).map λn:Nat=>(n:Int)).map V.int:=x6 _;refine⟨dL ((List.range rows.length).map λn:Nat=>(n:Int)),dL ((List.range rows.length).map λn:Nat=>(n:Int)),.lst yB (aS.ints _),.lst aX (e9▸aS.ints _),GK _,GK _,?_,?_⟩
    ·exact ZF (R6 _) 'b'
    ·rw[LA,Zo rfl];exact q _ (J.trans (s6.trans ((bw hg).trans (bw nQ))))
theorem xA8:aI ["shape"] ["shape"] (ck GF):=dz
inductive pI(vs:List V)(H:Hp)(Q:VK):Prop
 |mk(t:ae)(n tp:Nat)(rows:List Row)(e0:vs=[.ref t])(e1:vn H t n tp rows)(e2:∀H',aG H H'->Q .cU H')
def Qo:Sp:=λa H Q _=>pI a H Q
theorem xm2{f b:ae}{e a:ak}(F:bj K "want_shape" "want_shape" GF f e)
  (l:mg "is_shape"=some (.ref b)) (m:bj K "is_shape" "is_shape" Cy b a) (g:Binds K a ["thing"] []) (j:aE P w K mg base aW 15 b a ["thing"] Qp):aE P w K mg base aW 16 f e ["shape"] Qo:=by
 refine F.ok xA8 (λr H Q E h=>?_) (λv A c s H r Q E i h=>?_)
 ·obtain⟨t,n,d,rows,rfl,_⟩:=h
  rfl
 ·obtain⟨t,n,d,rows,rfl,k,q⟩:=h;refine⟨_,dB (fb (tI (l4 (cF j i l m.kp g (aF (pv 0) aQ)))) Gh fU),?_⟩;exact⟨_,rfl,t,n,d,rows,rfl,k,λp u=>⟨_,rfl,cJ (q p u)⟩⟩
end Pr
namespace L2
open PySem PySem.Spec PyProof.Rows
def Av(acc:List (List Key×V))(more:List (List Key×ae×V)):List (List Key×V):=more.foldl (λacc x=>putK acc x.1 x.2.2) acc
end L2
namespace L2
open PySem PySem.Spec PyProof.Rows PySem.W
def fh(h:ao)(d:ae)(tab:Array aB)(ep:Nat):Prop:=∃o,h.get? d=some o/\o.ExactDict/\o.data=.dict tab ep
theorem fh.de{h h':ao}{d:ae}{tab:Array aB}{ep:Nat}(x:fh h d tab ep)(k:∀o,h.get? d=some o->h'.get? d=some o):fh h' d tab ep:=let ⟨o,ho,r⟩:=x;⟨o,k o ho,r⟩
theorem fh.ty{s:ab}{d:ae}{tab:Array aB}{ep:Nat}(x:fh s.heap d tab ep):s.TypeIs (.ref d) "dict":=let ⟨o,ho,hc,_⟩:=x;⟨o,ho,hc.1⟩
theorem fh.lt{h:ao}{d:ae}{tab:Array aB}{ep:Nat}(x:fh h d tab ep):d<h.objs.size:=let ⟨_,ho,_⟩:=x;Zn ho
section
variable{d it:ae}{tab:Array aB}{ep i:Nat}
theorem SN{Q:aa->ab->Prop}(c:(d==sysModules)=false)(x:fh s.heap d tab ep)
  (q:Q (.ref s.heap.objs.size) {s with heap:=s.heap.push {cls:=.type "dict_keyiterator",data:=.fields #[.ref d,.int 0 0,.int tab.size 0,.int ep 0]}}):af (ah prog w) A (pyIter (.ref d)) Q E s:=by
 obtain⟨o,a,e,b⟩:=id x;refine Uv x.ty F.slot_dict_iter (Z2 F.slot_dict_iter x.ty F.entry_dict_iter ?_ (F.args_dict_iter_1 _));show af _ _ (Builtin.Dict.dictSlotNone _ _ >>= _) _ _ _;unfold Builtin.Dict.dictSlotNone;refine Za (Za (wpAny_notOrdered_dict x.ty (Zb ?_)));show af _ _ (Builtin.Dict.showsAll d >>= _) _ _ s;unfold Builtin.Dict.showsAll;rw[Zi (by rw[c];decide)];refine Za (Zb (Za (Vr a b (Za (wpAny_dictEpoch a b ?_)))));refine Za (ZS (Zb ⟨_,rfl,"dict_keyiterator",_,⟨_,Zj _ rfl,rfl⟩,Y4.lookup,?_⟩));simpa[rawInt]using q
theorem SM{Q:Option aa->ab->Prop}(st:s.heap.IsKeyIter it d i tab.size ep)(x:fh s.heap d tab ep)(h:i<tab.size)
  (q:∀c,c.IsKeyIter it d (i+1) tab.size ep->Heap.SameBut it s.heap c->Q (some tab[i].key) {s with heap:=c}):af (ah prog w) A (pyNext (.ref it)) Q E s:=by
 obtain⟨o,b,j,a⟩:=id st;obtain⟨l,e,k,f⟩:=id x;unfold pyNext;refine Za (XJ (Z3 (name:=Str.ofString "__next__") st.typeIs Y4 (Z2 Y4 st.typeIs F.entry_dict_keyiterator_next ?_ (F.args_dict_keyiterator_next_1 _))));refine Za (Zb (Za (Za ?_)))
 first|(refine Za (Xw st.typeIs (Zb (Za (WH b a ?_)))))|(refine Za (X7 st.typeIs (Zb (Za (WH b a ?_)))))
 simp only[show Builtin.Dict_items.ownsTuple "dict_keyiterator"=false by decide,Zt,ZX];show af _ _ (if(Value.ref d==Value.none)=true then _ else _) _ _ s;rw[Zi (show ¬((Value.ref d==Value.none)=true) by exact Zv)];refine Za (Zb (Za (Vr e f ?_)));rw[Zi (by simp)];refine Za (Zb (Za (wpAny_dictEpoch e f ?_)));rw[Zi (by simp)];refine Zb ?_;simp only[show ¬((i:Int)<0)from yX,ZX,ZG,Z4 h];refine Za ?_
 first|(refine Za (Xw st.typeIs (Zb (Za (VE st.typeIs ?_)))))|(refine Za (X7 st.typeIs (Zb (Za (VE st.typeIs ?_)))))
 show af _ _ (setField (.ref it) 1 (rawInt ((i:Int)+1)) >>= _) _ _ s;refine Za (XQ b a (by simp) ?_);have g:(s.heap.update it (Obj.mapFields (·.setIfInBounds 1 (rawInt ((i:Int)+1))))).IsKeyIter it d (i+1) tab.size ep:=⟨_,Yh _ b (XS (Yz a _)),(Vm ..).trans j,by rw[Yz a];simp[rawInt]⟩;refine Za (ZY (Za (VE (s:={s with heap:=s.heap.update it (Obj.mapFields (·.setIfInBounds 1 (rawInt ((i:Int)+1))))}) g.typeIs ?_)));show af _ _ (pure tab[i].key) _ _ _;exact Zb (Zb ⟨_,rfl,Zb (q _ g (Yi ..))⟩)
theorem R5{Q:Option aa->ab->Prop}(j:A.handled=none)(st:s.heap.IsKeyIter it d tab.size tab.size ep)(x:fh s.heap d tab ep)
  (q:∀h,Heap.ExtBut it s.heap h->Q none {s with heap:=h}):af (ah prog w) A (pyNext (.ref it)) Q E s:=by
 obtain⟨o,c,k,e⟩:=id st;obtain⟨n,f,l,g⟩:=id x;unfold pyNext;refine Za (XJ (Z3 (name:=Str.ofString "__next__") st.typeIs Y4 (Z2 Y4 st.typeIs F.entry_dict_keyiterator_next ?_ (F.args_dict_keyiterator_next_1 _))));refine Za (Zb (Za (Za ?_)))
 first|(refine Za (Xw st.typeIs (Zb (Za (WH c e ?_)))))|(refine Za (X7 st.typeIs (Zb (Za (WH c e ?_)))))
 simp only[show Builtin.Dict_items.ownsTuple "dict_keyiterator"=false by decide,Zt,ZX];show af _ _ (if(Value.ref d==Value.none)=true then _ else _) _ _ s;rw[Zi (show ¬((Value.ref d==Value.none)=true) by exact Zv)];refine Za (Zb (Za (Vr f g ?_)));rw[Zi (by simp)];refine Za (Zb (Za (wpAny_dictEpoch f g ?_)));rw[Zi (by simp)];refine Zb ?_;simp only[show ¬((tab.size:Int)<0)from yX,ZX,ZG,Wr (Zd tab.size)];refine Za ?_
 first|(refine Za (Xw st.typeIs (Zb ?_)))|(refine Za (X7 st.typeIs (Zb ?_)))
 show af _ _ (setField (.ref it) 0 .none >>= _) _ _ s;refine Za (XQ c e (by simp) ?_);show af _ _ (newExc (.type "StopIteration") [] >>= _) _ _ _;refine Za ?_;simp only[newExc,newTuple];refine Za (ZS ?_ (by size_fits));refine Za (m:=firstArgMember _ _) (WG (a:=Value.none) (by first|rfl|(simp only[firstArgMember];rfl)) (ZS ?_ (by size_fits)));simp only[raiseNew];refine Za (wpAny_handled ?_);rw[show A.in1.handled=none by exact j];refine Za (Zb (wpAny_throw ?_));refine Za (Wj (T:= "StopIteration") (b:=true) ⟨_,Zj _ rfl,rfl⟩ isSubtype_stop ?_);exact Zb (q _ (((Yi ..).extBut.push _).push _))
theorem q21(n:A.handled=none)(j:d≠it):Walks prog w A it [it,d] [it] tab.size (λi v=>∃e,tab[i]?=some e/\v=e.key) (λi h=>h.IsKeyIter it d i tab.size ep/\fh h d tab ep) where
 sub:=λb hb=>by simp at hb;simp[hb]
 frame:=λ_ _ _ a k=>⟨a.1.at λo e=>k it (by simp) o e,a.2.de λo e=>k d (by simp) o e⟩
 item:=λi s Q E g a q=>SM a.1 a.2 g λc l f=>q _ c s.toks ⟨tab[i],by simp[g],rfl⟩ ⟨l,a.2.de λo e=>f.extBut d o j e⟩ λb o hb e=>f.extBut b o (λh=>hb (by simp[h])) e
 done:=λs Q E a q=>R5 n a.1 a.2 λc m=>q c s.toks λb o hb e=>m b o (λh=>hb (by simp[h])) e
 self:=λ_ _ _ _ a q=>wpAny_pyIter_keyiter a.1 q
theorem xm3(a:(d==sysModules)=false):KdlSrc prog w "dict" d d tab.size (λi v=>∃e,tab[i]?=some e/\v=e.key) (λh=>fh h d tab ep) where
 type:=λ_ x=>x.ty
 there:=λ_ x=>⟨x.lt,x.lt⟩
 keep:=λ_ _ x k=>x.de λo e=>k d (.inl rfl) o e
 notList:=by decide
 notTuple:=by decide
 hint:=λ_ _ _ _ x q=>kdl_hint_dict x.ty q
 iter:=λ_ _ b x=>⟨_,_,(λ_ _ q=>SN a x q),q21 b (Zy x.lt),⟨⟨_,Zj _ rfl,rfl,rfl⟩,x.de λo e=>Zc _ e⟩⟩
theorem xa9(c:(d==sysModules)=false):MeetsIn prog w (Builtin.«dict.__len__» ⟨[.ref d],[]⟩) (λ_ R s=>∃tab ep,fh s.heap d tab ep/\R (.ok (.ret (.int tab.size s.toks))) {s with toks:=s.toks+1}):=
 .of_wp λA R s ⟨tab,ep,⟨o,a,e,b⟩,q⟩=>by
  show af _ _ (dictSize d >>= _) _ _ s;unfold dictSize;refine Za (Za (Vr a b (Zb ?_)));show af _ _ (Builtin.Dict.pendingCount d >>= _) _ _ s;exact Za (wpAny_pendingCount_other c (VT (by rw[Y3];exact q)))
theorem R4{Q:aa->ab->Prop}(b:(d==sysModules)=false)(x:fh s.heap d tab ep)(a:(tab.size:Int)<2^63)(q:Q (.int tab.size (s.toks+1)) {s with toks:=s.toks+1+1}):
  af (ah prog w) A (call (.builtin "len") [.ref d]) Q E s:=by
 refine Calls.call_function_entry kind_len plain_len entry_len (args_len1 _) ?_;unfold Builtin.«len»;refine Za (m:=oneArg "len" _) (Zb ?_);refine Za (m:=callSpecial? (.ref d) (Str.ofString "__len__")) (Z3 (name:=Str.ofString "__len__") x.ty F.slot_dict_len (call_meetsIn F.slot_dict_len x.ty F.entry_dict_len (F.args_dict_len_1 _) (xa9 b) ⟨tab,ep,x,?_⟩));show af _ _ _ _ _ {s with toks:=s.toks+1};refine Za (ZY (Zb (Za (wpAny_letGo ?_))));show af _ _ (if((tab.size:Nat):Int)<0 then _ else _) _ _ _;rw[Zi yX];show af _ _ (if((tab.size:Nat):Int)>=2^63 then _ else _) _ _ _;rw[Zi 'a'];exact Za (wpAny_mkInt (Zb ⟨_,rfl,q⟩))
end
section
variable{X:Cx}
inductive lO(xs:List V)(H:Hp)(Q:VK):Prop
 |mk(d:_)(kvs:_)(aT:xs=[V.ref d])(cV:H d=some (.dT kvs))(cw:Q (.int kvs.length) H)
theorem SK:f_ X (.builtin "len") lO:=by
 intro x s t H n v Q I r h;obtain⟨d,a,rfl,l,q⟩:=h;obtain⟨u,rfl,ru⟩:=iq r;cases ru;obtain⟨z,k,y,e,o,b,w,m,j,i,f,p⟩:=(show bo X.prog X.w H s.heap d (.dT a)from I.aO d _ l);have g:b.size=a.length:=(Ws f).trans (Yx e).symm;have c:(b.size:Int)<2^63:=by rw[g];rw[XY]at z;lia
 refine R4 k ⟨o,m,j,i⟩ c ⟨.int a.length,H,I.tok _,?_,q⟩;rw[g];exact⟨_,rfl⟩
end
section
variable{T:String}{r d:ae}{n:Nat}{P:Nat->aa->Prop}{OK:ao->Prop}
theorem qR4{Q:List aa->ab->Prop}(K:KdlSrc prog w T r d n P OK)(q:A.handled=none)(h:OK s.heap)(j:n<=sizeLine)
  (t:∀(c:ao) g f,(∀b o,s.heap.get? b=some o->c.get? b=some o)->ItemsOf P f n->Q f.toList {s with heap:=c,toks:=g}):af (ah prog w) A (collect (.ref r)) Q E s:=by
 have i:=K.there _ h;unfold collect;refine Za (Ud (Yp F.entry_proto_collect ?_));rw[Z9 F.plain_proto_collect _];refine Za (ZS ?_);refine Zb ⟨Xd F.plain_list_iadd _,Yp F.entry_list_iadd ?_⟩;rw[Z9 F.plain_list_iadd _];have m:(s.heap.push {cls:=.type "list",data:=.seq ([]:List aa).toArray}).get? s.heap.objs.size=some {cls:=.type "list",data:=.seq ([]:List aa).toArray}:=Zj _ rfl;refine kdl_extend (R:=wants (λv u=>af (ah prog w) A (match v with|.ref a=>(do let ob <- load a;match ob.data with|.seq k _=>pure k.toList|_=>unsupported "internal:collect")|_=>unsupported "internal:collect") Q E u) E) (s:={s with heap:=s.heap.push {cls:=.type "list",data:=.seq ([]:List aa).toArray}}) K q (K.keep _ _ h λb _ o e=>Zc _ e) s.heap.objs.size (Wm i.1) (Wm i.2) _ _ m (λc g f x hk p l=>?_) j;refine Za (wpAny_load p ?_);exact Zb (t c g f (λb o e=>hk b o (Zy (Zn e)) (Zc _ e)) l)
theorem qB2{Q₁:aa->ab->Prop}(K:KdlSrc prog w T r d n P OK)(q:A.handled=none)(j:OK s.heap)(l:n<=sizeLine)
  (h:∀(c:ao) i a,(∀b o,s.heap.get? b=some o->c.get? b=some o)->ItemsOf P a n->Q₁ (.ref c.objs.size) {s with heap:=c.push {cls:=.type "tuple",data:=.seq a},toks:=i}):
  codeAny (ah prog w) A (.call (.builtin "tuple.__new__") ⟨[.type "tuple",.ref r],[]⟩) (wants Q₁ E) s:=by
 refine VQ ?_;refine Za (WG (F.newCall_tuple_1 _) (Zb ⟨Xd F.plain_tuple_new _,Yp F.entry_tuple_new ?_⟩));rw[Z9 F.plain_tuple_new _];have t:=sub_tuple_self;have g:=init_tuple_lookup;have m:=madeHere_tuple;have f:=K.type s j;have p:=K.notTuple
 wp_walk using WP f,qR4 (A:=A.in1) K q j l
 intro c i a hk k;show af _ _ (Builtin.Tuple.tupleExact a.toList.toArray >>= λv=>ret v) _ _ _;unfold Builtin.Tuple.tupleExact;refine Za (ZS ?_ (by show a.toList.toArray.size<=sizeLine;simp only[Array.toArray_toList];rw[k.1];exact l));refine Zb ?_;have e:a.toList.toArray=a:=by simp
 rw[e];exact h c i a hk k
theorem xb0{Q:aa->ab->Prop}(K:KdlSrc prog w T r d n P OK)(l:A.handled=none)(j:OK s.heap)(m:n<=sizeLine)
  (h:∀(e:ao) i c,(∀b o,s.heap.get? b=some o->e.get? b=some o)->ItemsOf P c n->Q (.ref e.objs.size) {s with heap:=e.push {cls:=.type "tuple",data:=.seq c},toks:=i}):
  af (ah prog w) A (call (.type "tuple") [.ref r]) Q E s:=by
 refine callType_codes (Q₁:=λa f=>f.TypeIs a "tuple" /\ Q a f) F.called_tuple (F.typeCall_tuple_1 _) F.entry_object_init
  (qB2 K l j m λe i c hk k=>⟨⟨_,Zj _ rfl,rfl⟩,h e i c hk k⟩) λa f g=>?_
 exact⟨g.1,F.args_object_init_2 a _,object_init_meets F.called_tuple.init.lookup F.called_tuple.made 'b' prog w A.in1 _ f ⟨g.1,rfl,g.2⟩⟩
end
section
variable{X:Cx}
theorem Ri(hc:X.calm=true):f_ X (.type "tuple") (λC H Q=>∃(d:ae)(c:List (List Key×V)),C=[.ref d]/\H d=some (.dT c) /\
  ∀(l:ae)(bs:List ae),H l=none->bs.length=c.length->(∀(i:Nat) b kv,bs[i]?=some b->c[i]?=some kv->H b=some (.tup (kv.1.map kV)))->Q (.ref l) (upd H l (.tup (bs.map V.ref)))):=by
 intro j8 s σ H C us Q I r h;obtain⟨d,c,rfl,U,q⟩:=h;obtain⟨u,rfl,ru⟩:=iq r;cases ru;obtain⟨z,P,f,g,o,tab,ep,W,O,M,j,zU⟩:=(show bo X.prog X.w H s.heap d (.dT c)from I.aO d _ U);have S:c.length=f.length:=Yx g;have R:tab.size=f.length:=Ws j;refine xb0 (xm3 (tab:=tab) (ep:=ep) P) (I.ok.hd hc) ⟨o,W,O,M⟩ 'a' λt F k N G=>?_;have w:∀(i:Nat) p y,c[i]?=some p->f[i]?=some y->H y.2.1=some (.tup (p.1.map kV)):=by
  have B:∀{l:List (List Key×V)}{m:List (List Key×ae×aa)},Paired (λ(p:List Key×V) (q:List Key×ae×aa)=>p.1=q.1/\H q.2.1=some (.tup (p.1.map kV))/\RelV p.2 q.2.2) l m->∀(i:Nat) p y,l[i]?=some p->m[i]?=some y->H y.2.1=some (.tup (p.1.map kV)):=by
   intro l m pr
   induction pr with
   |nil=>intro i p y h1;simp at h1
   |cons L a2 Y=>
    intro i p y h1 n;cases i with
    |zero=>simp at h1 n;subst h1;subst n;exact L.2.1
    |succ i=>exact Y i p y (by simpa using h1) (by simpa using n)
  exact B g
 have E:(f.map (·.2.1)).length=c.length:=by rw[Zg,S]
 have J:=I.kept (t':=F) N;have Z:H t.objs.size=none:=J.aO.fresh (Zd _);refine⟨.ref t.objs.size,_,J.laid (a:=t.objs.size) (o:=.tup ((f.map (·.2.1)).map V.ref)) (t':=F) (λb o e=>Zc _ e) (Zd _) (show bo X.prog X.w _ _ _ (.tup ((f.map (·.2.1)).map V.ref))from⟨by rw[Zg,E];exact z,k.toList,?_,by have:=cP.new t k.toList.toArray;simpa using this⟩),rfl,q _ _ Z E λi b kv K T=>?_⟩
 ·refine G8 (by simp[G.1,R]) λi x v h1 n=>?_;rw[Zh,Zh]at h1;obtain⟨b,hb,rfl⟩:=Zl.mp h1;obtain⟨y,A,rfl⟩:=Zl.mp hb;obtain⟨e,D,rfl⟩:=G.2 i v (by simpa using n);rw[entry_at j i,A]at D;have:=ZE D;subst this
  rfl
 ·rw[Zh]at K;obtain⟨y,A,rfl⟩:=Zl.mp K;exact w i kv y T A
open Classical in
noncomputable def yq(h:ao)(d:PyData)(w:aa):Bool:=decide (∃(e:PyData)(bs:List ae),Reads h w e bs/\e.canLay0=true/\PyData.eqv e d=true)
open Classical in
theorem xm4{h:ao}{d d':PyData}{w:aa}{bs:List ae}(b:Reads h w d' bs)(c:d'.canLay0=true):yq h d w=PyData.eqv d' d:=by
 unfold yq;cases hb:PyData.eqv d' d with
 |true=>exact Zo ⟨d',bs,b,c,hb⟩
 |false=>
  refine Zm λ⟨e,a,g,_,f⟩=>?_;have:=SeqAt.Reads.unique d' e w bs a c b g;rw[<- this,hb]at f;cases f
theorem Qn{t:List (ae×aw)}{s:ab}{σ:St}{H:Hp}{v:aa}{d:PyData}{as:List ae}(I:Inv X t σ H s)(un:X.A.units+64<cLine)(l:Reads s.heap v d as)(j:d.canLay0=true)(B:d.depth<=50):
  ∀{i:List V}{g:List PyData}{c:List aa},aS H i g->Vals i c->PyData.canLayAll0 g=true->(∀w∈c,SeqAt.EqAt X.A.in1 s w v (yq s.heap d w))/\c.any (yq s.heap d)=g.any λe=>PyData.eqv e d
 |_,_,_,.nil,.nil,_=>⟨λw a=>(nomatch a),rfl⟩
 |_,m::b,C::n,.cons p r,.cons y u,q=>by
  have f:m.canLay0=true/\PyData.canLayAll0 b=true:=by simpa[PyData.canLayAll0]using q
  obtain⟨A,x⟩:=Qn I un l j B r u f.2;obtain⟨bs,h⟩:=p.reads I.aO y;have k:=xm4 (d:=d) h f.1;refine⟨λw a=>?_,?_⟩
  ·rcases Zu.mp a with rfl|a
   ·rw[k];exact SeqAt.eqAt_reads m d X.A.in1 s w v bs as h l f.1 j (by
     have:X.A.in1.units=X.A.units+1:=rfl;lia)
   ·exact A w a
  ·rw[Xc,Xc,k,x]
inductive rW(x:V)(y:V)(H:Hp)(Q:VK):Prop
 |mk(p:ae)(xs:List V)(ds:List PyData)(d:PyData)(aT:y=.ref p)(cV:H p=some (.tup xs))(cw:aS H xs ds)(aR:bF H x d)(zF:d.canLay0=true)(EK:PyData.canLayAll0 ds=true)(e6_:d.depth<=50)(e7_:Q (.bl (ds.any λe=>PyData.eqv e d)) H)
theorem Pm{k:Nat}(b:bh k X.A):eJ X (compareOp .In) rW:=by
 intro J s E H x y v u Q I n m h;obtain⟨p,D,G,d,rfl,i,l,r,c,A,C,q⟩:=h;cases m;obtain⟨as,g⟩:=r.reads I.aO n;obtain⟨a,f,B,F⟩:=I.tuple (bg.of i);have un:=b.units;obtain⟨e,t⟩:=Qn (X:=X) I un g c C l f A;refine SeqAt.in_tupleAt (yq s.heap d) B (λw j=>e w (by simpa using j)) ⟨.bl _,H,I,rfl,?_⟩;rw[show a.toArray.any (yq s.heap d)=a.any (yq s.heap d) by simp,t];exact q
end
end L2
namespace L2
open PySem
theorem xm5{α:Type}{c d:BEq α}(h1:@LawfulBEq α c)(e:@LawfulBEq α d):c=d:=by
 have:∀a b,@BEq.beq α c a b=@BEq.beq α d a b:=λa b=>by
  rw[Yn,@XC α c h1,@XC α d e]
 cases c;cases d;congr 1;funext a b;exact this a b
structure bU(X:Cx)(e:av)(t:TE):Prop where
 go:PE X e t
structure Ih(X:Cx)(st:aA)(t:TS):Prop where
 go:PS X st t
inductive gZ(X:Cx):List aA->TS->Prop
 |one {st:aA}{t:TS}(h:Ih X st t):gZ X [st] t
 |cons {st:aA}{rest:List aA}{t u:TS}(h:Ih X st t) (r:gZ X rest u):gZ X (st::rest) (xw t u)
theorem gZ.go{X:Cx}:∀{l:List aA}{t:TS},gZ X l t->lR X l t
 |_,_,.one h=>dB h.go
 |_,_,.cons h r=>iA h.go r.go
theorem aZ{X:Cx}{st:aA}{rest:List aA}{R:TS->Prop}(h:∃t,Ih X st t/\∃u,lR X rest u/\R (xw t u)):∃t,lR X (st::rest) t/\R t:=by
 obtain⟨t,h1,u,b,a⟩:=h;exact⟨_,iA h1.go b,a⟩
theorem fZ{X:Cx}{st:aA}{R:TS->Prop}(h:∃t,Ih X st t/\R t):∃t,lR X [st] t/\R t:=by
 obtain⟨t,h1,a⟩:=h;exact⟨_,dB h1.go,a⟩
inductive bJ(X:Cx):List av->TA->Prop
 |nil:bJ X [] pD
 |cons {e:av}{es:List av}{te:TE}{t:TA}(h:bU X e te) (r:bJ X es t) (hs:starEach (e::es) X.env=(false,eval e X.env)::starEach es X.env):bJ X (e::es) (v_ te t)
theorem bJ.go{X:Cx}:∀{a:List av}{t:TA},bJ X a t->PA X a t
 |_,_,.nil=>aQ
 |_,_,.cons h r b=>aF h.go r.go b
theorem Pl{X:Cx}{T id:String}{name:ar}{r:V->List V->Hp->VK->Prop}{o e:av}{b:List av}{d:TE}{t:TA}{a c:aC}(pa:PlainAttrs T)(slot:Slot T name id)(i:typeOf (.builtin id)=pure (.type "method_descriptor"))(j:Ij X id r)(f:bU X o d)(k:bJ X (e::b) t)
  (m:attributeBase o name X.env (eval o X.env)=eval o X.env:=by rfl)
  (g:((backTo c (starEach (e::b) X.env)).all (λx=>!x.1)&&(backToKw c (keywordEach [] X.env)).all (λx=>x.1.isSome)
   && decide ((e::b).length+([]:List Keyword).length+(if([]:List Keyword).isEmpty then 0 else 1)<30))=true:=by rfl)
  (l:(a.endLine==c.line)=true:=by rfl) (hs:starEach (e::b) X.env=(false,eval e X.env)::starEach b X.env:=by rfl) (h:(backTo c (starEach b X.env)).any (·.1)=false:=by rfl):
  bU X (.Call (.Attribute o name a) (e::b) [] c) (Q7 X.K T r d t):=⟨E_ pa slot i j f.go k.go m g l hs h⟩
theorem gH{X:Cx}{i:Int}{j:Nat}{a:aC}:bU X (.Constant (.int i) j a) (tC (.int i)):=⟨aV⟩
end L2
namespace Pr
open PySem L2 Qf
def aY(H:Hp)(p:ae):Prop:=∃a b:Int,H p=some (.lst [.int a,.int b])/\0<=a/\0<=b/\b<2^40
theorem aY.same{H c:Hp}{p:ae}(h:aY H p)(s:aG H c):aY c p:=by
 obtain⟨a,b,e,r⟩:=h;exact⟨a,b,s _ _ e,r⟩
def br(H:Hp)(p:ae)(rows:List Row):Prop:=∃bs:List ae,H p=some (.lst (bs.map V.ref))/\bs.length=rows.length/\∀(i:Nat) b r,bs[i]?=some b->rows[i]?=some r->H b=some (.tup (vN r))
theorem br.same{H a:Hp}{p:ae}{rows:List Row}(h:br H p rows)(s:aG H a):br a p rows:=by
 obtain⟨bs,h1,d,c⟩:=h;exact⟨bs,s _ _ h1,d,λi b r e f=>s _ _ (c i b r e f)⟩
def e_{α κ:Type}(key:α->κ)(l:List α)(k:Nat):List (κ×V):=(l.zipIdx k).map λp=>(key p.1,V.int (p.2:Nat))
section
variable{α κ:Type}[DecidableEq α][DecidableEq κ]{key:α->κ}
theorem Aj(l:List α)(k:Nat):(e_ key l k).length=l.length:=by simp[e_]
theorem xb2(a:α)(l:List α)(k:Nat):e_ key (a::l) k=(key a,V.int (k:Nat))::e_ key l (k+1):=by simp[e_]
theorem xb3(l:List α)(a:α)(k:Nat):e_ key (l++[a]) k=e_ key l k++[(key a,V.int (k+l.length:Nat))]:=by simp[e_,List.zipIdx_append]
theorem Lj(inj:∀a b,key a=key b->a=b)(a:α):∀(l:List α)(k:Nat),b_ (e_ key l k) (key a)=if a∈l then some (.int (k+l.idxOf a:Nat))else none
 |[],k=>by simp[e_,b_]
 |b::l,k=>by
  rw[xb2];by_cases h:b=a
  ·subst h;rw[om rfl,Zk Zz,List.idxOf_cons_self]
   rfl
  ·rw[oj (λz=>h (inj _ _ z)),Lj inj a l (k+1)];by_cases c:a∈l
   ·have e:(b::l).idxOf a=l.idxOf a+1:=by
     rw[List.idxOf_cons,beq_false_of_ne h]
     rfl
    rw[Zk c,Zk (Zp _ c),e];congr 3;exact uh
   ·rw[Zi c,Zi (λz=>by rcases Zu.mp z with z|z;exact h z.symm;exact c z)]
theorem xm6(inj:∀a b,key a=key b->a=b){l:List α}{a:α}{k:Nat}(h:a∉l):putK (e_ key l k) (key a) (.int (k+l.length:Nat))=e_ key (l++[a]) k:=by
 unfold putK;rw[o8,Lj inj,Zi h,Zi 'b',xb3]
end
theorem br.but{H a:Hp}{p e:ae}{rows:List Row}{o:HO}(h:br H p rows)(b:bu e H a)(l:p≠e)(j:H e=some o)(no:∀u,o≠.tup u):br a p rows:=by
 obtain⟨bs,h1,f,d⟩:=h;exact⟨bs,b _ _ h1 l,f,λi c r g k=>b.c_ j no _ _ (d i c r g k)⟩
theorem K1:∀{ys:List V},(∀(i:Nat) y,ys[i]?=some y->∃b:ae,y=.ref b)->∃cs:List ae,ys=cs.map V.ref
 |[],_=>⟨[],rfl⟩
 |y::ys,h=>by
  obtain⟨b,rfl⟩:=h 0 y rfl;obtain⟨cs,rfl⟩:=K1 (ys:=ys) λi z a=>h (i+1) z (by simpa using a);exact⟨b::cs,rfl⟩
theorem Tt{H:Hp}:∀{bs:List ae}{rows:List Row},bs.length=rows.length->(∀(i:Nat) b r,bs[i]?=some b->rows[i]?=some r->H b=some (.tup (vN r))) ->
  aS H (bs.map V.ref) (rows.map λr=>dT (r.map λx:Nat=>(x:Int)))
 |[],[],_,_=>.nil
 |b::bs,r::rows,e,h=>by
  refine .cons ?_ (Tt (by simpa using e) λi c q d f=>h (i+1) c q (by simpa using d) (by simpa using f));have a:=h 0 b r rfl rfl;rw[x6]at a;exact .tup a (aS.ints _)
theorem FG:∀rows:List Row,PyData.canLayAll0 (rows.map λr=>dT (r.map λx:Nat=>(x:Int)))=true
 |[]=>rfl
 |r::rows=>by
  rw[ZB,PyData.canLayAll0,LB,FG rows];rfl
theorem Ts:∀a:List Int,PyData.depthAll (a.map PyData.int)=0
 |[]=>rfl
 |n::a=>by rw[ZB,PyData.depthAll,Ts a];rfl
theorem Tq:∀rows:List Row,PyData.depthAll (rows.map λr=>dT (r.map λx:Nat=>(x:Int)))<=1
 |[]=>by decide
 |r::rows=>by
  have:=Tq rows;have e:(dT (r.map λx:Nat=>(x:Int))).depth=1:=by
   show PyData.depthAll _+1=1;rw[Ts]
  rw[ZB,PyData.depthAll,e];lia
theorem xm7(cs:List ae)(t:ae):cs.map V.ref++[.ref t]=(cs++[t]).map V.ref:=by rw[ZL];rfl
def Bc(rows:List Row):List PyData:=rows.map λr=>dT (r.map λx:Nat=>(x:Int))
theorem Qm(m:List Row):PyData.eqv (.list (Bc m)) (.list [])=m.isEmpty:=by
 cases m with
 |nil=>rfl
 |cons a l=>simp[Bc,PyData.eqv,PyData.eqvAll]
theorem KC{H:Hp}{p:ae}{rows:List Row}(h:br H p rows):bF H (.ref p) (.list (Bc rows)):=by
 obtain⟨bs,c,b,a⟩:=h;exact .lst c (Tt b a)
theorem KI(rows:List Row):(PyData.list (Bc rows)).depth<=60:=by
 have:=Tq rows;show PyData.depthAll _+1<=60;unfold Bc;lia
def tK(rows:List Row):List (List Key×V):=e_ dQ rows 2
theorem xm8{α:Type}{b c:BEq α}(h1:@LawfulBEq α b)(d:@LawfulBEq α c)(l:List α)(a:α):@List.idxOf α b a l=@List.idxOf α c a l:=by
 cases xm5 h1 d
 rfl
theorem Gw(rows:List Row)(r:Row):b_ (tK rows) (dQ r)=if r∈rows then some (.int (rows.idxOf r+2:Nat))else none:=by
 unfold tK;rw[Lj (λa b=>Lk)];split
 ·rw[WR];exact ZZ (λn:Nat=>some (V.int ((n+2:Nat):Int))) (xm8 (by infer_instance) (by infer_instance) _ _)
 ·rfl
theorem xA9{g e:Hp}{t n f:Nat}{rows:List Row}(h:vn g t n f rows)(s:aG g e):vn e t n f rows:=let ⟨⟨p,a,b⟩,c,d⟩:=h;⟨⟨p,s _ _ a,b.same s⟩,c,d⟩
end Pr
namespace Qf
inductive Tr
 |z|o|nd (a b c d:Tr) deriving DecidableEq
namespace Tr
def kids:Tr->List Tr
 |nd a b c d=>[a,b,c,d]
 |_=>[]
def dep:Tr->Nat
 |nd a b c d=>1+mx [dep a,dep b,dep c,dep d]
 |_=>0
def Red:Tr->Prop
 |nd a b c d=>¬(a=z/\b=z/\c=z/\d=z)/\¬(a=o/\b=o/\c=o/\d=o)/\Red a/\Red b/\Red c/\Red d
 |_=>True
def post:Tr->List Tr->List Tr
 |nd a b c d,e=>if nd a b c d∈e then e else post d (post c (post b (post a e)))++[nd a b c d]
 |_,e=>e
def In(L:List Tr)(t:Tr):Prop:=t=z\/t=o\/t∈L
theorem In.app{L s:List Tr}{t:Tr}(h:In L t):In (L++s) t:=h.imp id λh=>h.imp id λh=>WC _ h
structure Ord(L:List Tr):Prop where
 nd:L.Nodup
 ch:∀(i:Nat) t,L[i]?=some t->(∃a b c d,t=.nd a b c d)/\∀s∈kids t,s=z\/s=o\/∃j:Nat,j<i/\L[j]?=some s
theorem c6:Ord []:=⟨Xv,λi t h=>by simp at h⟩
theorem cB:∀(t:Tr)(e:List Tr),∃s,post t e=e++s
 |z,e=>⟨[],by simp[post]⟩
 |o,e=>⟨[],by simp[post]⟩
 |nd a b c d,e=>by
  unfold post;split
  ·exact⟨[],by simp⟩
  ·obtain⟨l,h1⟩:=cB a e;obtain⟨i,g⟩:=cB b (post a e);obtain⟨k,f⟩:=cB c (post b (post a e));obtain⟨h,j⟩:=cB d (post c (post b (post a e)));exact⟨l++i++k++h++[nd a b c d],by rw[j,f,g,h1];simp⟩
theorem In.post{L:List Tr}{t:Tr}(s:Tr)(h:In L t):In (post s L) t:=by
 obtain⟨u,e⟩:=cB s L;rw[e];exact h.app
theorem tO:∀(t:Tr)(e:List Tr)(s:Tr),s∈post t e->s∈e\/sizeOf s<=sizeOf t
 |z,e,s,h=>.inl h
 |o,e,s,h=>.inl h
 |nd a b c d,e,s,h=>by
  unfold post at h;split at h
  ·exact .inl h
  ·have sz:sizeOf (nd a b c d)=1+sizeOf a+sizeOf b+sizeOf c+sizeOf d:=by simp
   rcases ZW.mp h with h|h
   ·rcases tO d _ s h with h|h
    ·rcases tO c _ s h with h|h
     ·rcases tO b _ s h with h|h
      ·rcases tO a _ s h with h|h
       ·exact .inl h
       ·exact .inr 'a'
      ·exact .inr 'a'
     ·exact .inr 'a'
    ·exact .inr 'a'
   ·have:s=nd a b c d:=by simpa using h
    rw[this];exact .inr (Zd _)
theorem iN{a b c d:Tr}{e:List Tr}(h:nd a b c d∉e):nd a b c d∉post d (post c (post b (post a e))):=λf=>by
 have sz:sizeOf (nd a b c d)=1+sizeOf a+sizeOf b+sizeOf c+sizeOf d:=by simp
 rcases tO d _ _ f with f|f
 ·rcases tO c _ _ f with f|f
  ·rcases tO b _ _ f with f|f
   ·rcases tO a _ _ f with f|f
    ·exact h f
    ·lia
   ·lia
  ·lia
 ·lia
theorem bK:∀(t:Tr)(e:List Tr),Ord e->Ord (post t e)/\In (post t e) t
 |z,e,h=>⟨h,.inl rfl⟩
 |o,e,h=>⟨h,.inr (.inl rfl)⟩
 |nd a b c d,e,h=>by
  unfold post;split
  ·rename_i g;exact⟨h,.inr (.inr g)⟩
  ·rename_i g;obtain⟨D,m⟩:=bK a e h;obtain⟨G,p⟩:=bK b _ D;obtain⟨B,r⟩:=bK c _ G;obtain⟨u,I⟩:=bK d _ B;have m:=((m.post b).post c).post d;have p:=(p.post c).post d;have r:=r.post d;have v:=iN g;generalize post d (post c (post b (post a e)))=L at u m p r I v;refine⟨⟨?_,?_⟩,.inr (.inr (by simp))⟩
   ·rw[Xz];exact⟨u.nd,by simp,λx A y E e=>v (by
     have:y=nd a b c d:=by simpa using E
     rw[<- this,<- e];exact A)⟩
   ·intro i t k;by_cases l:i<L.length
    ·rw[Zr l]at k;obtain⟨h1,F⟩:=u.ch i t k;refine⟨h1,λs n=>(F s n).imp id λh=>h.imp id λ⟨j,f,e⟩=>⟨j,f,?_⟩⟩;rw[Zr (kr f l)];exact e
    ·have q:=(cz k).1;rw[Zw]at q;have C:i=L.length:=by simp at q;exact yN q l
     subst C;have H:t=nd a b c d:=by simpa using k.symm
     subst H;refine⟨⟨a,b,c,d,rfl⟩,λs n=>?_⟩;have w:In L s:=by
      have:s=a\/s=b\/s=c\/s=d:=by simpa[kids]using n
      rcases this with rfl|rfl|rfl|rfl<;>assumption
     refine w.imp id λh=>h.imp id λg=>?_;obtain⟨j,f,e⟩:=ZK.mp g;exact⟨j,f,by rw[Zr f,Ze f,e]⟩
def name(L:List Tr):Tr->Nat
 |z=>0
 |o=>1
 |t=>L.idxOf t+2
def rowsOf(L:List Tr):List Row:=L.map λt=>(kids t).map (name L)
theorem BO(L:List Tr)(a b c d:Tr):name L (.nd a b c d)=L.idxOf (.nd a b c d)+2:=rfl
theorem eF{L:List Tr}(h:Ord L){i:Nat}{t:Tr}(e:L[i]?=some t):name L t=i+2:=by
 obtain⟨⟨a,b,c,d,rfl⟩,_⟩:=h.ch i t e;rw[BO];congr 1;have g:=(cz e).1;have f:=(cz e).2;rw[<- f];exact h.nd.idxOf_getElem i g
theorem vm{L:List Tr}(h:Ord L){t:Tr}(b:In L t):(t=z/\name L t=0)\/(t=o/\name L t=1)\/∃i:Nat,L[i]?=some t/\name L t=i+2:=by
 rcases b with rfl|rfl|d
 ·exact .inl ⟨rfl,rfl⟩
 ·exact .inr (.inl ⟨rfl,rfl⟩)
 ·obtain⟨j,c,e⟩:=ZK.mp d;have a:L[j]?=some t:=by rw[Ze c,e]
  exact .inr (.inr ⟨j,a,eF h a⟩)
theorem xm9{L:List Tr}(h:Ord L){s t:Tr}(hs:In L s)(c:In L t)(e:name L s=name L t):s=t:=by
 rcases vm h hs with⟨rfl,d⟩|⟨rfl,d⟩|⟨i,f,d⟩
 ·rcases vm h c with⟨rfl,a⟩|⟨rfl,a⟩|⟨j,b,a⟩
  ·rfl
  ·lia
  ·lia
 ·rcases vm h c with⟨rfl,a⟩|⟨rfl,a⟩|⟨j,b,a⟩
  ·lia
  ·rfl
  ·lia
 ·rcases vm h c with⟨rfl,a⟩|⟨rfl,a⟩|⟨j,b,a⟩
  ·lia
  ·lia
  ·have:i=j:=by lia
   subst this;rw[f]at b;exact ZE b
theorem dY{L s:List Tr}{t:Tr}(h:In L t)(hz:Ord L):name (L++s) t=name L t:=by
 rcases vm hz h with⟨rfl,_⟩|⟨rfl,_⟩|⟨i,e,_⟩
 ·rfl
 ·rfl
 ·obtain⟨⟨a,b,c,d,rfl⟩,_⟩:=hz.ch i t e;rw[BO,BO,List.idxOf_append,Zk (ZH e)]
theorem d_{L:List Tr}(h:Ord L){i:Nat}{t s:Tr}(e:L[i]?=some t)(hs:s∈kids t):In L s/\name L s<i+2:=by
 rcases(h.ch i t e).2 s hs with rfl|rfl|⟨j,b,a⟩
 ·exact⟨.inl rfl,by show 0<_;lia⟩
 ·exact⟨.inr (.inl rfl),by show 1<_;lia⟩
 ·exact⟨.inr (.inr (ZH a)),by rw[eF h a];exact qY b⟩
theorem bc(L:List Tr):(rowsOf L).length=L.length:=by simp[rowsOf]
theorem cH{L:List Tr}{i:Nat}{t:Tr}(e:L[i]?=some t):(rowsOf L)[i]?=some ((kids t).map (name L)):=by
 unfold rowsOf;rw[Zh,e];rfl
theorem KA{L:List Tr}{i:Nat}{r:Row}(e:(rowsOf L)[i]?=some r):∃t,L[i]?=some t/\r=(kids t).map (name L):=by
 unfold rowsOf at e;rw[Zh]at e;obtain⟨t,h1,a⟩:=Zl.mp e;exact⟨t,h1,a.symm⟩
theorem Km{L:List Tr}(h:Ord L):dv (rowsOf L):=λp r f=>by
 obtain⟨t,e,rfl⟩:=KA f;obtain⟨⟨a,b,c,d,rfl⟩,_⟩:=h.ch p t e;refine⟨rfl,λx i=>?_⟩;obtain⟨s,g,rfl⟩:=ZU.mp i;exact(d_ h e g).2
theorem KO{L:List Tr}(h:Ord L):∀{k l:List Tr},(∀s∈k,In L s)->(∀s∈l,In L s)->k.map (name L)=l.map (name L)->k=l
 |[],[],_,_,_=>rfl
 |[],_::_,_,_,e=>by simp at e
 |_::_,[],_,_,e=>by simp at e
 |a::k,b::l,h1,d,e=>by
  simp only[ZB,XV]at e;rw[xm9 h (h1 a Zz) (d b Zz) e.1,KO h (λs c=>h1 s (Zp _ c)) (λs c=>d s (Zp _ c)) e.2]
theorem R3{s t:Tr}(hs:∃a b c d,s=.nd a b c d)(f:∃a b c d,t=.nd a b c d)(e:kids s=kids t):s=t:=by
 obtain⟨a,b,c,d,rfl⟩:=hs;obtain⟨g,i,j,h,rfl⟩:=f;simpa[kids]using e
theorem Rh{L:List Tr}(h:Ord L):(rowsOf L).Nodup:=by
 rw[fc];intro i j g b e;rw[bc]at b;have c:L[i]?=some L[i]:=Ze (kr g b);have a:L[j]?=some L[j]:=Ze b;rw[cH c,cH a]at e;have:=R3 (h.ch i _ c).1 (h.ch j _ a).1 (KO h (λs d=>(d_ h c d).1) (λs d=>(d_ h a d).1) (ZE e));have f:=fc.mp h.nd i j g b;rw[c,a]at f;exact f (by rw[this])
end Tr
open Tr
def tr(rows:List Row):Nat->Nat->Tr
 |0,x=>if x=1 then .o else .z
 |d+1,x=>if x=0 then .z else if x=1 then .o else .nd (tr rows d ((rows.getD (x-2) []).getD 0 0)) (tr rows d ((rows.getD (x-2) []).getD 1 0)) (tr rows d ((rows.getD (x-2) []).getD 2 0)) (tr rows d ((rows.getD (x-2) []).getD 3 0))
theorem BN(rows:List Row)(d:Nat):tr rows d 0=.z:=by cases d<;>rfl
theorem Cp(rows:List Row)(d:Nat):tr rows d 1=.o:=by cases d<;>rfl
theorem tJ{r:Row}(h:r.length=4):∃a b c d,r=[a,b,c,d]:=by
 match r,h with
 |[a,b,c,d],_=>exact⟨a,b,c,d,rfl⟩
theorem Jx{rows:List Row}{d p a b c e:Nat}(f:rows[p]?=some [a,b,c,e]):tr rows (d+1) (p+2)=.nd (tr rows d a) (tr rows d b) (tr rows d c) (tr rows d e):=by
 have:rows.getD p []=[a,b,c,e]:=by rw[ZD,f];rfl
 show(if p+2=0 then _ else if p+2=1 then _ else _)=_;rw[Zi 'a',Zi 'a',show p+2-2=p from Jc,this]
 rfl
theorem u6{rows:List Row}(ok:dv rows){x:Nat}(i:x<rows.length+2)(h:¬x<2):∃p a b c d,x=p+2/\rows[p]?=some [a,b,c,d]:=by
 have g:x-2<rows.length:=by exact qV i h
 have f:rows[x-2]?=some rows[x-2]:=Ze g;obtain⟨a,b,c,d,e⟩:=tJ (ok _ _ f).1;exact⟨x-2,a,b,c,d,yP h,by rw[f,e]⟩
theorem Gd{rows:List Row}(ok:dv rows):∀(d f x:Nat),dp rows x<=d->dp rows x<=f->x<rows.length+2->tr rows d x=tr rows f x:=by
 intro d
 induction d with
 |zero=>
  intro f x h1 g l;have h:=Cq ok l h1
  match x,h with
  |0,_=>rw[BN,BN]
  |1,_=>rw[Cp,Cp]
 |succ d j=>
  intro f x h1 g l;by_cases h:x<2
  ·match x,h with
   |0,_=>rw[BN,BN]
   |1,_=>rw[Cp,Cp]
  ·obtain⟨p,a,b,c,e,rfl,i⟩:=u6 ok l h
   match f,g with
   |0,g=>exact absurd (Cq ok l g) h
   |f+1,g=>
    have q:=λy (m:y∈[a,b,c,e])=>Ap ok i h1 m;have k:=λy (m:y∈[a,b,c,e])=>Ap ok i g m;rw[Jx i,Jx i,j f a (q a (by simp)).2 (k a (by simp)).2 (q a (by simp)).1,j f b (q b (by simp)).2 (k b (by simp)).2 (q b (by simp)).1,j f c (q c (by simp)).2 (k c (by simp)).2 (q c (by simp)).1,j f e (q e (by simp)).2 (k e (by simp)).2 (q e (by simp)).1]
def T(rows:List Row)(x:Nat):Tr:=tr rows (dp rows x) x
theorem lZ(rows:List Row):T rows 0=.z:=BN _ _
theorem iZ(rows:List Row):T rows 1=.o:=Cp _ _
theorem jm{rows:List Row}(ok:dv rows){p a b c e:Nat}(f:rows[p]?=some [a,b,c,e]):T rows (p+2)=.nd (T rows a) (T rows b) (T rows c) (T rows e):=by
 obtain⟨d,g⟩:∃d,dp rows (p+2)=d+1:=⟨_,by rw[vx ok f];exact WR _ _⟩;have q:=λy (h:y∈[a,b,c,e])=>Ap ok f (Vg g) h;unfold T;rw[g,Jx f,Gd ok d _ a (q a (by simp)).2 (Zd _) (q a (by simp)).1,Gd ok d _ b (q b (by simp)).2 (Zd _) (q b (by simp)).1,Gd ok d _ c (q c (by simp)).2 (Zd _) (q c (by simp)).1,Gd ok d _ e (q e (by simp)).2 (Zd _) (q e (by simp)).1]
theorem xS8{rows:List Row}(ok:dv rows)(nd:rows.Nodup):∀(d x y:Nat),dp rows x<=d->x<rows.length+2->y<rows.length+2->T rows x=T rows y->x=y:=by
 intro d;have j:∀x y,x<2->y<rows.length+2->T rows x=T rows y->x=y:=λx y l g e=>by
  by_cases m:y<2
  ·match x,y,l,m with
   |0,0,_,_=>rfl
   |1,1,_,_=>rfl
   |0,1,_,_=>rw[lZ,iZ]at e;cases e
   |1,0,_,_=>rw[lZ,iZ]at e;cases e
  ·obtain⟨p,a,b,c,f,rfl,i⟩:=u6 ok g m;rw[jm ok i]at e
   match x,l with
   |0,_=>rw[lZ]at e;cases e
   |1,_=>rw[iZ]at e;cases e
 induction d with
 |zero=>exact λx y h r g e=>j x y (Cq ok r h) g e
 |succ d s=>
  intro x y h r g e;by_cases l:x<2
  ·exact j x y l g e
  ·by_cases m:y<2
   ·exact(j y x m r e.symm).symm
   ·obtain⟨p,a,b,c,f,rfl,i⟩:=u6 ok r l;obtain⟨n,A,w,u,v,rfl,k⟩:=u6 ok g m;rw[jm ok i,jm ok k]at e;have q:=λy (g:y∈[a,b,c,f])=>Ap ok i h g;have t:∀y∈[A,w,u,v],y<rows.length+2:=λy g=>by
     have:=(ok _ _ k).2 y g;have:=(cz k).1;lia
    injection e with e1 e2 e3 e4
    have h1:=s a A (q a (by simp)).2 (q a (by simp)).1 (t A (by simp)) e1;have D:=s b w (q b (by simp)).2 (q b (by simp)).1 (t w (by simp)) e2;have B:=s c u (q c (by simp)).2 (q c (by simp)).1 (t u (by simp)) e3;have C:=s f v (q f (by simp)).2 (q f (by simp)).1 (t v (by simp)) e4;subst h1 D B C;have:p=n:=by
     rcases Vs p n with z|z|z
     ·exact absurd (i.trans k.symm) (fc.mp nd p n z (cz k).1)
     ·exact z
     ·exact absurd (k.trans i.symm) (fc.mp nd n p z (cz i).1)
    rw[this]
def lX(rows:List Row)(p:Nat):Tr:=T rows (p+2)
theorem xB0{rows:List Row}(ok:dv rows)(nd:rows.Nodup){e:List Nat}(c:ip rows e){p:Nat}(b:p<rows.length):lX rows p∈e.map (lX rows)<->p∈e:=by
 constructor
 ·intro h;obtain⟨q,a,d⟩:=ZU.mp h;have:=xS8 ok nd _ (q+2) (p+2) (Zd _) (by have:=c.lt q a;exact qY this) (qY b) d;have:q=p:=by lia
  rw[<- this];exact a
 ·exact λh=>ZU.mpr ⟨p,h,rfl⟩
theorem R1{rows:List Row}(ok:dv rows)(nd:rows.Nodup):∀(d:Nat)(e:List Nat)(x:Nat),ip rows e->x<rows.length+2->dp rows x<=d->(dU rows d e x).map (lX rows)=post (T rows x) (e.map (lX rows)):=by
 intro d
 induction d with
 |zero=>
  intro e x i m n;have h:=Cq ok m n
  match x,h with
  |0,_=>rw[lZ];rfl
  |1,_=>rw[iZ];rfl
 |succ d k=>
  intro e x i m n;by_cases h:x<2
  ·have:dU rows (d+1) e x=e:=by
    show(if x<2\/x-2∈e then e else _)=e;rw[Zk (.inl h)]
   rw[this]
   match x,h with
   |0,_=>rw[lZ];rfl
   |1,_=>rw[iZ];rfl
  ·obtain⟨p,a,b,c,f,rfl,g⟩:=u6 ok m h;have F:=(cz g).1;have u:=xB0 ok nd i F;have G:rows.getD p []=[a,b,c,f]:=by rw[ZD,g];rfl
   have r:lX rows p=.nd (T rows a) (T rows b) (T rows c) (T rows f):=jm ok g;rw[jm ok g];show(if p+2<2\/p+2-2∈e then e else(rows.getD (p+2-2) []).foldl (dU rows d) e++[p+2-2]).map (lX rows)=(if _∈e.map (lX rows)then _ else _);rw[show p+2-2=p from Jc,<- r,G];by_cases j:p∈e
   ·rw[Zk (.inr j),Zk (u.mpr j)]
   ·rw[Zi (by rintro(z|z);lia;exact j z),Zi (λz=>j (u.mp z))];have q:=λy (H:y∈[a,b,c,f])=>Ap ok g n H;obtain⟨B,C⟩:=q a (by simp);obtain⟨t,v⟩:=q b (by simp);obtain⟨w,D⟩:=q c (by simp);obtain⟨qf,l⟩:=q f (by simp);have s:=(yj ok d e a i B C).1;have A:=(yj ok d _ b s t v).1;have E:=(yj ok d _ c A w D).1;show(dU rows d (dU rows d (dU rows d (dU rows d e a) b) c) f++[p]).map (lX rows)=_;rw[ZL,k _ f E qf l,k _ c A w D,k _ b s t v,k _ a i B C,r];show _++[lX rows p]=_;rw[r]
theorem Tp{n top:Nat}{rows:List Row}(c:Canon n top rows):rows=rowsOf (post (T rows top) [])/\top=name (post (T rows top) []) (T rows top):=by
 have h:=R1 c.n5 c.unlike n [] top (FV rows) c.o_ c.deep;rw[c.ends]at h;have v:Ord (post (T rows top) [])/\In (post (T rows top) []) (T rows top):=bK _ _ c6;have k:post (T rows top) []=(List.range rows.length).map (lX rows):=h.symm;obtain⟨l,s⟩:=v;generalize post (T rows top) []=L at l s k;have m:∀p,p<rows.length->L[p]?=some (lX rows p):=λp d=>by
  rw[k,Zh,WS d];rfl
 have u:L.length=rows.length:=by rw[k];simp
 have g:∀q,q<rows.length+2->name L (T rows q)=q:=λq t=>by
  by_cases j:q<2
  ·match q,j with
   |0,_=>rw[lZ];rfl
   |1,_=>rw[iZ];rfl
  ·have:=eF l (m (q-2) (qV t j));unfold lX at this;rw[show q-2+2=q from uj j]at this;exact this
 refine⟨?_,(g top c.o_).symm⟩;refine WB λp=>?_;by_cases d:p<rows.length
 ·have i:rows[p]?=some rows[p]:=Ze d;obtain⟨a,b,e,f,r⟩:=tJ (c.n5 p _ i).1;rw[r]at i;rw[i,cH (m p d)];have x:lX rows p=.nd (T rows a) (T rows b) (T rows e) (T rows f):=jm c.n5 i;have lt:∀y∈[a,b,e,f],y<rows.length+2:=λy w=>by
   have:=(c.n5 _ _ i).2 y w;exact qW d this
  rw[x];show some [a,b,e,f]=some [name L (T rows a),name L (T rows b),name L (T rows e),name L (T rows f)];rw[g a (lt a (by simp)),g b (lt b (by simp)),g e (lt e (by simp)),g f (lt f (by simp))]
 ·rw[Xl (gS d),Xl (by rw[bc];exact yS u d)]
theorem Ab{L:List Tr}(h:Ord L):∀t:Tr,In L t->dp (rowsOf L) (name L t)=dep t
 |.z,_=>Lz (by decide:(0:Nat)<2)
 |.o,_=>Lz (by decide:(1:Nat)<2)
 |.nd a b c d,f=>by
  rcases vm h f with⟨e,_⟩|⟨e,_⟩|⟨i,e,j⟩
  ·cases e
  ·cases e
  ·have hk:=λs (g:s∈kids (.nd a b c d))=>(d_ h e g).1;rw[j,vx (Km h) (cH e)];show 1+mx [_,_,_,_]=1+mx [dep a,dep b,dep c,dep d];rw[Ab h a (hk a (by simp[kids])),Ab h b (hk b (by simp[kids])),Ab h c (hk c (by simp[kids])),Ab h d (hk d (by simp[kids]))]
theorem tG{L:List Tr}(h:Ord L):∀t:Tr,In L t->T (rowsOf L) (name L t)=t
 |.z,_=>lZ _
 |.o,_=>iZ _
 |.nd a b c d,f=>by
  rcases vm h f with⟨e,_⟩|⟨e,_⟩|⟨i,e,j⟩
  ·cases e
  ·cases e
  ·have hk:=λs (g:s∈kids (.nd a b c d))=>(d_ h e g).1;rw[j,jm (Km h) (cH e),tG h a (hk a (by simp[kids])),tG h b (hk b (by simp[kids])),tG h c (hk c (by simp[kids])),tG h d (hk d (by simp[kids]))]
def Jw(L:List Tr):Prop:=∀t∈L,Red t
theorem B4:∀(t:Tr)(e:List Tr),Red t->Jw e->Jw (post t e)
 |.z,_,_,h=>h
 |.o,_,_,h=>h
 |.nd a b c d,e,f,h=>by
  unfold post;split
  ·exact h
  ·have i:=B4 d _ f.2.2.2.2.2 (B4 c _ f.2.2.2.2.1 (B4 b _ f.2.2.2.1 (B4 a e f.2.2.1 h)));intro s g;rcases ZW.mp g with g|g
   ·exact i s g
   ·have:s=.nd a b c d:=by simpa using g
    rw[this];exact f
theorem tQ{L:List Tr}{t:Tr}(h:name L t=0):t=.z:=by
 cases t with
 |z=>rfl
 |o=>cases h
 |nd a b c d=>rw[BO]at h;lia
theorem vp{L:List Tr}{t:Tr}(h:name L t=1):t=.o:=by
 cases t with
 |z=>cases h
 |o=>rfl
 |nd a b c d=>rw[BO]at h;lia
theorem qB3{L:List Tr}(h:Ord L)(l:Jw L):∀r∈rowsOf L,¬vw r:=λr m=>by
 obtain⟨i,k,e⟩:=ZK.mp m;obtain⟨t,j,rfl⟩:=KA (i:=i) (r:=r) (by rw[Ze k,e]);obtain⟨⟨a,b,c,d,rfl⟩,_⟩:=h.ch i t j;have g:=l _ (ZH j);rintro(z|z)
 ·have f:[name L a,name L b,name L c,name L d]=[0,0,0,0]:=z;simp only[XV,UU]at f;exact g.1 ⟨tQ f.1,tQ f.2.1,tQ f.2.2.1,tQ f.2.2.2⟩
 ·have f:[name L a,name L b,name L c,name L d]=[1,1,1,1]:=z;simp only[XV,UU]at f;exact g.2.1 ⟨vp f.1,vp f.2.1,vp f.2.2.1,vp f.2.2.2⟩
theorem To{n:Nat}(x:n<=12){t:Tr}(w:Red t)(k:dep t<=n):Canon n (name (post t []) t) (rowsOf (post t [])):=by
 obtain⟨a,d⟩:=bK t [] c6;have u:=B4 t [] w (λs A=>nomatch A);have p:=tG a t d;have f:=Ab a t d;generalize y:post t []=L at a d u p f;have ok:=Km a;have r:=Rh a;have h:name L t<(rowsOf L).length+2:=by
  rw[bc];rcases vm a d with⟨_,e⟩|⟨_,e⟩|⟨i,e,g⟩
  ·lia
  ·lia
  ·have:=(cz e).1;lia
 refine⟨x,ok,h,by rw[f];exact k,qB3 a u,r,?_⟩;have q:=R1 ok r n [] (name L t) (FV _) h (by rw[f];exact k);rw[p]at q;have g:(dU (rowsOf L) n [] (name L t)).map (lX (rowsOf L))=L:=by rw[q];exact y
 have m:=(yj ok n [] (name L t) (FV _) h (by rw[f];exact k)).1;generalize dU (rowsOf L) n [] (name L t)=E at g m;have j:E.length=L.length:=by rw[<- g];simp
 refine WB λi=>?_;by_cases c:i<E.length
 ·have v:E[i]?=some E[i]:=Ze c;have b:=m.lt E[i] (XN c);rw[bc]at b;have l:L[i]?=some (lX (rowsOf L) E[i]):=by
   conv=>lhs;rw[<- g]
   rw[Zh,v];rfl
  have B:lX (rowsOf L) E[i]=L[E[i]]:=by
   have C:L[E[i]]?=some L[E[i]]:=Ze b;have:=tG a L[E[i]] (.inr (.inr (XN b)));rw[eF a C]at this;exact this
  rw[B]at l;have:E[i]=i:=by
   rcases Vs E[i] i with z|z|z
   ·exact absurd (by rw[l];exact Ze b) (fc.mp a.nd E[i] i z (oz c j))
   ·exact z
   ·exact absurd (by rw[l];exact(Ze b).symm) (fc.mp a.nd i E[i] z b)
  rw[v,this,WS (by rw[bc];exact oz c j)]
 ·rw[Xl (gS c),Xl (by rw[YK,bc];exact IY j c)]
end Qf
namespace L2
open PySem
theorem xb8{H:Hp}{n k:Nat}{g:TG}{x:TT}{te:TE}{σ:St}{Fin:Hp->Prop}{D:ae}(l:Nat->List V->Hp->Prop)(hsz:n<sizeLine)(i0:l 0 [] (upd H D (.lst [])))(C:∀i a c,l i a c->c D=some (.lst a)/\a.length<=i)
  (step:∀i a c,i<n->l i a c->∀j:St,j.length=k->∀(B:Hp->Prop)(A:VK),(∀d,l (i+1) a d->B d)->(∀v d,d D=some (.lst a)->l (i+1) (a++[v]) (upd d D (.lst (a++[v])))->A v d) ->
   g (.int (0+(i:Int))) (j++σ) c λr w=>x r w λb p=>if b=true then te r p A else B p)
  (fin:∀a c,l n a c->Fin c):
  ∃W:Nat->Nat->List V->Hp->Prop,(∃m,W 0 m [] (upd H D (.lst []))) /\
   ∀i m a c,W i m a c->c D=some (.lst a)/\a.length<sizeLine/\(((mh 0 n).stop i c/\Fin c)\/((mh 0 n).go i c/\∀y d,(mh 0 n).lV i c y d->∀j:St,j.length=k ->
    g y (j++σ) d λr w=>x r w λb p=>if b=true then te r p λv t=>t D=some (.lst a)/\∃q,q<m/\W (i+1) q (a++[v]) (upd t D (.lst (a++[v])))else ∃q,q<m/\W (i+1) q a p)):=by
 refine⟨λi m a c=>i<=n/\m=n-i/\l i a c,⟨n,Zs _,rfl,i0⟩,?_⟩;rintro i m a c ⟨e,rfl,s⟩;obtain⟨h1,u⟩:=C i a c s;refine⟨h1,yM hsz e u,?_⟩;by_cases f:i=n
 ·subst f;exact .inl ⟨Zd i,fin a c s⟩
 ·refine .inr ⟨show i<n from mO e f,λy d F j G=>?_⟩;obtain⟨I,E⟩:=F;rw[I,E];exact step i a c (mO e f) s j G _ _ (λp h=>⟨n-(i+1),q8 e f,oI e f,rfl,h⟩) λv t h1 u=>⟨h1,n-(i+1),q8 e f,oI e f,rfl,u⟩
theorem R0{H:Hp}{n:Nat}{te:TE}{σ:St}{Fin:Hp->Prop}{D:ae}(d:Nat->List V->Hp->Prop)(hsz:n<sizeLine)(i0:d 0 [] (upd H D (.lst [])))(p:∀i a b,d i a b->b D=some (.lst a)/\a.length<=i)
  (step:∀i a b,i<n->d i a b->∀j:VK,(∀v c,c D=some (.lst a)->d (i+1) (a++[v]) (upd c D (.lst (a++[v])))->j v c)->te (some (.int (0+(i:Int)))::σ) b j)
  (fin:∀a b,d n a b->Fin b):
  ∃W:Nat->Nat->List V->Hp->Prop,(∃m,W 0 m [] (upd H D (.lst []))) /\
   ∀i m a b,W i m a b->b D=some (.lst a)/\a.length<sizeLine/\(((mh 0 n).stop i b/\Fin b)\/((mh 0 n).go i b/\∀y c,(mh 0 n).lV i b y c ->
    te (some y::σ) c λv l=>l D=some (.lst a)/\∃k,k<m/\W (i+1) k (a++[v]) (upd l D (.lst (a++[v]))))):=by
 refine⟨λi m a b=>i<=n/\m=n-i/\d i a b,⟨n,Zs _,rfl,i0⟩,?_⟩;rintro i m a b ⟨e,rfl,g⟩;obtain⟨h1,h⟩:=p i a b g;refine⟨h1,yM hsz e h,?_⟩;by_cases f:i=n
 ·subst f;exact .inl ⟨Zd i,fin a b g⟩
 ·refine .inr ⟨show i<n from mO e f,λy c r=>?_⟩;obtain⟨s,q⟩:=r;rw[s,q];exact step i a b (mO e f) g _ λv t h1 h=>⟨h1,n-(i+1),q8 e f,oI e f,rfl,h⟩
end L2
namespace Pr
open PySem L2 Qf
structure zT(mg:ar->Option aa):Prop where
 abs:mg "abs"=none
 repr:mg "repr"=none
 str:mg "str"=none
theorem nz:aI ["_law_pot_here","_law_many","_law_digit_here"] ["_law_pot_here","_law_many"] (ck tH):=dz
inductive pM(vs:List V)(H:Hp)(Q:VK):Prop
 |mk(p:ae)(n:Nat)(e0:vs=[.ref p,.int (n:Nat)])(e1:aY H p)(e2:0<n)(e3:n<1000000)(e4:∀(d:Nat)(H':Hp),d<n->bu p H H'->aY H' p->Q (.int (d:Nat)) H')
def vh:Sp:=λa H Q _=>pM a H Q
theorem Ai{f:ae}{m:ak}(F:bj K "_law_digit" "_law_digit" tH f m):aE P w K mg base aW 1 f m ["_law_pot_here","_law_many"] vh:=by
 refine F.ok nz (λD H Q E h=>?_) (λO A j s H D Q E J h=>?_)
 ·obtain⟨p,n,rfl,_⟩:=h
  rfl
 ·obtain⟨p,n,rfl,⟨a,b,c,l,hb,G⟩,t,M,q⟩:=h;refine⟨_,iA (fb (gB QV (cW cC (pv 0) aV) aV (dA _))
    (iA (cR 2 nz.nd (a_ u_ (cW cC (pv 0) aV) (pv 1)))
    (iA (sE (a_ yh (cW cC (pv 0) aV) (pv 1)) (GU (pv 0) aV Lu))
    (dB (cQ (pv 2))))) fU)
   (iA (sE (a_ u_ (a_ df (a_ qe (cW cC (pv 0) aV) aV) aV) aV) (GU (pv 0) aV Lu))
   (dB (cQ (a_ u_ (a_ yh (cW cC (pv 0) aV) aV) (pv 1))))),?_⟩
  have e:∀{r:Hp}{k:List V},r p=some (.lst k)->cq K r p k:=λh=>cq.of h;have i:∀(d x y:Int),0<=d->d<(n:Int)->0<=x->0<=y->y<2^40->Q (.int d) (upd H p (.lst [.int x,.int y])):=λd x y N L v I u=>by
   have:=q d.toNat (upd H p (.lst [.int x,.int y])) 'a' bu.upd ⟨x,y,aX,v,I,u⟩
   rwa [show((d.toNat:Nat):Int)=d by lia]at this
  have g:(0:Int)<n:=by exact IW t
  refine⟨_,rfl,p,_,0,_,rfl,rfl,e c,rfl,_,_,rfl,rfl,_,rfl,?_⟩;refine c7 (λB=>?_) (λB=>?_)
  ·refine⟨_,rfl,p,_,0,_,rfl,rfl,e c,rfl,_,rfl,_,_,rfl,rfl,g,?_⟩;refine⟨_,rfl,p,_,0,_,rfl,rfl,e c,rfl,_,rfl,_,_,rfl,rfl,⟨g,by lia⟩,_,rfl,p,_,0,0,rfl,rfl,c,rfl,?_⟩;refine⟨_,rfl,?_⟩;exact i _ _ _ (UQ _ 'a') (W8 _ g) (Int.ediv_nonneg l nO) hb G
  ·refine⟨_,rfl,p,_,1,_,rfl,rfl,e c,rfl,_,_,rfl,rfl,.inl ⟨by lia,by lia⟩,_,_,rfl,rfl,_,_,rfl,rfl,(by show(0:Int)<2147483629;decide),_,rfl,p,_,1,1,rfl,rfl,c,rfl,?_⟩;have C:0<=(b*48271+8191)%2147483629/\(b*48271+8191)%2147483629<2147483629:=⟨UQ _ 'b',W8 _ 'b'⟩;refine⟨_,rfl,p,_,1,_,rfl,rfl,e aX,rfl,_,_,rfl,rfl,⟨by decide,by decide⟩,_,rfl,_,_,rfl,rfl,g,?_⟩;exact i _ _ _ (UQ _ 'a') (W8 _ g) l C.1 'a'
theorem pT:aI ["_law_script","_law_k","_law_cell"] ["_law_script","_law_k"] (ck uq):=dz
inductive xH(K:PySem.W.Frag)(vs:List V)(H:Hp)(Q:VK):Prop
 |mk(a:ae)(k:Int)(ns:List Int)(e0:vs=[.ref a,.int k])(e1:cq K H a (ns.map V.int))(e2:ns.length<=63)(e3:0<=k)(e4:k<=1000)(e5:∀(H':Hp)(p:ae),aG H H'->H p=none->aY H' p->Q (.ref p) H')
def QK(K:PySem.W.Frag):Sp:=λa H Q _=>xH K a H Q
theorem xL3{f:ae}{l:ak}(F:bj K "_law_pot" "_law_pot" uq f l)(B:eR mg)(C:zT mg):aE P w K mg base aW 1 f l ["_law_script","_law_k"] (QK K):=by
 refine F.ok pT (λm H Q E h=>?_) (λx A e s H m Q E r h=>?_)
 ·obtain⟨a,k,c,rfl,_⟩:=h
  rfl
 ·obtain⟨a,k,c,rfl,g,u,t,h1,q⟩:=h;refine aZ ⟨_,⟨cR 2 pT.nd aV⟩,?_⟩;refine aZ ⟨_,⟨fb (gB nE (pv 1) (dH tR (by rfl) B.len Yq (aF (pv 0) aQ)) (dA _)) (dB (cR 2 pT.nd (cW cC (pv 0) (pv 1)))) fU⟩,?_⟩;refine fZ ⟨_,⟨cQ (n_ (bJ.go (.cons ⟨dH (Tg rfl) (by rfl) B.max VA (aF aV (aF (a_ gA (dH Sh (by rfl) C.abs PyProof.Rows.boot_abs (aF (pv 2) aQ)) (a_ xI0 aV aV)) aQ))⟩
    (.cons ⟨a_ df (a_ df (a_ u_ (dH Sh (by rfl) C.abs PyProof.Rows.boot_abs (aF (pv 2) aQ)) aV) (a_ qe aV (pv 1))) aV⟩ .nil rfl) rfl)))⟩,?_⟩
  have d:∀(z:Int)(p:ae),H p=none->Q (.ref p) (upd H p (.lst [.int (if(if z<0 then -z else z)-10^18>0 then(if z<0 then -z else z)-10^18 else 0),.int ((if z<0 then -z else z)%2147483629+97*k+1)])):=λz p b=>by
   refine q _ p (bw b) b ⟨_,_,aX,?_,?_,?_⟩
   ·split<;>lia
   ·lia
   ·lia
  refine⟨_,rfl,_,rfl,a,_,rfl,.inl g,_,_,rfl,rfl,_,rfl,?_⟩;refine c7 (λi=>?_) (λi=>?_)
  ·have hk:k<(c.length:Int):=by
    have:=ZJ i;simpa using this
   have n:k.toNat<c.length:=by lia
   refine⟨_,rfl,_,rfl,a,_,k,.int (c[k.toNat]),rfl,rfl,g,?_,?_⟩
   ·have:=oY (xs:=c.map V.int) (j:=k.toNat) (v:=.int (c[k.toNat])) (by simp[n]);rw[show((k.toNat:Nat):Int)=k by lia]at this;exact this
   ·refine⟨_,rfl,_,rfl,_,_,rfl,rfl,⟨by decide,by decide,by decide⟩,_,_,rfl,rfl,_,_,rfl,?_⟩;exact⟨_,rfl,_,rfl,_,_,rfl,rfl,(by show(0:Int)<2147483629;decide),_,rfl,_,_,rfl,rfl,.inl ⟨by decide,by decide⟩,_,_,rfl,rfl,_,_,rfl,rfl,(by show 2<=sizeLine;decide),λp b=>d _ p b⟩
  ·refine⟨_,rfl,_,rfl,_,_,rfl,rfl,⟨by decide,by decide,by decide⟩,_,_,rfl,rfl,_,_,rfl,?_⟩;exact⟨_,rfl,_,rfl,_,_,rfl,rfl,(by show(0:Int)<2147483629;decide),_,rfl,_,_,rfl,rfl,.inl ⟨by decide,by decide⟩,_,_,rfl,rfl,_,_,rfl,rfl,(by show 2<=sizeLine;decide),λp b=>d _ p b⟩
end Pr
namespace Qf
open Tr
theorem BM{L:List Tr}{t:Tr}(h:In L t):post t L=L:=by
 cases t with
 |z=>rfl
 |o=>rfl
 |nd a b c d=>
  have e:Tr.nd a b c d∈L:=by rcases h with h|h|h;cases h;cases h;exact h
  unfold post;rw[Zk e]
theorem Tn{L:List Tr}(h:Ord L){t:Tr}(hk:∀s∈kids t,In L s):rowsOf (L++[t])=rowsOf L++[(kids t).map (name L)]:=by
 unfold rowsOf;rw[ZL];congr 1
 ·refine YI λu c=>?_;obtain⟨i,b,e⟩:=ZK.mp c;exact YI λs a=>dY (d_ h (i:=i) (t:=u) (by rw[Ze b,e]) a).1 h
 ·show[(kids t).map (name (L++[t]))]=_;congr 1;exact YI λs a=>dY (hk s a) h
theorem Ql{L:List Tr}(h:Ord L){a b c d:Tr}(hk:∀s∈kids (.nd a b c d),In L s):(kids (.nd a b c d)).map (name L)∈rowsOf L<->Tr.nd a b c d∈L:=by
 constructor
 ·intro g;obtain⟨i,f,e⟩:=ZK.mp g;obtain⟨t,j,k⟩:=KA (i:=i) (r:=(kids (.nd a b c d)).map (name L)) (by rw[Ze f,e]);have:=R3 ⟨a,b,c,d,rfl⟩ (h.ch i t j).1 (KO h hk (λs l=>(d_ h j l).1) k);rw[this];exact ZH j
 ·intro g;obtain⟨i,f,e⟩:=ZK.mp g;exact ZH (cH (i:=i) (t:=.nd a b c d) (by rw[Ze f,e]))
theorem xB1{L:List Tr}(h:Ord L){i:Nat}{t:Tr}(e:L[i]?=some t):(rowsOf L).idxOf ((kids t).map (name L))=i:=by
 have b:=(cz e).1;have d:=cH e;have a:i<(rowsOf L).length:=by rw[bc];exact b
 have c:=(cz d).2;rw[<- c];exact(Rh h).idxOf_getElem i a
end Qf
namespace Pr
open PySem L2 Qf
theorem Jv{H:Hp}{e u:ae}{L:List Tr}(j:Tr.Ord L){a b c d:Tr}(p:Tr.nd a b c d∈L)(m:H e=some (.dT (tK (Tr.rowsOf L))))(q:H u=some (.tup (vN [Tr.name L a,Tr.name L b,Tr.name L c,Tr.name L d]))):
  dn H e (.ref u) (some (.int (Tr.name L (.nd a b c d):Nat))):=by
 obtain⟨i,l,n⟩:=ZK.mp p;have h:L[i]?=some (.nd a b c d):=by rw[Ze l,n]
 have g:=xB1 j h;have f:(Tr.kids (.nd a b c d)).map (Tr.name L)∈Tr.rowsOf L:=ZH (Tr.cH h);have:=dn.t (k:=dQ ((Tr.kids (.nd a b c d)).map (Tr.name L))) m (by rw[p_];exact q);rw[Gw,Zk f,g]at this;rw[Tr.eF j h];exact this
end Pr
namespace Qf
open Tr
theorem Qk{rows:List Row}(ok:dv rows){q:Nat}(b:q<rows.length+2):(T rows q=z<->q=0)/\(T rows q=o<->q=1):=by
 by_cases a:q<2
 ·match q,a with
  |0,_=>rw[lZ];exact⟨⟨λ_=>rfl,λ_=>rfl⟩,⟨λh=>(nomatch h),λh=>(nomatch h)⟩⟩
  |1,_=>rw[iZ];exact⟨⟨λh=>(nomatch h),λh=>(nomatch h)⟩,⟨λ_=>rfl,λ_=>rfl⟩⟩
 ·obtain⟨d,e,g,i,f,rfl,c⟩:=u6 ok b a;rw[jm ok c];exact⟨⟨λh=>(nomatch h),λh=>by lia⟩,⟨λh=>(nomatch h),λh=>by lia⟩⟩
theorem xc2{n top:Nat}{rows:List Row}(c:Canon n top rows):dep (T rows top)<=n:=by
 obtain⟨b,e⟩:=Tp c;obtain⟨a,d⟩:=bK (T rows top) [] c6;have h:=Ab a _ d;rw[<- b,<- e]at h;rw[<- h];exact c.deep
theorem Qj{a b c d:Tr}{s:Nat}(h:dep (.nd a b c d)<=s+1):dep a<=s/\dep b<=s/\dep c<=s/\dep d<=s:=by
 have j:1+mx [dep a,dep b,dep c,dep d]<=s+1:=h;have e:∀x∈[dep a,dep b,dep c,dep d],x<=mx [dep a,dep b,dep c,dep d]:=λx f=>yr f;have h1:=e (dep a) (by simp);have i:=e (dep b) (by simp);have g:=e (dep c) (by simp);have k:=e (dep d) (by simp);lia
theorem Co{a b c d:Tr}{s:Nat}(h1:dep a<=s)(g:dep b<=s)(f:dep c<=s)(h:dep d<=s):dep (.nd a b c d)<=s+1:=by
 show 1+mx [dep a,dep b,dep c,dep d]<=s+1;have:mx [dep a,dep b,dep c,dep d]<=s:=ID λx e=>by
  have:x=dep a\/x=dep b\/x=dep c\/x=dep d:=by simpa using e
  rcases this with rfl|rfl|rfl|rfl<;>assumption
 lia
def qr(i:Nat):Tr->Tr
 |.nd a b c d=>[a,b,c,d].getD i .z
 |t=>t
theorem Ow{rows:List Row}(ok:dv rows){p i:Nat}{r:Row}{x:Nat}(f:rows[p]?=some r)(g:i<4)(e:r[i]?=some x):T rows x=qr i (T rows (p+2)):=by
 obtain⟨a,b,c,d,rfl⟩:=tJ (ok p r f).1;rw[jm ok f]
 match i,g with
 |0,_=>cases e;rfl
 |1,_=>cases e;rfl
 |2,_=>cases e;rfl
 |3,_=>cases e;rfl
theorem Pk{i k:Nat}(e:i<4):∀(t:Tr),dep t<=k+1->dep (qr i t)<=k
 |.z,_=>Zs _
 |.o,_=>Zs _
 |.nd a b c d,h=>by
  have f:mx [dep a,dep b,dep c,dep d]<=k:=by
   have:1+mx [dep a,dep b,dep c,dep d]<=k+1:=h;lia
  have m:∀x∈[dep a,dep b,dep c,dep d],x<=k:=λx g=>ZF (yr g) f
  match i,e with
  |0,_=>exact m (dep a) (by simp)
  |1,_=>exact m (dep b) (by simp)
  |2,_=>exact m (dep c) (by simp)
  |3,_=>exact m (dep d) (by simp)
theorem Ob:∀{t:Tr},dep t<=0->t=.z\/t=.o
 |.z,_=>.inl rfl
 |.o,_=>.inr rfl
 |.nd a b c d,h=>by
  have:1+mx [dep a,dep b,dep c,dep d]<=0:=h;lia
end Qf
namespace Qf
def yp(n:Nat)(b:Row):Prop:=∃r c h w,b=[r,c,h,w]/\1<=h/\1<=w/\r+h<=2^n/\c+w<=2^n
def JM(b:Row):Prop:=∃r c h w,b=[r,c,h,w]/\((h<=9/\w<=9)\/∃s i j,h=2^s/\w=2^s/\r=i*2^s/\c=j*2^s)
def E6(n:Nat)(bs:List Row):Prop:=(∀b∈bs,yp n b)/\((n<4/\bs.length<=64)\/(bs.length<=5/\∀b∈bs,JM b))
theorem vg(k:Nat):(1:Int)*2^((k:Int)).toNat=((2^k:Nat):Int):=by
 rw[ZG,Int.one_mul];push_cast;rfl
theorem Ah{n:Nat}(h:n<=12):2^n<=4096/\0<2^n:=⟨by
 have:=X3 (n:=2) 'b' h;simpa using this,WI 'b'⟩
end Qf
namespace Pr
open PySem L2 Qf
theorem fo:aI ["_law_pot_here","_law_n","_law_most","_law_side","_law_size","_law_row","_law_column","_law_high","_law_wide"] ["_law_pot_here","_law_n","_law_most"] (ck ur):=dz
inductive xP(vs:List V)(H:Hp)(Q:VK):Prop
 |mk(p:ae)(n:Nat)(e0:vs=[.ref p,.int (n:Nat),.int 9])(e1:aY H p)(e2:n<=12)(e3:∀(H':Hp)(t:ae)(b:Row),bu p H H'->aY H' p->H' t=some (.tup (vN b))->yp n b->JM b->Q (.ref t) H')
def JL:Sp:=λa H Q _=>xP a H Q
theorem xL4{f N:ae}{fd S:ak}(F:bj K "_law_box" "_law_box" ur f fd)(B:eR mg)(g:mg "_law_digit"=some (.ref N))(b:bj K "_law_digit" "_law_digit" tH N S)(e:Binds K S ["_law_pot_here","_law_many"] []):
  aE P w K mg base aW 2 f fd ["_law_pot_here","_law_n","_law_most"] JL:=by
 have l:aE P w K mg base aW 1 N S ["_law_pot_here","_law_many"] vh:=Ai b;refine F.ok fo (λvs H Q E h=>?_) (λcA A L s H vs Q E a h=>?_)
 ·obtain⟨p,n,rfl,_⟩:=h
  rfl
 ·obtain⟨p,n,rfl,hp,m,q⟩:=h;refine aZ ⟨_,⟨cR 3 fo.nd (a_ nF aV (pv 1))⟩,?_⟩;refine aZ ⟨_,⟨fb (gB p7 (cF l a g b.kp e (aF (pv 0) (aF aV aQ))) aV (dA _))
   (gZ.go (.cons ⟨cR 4 fo.nd (cF l a g b.kp e (aF (pv 0) (aF (a_ df (pv 1) aV) aQ)))⟩
    (.cons ⟨cR 5 fo.nd (a_ qe (cF l a g b.kp e (aF (pv 0) (aF (a_ nF aV (a_ gA (pv 1) (pv 4))) aQ))) (a_ nF aV (pv 4)))⟩
    (.cons ⟨cR 6 fo.nd (a_ qe (cF l a g b.kp e (aF (pv 0) (aF (a_ nF aV (a_ gA (pv 1) (pv 4))) aQ))) (a_ nF aV (pv 4)))⟩
    (.one ⟨cQ (eM (bJ.go (.cons ⟨pv 5⟩ (.cons ⟨pv 6⟩ (.cons ⟨a_ nF aV (pv 4)⟩ (.cons ⟨a_ nF aV (pv 4)⟩ .nil rfl) rfl) rfl) rfl)))⟩))))) fU⟩,?_⟩
  refine aZ ⟨_,⟨cR 5 fo.nd (cF l a g b.kp e (aF (pv 0) (aF (pv 3) aQ)))⟩,?_⟩;refine aZ ⟨_,⟨cR 6 fo.nd (cF l a g b.kp e (aF (pv 0) (aF (pv 3) aQ)))⟩,?_⟩;refine aZ ⟨_,⟨cR 7 fo.nd (a_ df aV (cF l a g b.kp e (aF (pv 0) (aF (dH (Kw rfl) (by rfl) B.min Wu (aF (pv 2) (aF (a_ gA (pv 3) (pv 5)) aQ))) aQ))))⟩,?_⟩;refine aZ ⟨_,⟨cR 8 fo.nd (a_ df aV (cF l a g b.kp e (aF (pv 0) (aF (dH (Kw rfl) (by rfl) B.min Wu (aF (pv 2) (aF (a_ gA (pv 3) (pv 6)) aQ))) aQ))))⟩,?_⟩;refine fZ ⟨_,⟨cQ (eM (bJ.go (.cons ⟨pv 5⟩ (.cons ⟨pv 6⟩ (.cons ⟨pv 7⟩ (.cons ⟨pv 8⟩ .nil rfl) rfl) rfl) rfl)))⟩,?_⟩;obtain⟨U,p2⟩:=Ah m;refine⟨_,rfl,_,_,rfl,rfl,⟨nO,by lia,by decide⟩,?_⟩;refine⟨_,rfl,p,2,rfl,hp,by decide,by decide,λd H1 hd X kB=>⟨rfl,_,rfl,?_⟩⟩;refine c7 (λhc=>?_) (λhc=>?_)
  ·refine⟨_,rfl,_,rfl,_,_,rfl,rfl,p,n+1,rfl,kB,ug,by lia,λz H2 u O M=>?_⟩;have T:z<=n:=by exact t_ u
   obtain⟨s1,Z⟩:=Ah (ZF T m);obtain⟨Y,m2⟩:=Ah (ZF (Nat.sub_le n z) m);have em:(1:Int)*2^((n:Int)-(z:Int)).toNat=((2^(n-z):Nat):Int):=by
    rw[<- vg (n-z)];congr 3;lia
   have ez:=vg z;have mS:2^(n-z)*2^z=2^n:=by rw[<- YX];congr 1;lia
   refine⟨_,rfl,_,rfl,_,rfl,_,_,rfl,rfl,_,_,rfl,rfl,⟨by lia,by lia,by decide⟩,p,2^(n-z),ZZ (λx=>[V.ref p,V.int x]) em,M,m2,oH Y,λi H3 D G C=>?_⟩;refine⟨_,rfl,_,_,rfl,rfl,⟨nO,Fe u m,by decide⟩,_,_,rfl,rfl,.inl ⟨by lia,by lia⟩,?_⟩;refine⟨_,rfl,_,rfl,_,rfl,_,_,rfl,rfl,_,_,rfl,rfl,⟨by lia,by lia,by decide⟩,p,2^(n-z),ZZ (λx=>[V.ref p,V.int x]) em,C,m2,oH Y,λj H4 hj I J=>?_⟩;refine⟨_,rfl,_,_,rfl,rfl,⟨nO,Fe u m,by decide⟩,_,_,rfl,rfl,.inl ⟨by lia,by lia⟩,?_⟩;refine⟨_,rfl,_,rfl,_,rfl,_,_,rfl,rfl,⟨nO,Fe u m,by decide⟩,_,rfl,_,_,rfl,rfl,⟨nO,Fe u m,by decide⟩,(by show 4<=sizeLine;decide),λt y=>?_⟩;have v:∀i,i<2^(n-z)->i*2^z+2^z<=2^n:=λi D=>by
    rw[<- mS,<- Y5];exact Xa _ D
   refine q _ t [i*2^z,j*2^z,2^z,2^z] ((((X.trans O).trans G).trans I).trans (bu.of (bw y))) (J.same (bw y)) ?_ ⟨_,_,_,_,rfl,Z,Z,v i D,v j hj⟩ ⟨_,_,_,_,rfl,.inr ⟨z,i,j,rfl,rfl,rfl,rfl⟩⟩;rw[aX];show some (HO.tup [V.int ((i:Int)*(1*2^((z:Int)).toNat)),V.int ((j:Int)*(1*2^((z:Int)).toNat)),V.int (1*2^((z:Int)).toNat),V.int (1*2^((z:Int)).toNat)])=some (HO.tup [V.int ((i*2^z:Nat):Int),V.int ((j*2^z:Nat):Int),V.int ((2^z:Nat):Int),V.int ((2^z:Nat):Int)]);rw[ez];push_cast
   rfl
  ·have W:=vg n;have wu:[V.ref p,V.int ((1:Int)*2^((n:Int)).toNat)]=[V.ref p,V.int ((2^n:Nat):Int)]:=by rw[W]
   refine⟨_,rfl,_,rfl,p,2^n,wu,kB,p2,oH U,λr H2 k8 O M=>?_⟩;refine⟨_,rfl,_,rfl,p,2^n,wu,M,p2,oH U,λc H3 R G C=>?_⟩;have k:∀r:Nat,r<2^n->[V.ref p,V.int (if(1:Int)*2^((n:Int)).toNat-(r:Int)<9 then(1:Int)*2^((n:Int)).toNat-(r:Int)else 9)]=[V.ref p,V.int ((min 9 (2^n-r):Nat):Int)]:=λr a=>by
    rw[W];congr 3;split<;>lia
   refine⟨_,rfl,_,rfl,_,rfl,_,rfl,_,_,rfl,rfl,_,_,rfl,p,min 9 (2^n-r),k r k8,C,by lia,by lia,λh H4 hh I J=>?_⟩;refine⟨_,_,rfl,rfl,?_⟩;refine⟨_,rfl,_,rfl,_,rfl,_,rfl,_,_,rfl,rfl,_,_,rfl,p,min 9 (2^n-c),k c R,J,by lia,by lia,λw' H5 hw b5 kU=>?_⟩;refine⟨_,_,rfl,rfl,?_⟩;refine⟨_,rfl,_,rfl,_,rfl,_,rfl,(by show 4<=sizeLine;decide),λt y=>?_⟩;refine q _ t [r,c,1+h,1+w'] (((((X.trans O).trans G).trans I).trans b5).trans (bu.of (bw y))) (kU.same (bw y)) ?_ ⟨_,_,_,_,rfl,gT,gT,by lia,by lia⟩ ⟨_,_,_,_,rfl,.inl ⟨by lia,by lia⟩⟩;rw[aX]
   rfl
end Pr
namespace Qf
open Tr
def n9(r c s:Nat)(b:Row):Bool:=decide (b.getD 0 0<r+s/\r<b.getD 0 0+b.getD 2 0/\c<b.getD 1 0+b.getD 3 0/\b.getD 1 0<c+s)
def hasB(r c s:Nat)(b:Row):Bool:=decide (b.getD 0 0<=r/\r+s<=b.getD 0 0+b.getD 2 0/\b.getD 1 0<=c/\c+s<=b.getD 1 0+b.getD 3 0)
def mk(a b c d:Tr):Tr:=if a=z/\b=z/\c=z/\d=z then z else if a=o/\b=o/\c=o/\d=o then o else .nd a b c d
def met(a:List Row)(r c s:Nat):List Row:=a.filter (n9 r c s)
def bt:Nat->List Row->Nat->Nat->Tr
 |0,a,r,c=>if met a r c 1=[]then z else if(met a r c 1).any (hasB r c 1)then o else z
 |k+1,a,r,c=>if met a r c (2^(k+1))=[]then z else if(met a r c (2^(k+1))).any (hasB r c (2^(k+1)))then o else
   mk (bt k (met a r c (2^(k+1))) r c) (bt k (met a r c (2^(k+1))) r (c+2^k)) (bt k (met a r c (2^(k+1))) (r+2^k) c) (bt k (met a r c (2^(k+1))) (r+2^k) (c+2^k))
theorem Pj{a b c d:Tr}(e:Red a)(hb:Red b)(hc:Red c)(f:Red d):Red (mk a b c d):=by
 unfold mk;split
 ·trivial
 ·split
  ·trivial
  ·exact⟨by assumption,by assumption,e,hb,hc,f⟩
theorem Au:∀(k:Nat)(a:List Row)(r c:Nat),Red (bt k a r c)
 |0,a,r,c=>by
  unfold bt;split
  ·trivial
  ·split<;>trivial
 |k+1,a,r,c=>by
  unfold bt;split
  ·trivial
  ·split
   ·trivial
   ·exact Pj (Au k _ _ _) (Au k _ _ _) (Au k _ _ _) (Au k _ _ _)
theorem Ph{a b c d:Tr}{k:Nat}(f:dep a<=k)(hb:dep b<=k)(hc:dep c<=k)(g:dep d<=k):dep (mk a b c d)<=k+1:=by
 unfold mk;split
 ·show 0<=_;exact qU
 ·split
  ·show 0<=_;exact qU
  ·show 1+mx [dep a,dep b,dep c,dep d]<=k+1;have:=ID (l:=[dep a,dep b,dep c,dep d]) (b:=k) (by
    intro x e;have:x=dep a\/x=dep b\/x=dep c\/x=dep d:=by simpa using e
    rcases this with rfl|rfl|rfl|rfl<;>assumption)
   lia
theorem x5:∀(k:Nat)(a:List Row)(r c:Nat),dep (bt k a r c)<=k
 |0,a,r,c=>by
  unfold bt;split
  ·exact Zd 0
  ·split<;>exact Zd 0
 |k+1,a,r,c=>by
  unfold bt;split
  ·exact Zs _
  ·split
   ·exact Zs _
   ·exact Ph (x5 k _ _ _) (x5 k _ _ _) (x5 k _ _ _) (x5 k _ _ _)
def kf:Tr->Nat
 |.nd a b c d=>1+kf a+kf b+kf c+kf d
 |_=>0
theorem yg:∀(t:Tr)(e:List Tr),(post t e).length<=e.length+kf t
 |.z,e=>Zd _
 |.o,e=>Zd _
 |.nd a b c d,e=>by
  unfold post;split
  ·exact YF _ _
  ·have h1:=yg a e;have g:=yg b (post a e);have f:=yg c (post b (post a e));have h:=yg d (post c (post b (post a e)));rw[Zw];show _+1<=e.length+(1+kf a+kf b+kf c+kf d);lia
theorem Pg(a b c d:Tr):kf (mk a b c d)<=1+kf a+kf b+kf c+kf d:=by
 unfold mk;split
 ·exact Zs _
 ·split
  ·exact Zs _
  ·exact Zd _
def cnt(b:Row):Nat->Nat->Nat->Nat
 |0,_,_=>0
 |k+1,r,c=>if n9 r c (2^(k+1)) b=true/\hasB r c (2^(k+1)) b=false then 1+cnt b k r c+cnt b k r (c+2^k)+cnt b k (r+2^k) c+cnt b k (r+2^k) (c+2^k)else 0
def gn(a:List Row)(k r c:Nat):Nat:=(a.map λb=>cnt b k r c).sum
theorem qR8{p:Row->Bool}(a:List Row)(k r c:Nat):gn (a.filter p) k r c<=gn a k r c:=by
 induction a with
 |nil=>exact Zd _
 |cons b bs d=>
  unfold gn at d ⊢;rw[Y9];split
  ·simp only[ZB,Wt];exact i9 d
  ·simp only[ZB,Wt];lia
theorem q22{a:List Row}{k r c:Nat}(d:∀b∈a,n9 r c (2^(k+1)) b=true/\hasB r c (2^(k+1)) b=false):
  gn a (k+1) r c=a.length+gn a k r c+gn a k r (c+2^k)+gn a k (r+2^k) c+gn a k (r+2^k) (c+2^k):=by
 induction a with
 |nil=>rfl
 |cons b bs f=>
  have h1:=f λx g=>d x (Zp _ g);have e:cnt b (k+1) r c=1+cnt b k r c+cnt b k r (c+2^k)+cnt b k (r+2^k) c+cnt b k (r+2^k) (c+2^k):=by
   show(if _ then _ else _)=_;rw[Zk (d b Zz)]
  unfold gn at h1 ⊢;simp only[ZB,Wt,ZM,e,h1];lia
theorem Cn:∀(k:Nat)(a:List Row)(r c:Nat),kf (bt k a r c)<=gn a k r c
 |0,a,r,c=>by
  unfold bt;split
  ·exact Zs _
  ·split<;>exact Zs _
 |k+1,a,r,c=>by
  unfold bt;split
  ·exact Zs _
  ·rename_i d;split
   ·exact Zs _
   ·rename_i e;refine ZF (Pg _ _ _ _) ?_;have h1:=Cn k (met a r c (2^(k+1))) r c;have i:=Cn k (met a r c (2^(k+1))) r (c+2^k);have h:=Cn k (met a r c (2^(k+1))) (r+2^k) c;have l:=Cn k (met a r c (2^(k+1))) (r+2^k) (c+2^k);have g:gn (met a r c (2^(k+1))) (k+1) r c<=gn a (k+1) r c:=qR8 _ _ _ _;have f:∀b∈met a r c (2^(k+1)),n9 r c (2^(k+1)) b=true/\hasB r c (2^(k+1)) b=false:=λb hb=>by
     refine⟨(Y2.mp hb).2,?_⟩;cases hh:hasB r c (2^(k+1)) b with
     |false=>rfl
     |true=>exact absurd (Ym.mpr ⟨b,hb,hh⟩) e
    rw[q22 f]at g;have j:0<(met a r c (2^(k+1))).length:=VZ.mpr d;lia
def sz:Nat->Nat
 |0=>0
 |k+1=>4*sz k+1
theorem yo:∀(k:Nat)(a:List Row)(r c:Nat),kf (bt k a r c)<=sz k
 |0,a,r,c=>by
  unfold bt;split
  ·exact Zs _
  ·split<;>exact Zs _
 |k+1,a,r,c=>by
  unfold bt;split
  ·exact Zs _
  ·split
   ·exact Zs _
   ·refine ZF (Pg _ _ _ _) ?_;have h1:=yo k (met a r c (2^(k+1))) r c;have d:=yo k (met a r c (2^(k+1))) r (c+2^k);have b:=yo k (met a r c (2^(k+1))) (r+2^k) c;have e:=yo k (met a r c (2^(k+1))) (r+2^k) (c+2^k);show _<=4*sz k+1;lia
def fk(a h j:Nat):Nat->Nat->Nat
 |0,x=>0
 |k+1,x=>if j=k+1 then(if a<x+2^(k+1)/\x<a+h then 1 else 0)else fk a h j k x+fk a h j k (x+2^k)
def nv(a h c w:Nat):Nat->Nat->Nat->Nat->Nat
 |0,_,_,_=>0
 |j+1,k,x,y=>nv a h c w j k x y+fk a h (j+1) k x*fk c w (j+1) k y
theorem SJ(a h c w:Nat):∀(j k x y:Nat),j<=k->nv a h c w j (k+1) x y=nv a h c w j k x y+nv a h c w j k x (y+2^k)+nv a h c w j k (x+2^k) y+nv a h c w j k (x+2^k) (y+2^k)
 |0,k,x,y,_=>rfl
 |j+1,k,x,y,d=>by
  have e:=SJ a h c w j k x y (h_ d);have b:∀a h x,fk a h (j+1) (k+1) x=fk a h (j+1) k x+fk a h (j+1) k (x+2^k):=λa h x=>by
   show(if j+1=k+1 then _ else _)=_;rw[Zi 'a']
  show nv a h c w j (k+1) x y+fk a h (j+1) (k+1) x*fk c w (j+1) (k+1) y=_;rw[e,b,b];show _=(nv a h c w j k x y+fk a h (j+1) k x*fk c w (j+1) k y)+(nv a h c w j k x (y+2^k)+fk a h (j+1) k x*fk c w (j+1) k (y+2^k))+(nv a h c w j k (x+2^k) y+fk a h (j+1) k (x+2^k)*fk c w (j+1) k y)+(nv a h c w j k (x+2^k) (y+2^k)+fk a h (j+1) k (x+2^k)*fk c w (j+1) k (y+2^k));generalize fk a h (j+1) k x=p,fk a h (j+1) k (x+2^k)=p',fk c w (j+1) k y=q,fk c w (j+1) k (y+2^k)=f;rw[VL,WD,WD];lia
theorem BL(a c h w:Nat):∀(k x y:Nat),cnt [a,c,h,w] k x y<=nv a h c w k k x y
 |0,x,y=>Zd _
 |k+1,x,y=>by
  show(if n9 x y (2^(k+1)) [a,c,h,w]=true/\_ then _ else _)<=nv a h c w k (k+1) x y+fk a h (k+1) (k+1) x*fk c w (k+1) (k+1) y;split
  ·rename_i d;have m:a<x+2^(k+1)/\x<a+h/\y<c+w/\c<y+2^(k+1):=ZJ d.1;have b:fk a h (k+1) (k+1) x=1:=by
    show(if k+1=k+1 then(if _ then 1 else 0)else _)=1;rw[Zk rfl,Zk ⟨m.1,m.2.1⟩]
   have e:fk c w (k+1) (k+1) y=1:=by
    show(if k+1=k+1 then(if _ then 1 else 0)else _)=1;rw[Zk rfl,Zk ⟨m.2.2.2,m.2.2.1⟩]
   rw[SJ a h c w k k x y (Zd _),b,e];have h1:=BL a c h w k x y;have g:=BL a c h w k x (y+2^k);have f:=BL a c h w k (x+2^k) y;have i:=BL a c h w k (x+2^k) (y+2^k);lia
  ·exact Zs _
theorem mm{f d u p t A:Nat}(h1:f<=min (u+p) t-max u A)(c:d<=min (u+p+p) t-max (u+p) A):f+d<=min (u+(p+p)) t-max u A:=by
 rw[<- W0];by_cases a:t<=u+p
 ·rw[Nat.min_eq_right a]at h1;rw[Nat.min_eq_right (ZF a (YF _ _))]at c ⊢;have:=Nat.le_max_left (u+p) A;lia
 ·rw[Nat.min_eq_left (Nat.le_of_not_le a)]at h1;by_cases b:A<=u+p
  ·rw[Nat.max_eq_left b]at c;lia
  ·have e:=Nat.le_of_not_le b;rw[Nat.max_eq_right e]at c;rw[Nat.max_eq_right (ZF (YF _ _) e)]at h1 ⊢;lia
theorem Li(a h j:Nat)(d:1<=h):∀(i u:Nat),fk a h (j+1) (j+1+i) (u*2^(j+1))<=min (u+2^i) ((a+h-1)/2^(j+1)+1)-max u (a/2^(j+1))
 |0,u=>by
  have c:0<2^(j+1):=WI 'b';show(if j+1=j+1 then(if _ then 1 else 0)else _)<=_;rw[Zk rfl];split
  ·rename_i m;have h1:a/2^(j+1)<=u:=by
    have:a/2^(j+1)<u+1:=(YY c).mpr (by rw[Y5];exact m.1);exact t_ this
   have b:u<=(a+h-1)/2^(j+1):=(Nat.le_div_iff_mul_le c).mpr 'a';rw[Nat.pow_zero];lia
  ·exact Zs _
 |i+1,u=>by
  have e:fk a h (j+1) (j+1+(i+1)) (u*2^(j+1))=fk a h (j+1) (j+1+i) (u*2^(j+1))+fk a h (j+1) (j+1+i) (u*2^(j+1)+2^(j+1+i)):=by
   show(if j+1=j+1+i+1 then _ else _)=_;rw[Zi 'a']
   rfl
  have g:u*2^(j+1)+2^(j+1+i)=(u+2^i)*2^(j+1):=by rw[VL,YX 2 (j+1) i,Z7 (2^i)]
  have h1:=Li a h j d i u;have b:=Li a h j d i (u+2^i);have f:2^(i+1)=2^i+2^i:=by rw[YJ];lia
  rw[e,g,f];exact mm h1 b
def lim:Nat->Nat
 |1=>6
 |2=>4
 |3=>3
 |_=>2
theorem Qi{a h k j:Nat}(e:1<=h)(l:h<=9)(d:j+1<=k):fk a h (j+1) k 0<=lim (j+1):=by
 obtain⟨i,rfl⟩:∃i,k=j+1+i:=⟨k-(j+1),qO d⟩;have h1:=Li a h j e i 0;rw[UL]at h1;have c:0<2^(j+1):=WI 'b';have g:(a+h-1)/2^(j+1)<=a/2^(j+1)+8/2^(j+1)+1:=by
  have:=Nat.add_div (a:=a) (b:=8) c;have f:(a+h-1)/2^(j+1)<=(a+8)/2^(j+1):=Nat.div_le_div_right 'a';split at this<;>lia
 have m:8/2^(j+1)+2<=lim (j+1):=by
  match j with
  |0=>decide
  |1=>decide
  |2=>decide
  |j+3=>
   have:2^(j+3+1)>=16:=by
    have:=X3 (n:=2) 'b' (show 4<=j+3+1 by lia);simpa using this
   rw[Yl 'a'];exact Zd 2
 lia
def uo:Nat->Nat
 |0=>0
 |j+1=>uo j+lim (j+1)*lim (j+1)
theorem RZ{a h c w k:Nat}(h1:1<=h)(d:h<=9)(f:1<=w)(e:w<=9):∀j,j<=k->nv a h c w j k 0 0<=uo j
 |0,_=>Zd _
 |j+1,b=>Nat.add_le_add (RZ h1 d f e j (h_ b)) (WJ (Qi h1 d b) (Qi f e b))
theorem SI:∀{j k:Nat},j<=k->uo j<=uo k
 |j,0,h=>by rw[show j=0 by lia];exact Zd _
 |j,k+1,h=>by
  by_cases e:j=k+1
  ·rw[e];exact Zd _
  ·exact ZF (SI (show j<=k by lia)) (YF _ _)
theorem Cf(s i j:Nat):∀(k u v:Nat),cnt [i*2^s,j*2^s,2^s,2^s] k (u*2^k) (v*2^k)<=k
 |0,u,v=>Zd _
 |k+1,u,v=>by
  show(if n9 (u*2^(k+1)) (v*2^(k+1)) (2^(k+1)) [i*2^s,j*2^s,2^s,2^s]=true/\hasB (u*2^(k+1)) (v*2^(k+1)) (2^(k+1)) [i*2^s,j*2^s,2^s,2^s]=false then _ else _)<=_;split
  ·rename_i p;have m:i*2^s<u*2^(k+1)+2^(k+1)/\u*2^(k+1)<i*2^s+2^s/\v*2^(k+1)<j*2^s+2^s/\j*2^s<v*2^(k+1)+2^(k+1):=ZJ p.1;have H:¬(i*2^s<=u*2^(k+1)/\u*2^(k+1)+2^(k+1)<=i*2^s+2^s/\j*2^s<=v*2^(k+1)/\v*2^(k+1)+2^(k+1)<=j*2^s+2^s):=YN p.2;have F:∀{x y m:Nat},0<m->x*m<y*m+m->x*m<=y*m:=λ{x y m} p h=>by
    have:x<y+1:=Ue (a:=m) (by rw[Y5];exact h);exact Xa _ (t_ this)
   have hk:s<=k:=by
    by_cases z:s<=k
    ·exact z
    ·exfalso;apply H;obtain⟨d,rfl⟩:∃d,s=k+1+d:=⟨s-(k+1),by lia⟩;have B:0<2^(k+1):=WI 'b';have w:2^(k+1+d)=2^d*2^(k+1):=by rw[YX,Z7]
     have e:∀i,i*2^(k+1+d)=i*2^d*2^(k+1):=λi=>by rw[w,YR]
     have I:∀i,i*2^(k+1+d)+2^(k+1+d)=(i*2^d+2^d)*2^(k+1):=λi=>by rw[VL,<- w,<- e]
     have g:∀u i,i*2^(k+1+d)<u*2^(k+1)+2^(k+1)->i*2^(k+1+d)<=u*2^(k+1):=λu i h=>by
      rw[e]at h ⊢;exact F B h
     have A:∀u i,u*2^(k+1)<i*2^(k+1+d)+2^(k+1+d)->u*2^(k+1)+2^(k+1)<=i*2^(k+1+d)+2^(k+1+d):=λu i h=>by
      rw[I]at h ⊢;rw[<- Y5];exact Xa _ (Ue h)
     exact⟨g u i m.1,A u i m.2.1,g v j m.2.2.2,A v j m.2.2.1⟩
   obtain⟨d,rfl⟩:∃d,k=s+d:=⟨k-s,qO hk⟩;have C:2^(s+d)=2^d*2^s:=by rw[YX,Z7]
   have r:∀u,u*2^(s+d+1)=(2*u)*2^(s+d):=λu=>by rw[YJ,Z7 (2^(s+d)) 2,<- YR,Z7 u 2]
   have f:∀u,u*2^(s+d+1)+2^(s+d)=(2*u+1)*2^(s+d):=λu=>by rw[r];exact(Y5 _ _).symm
   have b:∀u i,i*2^s+2^s<=(2*u+1)*2^(s+d)\/(2*u+1)*2^(s+d)<=i*2^s:=λu i=>by
    rw[C,<- YR,<- Y5];rcases Nat.lt_or_ge i ((2*u+1)*2^d)with z|z
    ·exact .inl (Xa _ z)
    ·exact .inr (Xa _ z)
   have q0:∀x y,¬(x<i*2^s+2^s)\/¬(i*2^s<x+2^(s+d))\/¬(y<j*2^s+2^s)\/¬(j*2^s<y+2^(s+d))->cnt [i*2^s,j*2^s,2^s,2^s] (s+d) x y=0:=λx y t=>by
    cases hsd:s+d with
    |zero=>rfl
    |succ q=>
     rw[hsd]at t;show(if n9 x y (2^(q+1)) [i*2^s,j*2^s,2^s,2^s]=true/\_ then _ else _)=0;rw[Zi];rintro⟨h1,_⟩;have m:i*2^s<x+2^(q+1)/\x<i*2^s+2^s/\y<j*2^s+2^s/\j*2^s<y+2^(q+1):=ZJ h1;rcases t with z|z|z|z
     ·exact z m.2.1
     ·exact z m.1
     ·exact z m.2.2.1
     ·exact z m.2.2.2
   have K:=Cf s i j (s+d) (2*u) (2*v);have N:=Cf s i j (s+d) (2*u) (2*v+1);have M:=Cf s i j (s+d) (2*u+1) (2*v);have L:=Cf s i j (s+d) (2*u+1) (2*v+1);rw[f,f,r,r];have n:∀u:Nat,(2*u)*2^(s+d)+2^(s+d)=(2*u+1)*2^(s+d):=λu=>(Y5 _ _).symm;rcases b u i with l|l
   ·have E:=q0 ((2*u+1)*2^(s+d)) ((2*v)*2^(s+d)) (.inl (fu l));have J:=q0 ((2*u+1)*2^(s+d)) ((2*v+1)*2^(s+d)) (.inl (fu l));rcases b v j with c|c
    ·have G:=q0 ((2*u)*2^(s+d)) ((2*v+1)*2^(s+d)) (.inr (.inr (.inl (fu c))));lia
    ·have D:=q0 ((2*u)*2^(s+d)) ((2*v)*2^(s+d)) (.inr (.inr (.inr (by rw[n];exact fu c))));lia
   ·have D:=q0 ((2*u)*2^(s+d)) ((2*v)*2^(s+d)) (.inr (.inl (by rw[n];exact fu l)));have G:=q0 ((2*u)*2^(s+d)) ((2*v+1)*2^(s+d)) (.inr (.inl (by rw[n];exact fu l)));rcases b v j with c|c
    ·have J:=q0 ((2*u+1)*2^(s+d)) ((2*v+1)*2^(s+d)) (.inr (.inr (.inl (fu c))));lia
    ·have E:=q0 ((2*u+1)*2^(s+d)) ((2*v)*2^(s+d)) (.inr (.inr (.inr (by rw[n];exact fu c))));lia
  ·exact Zs _
theorem xc5{n:Nat}{bs:List Row}(p:n<=12)(h:E6 n bs):kf (bt n bs 0 0)<=485:=by
 rcases h.2 with⟨y,_⟩|⟨D,t⟩
 ·refine ZF (yo n bs 0 0) ?_
  match n,y with
  |0,_|1,_|2,_|3,_=>decide
 ·refine ZF (Cn n bs 0 0) ?_;have a:∀b∈bs,cnt b n 0 0<=97:=λb hb=>by
   obtain⟨r,c,u,w,rfl,h1,g,_⟩:=h.1 b hb;obtain⟨E,B,k,C,e,sm⟩:=t _ hb;simp only[XV,UU]at e;obtain⟨rfl,rfl,rfl,rfl⟩:=e;rcases sm with⟨q,v⟩|⟨s,i,j,rfl,rfl,rfl,rfl⟩
   ·refine ZF (BL r c u w n 0 0) (ZF (RZ h1 q g v n (Zd _)) (ZF (SI p) 'b'))
   ·have:=Cf s i j n 0 0;rw[UL]at this;lia
  unfold gn;have d:∀l:List Row,(∀b∈l,cnt b n 0 0<=97)->(l.map λb=>cnt b n 0 0).sum<=l.length*97:=λl f=>by
   induction l with
   |nil=>exact Zs _
   |cons b l A=>
    have h1:=f b Zz;have F:=A λx m=>f x (Zp _ m);rw[ZB,Wt,ZM,Y5];lia
  have:=d bs a;lia
def aK:Nat->Tr->Nat->Nat->Bool
 |0,t,_,_=>decide (t=.o)
 |k+1,t,r,c=>aK k (qr (2*(r/2^k%2)+c/2^k%2) t) r c
theorem oX:∀k r c,aK k .o r c=true
 |0,_,_=>rfl
 |k+1,r,c=>oX k r c
theorem yf:∀k r c,aK k .z r c=false
 |0,_,_=>rfl
 |k+1,r,c=>yf k r c
theorem QJ{a b c e:Tr}{i:Nat}(d:i<4):qr i (mk a b c e)=qr i (.nd a b c e):=by
 unfold mk;split
 ·rename_i h;obtain⟨rfl,rfl,rfl,rfl⟩:=h
  match i,d with
  |0,_|1,_|2,_|3,_=>rfl
 ·split
  ·rename_i h;obtain⟨rfl,rfl,rfl,rfl⟩:=h
   match i,d with
   |0,_|1,_|2,_|3,_=>rfl
  ·rfl
theorem ES{k i:Nat}(c y:Nat)(h:i<k):(2^k*c+y)/2^i%2=y/2^i%2:=by
 have e:2^k=2^i*(2*2^(k-i-1)):=by
  rw[<- Nat.pow_succ',<- YX];congr 1;lia
 rw[e,YR,XW (WI 'b'),YR];lia
theorem FF:∀(k:Nat)(t:Tr)(a b i j:Nat),aK k t (2^k*a+i) (2^k*b+j)=aK k t i j
 |0,_,_,_,_,_=>rfl
 |k+1,t,a,b,i,j=>by
  show aK k (qr _ t) _ _=aK k (qr _ t) _ _;rw[ES a i (ZN k),ES b j (ZN k)];have e:∀x y:Nat,2^(k+1)*x+y=2^k*(2*x)+y:=λx y=>by rw[YJ,YR]
  rw[e,e,FF k]
abbrev jc(i j:Nat)(b:Row):Bool:=hasB i j 1 b
theorem xc6{i j u v s:Nat}{b:Row}(hs:0<s)(a:i/s=u)(c:j/s=v)(h:jc i j b=true):n9 (u*s) (v*s) s b=true:=by
 have h:=ZJ h;have d:u*s<=i:=by rw[<- a];exact WT i s
 have e:v*s<=j:=by rw[<- c];exact WT j s
 have f:i<u*s+s:=by rw[<- a];have:=Yo i s;have:=Yr i hs;rw[Z7 s]at *;lia
 have g:j<v*s+s:=by rw[<- c];have:=Yo j s;have:=Yr j hs;rw[Z7 s]at *;lia
 exact Zo 'a'
theorem Qh{a:List Row}{i j u v s:Nat}(hs:0<s)(c:i/s=u)(d:j/s=v):(met a (u*s) (v*s) s).any (jc i j)=a.any (jc i j):=by
 unfold met;rw[List.any_filter,Yn,Ym,Ym];constructor
 ·rintro⟨b,hb,h⟩;exact⟨b,hb,(WK.mp h).2⟩
 ·rintro⟨b,hb,h⟩;exact⟨b,hb,WK.mpr ⟨xc6 hs c d h,h⟩⟩
theorem xB4{i j u v s:Nat}{b:Row}(hs:0<s)(a:i/s=u)(c:j/s=v)(h:hasB (u*s) (v*s) s b=true):jc i j b=true:=by
 have h:=ZJ h;have d:u*s<=i:=by rw[<- a];exact WT i s
 have e:v*s<=j:=by rw[<- c];exact WT j s
 have f:i<u*s+s:=by rw[<- a];have:=Yo i s;have:=Yr i hs;rw[Z7 s]at *;lia
 have g:j<v*s+s:=by rw[<- c];have:=Yo j s;have:=Yr j hs;rw[Z7 s]at *;lia
 exact Zo 'a'
theorem Qg:∀(k:Nat)(c:List Row)(u v i j:Nat),i/2^k=u->j/2^k=v->aK k (bt k c (u*2^k) (v*2^k)) i j=c.any (jc i j):=by
 intro k
 induction k with
 |zero=>
  intro c u v i j d e;rw[<- Qh (s:=2^0) 'b' d e];have m:u*2^0=i:=by rw[<- d];simp
  have ev:v*2^0=j:=by rw[<- e];simp
  rw[m,ev];show decide (bt 0 c i j=.o)=_;unfold bt;show decide ((if met c i j 1=[]then Tr.z else if(met c i j 1).any (hasB i j 1)then Tr.o else Tr.z)=Tr.o)=(met c i j 1).any (jc i j);split
  ·rename_i h;rw[h];rfl
  ·split
   ·rename_i h;rw[h];rfl
   ·rename_i h;rw[show(met c i j 1).any (jc i j)=false by simpa using h];rfl
 |succ k n=>
  intro c u v i j d e;have q:0<2^(k+1):=WI 'b';have hk:0<2^k:=WI 'b';rw[<- Qh q d e];unfold bt;split
  ·rename_i h;rw[h,yf];rfl
  ·split
   ·rename_i h;rw[oX];obtain⟨b,hb,w⟩:=Ym.mp h;exact(Ym.mpr ⟨b,hb,xB4 q d e w⟩).symm
   ·have p:2^(k+1)=2*2^k:=by rw[YJ,Z7]
    have g:i/2^k=2*u+i/2^k%2:=by
     have:i/2^k/2=u:=by rw[XH,Z7,<- p];exact d
     lia
    have l:j/2^k=2*v+j/2^k%2:=by
     have:j/2^k/2=v:=by rw[XH,Z7,<- p];exact e
     lia
    generalize met c (u*2^(k+1)) (v*2^(k+1)) (2^(k+1))=B;show aK k (qr (2*(i/2^k%2)+j/2^k%2) (mk _ _ _ _)) i j=_;rw[QJ qZ];have m:∀x:Nat,x*2^(k+1)=2*x*2^k:=λx=>by rw[p,Ur,<- YR]
    have f:∀x:Nat,2*x*2^k+2^k=(2*x+1)*2^k:=λx=>(Y5 (2*x) (2^k)).symm;rw[m,m,f,f];have t:i/2^k%2=0\/i/2^k%2=1:=by lia
    have r:j/2^k%2=0\/j/2^k%2=1:=by lia
    rcases t with a|a<;>rcases r with b|b<;>rw[a,b]<;>rw[a]at g<;>rw[b]at l
    ·exact n B (2*u) (2*v) i j (t9 g) (t9 l)
    ·exact n B (2*u) (2*v+1) i j (t9 g) l
    ·exact n B (2*u+1) (2*v) i j g (t9 l)
    ·exact n B (2*u+1) (2*v+1) i j g l
def dr:Tr->Nat->Bool
 |.z,_=>false
 |.o,_=>true
 |.nd a b c d,k=>match k with|0=>dr a 0|1=>dr b 1|2=>dr c 2|_=>dr d 3
structure sg where
 a:Tr
 b:Tr
 c:Tr
 d:Tr
def iB(f:sg):Int:=if(dr f.a 3&&dr f.b 2&&dr f.c 1&&dr f.d 0)=true then 1 else 0
def mE(a:Bool)(s t:Tr):sg:=if a then⟨qr 2 s,qr 3 s,qr 0 t,qr 1 t⟩else⟨qr 1 s,qr 0 t,qr 3 s,qr 2 t⟩
def dC:Nat->Bool->Tr->Tr->Int
 |0,_,s,t=>if s=.z\/t=.z then 0 else -1
 |m+1,a,s,t=>if s=.z\/t=.z then 0 else if s=.o/\t=.o then -1 else
   (if a then dC m a (mE a s t).a (mE a s t).c+dC m a (mE a s t).b (mE a s t).d
    else dC m a (mE a s t).a (mE a s t).b+dC m a (mE a s t).c (mE a s t).d)+iB (mE a s t)
def o9(m:Nat)(a:Bool)(f:sg):Int:=if a then dC m a f.a f.c+dC m a f.b f.d else dC m a f.a f.b+dC m a f.c f.d
theorem Fz{m:Nat}{a:Bool}{s t:Tr}(h1:¬(s=.z\/t=.z))(b:¬(s=.o/\t=.o)):dC (m+1) a s t=o9 m a (mE a s t)+iB (mE a s t):=by
 show(if s=.z\/t=.z then 0 else _)=_;rw[Zi h1,Zi b];unfold o9
 rfl
def iS(m:Nat)(f:sg):Int:=o9 m false f+o9 m true f+iB f
def cX:Tr->Int
 |.z=>0
 |.o=>1
 |.nd a b c d=>cX a+cX b+cX c+cX d+iS (dep (.nd a b c d)-1) ⟨a,b,c,d⟩
theorem p6{m k:Nat}{t:Tr}(hk:k<4)(h:dep t<=m+1):dep (qr k t)<=m:=Pk hk _ h
theorem vv{t:Tr}(h:dep t<=0):t=.z\/t=.o:=Ob h
theorem B0:∀(m:Nat)(a:Bool)(s t:Tr),dep s<=m->dep t<=m->dC (m+1) a s t=dC m a s t
 |0,a,s,t,f,d=>by
  by_cases h1:s=.z\/t=.z
  ·show(if _ then(0:Int)else _)=if _ then(0:Int)else _
   rw[Zk h1,Zk h1]
  ·have b:s=.o/\t=.o:=by
    rcases vv f with e|e
    ·exact absurd (.inl e) h1
    ·rcases vv d with c|c
     ·exact absurd (.inr c) h1
     ·exact⟨e,c⟩
   show(if _ then(0:Int)else if _ then(-1:Int)else _)=if _ then(0:Int)else -1
   rw[Zi h1,Zi h1,Zk b]
 |m+1,a,s,t,f,d=>by
  by_cases h1:s=.z\/t=.z
  ·show(if _ then(0:Int)else _)=if _ then(0:Int)else _
   rw[Zk h1,Zk h1]
  ·by_cases b:s=.o/\t=.o
   ·show(if _ then(0:Int)else if _ then(-1:Int)else _)=if _ then(0:Int)else if _ then(-1:Int)else _
    rw[Zi h1,Zi h1,Zk b,Zk b]
   ·rw[Fz h1 b,Fz h1 b];have q:∀{k:Nat},k<4->dep (qr k s)<=m/\dep (qr k t)<=m:=λhk=>⟨p6 hk f,p6 hk d⟩;have e:o9 (m+1) a (mE a s t)=o9 m a (mE a s t):=by
     unfold o9 mE;cases a
     ·simp only[Zt,ZX];rw[B0 m false _ _ (q 'b').1 (q 'b').2,B0 m false _ _ (q 'b').1 (q 'b').2]
     ·simp only[Xh];rw[B0 m true _ _ (q 'b').1 (q 'b').2,B0 m true _ _ (q 'b').1 (q 'b').2]
    rw[e]
theorem Aa{k:Nat}:∀{m:Nat}(a:Bool) (s t:Tr),dep s<=k->dep t<=k->k<=m->dC m a s t=dC k a s t:=by
 intro m a s t e d b;obtain⟨j,rfl⟩:∃j,m=k+j:=⟨m-k,qO b⟩;clear b
 induction j with
 |zero=>rfl
 |succ j c=>rw[<- c];exact B0 (k+j) a s t (nN e) (nN d)
end Qf
namespace L2
open PySem PySem.Spec PyProof.Rows PySem.W
def oR(d:ae)(kvs:List (List Key×V))(o:aw):It:=
 ⟨λi H=>H d=some (.gC o (.dT kvs))/\i<kvs.length,λi H x a=>a=H/\∃b kv,kvs[i]?=some kv/\x=.ref b/\H b=some (.tup (kv.1.map kV)),λi H=>H d=some (.gC o (.dT kvs))/\i=kvs.length⟩
theorem xc9{α c:Type}{R S:α->c->Prop}(h:∀a b,R a b->S a b):∀{l:List α}{m:List c},Paired R l m->Paired S l m:=by
 intro l m pr
 induction pr with
 |nil=>exact .nil
 |cons d f e=>exact .cons (h _ _ d) e
theorem xB5{H:Hp}:∀{l:List (List Key×V)}{m:List (List Key×ae×aa)},Paired (λ(p:List Key×V) (q:List Key×ae×aa)=>p.1=q.1/\H q.2.1=some (.tup (p.1.map kV))/\RelV p.2 q.2.2) l m->∀(i:Nat) p y,l[i]?=some p->m[i]?=some y->H y.2.1=some (.tup (p.1.map kV)):=by
 intro l m pr
 induction pr with
 |nil=>intro i p y h1;simp at h1
 |cons b d c=>
  intro i p y h1 a;cases i with
  |zero=>simp at h1 a;subst h1;subst a;exact b.2.1
  |succ i=>exact c i p y (by simpa using h1) (by simpa using a)
theorem Qe{P:ag}{w:ai}{H:Hp}{h:ao}{d:ae}{kvs:List (List Key×V)}{o:aw}{a:Array aB}{ep:Nat}(ok:dJ P w H h)(e:H d=some (.gC o (.dT kvs)))(k:o.data=.dict a ep):
  fh h d a ep/\a.size=kvs.length/\∀(i:Nat) kv,kvs[i]?=some kv->∃(b:ae)(p:aB),a[i]?=some p/\p.key=.ref b/\H b=some (.tup (kv.1.map kV)):=by
 obtain⟨s,z,y,g,c,A,B,u,n,t,m,f,x⟩:=ok d _ e;rw[s]at n;cases n;rw[k]at m;cases m;have q:kvs.length=g.length:=Yx c;have v:a.size=g.length:=Ws f;refine⟨⟨o,s,t,k⟩,ue q v,λi kv hk=>?_⟩;have j:i<g.length:=by rw[<- q];exact(cz hk).1
 have r:g[i]?=some (g[i]'j):=Ze j;have l:=entry_at f i;rw[r]at l;exact⟨_,_,l,rfl,xB5 c i kv _ hk r⟩
theorem q23{P:ag}{w:ai}{K:PySem.W.Frag}{W:av}{d it:ae}{kvs:List (List Key×V)}{o:aw}{j:Array aB}{ep:Nat}(G:o.data=.dict j ep)(hs:j.size=kvs.length):
  Turn P w K W (oR d kvs o) [it] it (λi h=>h.IsKeyIter it d i j.size ep) where
 mem:=by simp
 obj:=λi h g b hb=>by
  have e:b=it:=by simpa using hb
  subst e;obtain⟨q,e,c,f⟩:=g;exact⟨q,e,λv z=>by rw[f]at z;cases z⟩
 keep:=λi h n g k=>g.at λo e=>k it (by simp) o e
 item:=by
  intro X x A D L i O s J H E I p g B;subst x A D;obtain⟨F,l⟩:=B;obtain⟨a,_,m⟩:=Qe I.aO F G;obtain⟨r,t,S,y,C,u⟩:=p it (by simp);have N:i<j.size:=by exact ki l hs
  have hk:kvs[i]?=some (kvs[i]'l):=Ze l;obtain⟨b,U,Q,Y,e3⟩:=m i _ hk;have T:j[i]=U:=by
   rw[Z4 N]at Q;exact ZE Q
  refine SM g a N λn M sb=>?_;have Z:Inv X O J H {s with heap:=n}:=I.turned (t':=s.toks) (λb q hb e=>(sb.2 b hb).trans e) r t y C u;obtain⟨q,e,c,f⟩:=id M;refine⟨j[i].key,rfl,Fc (s:={s with heap:=n}) e c f 'b' ⟨.ref b,H,Z,?_,⟨rfl,b,kvs[i]'l,hk,rfl,e3⟩,M,λb hb=>(p b hb).1⟩⟩;rw[T,Y]
  rfl
 done:=by
  intro X x A D L i O s J H E I p g B;subst x A D;obtain⟨F,l⟩:=B;obtain⟨a,_,m⟩:=Qe I.aO F G;obtain⟨r,t,S,y,C,u⟩:=p it (by simp);have e:i=j.size:=by exact ue hs l
  subst e;exact R5 (I.ok.hd L) g a λn R=>⟨rfl,I.turned (t':=s.toks) (λb q hb e=>R b q hb e) r t y C u⟩
 self:=λ_ _ _ _ _ g h=>wpAny_pyIter_keyiter g h
end L2
namespace L2
open PySem
theorem qS0{J:It}{H:Hp}{n k:Nat}{item:Nat->V->Hp->Prop}{g:TG}{P:TT}{te:TE}{σ:St}{Fin:Hp->Prop}{D:ae}(Y:H D=none)(yes:Nat->Bool)(f:Nat->V->Hp->Prop)(G:Goes J H n item)(hsz:n<sizeLine)
  (mono:∀i y U a,je U a->f i y U->f i y a)
  (step:∀i x a,i<n->item i x a->aG H a->∀w:St,w.length=k->∀(X:Hp->Prop)(Q:VK),(yes i=false->∀d,aG a d->X d)->(yes i=true->∀v d,aG a d->f i v d->Q v d) ->
   g x (w++σ) a λM l=>P M l λb F=>if b=true then te M F Q else X F)
  (fin:∀c a,aG H a->a D=some (.lst c)->c.length=((List.range n).filter yes).length->(∀(m:Nat) y j,c[m]?=some y->((List.range n).filter yes)[m]?=some j->f j y a)->Fin a):
  ∃W:Nat->Nat->List V->Hp->Prop,(∃m,W 0 m [] (upd H D (.lst []))) /\
   ∀i m s a,W i m s a->a D=some (.lst s)/\s.length<sizeLine/\((J.stop i a/\Fin a)\/(J.go i a/\∀y d,J.lV i a y d->∀w:St,w.length=k ->
    g y (w++σ) d λM l=>P M l λb F=>if b=true then te M F λv S=>S D=some (.lst s)/\∃I,I<m/\W (i+1) I (s++[v]) (upd S D (.lst (s++[v])))else ∃I,I<m/\W (i+1) I s F)):=by
 refine⟨λi m c a=>i<=n/\m=n-i/\c.length=((List.range i).filter yes).length/\a D=some (.lst c)/\aG H a/\∀(m:Nat) y j,c[m]?=some y->((List.range i).filter yes)[m]?=some j->f j y a,⟨n,Zs _,rfl,rfl,aX,bw Y,λm y j h=>by simp at h⟩,?_⟩;rintro i m c a ⟨p,rfl,E,N,B,A⟩;have j9:c.length<=i:=by
  rw[E];exact ZF (Vz _ _) (by simp)
 refine⟨N,yM hsz p j9,?_⟩;by_cases q:i=n
 ·subst q;exact .inl ⟨G.st a B,fin c a B N E A⟩
 ·refine .inr ⟨G.go i a (mO p q) B,λy d hy w ho=>?_⟩;obtain⟨C,it⟩:=G.yl i a y d (mO p q) B hy;refine step i y d (mO p q) it (B.trans C) w ho _ _ (λDS l t=>?_) (λZ v l t r4=>?_)
  ·have K:(List.range (i+1)).filter yes=(List.range i).filter yes:=by
    rw[YC,Va];simp[DS]
   refine⟨n-(i+1),q8 p q,oI p q,rfl,by rw[K];exact E,t _ _ (C _ _ N),(B.trans C).trans t,λm y j h1 r=>?_⟩;rw[K]at r;exact mono j y a l (C.trans t).c_ (A m y j h1 r)
  ·have R:=t _ _ (C _ _ N);have K:(List.range (i+1)).filter yes=(List.range i).filter yes++[i]:=by
    rw[YC,Va];simp[Z]
   have T:je l (upd l D (.lst (c++[v]))):=λb u e=>by
    have:b≠D:=λz=>by subst z;rw[R]at e;cases e
    rw[bV this];exact e
   refine⟨R,n-(i+1),q8 p q,oI p q,rfl,by rw[K,Zw,Zw,E];rfl,aX,λb o e=>?_,λm z j h1 r=>?_⟩
   ·rw[bV (cI e Y)];exact t _ _ (C _ _ (B _ _ e))
   ·rw[K]at r;by_cases O:m<c.length
    ·rw[Zr O]at h1;rw[Zr (oz O E)]at r;exact mono j z l _ T (mono j z a l (C.trans t).c_ (A m z j h1 r))
    ·have L:m=c.length:=by
      have:=(cz h1).1;simp at this;exact yN this O
     rw[Zq (IQ L L L),L]at h1;rw[Zq 'a',L,E]at r;have e1:z=v:=by simpa using h1.symm
     have e2:j=i:=by simpa using r.symm
     rw[e1,e2];exact mono i v l _ T r4
end L2
namespace Pr
open PySem L2 Qf
def gm(t:Tr):List V:=[.bl (dr t 0),.bl (dr t 1),.bl (dr t 2),.bl (dr t 3)]
def lU(H:Hp)(D:ae)(rows:List Row)(n:Nat):Prop:=∃bs:List ae,H D=some (.lst (bs.map V.ref))/\bs.length=n+2/\∀(x:Nat) b,bs[x]?=some b->H b=some (.tup (gm (T rows x)))
theorem As{f:St->Hp->Prop}{σ σ':St}{H:Hp}(e:σ=σ')(h:f σ' H):f σ H:=by rw[e];exact h
theorem lU.same{H a:Hp}{D:ae}{rows:List Row}{n:Nat}(h:lU H D rows n)(s:aG H a):lU a D rows n:=by
 obtain⟨bs,h1,d,c⟩:=h;exact⟨bs,s _ _ h1,d,λx b e=>s _ _ (c x b e)⟩
abbrev U3:List ar:=["rows","corners","row"]
theorem tj:aI U3 ["rows"] (ck B9):=dz
inductive xO(vs:List V)(H:Hp)(Q:VK):Prop
 |mk(p:ae)(rows:List Row)(e0:vs=[.ref p])(e1:cf H p rows)(e2:dv rows)(e3:rows.length<=10000)(e4:∀H' D,aG H H'->H D=none->lU H' D rows rows.length->Q (.ref D) H')
def QI:Sp:=λa H Q _=>xO a H Q
theorem xL7{f:ae}{fd:ak}(F:bj K "corners_of" "corners_of" B9 f fd)(B:eR mg):aE P w K mg base aW 1 f fd ["rows"] QI:=by
 refine F.ok tj (λvs H Q E h=>?_) (λcA A outer s H vs Q E hr h=>?_)
 ·obtain⟨p,rows,rfl,_⟩:=h
  rfl
 ·obtain⟨p,rows,rfl,hR,ok,hn,q⟩:=h;refine aZ ⟨_,⟨cR 1 tj.nd (@n_ _ _ _ _ (bJ.go (.cons ⟨a_ G7 (eM (aF lY aQ)) aV⟩ (.cons ⟨a_ G7 (eM (aF lY aQ)) aV⟩ .nil rfl) rfl)))⟩,?_⟩;refine aZ ⟨_,⟨og Yv rfl (yc (pv 0)) (eD 2 tj.nd)
    (gZ.go (.one ⟨tN (E_ XA Xp Xq An (pv 1) (aF (bU.go ⟨hV (iR K rfl) (by rfl) B.tuple ZP
     (aF (FZ U3 (ck B9) rfl rfl rfl tj.nd (Lp (by rfl) B.enum (aF (pv 2) aQ)) (λcl C fp aM aN=>bU.go ⟨cW (uu K rfl) (bU.go ⟨cW (AF K rfl) (pv 3) (pv 1)⟩) (pv 0)⟩)) aQ)⟩) aQ))⟩))⟩,?_⟩
  refine fZ ⟨_,⟨cQ (pv 1)⟩,?_⟩;refine⟨(by show 1<=sizeLine;decide),λk1 vO=>⟨k1,4,.bl false,rfl,rfl,aX,by decide,by decide,λg kB=>?_⟩⟩;have s1:aG H (upd (upd H k1 (.tup [.bl false])) g (.tup (gm .z))):=(bw vO).trans (bw kB);have h1:upd (upd H k1 (.tup [.bl false])) g (.tup (gm .z)) g=some (.tup (gm .z)):=aX;refine(λ(go:∀v,aG H v->v g=some (.tup (gm .z))->_)=>go _ s1 h1) ?_;clear s1 h1;intro v s1 h1;refine⟨(by show 1<=sizeLine;decide),λk2 vY=>⟨k2,4,.bl true,rfl,rfl,aX,by decide,by decide,λn jO=>?_⟩⟩;have Y:aG v (upd (upd v k2 (.tup [.bl true])) n (.tup (gm .o))):=(bw vY).trans (bw jO);have h2:upd (upd v k2 (.tup [.bl true])) n (.tup (gm .o)) n=some (.tup (gm .o)):=aX;refine(λ(go:∀U,aG v U->U n=some (.tup (gm .o))->_)=>go _ Y h2) ?_;clear Y h2;intro U Y h2;refine⟨(by show 2<=sizeLine;decide),λD X=>?_⟩;have Q8:=s1.trans Y;have HW:H D=none:=by
   cases e:H D with
   |none=>rfl
   |some o=>rw[Q8 _ _ e]at X;cases X
  have El:lU (upd U D (.lst [.ref g,.ref n])) D rows 0:=⟨[g,n],aX,rfl,λx b e=>by
   match x,e with
   |0,e=>cases e;rw[lZ];exact aH (Y _ _ h1) X
   |1,e=>cases e;rw[iZ];exact aH h2 X
   |x+2,e=>cases e⟩
  have s3:aG H (upd U D (.lst [.ref g,.ref n])):=Q8.trans (bw X);obtain⟨bs,hp,j9,jC⟩:=id hR;have jQ:(bs.map V.ref).length=rows.length:=by rw[Zg];exact j9
  refine⟨_,rfl,p,rfl,⟨_,bg.of (s3 _ _ hp)⟩,Hf (K:=K) (a:=p) (xs:=bs.map V.ref) (λi Z I=>aG H I/\lU I D rows i/\∃v2,Z=[some (.ref p),some (.ref D),v2])
   ⟨s3,El,none,rfl⟩ (λi Z I _ ⟨J,_⟩=>bg.of (J _ _ hp)) ?_ ?_⟩
  ·rintro i y Z I M ⟨J,HL,v2,rfl⟩;have hi:i<rows.length:=by rw[<- jQ];exact(cz M).1
   rw[Zh]at M;obtain⟨b,hb,rfl⟩:=Zl.mp M;have R:rows[i]?=some rows[i]:=by simp[hi]
   have jP:=J _ _ (jC i b rows[i] hb R);obtain⟨L,O,S,W,er⟩:=L2.LL (ok i _ R).1;rw[er]at R jP;have rk:=ok i _ R;have eT:T rows (i+2)=.nd (T rows L) (T rows O) (T rows S) (T rows W):=jm ok R;obtain⟨cs,N,r,HK⟩:=id HL;refine⟨_,rfl,.inl ⟨rfl,_,cq.of N⟩,_,rfl,b,rfl,⟨_,bg.of jP⟩,λD2 kD=>Gn kD (λ_=>true) (λj=>.bl (dr (T rows ([L,O,S,W].getD j 0)) j)) (Ko (K:=K) jP) (by rw[jn];show 4<sizeLine;decide) ?_ ?_⟩
   ·rintro j x H5 hj ⟨t,y,rfl,M,ht⟩ d os ho Q1 Q2 q1 q2;obtain⟨o1,o2,rfl⟩:=L2.AB ho;obtain⟨m,hm,rfl⟩:=x8 M;have Nh:j<4:=(cz hm).1;have em:[L,O,S,W].getD j 0=m:=by rw[ZD,hm];rfl
    have jA:=rk.2 m (ZH hm);have yC:cs[m]?=some (cs[m]'(ki jA r)):=Ze (ki jA r);have wH:=d _ _ (HK m _ yC);generalize cs[m]'(ki jA r)=ca at yC wH;rw[em]at q2;refine⟨t,_,rfl,bg.of ht,rfl,_,_,rfl,_,_,rfl,rfl,?_⟩;refine cM (B:=Q1 H5) ?_;refine⟨_,rfl,_,rfl,D,_,(m:Int),.ref ca,rfl,rfl,cq.of (d _ _ N),oY (by rw[Zh,yC];rfl),_,rfl,ca,_,(j:Int),.bl (dr (T rows m) j),rfl,rfl,bg.of wH,?_,q2 rfl _ (aG.refl _)⟩
    match j,Nh with
    |0,_|1,_|2,_|3,_=>rfl
   ·intro H5 d kE;have ev:(((List.range (vN [L,O,S,W]).length).filter λ_=>true).map λj=>V.bl (dr (T rows ([L,O,S,W].getD j 0)) j))=gm (T rows (i+2)):=by rw[eT];rfl
    rw[ev]at kE;refine⟨D2,_,rfl,.inl ⟨cq.of kE,λl G=>?_⟩⟩;refine⟨D,_,.ref l,rfl,rfl,aH (d _ _ N) G,by rw[Zg,r];exact i5 'a',?_⟩;have nD:∀b o,H b=some o->b≠D:=λb o e=>cI e HW;refine⟨λb o e=>by rw[bV (nD b o e)];exact aH (d _ _ (J _ _ e)) G,⟨cs++[l],by rw[aX,ZL];rfl,by rw[Zw,r];rfl,λx c e=>?_⟩,_,rfl⟩;have key:upd (upd H5 l (.tup (gm (T rows (i+2))))) D (.lst (cs.map V.ref++[.ref l])) c=upd H5 l (.tup (gm (T rows (i+2)))) c\/c=D:=by
     by_cases z:c=D
     ·exact .inr z
     ·exact .inl (bV z)
    by_cases hx:x<cs.length
    ·rw[Zr hx]at e;have hc:=aH (u:=.tup (gm (T rows (i+2)))) (d _ _ (HK x c e)) G;rcases key with k|k
     ·rw[k];exact hc
     ·rw[k,aH (d _ _ N) G]at hc;cases hc
    ·have DD:x=i+2:=by
      have:=(cz e).1;rw[Zw]at this;simp at this;lia
     subst DD;rw[Zq (kq r),r]at e;simp at e;subst e;rcases key with k|k
     ·rw[k];exact aX
     ·rw[k,d _ _ N]at G;cases G
  ·rintro Z I ⟨J,HL,v2,rfl⟩;rw[jQ]at HL;exact⟨_,rfl,q I D J HW HL⟩
end Pr
namespace L2
open PySem PySem.Spec PyProof.Rows
structure cb(prog:ag)(w:ai)(K:Type)[DecidableEq K] where
 is:ao->K->aa->Prop
 hash:K->Int
 draws:K->Nat
 lvl:Nat
 inj:∀{h:ao}{v:aa}{x y:K},is h x v->is h y v->x=y
 keeps:∀{h h':ao}{k:K}{v:aa}{d:ae}{o:aw}{es ep},is h k v->h.get? d=some o->o.data=.dict es ep->Heap.SameBut d h h'->is h' k v
 pyHash:∀{A:aj}{E:aa->ab->Prop}{s:ab}{k:K}{v:aa}{Q:Int->ab->Prop},A.units+lvl<cLine->is s.heap k v->Q (hash k) {s with toks:=s.toks+draws k}->af (ah prog w) A (PySem.pyHash v) Q E s
 eqBool:∀{A:aj}{E:aa->ab->Prop}{s:ab}{x y:K}{v u:aa}{Q:Bool->ab->Prop},A.units+lvl<cLine->is s.heap x v->is s.heap y u->Q (decide (x=y)) s->af (ah prog w) A (PySem.eqBool v u) Q E s
 quiet:∀{n:Nat}{A:aj}{E:aa->ab->Prop}{s:ab}{k:K}{v:aa}{Q:Bool->ab->Prop},lvl<=n->is s.heap k v->Q true s->af (ah prog w) A (eqIsQuiet n v) Q E s
section
variable{K:Type}[DecidableEq K]
inductive cO(h:ao):(Nat->cb prog w K)->List K->List aa->Prop
 |nil {kd}:cO h kd [] []
 |cons {kd:Nat->cb prog w K}{k:K}{v:aa}{ks:List K}{vs:List aa}:(kd 0).is h k v->cO h (λi=>kd (i+1)) ks vs->cO h kd (k::ks) (v::vs)
def oh:(Nat->cb prog w K)->List K->List Int
 |_,[]=>[]
 |a,k::b=>(a 0).hash k::oh (λi=>a (i+1)) b
def tF:(Nat->cb prog w K)->List K->Nat
 |_,[]=>0
 |a,k::b=>(a 0).draws k+tF (λi=>a (i+1)) b
theorem cO.inj{h:ao}{kd:Nat->cb prog w K}{x y:List K}{vs:List aa}(e:cO h kd x vs)(a:cO h kd y vs):x=y:=by
 induction e generalizing y with
 |nil=>cases a;rfl
 |@cons kd k v f vs h1 _ d=>
  cases a with
  |cons b c=>rw[(kd 0).inj h1 b,d c]
theorem cO.keeps{h h':ao}{d:ae}{o:aw}{es ep} (a:h.get? d=some o) (e:o.data=.dict es ep) (hs:Heap.SameBut d h h'){kd:Nat->cb prog w K}{x:List K}{vs:List aa}(c:cO h kd x vs):cO h' kd x vs:=by
 induction c with
 |nil=>exact .nil
 |@cons kd k v f vs h1 _ b=>exact .cons ((kd 0).keeps h1 a e hs) b
def cu(kd:Nat->cb prog w K)(h:ao)(c:List K)(v:aa):Prop:=∃a o b n,v=.ref a/\h.get? a=some o/\o.cls=.type "tuple" /\ o.data=.seq b n/\cO h kd c b.toList
theorem cu.inj{kd:Nat->cb prog w K}{h:ao}{v:aa}{x y:List K}(k:cu kd h x v)(i:cu kd h y v):x=y:=by
 obtain⟨a,o,b,n,rfl,d,_,l,f⟩:=k;obtain⟨p,j,q,r,e,m,_,c,g⟩:=i;cases e;obtain rfl:o=j:=ZE (d.symm.trans m);rw[l]at c;injection c with h1 _
 subst h1;exact f.inj g
theorem cu.keeps{kd:Nat->cb prog w K}{h h':ao}{g:List K}{v:aa}{d:ae}{o:aw}{es ep} (x:cu kd h g v) (e:h.get? d=some o) (i:o.data=.dict es ep) (hs:Heap.SameBut d h h'):cu kd h' g v:=by
 obtain⟨a,f,b,n,rfl,j,l,c,k⟩:=x;have m:a≠d:=by
  rintro rfl;obtain rfl:f=o:=ZE (j.symm.trans e);rw[i]at c;exact nomatch c
 exact⟨a,f,b,n,rfl,(hs.2 a m).trans j,l,c,k.keeps e i hs⟩
def JK(kd:Nat->cb prog w K)(a:List K):Int:=reduceHash (Builtin.Tuple.tupleHashOf (oh kd a))
theorem xB7{kd:Nat->cb prog w K}{l:Nat}(J:∀i,(kd i).lvl<=l){c:List K}{v:aa}{Q:Int->ab->Prop}(M:A.units+(l+1)<cLine)(hk:cu kd s.heap c v)(h:Q (JK kd c) {s with toks:=s.toks+(tF kd c+1)}):
  af (ah prog w) A (pyHash v) Q E s:=by
 obtain⟨a,o,q,n,rfl,C,I,L,H⟩:=hk;have j:s.TypeIs (.ref a) "tuple":=⟨o,C,I⟩;unfold pyHash
 first|unfold pyHashByItsType|skip
 first|refine Za (Uw (.inr (eO M)) ?_)|skip
 refine Za (XE j Wz.lookup ?_);show af _ _ (if(some (Value.builtin "tuple.__hash__")==some Value.none)=true then _ else _) Q E s;rw[Zi (by rw[beq_builtin_none];exact Zv)];refine Za (XE j Wz.lookup ?_);show af _ _ (callSpecialIfBoundUnlessNone? (.ref a) "__hash__" _ >>= _) Q E s;refine Za (Wv j Wz (Z2 Wz j F.entry_tuple_hash ?_ (F.args_tuple_hash_1 _)));show af _ _ (Builtin.Tuple.tupleItemsOf (.ref a) >>= _) _ _ s;refine Za (Uf C L ?_);refine Za ?_;rw[<- W9];refine Wh _
  (λe (b:Array Int) y=>∃(d:Nat->cb prog w K)(left:List K)(t:Nat),(∀i,(d i).lvl<=l)/\cO s.heap d left e/\b.toList++oh d left=oh kd c/\y={s with toks:=t}/\t+tF d left=s.toks+tF kd c)
  _ ?_ ?_ _ _ ⟨kd,c,s.toks,J,H,rfl,rfl,rfl⟩
 ·rintro x e b y ⟨d,left,t,g,u,hb,rfl,r⟩;cases u with
  |@cons _ k _ m _ h1 G=>
   refine Za ((d 0).pyHash ?_ h1 ?_)
   ·have:=g 0;show A.units+1+(d 0).lvl<cLine;lia
   ·have D:(b.push ((d 0).hash k)).toList++oh (λi=>d (i+1)) m=oh kd c:=by rw[<- hb];simp[oh]
    have B:t+(d 0).draws k+tF (λi=>d (i+1)) m=s.toks+tF kd c:=by rw[<- r];simp[tF,W0]
    first
     |exact Zb ⟨_,m,_,λi=>g (i+1),G,D,rfl,B⟩
     |exact Za (Zb (Zb ⟨_,m,_,λi=>g (i+1),G,D,rfl,B⟩))
 ·rintro b y ⟨d,left,t,g,u,hb,rfl,r⟩;cases u;have N:b.toList=oh kd c:=by rw[<- hb];simp[oh]
  have p:t=s.toks+tF kd c:=by rw[<- r];rfl
  subst p;show af _ _ (retInt (Builtin.Tuple.tupleHashOf b.toList)) _ _ _;rw[N];refine VT ?_;show af _ _ (if(decide (-(2:Int)^63<=Builtin.Tuple.tupleHashOf (oh kd c))&&decide (Builtin.Tuple.tupleHashOf (oh kd c)<2^63))=true then _ else _) Q E _;unfold JK reduceHash at h;by_cases f:(decide (-(2:Int)^63<=Builtin.Tuple.tupleHashOf (oh kd c))&&decide (Builtin.Tuple.tupleHashOf (oh kd c)<2^63))=true
  ·rw[Zk f];rw[Zk f]at h;exact Zb (by simpa[W0]using h)
  ·rw[Zi f];rw[Zi f]at h;exact Za (Y8 (Zb (by simpa[W0]using h)))
theorem xn1{kd:Nat->cb prog w K}{l:Nat}(Y:∀i,(kd i).lvl<=l)(hu:A.units+l<cLine){x y:List K}{a b:ae}{P:Fin->ab->Prop}(S:cu kd s.heap x (.ref a))(Z:cu kd s.heap y (.ref b))(h:P (.done (.ret (.bool (decide (x=y))))) s):
  af (ah prog w) A (Builtin.«tuple.__eq__» ⟨[.ref a,.ref b],[]⟩) P E s:=by
 obtain⟨a',oa,j,na,ea,Q,_,V,X⟩:=S;obtain⟨b',ob,q,nb,R,M,F,vR,Eb⟩:=Z;cases ea;cases R;have G:s.TypeIs (.ref b) "tuple":=⟨ob,M,F⟩;show af _ _ (isInstance (.ref b) (.type "tuple") >>= _) _ _ s;refine Za (Wj G isSubtype_tuple_tuple ?_);simp only[Y0,Zt,ZX];refine Za (Uf Q V ?_);refine Za (Uf M vR ?_);refine Za ?_;refine Wh _
  (λc r t=>r.1=none/\t=s/\∃(e:Nat->cb prog w K)(m p:List K)(f g:List aa),c=List.zip f g/\(∀i,(e i).lvl<=l)/\cO s.heap e m f/\cO s.heap e p g/\decide (m=p)=decide (x=y)/\(f.length==g.length)=(j.size==q.size))
  _ ?_ ?_ _ _ ⟨rfl,rfl,kd,x,y,j.toList,q.toList,rfl,Y,X,Eb,rfl,by simp⟩
 ·rintro⟨u,v⟩ c r t ⟨B,rfl,e,m,p,f,g,d,C,D,n,k,H⟩;cases D with
  |nil=>simp at d
  |@cons _ L u' N W h1 MF=>
   cases n with
   |nil=>simp at d
   |@cons _ O v' I T h2 MD=>
    simp only[Ug,XV,WW]at d;obtain⟨⟨rfl,rfl⟩,rfl⟩:=d;refine Za ((e 0).eqBool (x:=L) (y:=O) (by have:=C 0;lia) h1 h2 ?_);by_cases hk:L=O
    ·subst hk;rw[Zo rfl];simp only[Y0,Zt,ZX];refine Zb ⟨rfl,rfl,_,N,I,W,T,rfl,λi=>C (i+1),MF,MD,?_,by simpa using H⟩;rw[<- k];by_cases J:N=I
     ·simp[J]
     ·simp[J]
    ·rw[Zm hk];simp only[Ub,Xh];have hf:decide (x=y)=false:=by rw[<- k];simp[hk]
     rw[hf]at h;exact Za (Zb (Zb (Zb h)))
 ·rintro⟨r1,r2⟩ t ⟨B,rfl,e,m,p,f,g,d,C,D,n,k,H⟩;simp only at B;subst B;refine Zb ?_;have U:(j.size==q.size)=decide (x=y):=by
   rw[<- k,<- H];cases D with
   |nil=>
    cases n with
    |nil=>simp
    |cons _ _=>simp
   |cons _ _=>
    cases n with
    |nil=>simp
    |cons _ _=>simp at d
  show P (.done (.ret (.bool (j.size==q.size)))) t;rw[U];exact h
theorem cu.typeIs{kd:Nat->cb prog w K}{d:List K}{a:ae}(x:cu kd s.heap d (.ref a)):s.TypeIs (.ref a) "tuple":=by
 obtain⟨f,o,_,_,e,b,c,_⟩:=x;cases e;exact⟨o,b,c⟩
theorem xB8{kd:Nat->cb prog w K}{l:Nat}(g:∀i,(kd i).lvl<=l){x y:List K}{v u:aa}{Q:Bool->ab->Prop}(j:A.units+(l+1)<cLine)(c:cu kd s.heap x v)(d:cu kd s.heap y u)(h:Q (decide (x=y)) s):
  af (ah prog w) A (eqBool v u) Q E s:=by
 obtain⟨a,rfl⟩:∃a,v=.ref a:=let ⟨a,_,_,_,e,_⟩:=c;⟨a,e⟩;obtain⟨b,rfl⟩:∃a,u=.ref a:=let ⟨a,_,_,_,e,_⟩:=d;⟨a,e⟩;unfold eqBool
 try with_reducible refine ZY ?_
 show af _ _ (if(Value.ref a==Value.ref b)=true then _ else _) Q E s;by_cases f:(Value.ref a==Value.ref b)=true
 ·rw[Zk f];have e:a=b:=by have:=eq_of_beq f;injection this
  subst e;obtain rfl:=c.inj d;exact Za (Y8 (Zb (by simpa using h)))
 ·rw[Zi f];exact Za (wpAny_richCompare_same_room (op:=.Eq) c.typeIs d.typeIs F.slot_tuple_eq
   (Z2 F.slot_tuple_eq c.typeIs F.entry_tuple_eq (xn1 g (by show A.units+1+l<cLine;lia) c d ⟨_,rfl,(λe=>nomatch e),Yc h⟩) (F.args_tuple_eq_2 _ _)) (eO j))
theorem xL8{kd:Nat->cb prog w K}{l n:Nat}(y:∀i,(kd i).lvl<=l)(t:l<=n){k:List K}{v:aa}{Q:Bool->ab->Prop}(hk:cu kd s.heap k v)(h:Q true s):af (ah prog w) A (eqIsQuiet (n+1) v) Q E s:=by
 obtain⟨a,o,c,m,rfl,p,u,B,q⟩:=hk;have j:s.TypeIs (.ref a) "tuple":=⟨o,p,u⟩;unfold eqIsQuiet;refine Za (XE j F.slot_tuple_eq.lookup ?_);show af _ _ (isInstance (.ref a) (.type "tuple") >>= _) _ _ s;refine Za (Wj j isSubtype_tuple_tuple ?_);simp only[Y0,Zt,ZX];refine Za (Wg p B ?_);refine Za ?_;show af _ _ (forIn c _ _) _ _ s;rw[<- W9];refine Wh _ (λb r f=>r.1=none/\f=s/\∃(d:Nat->cb prog w K)(left:List K),(∀i,(d i).lvl<=l)/\cO s.heap d left b) _ ?_ ?_ _ _ ⟨rfl,rfl,kd,k,y,q⟩
 ·rintro v b r f ⟨e,rfl,d,left,g,x⟩;cases x with
  |cons h1 C=>
   refine Za ((d 0).quiet (ZF (g 0) t) h1 ?_);simp only[Y0,Zt,ZX];exact Zb ⟨rfl,rfl,_,_,λi=>g (i+1),C⟩
 ·rintro⟨G,D⟩ f ⟨e,rfl,_⟩;simp only at e;subst e;exact Zb h
def posK(kd:Nat->cb prog w K)(l:Nat)(a:∀i,(kd i).lvl<=l):cb prog w (List K) where
 is:=cu kd
 hash:=JK kd
 draws ks:=tF kd ks+1
 lvl:=l+1
 inj:=cu.inj
 keeps:=cu.keeps
 pyHash:=λb hk h=>xB7 a b hk h
 eqBool:=λb c d h=>xB8 a b c d h
 quiet:=λ{n} _ _ _ _ _ _ e hk h=>by
  obtain⟨m,rfl⟩:∃m,n=m+1:=⟨n-1,by lia⟩;exact xL8 a 'a' hk h
def cb.hk(b:cb prog w K)(h8:b.lvl<=8):HeapKind prog w K where
 is h k a:=b.is h k (.ref a)
 hash:=b.hash
 draws:=b.draws
 room A:=A.units+b.lvl<cLine
 inj:=b.inj
 keeps:=b.keeps
 pyHash:=λc hk h=>b.pyHash c hk h
 eqBool:=λc e d h=>b.eqBool c e d h
 quiet:=λhk h=>b.quiet h8 hk h
end
structure A5(K:Type)[DecidableEq K] where
 knd:∀(P:ag)(w:ai),cb P w K
 tl:Hp->K->ae->Prop
 lv:Nat
 l8:∀P w,(knd P w).lvl=lv
 h8:lv<=8
 of:∀{P:ag}{w:ai}{H:Hp}{h:ao}{k:K}{b:ae},dJ P w H h->tl H k b->(knd P w).is h k (.ref b)
 mono:∀{H H':Hp}{k:K}{b:ae},(∀b xs,H b=some (.tup xs)->H' b=some (.tup xs))->tl H k b->tl H' k b
section
variable{K:Type}[DecidableEq K](nk:A5 K)
def A5.hk(P:ag)(w:ai):HeapKind P w K:=(nk.knd P w).hk (by rw[nk.l8];exact nk.h8)
def JJ(P:ag)(w:ai)(a:ae)(xs:List (K×ae×aa)):ao->Prop:=λh=>∃o b c,h.get? a=some o/\o.ExactDict/\o.data=.dict b c/\b.toList=xs.map (entryOfKey (nk.hk P w))/\(xs.map (·.1)).Nodup
abbrev KN(H:Hp):List (K×V)->List (K×ae×aa)->Prop:=Paired λp q=>p.1=q.1/\nk.tl H p.1 q.2.1/\RelV p.2 q.2.2
def c8(P:ag)(w:ai)(H:Hp)(a:ae)(kvs:List (K×V)):Prop:=∃b,H a=some (.ext (JJ nk P w a b))/\KN nk H kvs b/\kvs.length<=sizeLine/\(a==sysModules)=false
variable{nk}
theorem KN.val{H:Hp}{kvs:List (K×V)}{xs:List (K×ae×aa)}(r:KN nk H kvs xs)(k:K):dG (b_ kvs k) ((atKey xs k).map (·.2)):=by
 induction r with
 |nil=>exact True.intro
 |@cons p q g c h t f=>
  obtain⟨h1,_,d⟩:=h;by_cases e:p.1=k
  ·have a:q.1=k:=h1.symm.trans e;have b:atKey (q::c) k=some q.2:=by simp[atKey,XD,a]
   rw[om e,b];exact d
  ·have a:¬q.1=k:=λz=>e (h1.trans z);have b:atKey (q::c) k=atKey c k:=by simp[atKey,XD,a]
   rw[oj e,b];exact f
theorem KN.pY{H:Hp}{kvs:List (K×V)}{xs:List (K×ae×aa)}(r:KN nk H kvs xs)(k:K){y:V}{u:aa}(d:RelV y u):
  KN nk H (kvs.map λkv=>if kv.1=k then(kv.1,y)else kv) (xs.map (putAt k u)):=by
 induction r with
 |nil=>exact .nil
 |@cons p q g f h t c=>
  rw[ZB,ZB];refine .cons ?_ c;obtain⟨h1,a,b⟩:=h;unfold putAt;by_cases e:p.1=k
  ·rw[Zk e,Zk (h1.symm.trans e)];exact⟨h1,a,d⟩
  ·rw[Zi e,Zi (λz=>e (h1.trans z))];exact⟨h1,a,b⟩
theorem KN.put{H:Hp}{kvs:List (K×V)}{xs:List (K×ae×aa)}(r:KN nk H kvs xs)(k:K){b:ae}{y:V}{u:aa}(hb:nk.tl H k b)(a:RelV y u):KN nk H (putK kvs k y) (storedH xs k b u):=by
 have e:(kvs.any λkv=>decide (kv.1=k))=(atKey xs k).isSome:=by
  rw[o8,(r.val k).cS,Wx]
 unfold putK storedH;rw[e];by_cases q:(atKey xs k).isSome=true
 ·rw[Zk q,Zk q];exact r.pY k a
 ·rw[Zi q,Zi q];exact Paired.snoc r ⟨rfl,hb,a⟩
theorem c8.mono{P:ag}{w:ai}{H d:Hp}{a:ae}{kvs:List (K×V)}(h:c8 nk P w H a kvs)(i:∀b c,H b=some (.tup c)->d b=some (.tup c))(g:∀o,H a=some o->d a=some o):c8 nk P w d a kvs:=by
 obtain⟨c,h1,f,e⟩:=h;exact⟨c,g _ h1,Paired.qH f λ_ _ z=>⟨z.1,nk.mono i z.2.1,z.2.2⟩,e⟩
theorem KZ{P:ag}{w:ai}{H:Hp}{h:ao}{a:ae}{kvs:List (K×V)}(ok:dJ P w H h)(e:c8 nk P w H a kvs):kvs.length<=sizeLine/\(a==sysModules)=false/\∃c,KN nk H kvs c/\h.DictOfH (nk.hk P w) a c:=by
 obtain⟨c,h1,r,z,y⟩:=e;obtain⟨⟨o,g,i,n,s,j,f,k⟩,_⟩:=(show bo P w H h a (.ext _)from ok a _ h1);refine⟨z,y,c,r,o,g,i,n,s,j,f,λx b=>?_,k⟩;have all:∀{l:List (K×V)}{m:List (K×ae×aa)},KN nk H l m->∀x∈m,(nk.hk P w).is h x.1 x.2.1:=by
  intro l m q
  induction q with
  |nil=>intro x b;exact nomatch b
  |@cons p q v A d t u=>
   intro x b;rcases Zu.mp b with e|b
   ·subst e;exact nk.of ok (by rw[<- d.1];exact d.2.1)
   ·exact u x b
 exact all r x b
section
variable{X:Cx}
theorem JI{A:aj}{P:ag}{w:ai}(a:A.units+10<cLine):(nk.hk P w).room A.in1:=by
 show A.units+1+(nk.knd P w).lvl<cLine;rw[nk.l8];have:=nk.h8;lia
inductive lB(nk:A5 K)(X:Cx)(x:V)(y:V)(H:Hp)(Q:VK):Prop
 |mk(a b:ae)(k:K)(kvs:List (K×V))(aT:x=.ref b)(cV:y=.ref a)(cw:c8 nk X.prog X.w H a kvs)(aR:nk.tl H k b)(zF:Q (.bl (!(b_ kvs k).isSome)) H)
theorem xd1(j:X.A.units+10<cLine):eJ X (compareOp .NotIn) (lB nk X):=by
 intro r s p H x y v u Q I i g h;obtain⟨a,b,k,d,rfl,rfl,f,hb,q⟩:=h;cases(show v=Value.ref b from i);cases(show u=Value.ref a from g);obtain⟨z,l,n,c,m⟩:=KZ I.aO f;refine wpAny_notIn_heap (JI j) (nk.of I.aO hb) l m ?_;have e:=(c.val k).cS;rw[Wx]at e;rw[<- e];exact⟨.bl _,H,I.tok _,rfl,q⟩
inductive oQ(nk:A5 K)(X:Cx)(x:V)(y:V)(H:Hp)(Q:VK):Prop
 |mk(a b:ae)(k:K)(kvs:List (K×V))(v:V)(aT:x=.ref a)(cV:y=.ref b)(cw:c8 nk X.prog X.w H a kvs)(aR:nk.tl H k b)(zF:b_ kvs k=some v)(EK:Q v H)
theorem xC1(D:X.A.units+10<cLine):nX X (oQ nk X):=by
 intro d e F s E H x y v u Q I B A h n;obtain⟨a,b,k,i,z,rfl,rfl,m,hb,C,q⟩:=h;cases(show v=Value.ref a from B);cases(show u=Value.ref b from A);obtain⟨_,G,g,c,f⟩:=KZ I.aO m;obtain⟨l,t,r⟩:=dG.some_of (v:=z) (o:=(atKey g k).map (·.2)) (by rw[<- C];exact c.val k);obtain⟨p,j,w⟩:=Zl.mp t;refine Vi (x:=l) f.typeIs Um.lookup (wpAny_getItem_heap (JI D) (nk.of I.aO hb) f j ?_) n;rw[w];exact⟨rfl,z,H,I.tok _,r,q⟩
theorem xn2(T:X.A.units+10<cLine):zP X (λo i v H Q=>∃(a b:ae)(k:K)(d:List (K×V)),o=.ref a/\i=.ref b/\c8 nk X.prog X.w H a d/\nk.tl H k b/\d.length<sizeLine/\∀m,(∀c u,H c=some u->c≠a->m c=some u)->c8 nk X.prog X.w m a (putK d k v)->Q m):=by
 intro j8 s σ H o i v E w u Q I J M y h;obtain⟨a,b,k,d,rfl,rfl,t,hb,R,q⟩:=h;cases(show E=Value.ref a from J);cases(show w=Value.ref b from M);obtain⟨z,W,r,f,dd⟩:=KZ I.aO t;obtain⟨_,e,_⟩:=id t;have C:r.length<=sizeLine:=by rw[<- Yx f];exact z
 have jI:(putK d k v).length<=sizeLine:=by have:=Gr d k v;exact yO R this
 have ht:∀{ob:HO}(c:ae) (l:List V),H c=some (.tup l)->upd H a ob c=some (.tup l):=λc l g=>by
  rw[bV (Aq g e (λz=>nomatch z))];exact g
 refine wpAny_setItem_heap (hsz:=C) (JI T) (nk.of I.aO hb) dd λh' A F=>⟨upd H a (.ext (JJ nk X.prog X.w a (storedH r k b u))),?_,q _ (λc u g n=>by rw[bV n];exact g) ⟨_,aX,Paired.qH (f.put k hb y) λ_ _ z=>⟨z.1,nk.mono ht z.2.1,z.2.2⟩,jI,W⟩⟩;obtain⟨p,D,G,j,Z,B,S,_,Y⟩:=A;refine Hc I (by rw[e];exact True.intro) F ⟨p,j⟩ ⟨⟨p,D,G,j,Z,B,S,Y⟩,⟨p,j⟩,λh1 h2' ⟨N,x,L,O,P⟩ U=>⟨N,x,L,U _ O,P⟩⟩
def xL9(P:ag)(w:ai)(nk:A5 K):TE:=λ_ H Q=>∀p,H p=none->∀a,(∀c u,H c=some u->a c=some u)->a p≠none->c8 nk P w a p []->Q (.ref p) a
theorem xn3{d:aC}:PE X (.Dict [] [] d) (xL9 X.prog X.w nk):=λp s n H Q I h=>by
 have b:=I.aO.fresh (Zd s.heap.objs.size);refine wpAny_Dict_empty ⟨.ref s.heap.objs.size,upd H s.heap.objs.size (.ext (JJ nk X.prog X.w s.heap.objs.size [])),?_,rfl,h _ b _ (λc u e=>by rw[bV (cI e b)];exact e) (by rw[aX];exact λz=>nomatch z) ⟨[],aX,.nil,Zs _,Xf.mpr (YE (Zy I.big))⟩⟩;exact I.laid (a:=s.heap.objs.size) (t':=s.toks) (λ_ _ q=>Zc _ q) (Zd _) ⟨⟨_,#[],0,Zj _ rfl,⟨rfl,rfl,rfl⟩,rfl,rfl,Xv⟩,⟨_,Zj _ rfl⟩,λh1 m ⟨j,f,g,i,k⟩ l=>⟨j,f,g,l _ i,k⟩⟩
end
end
def xM0{prog:ag}{w:ai}{K:Type}[DecidableEq K](knd:KeyKind prog w K):cb prog w K where
 is _ k v:=knd.is k v=true
 hash:=knd.hash
 draws _:=1
 lvl:=0
 inj:=λh a=>knd.inj _ _ _ h a
 keeps:=λh _ _ _=>h
 pyHash:=λ_ h q=>knd.pyHash h q
 eqBool:=λ_ h a q=>knd.eqBool h a q
 quiet:=λ_ h q=>by
  rw[eqIsQuiet_byValue _ (knd.byValue _ _ h)];exact Zb q
def eh(b:Bool):Key:=Sum.inl (if b then 1 else 0)
theorem RY{a b:Bool}(h:eh a=eh b):a=b:=by
 cases a<;>cases b<;>first|rfl|(exact absurd (Wl h) 'b')
theorem xM1(s:ab)(b:Bool):s.TypeIs (.bool b) "bool":=by
 first|rfl|trivial|exact⟨⟩
theorem xd2{b:Bool}{Q:Int->ab->Prop}(h:Q (if b then 1 else 0) {s with toks:=s.toks+1}):af (ah prog w) A (pyHash (.bool b)) Q E s:=by
 have a:=xM1 s b;unfold pyHash
 first|unfold pyHashByItsType|skip
 first|refine Za (Uw (.inl (by rfl)) ?_)|refine Za (Uw (.inl 'b') ?_)|skip
 refine Za (XE a VH.lookup ?_);show af _ _ (if(some (Value.builtin "int.__hash__")==some Value.none)=true then _ else _) Q E s;rw[Zi (by rw[beq_builtin_none];exact Zv)];refine Za (XE a VH.lookup ?_);show af _ _ (callSpecialIfBoundUnlessNone? (.bool b) "__hash__" _ >>= _) Q E s;refine Za (Wv a VH (Z2 VH a entry_int_hash ?_ (args_int_hash _)));cases b
 ·refine VT ?_;show af _ _ (pyHashByItsType.reduced 0) Q E _;exact WG (show pyHashByItsType.reduced 0=pure 0 from rfl) h
 ·refine VT ?_;show af _ _ (pyHashByItsType.reduced 1) Q E _;exact WG (show pyHashByItsType.reduced 1=pure 1 from rfl) h
theorem xn4{a b:Bool}{Q:Bool->ab->Prop}(h:Q (decide (a=b)) s):af (ah prog w) A (eqBool (.bool a) (.bool b)) Q E s:=by
 unfold eqBool
 try with_reducible refine ZY ?_
 by_cases e:a=b
 ·subst e;rw[Zk (by simp)];exact Za (Y8 (Zb (by simpa using h)))
 ·rw[Zi (by cases a<;>cases b<;>first|exact absurd rfl e|decide)];have c:=h;rw[show decide (a=b)=(a==b) by cases a<;>cases b<;>rfl]at c;exact Za (eq_bool (Yc c))
def blK:cb prog w Key where
 is _ k v:=∃b,k=eh b/\v=.bool b
 hash k:=match k with|.inl i=>i|.inr _=>0
 draws _:=1
 lvl:=0
 inj:=λ⟨b,e,h⟩ ⟨d,c,a⟩=>by rw[h]at a;cases a;rw[e,c]
 keeps:=λh _ _ _=>h
 pyHash:=λ_ ⟨b,e,h⟩ q=>by
  subst e h;exact xd2 q
 eqBool:=λ_ ⟨b,e,h⟩ ⟨d,c,a⟩ q=>by
  subst e c h a;refine xn4 ?_;have:decide (eh b=eh d)=decide (b=d):=by
   rw[YG];exact⟨RY,λz=>by rw[z]⟩
  rw[<- this];exact q
 quiet:=λ_ ⟨b,e,h⟩ q=>by
  subst h;rw[eqIsQuiet_byValue _ rfl];exact Zb q
def xS9(P:ag)(w:ai):cb P w (List Key):=posK (λi=>if i<2 then xM0 (g_ P w)else blK) 0 (λi=>by split<;>exact Zd _)
def zL:A5 (List Key) where
 knd:=xS9
 tl H k b:=∃(x y:Int)(d:Bool),k=[.inl x,.inl y,eh d]/\H b=some (.tup [.int x,.int y,.bl d])
 lv:=1
 l8:=λ_ _=>rfl
 h8:=by decide
 of:=by
  rintro P w H h k b ok ⟨x,y,d,rfl,hb⟩;obtain⟨_,q,r,o,h1,n,m,g⟩:=(show bo P w H h b (.tup [.int x,.int y,.bl d])from ok b _ hb);cases r with
  |cons j l=>
   cases l with
   |cons c a=>
    cases a with
    |cons f p=>
     cases p;refine⟨b,o,_,m.1,rfl,h1,n,g,?_⟩;exact .cons (vy (k:=.inl x) j) (.cons (vy (k:=.inl y) c) (.cons ⟨d,rfl,f⟩ .nil))
 mono:=λi ⟨x,y,d,e,h⟩=>⟨x,y,d,e,i _ _ h⟩
end L2
namespace L2
open PySem
theorem NY{X:Cx}{e:av}{ta:TE}{f:ar}{a:aC}(K:PySem.W.Frag)(h:X.K=K)(b:PE X e ta)(hb:attributeBase e f X.env (eval e X.env)=eval e X.env):PE X (.Attribute e f a) (Bi K ta f):=h▸yb b hb
end L2
namespace Pr
open PySem L2 Qf
def zM(rp b a:ae):List (ar×V):=[("rows",.ref rp),("corners",.ref b),("known",.ref a)]
structure uO(K:PySem.W.Frag)(C:ae):Prop where
 cls:sj K C
 rows:cG K C "rows"
 gX:cG K C "corners"
 known:cG K C "known"
theorem Ka:aI ["four"] ["four"] (ck Cd):=dz
inductive Bn(vs:List V)(H:Hp)(Q:VK):Prop
 |mk(q:ae)(a b c d:Nat)(e0:vs=[.ref q])(e1:H q=some (.tup (vN [a,b,c,d])))(e2:∀p,H p=none->Q (.ref p) (upd H p (.tup (vN [a,c,b,d]))))
def Bo:Sp:=λa H Q _=>Bn a H Q
theorem xT0{f:ae}{i:ak}(F:bj K "turned_about" "turned_about" Cd f i):aE P w K mg base aW 1 f i ["four"] Bo:=by
 refine F.ok Ka (λl H Q E h=>?_) (λn A g s H l Q E m h=>?_)
 ·obtain⟨q,a,b,c,d,rfl,_⟩:=h
  rfl
 ·obtain⟨q,a,b,c,d,rfl,e,k⟩:=h;refine fZ ⟨_,⟨cQ (@eM _ _ _ _ _ (bJ.go (.cons ⟨cW bf (pv 0) aV⟩ (.cons ⟨cW bf (pv 0) aV⟩ (.cons ⟨cW bf (pv 0) aV⟩ (.cons ⟨cW bf (pv 0) aV⟩ .nil rfl) rfl) rfl) rfl)))⟩,?_⟩;exact⟨_,rfl,q,_,0,.int (a:Nat),rfl,rfl,bg.of e,rfl,_,rfl,q,_,2,.int (c:Nat),rfl,rfl,bg.of e,rfl,_,rfl,q,_,1,.int (b:Nat),rfl,rfl,bg.of e,rfl,_,rfl,q,_,3,.int (d:Nat),rfl,rfl,bg.of e,rfl,(by show 4<=sizeLine;decide),λp j=>k p j⟩
abbrev ft:List ar:=["self","four"]
theorem uU:aI ft ft (ck x_):=dz
inductive xK(C:ae)(vs:List V)(H:Hp)(Q:VK):Prop
 |mk(ac q dx rp cp kn:ae)(rows:List Row)(n a b c d:Nat)(e0:vs=[.ref ac,.ref q])(e1:H ac=some (.ins C dx (zM rp cp kn)))(e2:lU H cp rows n)(e3:H q=some (.tup (vN [a,b,c,d])))(e4:∀x∈[a,b,c,d],x<n+2)
  (e5:∀H',aG H H'->Q (.int (iB ⟨T rows a,T rows b,T rows c,T rows d⟩)) H')
def JH(C:ae):Sp:=λa H Q _=>xK C a H Q
theorem Pf{f C:ae}{R:ak}(F:bj K "in_the_middle" "Account.in_the_middle" x_ f R)(L:uO K C)(B:eR mg):aE P w K mg base aW 1 f R ft (JH C):=by
 refine F.ok uU (λvs H Q E h=>?_) (λcA A i s H vs Q E hr h=>?_)
 ·obtain⟨S,q,M,rp,v,X,rows,n,a,b,c,d,rfl,_⟩:=h
  rfl
 ·obtain⟨S,q,M,rp,v,X,rows,n,a,b,c,d,rfl,Y,Z,J,W,k⟩:=h;refine fZ ⟨_,⟨cQ (hV Ce (by rfl) B.int Xk (aF (bU.go ⟨dH (Kr rfl) (by rfl) B.all VB (aF (FZ ft (ck x_) rfl rfl rfl uU.nd (Lp (by rfl) B.enum (aF (pv 1) aQ)) (λcl C fp aM aN=>bU.go ⟨cW (uu K rfl) (bU.go ⟨cW (AF K rfl) (NY K rfl (pv 2) rfl) (pv 1)⟩) (a_ gA aV (pv 0))⟩)) aQ)⟩) aQ))⟩,?_⟩;obtain⟨cs,wI,p,HK⟩:=id Z;refine⟨_,rfl,q,rfl,⟨_,bg.of J⟩,λD2 U=>Gn U (λ_=>true) (λj=>.bl (dr (T rows ([a,b,c,d].getD j 0)) (3-j))) (Ko (K:=K) J) (by rw[jn];show 4<sizeLine;decide) ?_ ?_⟩
  ·rintro j x g hj ⟨t,y,rfl,hy,ht⟩ e os ho Q1 Q2 q1 I;obtain⟨o1,o2,rfl⟩:=L2.AB ho;obtain⟨m,l,rfl⟩:=x8 hy;have Nh:j<4:=(cz l).1;have D:[a,b,c,d].getD j 0=m:=by rw[ZD,l];rfl
   have u:=W m (ZH l);have r:cs[m]?=some (cs[m]'(ki u p)):=Ze (ki u p);have G:=e _ _ (HK m _ r);generalize cs[m]'(ki u p)=N at r G;rw[D]at I;refine⟨t,_,rfl,bg.of ht,rfl,_,_,rfl,_,_,rfl,rfl,?_⟩;refine cM (B:=Q1 g) ?_;refine⟨_,rfl,S,C,M,_,.ref v,rfl,e _ _ Y,L.cls,L.gX,rfl,_,rfl,v,_,(m:Int),.ref N,rfl,rfl,cq.of (e _ _ wI),oY (by rw[Zh,r];rfl),_,rfl,_,_,rfl,rfl,N,_,3-(j:Int),.bl (dr (T rows m) (3-j)),rfl,rfl,bg.of G,?_,I rfl _ (aG.refl _)⟩
   match j,Nh with
   |0,_|1,_|2,_|3,_=>rfl
  ·intro g e O;have ev:(((List.range (vN [a,b,c,d]).length).filter λ_=>true).map λj=>V.bl (dr (T rows ([a,b,c,d].getD j 0)) (3-j)))=([dr (T rows a) 3,dr (T rows b) 2,dr (T rows c) 1,dr (T rows d) 0].map V.bl):=rfl;rw[ev]at O;refine⟨D2,_,rfl,O,.inr ⟨_,rfl,?_⟩⟩;have hk:=k g e;have D:iB ⟨T rows a,T rows b,T rows c,T rows d⟩=if([dr (T rows a) 3,dr (T rows b) 2,dr (T rows c) 1,dr (T rows d) 0].all id)=true then 1 else 0:=by
    unfold iB;simp only[List.all_cons,List.all_nil,id,Bool.and_true,Bool.and_assoc]
   rw[D]at hk;exact hk
structure c9(P:ag)(w:ai)(H:Hp)(C ac dx rp cp kn:ae)(rows:List Row)(kvs:List (List Key×V)):Prop where
 ob:H ac=some (.ins C dx (zM rp cp kn))
 zW:cf H rp rows
 cr:lU H cp rows rows.length
 nt:c8 zL P w H kn kvs
 rt:∀(x y:Nat)(up:Bool) v,x<rows.length+2->y<rows.length+2->b_ kvs [.inl (x:Nat),.inl (y:Nat),eh up]=some v->v=.int (dC 14 up (T rows x) (T rows y))
 nd:(kvs.map (·.1)).Nodup
 ks:∀k∈kvs.map (·.1),∃(x y:Nat)(up:Bool),x<rows.length+2/\y<rows.length+2/\k=[.inl (x:Nat),.inl (y:Nat),eh up]
inductive xS(P:ag)(w:ai)(C:ae)(m:Nat)(vs:List V)(H:Hp)(Q:VK):Prop
 |mk(ac dx rp cp kn:ae)(rows:List Row)(kvs:List (List Key×V))(x y:Nat)(up:Bool)(e0:vs=[.ref ac,.int (x:Nat),.int (y:Nat),.bl up])(e1:c9 P w H C ac dx rp cp kn rows kvs)(e2:dv rows/\rows.length<=1000)(e3:x<rows.length+2/\y<rows.length+2)(e4:Tr.dep (T rows x)<=m/\Tr.dep (T rows y)<=m/\m<=14)
  (e5:∀H' rf,bu kn H H'->c9 P w H' C ac dx rp cp kn rows rf->Q (.int (dC 14 up (T rows x) (T rows y))) H')
def JG(P:ag)(w:ai)(C:ae)(m:Nat):Sp:=λa H Q _=>xS P w C m a H Q
inductive Bv(P:ag)(w:ai)(C:ae)(m:Nat)(vs:List V)(H:Hp)(Q:VK):Prop
 |mk(ac dx rp cp kn q:ae)(rows:List Row)(kvs:List (List Key×V))(a b c d:Nat)(up:Bool)(e0:vs=[.ref ac,.ref q,.bl up])(e1:c9 P w H C ac dx rp cp kn rows kvs)(e2:dv rows/\rows.length<=1000)(e3:H q=some (.tup (vN [a,b,c,d])))(e4:∀x∈[a,b,c,d],x<rows.length+2/\Tr.dep (T rows x)<=m)(e5:m<=14)
  (e6:∀H' rf,bu kn H H'->c9 P w H' C ac dx rp cp kn rows rf->Q (.int (o9 14 up ⟨T rows a,T rows b,T rows c,T rows d⟩)) H')
def sX(P:ag)(w:ai)(C:ae)(m:Nat):Sp:=λa H Q _=>Bv P w C m a H Q
theorem c9.same{H g:Hp}{C a d rp f c:ae}{rows:List Row}{kvs:List (List Key×V)}(h:c9 P w H C a d rp f c rows kvs)(s:aG H g):c9 P w g C a d rp f c rows kvs:=
 ⟨s _ _ h.ob,h.zW.mono s.c_,h.cr.same s,h.nt.mono (λb i e=>s _ _ e) (λo e=>s _ _ e),h.rt,h.nd,h.ks⟩
abbrev nOv:List ar:=["self","four","is_upright","first","second","third","fourth"]
abbrev kg:List ar:=["self","four","is_upright"]
abbrev ow:List ar:=["self","one","other","is_upright"]
theorem pU:aI nOv kg (ck G5):=dz
theorem QH{f y fA C:ae}{Y D R:ak}{m k:Nat}(F:bj K "over_both" "Account.over_both" G5 f Y)(U:uO K C)(hT:mg "turned_about"=some (.ref y))(O:bj K "turned_about" "turned_about" Cd y D)(bT:Binds K D ["four"] [])
  (S:Meth K C "across" fA) (W:Binds K R ow []) (V:aE P w K mg base aW (k+1) fA R ow (JG P w C m)):aE P w K mg base aW (k+2) f Y kg (sX P w C m):=by
 have GT:aE P w K mg base aW 1 y D ["four"] Bo:=xT0 O;refine F.ok pU (λvs H Q E h=>?_) (λcA A G s H vs Q E v h=>?_)
 ·obtain⟨g,i,rp,r,l,q,rows,j,a,b,c,d,L,rfl,_⟩:=h
  rfl
 ·obtain⟨g,i,rp,r,l,q,rows,j,a,b,c,d,L,rfl,hA,t,T,e,u,q0⟩:=h;have jF:bh 1 _:=v.mono ub;refine aZ ⟨_,⟨sE (xj4 (l4 (pv 2)) (bU.go ⟨cF GT jF hT O.kp bT (aF (pv 1) aQ)⟩) (pv 1)) (qg rfl (gc (eD 3 pU.nd) (gc (eD 4 pU.nd) (gc (eD 5 pU.nd) (gc (eD 6 pU.nd) qh)))))⟩,?_⟩;refine fZ ⟨_,⟨cQ (a_ df (bU.go ⟨sG (pv 0) U.cls S V v W .nil mD (aF (pv 3) (aF (pv 4) (aF (pv 2) aQ)))⟩) (bU.go ⟨sG (pv 0) U.cls S V v W .nil mD (aF (pv 5) (aF (pv 6) (aF (pv 2) aQ)))⟩))⟩,?_⟩;refine⟨_,rfl,L,rfl,?_⟩;cases L with
  |true=>
   refine cM ?_;refine⟨_,rfl,q,a,b,c,d,rfl,T,λp hp=>⟨p,_,rfl,bg.of aX,rfl,_,_,rfl,_,_,rfl,_,_,rfl,_,_,rfl,rfl,?_⟩⟩;have Z:aG H (upd H p (.tup (vN [a,c,b,d]))):=bw hp;have X:=hA.same Z;refine As (σ':=[some (.ref g),some (.ref q),some (.bl true),some (.int (a:Nat)),some (.int (c:Nat)),some (.int (b:Nat)),some (.int (d:Nat))]) rfl ?_;refine⟨_,rfl,g,i,_,rfl,X.ob,rfl,_,rfl,_,rfl,_,rfl,g,i,rp,r,l,rows,j,a,c,true,rfl,X,t,⟨(e a (by simp)).1,(e c (by simp)).1⟩,⟨(e a (by simp)).2,(e c (by simp)).2,u⟩,λH2 B I n=>?_⟩;refine⟨_,rfl,g,i,_,rfl,n.ob,rfl,_,rfl,_,rfl,_,rfl,g,i,rp,r,l,rows,B,b,d,true,rfl,n,t,⟨(e b (by simp)).1,(e d (by simp)).1⟩,⟨(e b (by simp)).2,(e d (by simp)).2,u⟩,λM J x N=>?_⟩;exact⟨_,_,rfl,rfl,q0 M J ((bu.of Z).trans (I.trans x)) N⟩
  |false=>
   refine cJ ?_;refine⟨_,rfl,q,_,rfl,bg.of T,rfl,_,_,rfl,_,_,rfl,_,_,rfl,_,_,rfl,rfl,?_⟩;refine As (σ':=[some (.ref g),some (.ref q),some (.bl false),some (.int (a:Nat)),some (.int (b:Nat)),some (.int (c:Nat)),some (.int (d:Nat))]) rfl ?_;refine⟨_,rfl,g,i,_,rfl,hA.ob,rfl,_,rfl,_,rfl,_,rfl,g,i,rp,r,l,rows,j,a,b,false,rfl,hA,t,⟨(e a (by simp)).1,(e b (by simp)).1⟩,⟨(e a (by simp)).2,(e b (by simp)).2,u⟩,λH2 B I n=>?_⟩;refine⟨_,rfl,g,i,_,rfl,n.ob,rfl,_,rfl,_,rfl,_,rfl,g,i,rp,r,l,rows,B,c,d,false,rfl,n,t,⟨(e c (by simp)).1,(e d (by simp)).1⟩,⟨(e c (by simp)).2,(e d (by simp)).2,u⟩,λM J x N=>?_⟩;exact⟨_,_,rfl,rfl,q0 M J (id (I.trans x)) N⟩
end Pr
namespace Qf
open Tr
def iY(rows:List Row)(x:Nat):Row:=if x<2 then[x,x,x,x]else rows.getD (x-2) []
theorem xn5{rows:List Row}(ok:dv rows){x:Nat}(a:x<rows.length+2):(iY rows x).length=4:=by
 unfold iY;split
 ·rfl
 ·rename_i h;exact(ok (x-2) _ (BQ (qV a h))).1
theorem xC4{rows:List Row}(ok:dv rows){x i y:Nat}(b:x<rows.length+2)(h:(iY rows x)[i]?=some y):y<rows.length+2/\T rows y=qr i (T rows x)/\dp rows y<=dp rows x-1:=by
 unfold iY at h;split at h
 ·rename_i a;have c:y=x:=by
   match i,h with
   |0,h|1,h|2,h|3,h=>simpa using h.symm
   |i+4,h=>simp at h
  subst c;refine⟨b,?_,by rw[Lz a];exact qU⟩
  match y,a with
  |0,_=>rw[lZ];rfl
  |1,_=>rw[iZ];rfl
 ·rename_i a;have e:=BQ (rows:=rows) (p:=x-2) (qV b a);have f:i<4:=by
   have:=(ok _ _ e).1;have:=(cz h).1;lia
  have g:=(ok _ _ e).2 y (ZH h);refine⟨by lia,?_,?_⟩
  ·have:=Ow ok e f h;rw[show x-2+2=x from uj a]at this;exact this
  ·have d:=vx ok e;rw[show x-2+2=x from uj a]at d;have:=yr (ZU.mpr ⟨y,ZH h,rfl⟩:dp rows y∈(rows.getD (x-2) []).map (dp rows));lia
end Qf
namespace Pr
open PySem L2 Qf
theorem xT1:aI ["rows","number"] ["rows","number"] (ck Cz):=dz
def QG:Sp:=λc H Q _=>∃(rp:ae)(x:Nat)(rows:List Row),c=[.ref rp,.int (x:Nat)]/\gD H rp rows/\x<rows.length+2/\∀a b,aG H a->a b=some (.tup (vN (iY rows x)))->Q (.ref b) a
theorem xM4{f:ae}{j:ak}(F:bj K "quarters_of" "quarters_of" Cz f j)(n:oS mg):aE P w K mg base aW 1 f j ["rows","number"] QG:=by
 obtain⟨I,l⟩:=n.first;refine F.ok xT1 (λy H Q E h=>?_) (λG A e s H y Q E C h=>?_)
 ·obtain⟨rp,x,rows,rfl,_⟩:=h
  rfl
 ·obtain⟨rp,x,rows,rfl,⟨bs,hb,u,B⟩,D,q⟩:=h;refine aZ ⟨_,⟨fb (gB nE (pv 1) (gI (v:=.int 2) (by rfl) l ⟨_,rfl⟩) (dA _)) (dB (cQ (a_ G7 (eM (aF (pv 1) aQ)) aV))) fU⟩,?_⟩;refine fZ ⟨_,⟨cQ (cW xI6 (pv 0) (a_ gA (pv 1) (gI (v:=.int 2) (by rfl) l ⟨_,rfl⟩)))⟩,?_⟩;refine⟨_,rfl,_,_,rfl,rfl,_,rfl,?_⟩;refine c7 (λd=>?_) (λd=>?_)
  ·have g:x<2:=by have:=ZJ d;lia
   refine⟨_,rfl,(by show 1<=sizeLine;decide),λb m=>⟨b,4,_,rfl,rfl,aX,by decide,by decide,λp r=>q _ p ((bw m).trans (bw r)) ?_⟩⟩;rw[aX];unfold iY;rw[Zk g]
   rfl
  ·have g:¬x<2:=λz=>d (Zo 'a');have i:x-2<bs.length:=by lia
   have c:bs[x-2]?=some bs[x-2]:=Ze i;have t:=B _ _ _ c (BQ (oz i u));have ex:(x:Int)-2=((x-2:Nat):Int):=by lia
   refine⟨_,rfl,_,rfl,_,_,rfl,rfl,?_⟩;show Q9 _ (V.ref rp) (V.int ((x:Int)-2)) H _;rw[ex];have k:(bs.map V.ref)[x-2]?=some (.ref bs[x-2]):=by rw[Zh,c];rfl
   have a:Q (.ref bs[x-2]) H:=q H _ (aG.refl _) (by unfold iY;rw[Zi g];exact t);rcases hb with hb|hb
   ·exact .inr (.inl ⟨rp,_,_,_,rfl,rfl,bg.of hb,oY k,a⟩)
   ·exact .inl ⟨rp,_,_,_,rfl,rfl,cq.of hb,oY k,a⟩
end Pr
namespace L2
open PySem
section
variable{X:Cx}
def xT2(t:TS):TS:=λD c H=>∃J:St->Hp->Prop,t {D with nx:=J} c H/\∀a b,J a b->D.nx a b
theorem z_{st:aA}{t:TS}(h:PS X st t):PS X st (xT2 t):=by
 intro k s d H D I g;obtain⟨J,h1,c⟩:=g;refine Y7 (h k s d H _ I h1) (λf m a=>?_) λ_ _ e=>e;cases f with
 |next=>
  obtain⟨b,l,i,j⟩:=a;exact⟨b,l,i,c _ _ j⟩
 |brk=>exact a
 |cont=>exact a
 |ret u=>exact a
end
end L2
namespace Pr
open PySem L2 Qf
theorem SH{κ:Type}[DecidableEq κ]{kv:List (κ×V)}{k:κ}{v:V}(h:b_ kv k=none):putK kv k v=kv++[(k,v)]:=by
 unfold putK;rw[o8,h]
 rfl
theorem q24{κ:Type}[DecidableEq κ]{kv:List (κ×V)}{k:κ}(h:b_ kv k=none):k∉kv.map (·.1):=λb=>by
 have:=o8 k kv;rw[h]at this;obtain⟨q,c,rfl⟩:=ZU.mp b;have a:(kv.any λkv=>decide (kv.1=q.1))=true:=Ym.mpr ⟨q,c,Zo rfl⟩;rw[this]at a;cases a
theorem Tj{κ:Type}[DecidableEq κ]{kv:List (κ×V)}{k:κ}{v w:V}(h:b_ kv k=some w):(putK kv k v).map (·.1)=kv.map (·.1):=by
 unfold putK;rw[o8,h,Zk (show(some w).isSome=true from rfl),YL];refine YI λq _=>?_;show(if q.1=k then(q.1,v)else q).1=q.1;split<;>rfl
abbrev nAc:List ar:=["self","one","other","is_upright","key","mine","theirs","four"]
theorem n3:aI nAc ow (ck Gz):=dz
theorem QF{rows:List Row}{m x:Nat}(ok:dv rows)(t:x<rows.length+2)(f:Tr.dep (T rows x)<=m+1):∃h j n p,iY rows x=[h,j,n,p]/\(∀z∈[h,j,n,p],z<rows.length+2/\Tr.dep (T rows z)<=m)/\T rows h=qr 0 (T rows x)/\T rows j=qr 1 (T rows x)/\T rows n=qr 2 (T rows x)/\T rows p=qr 3 (T rows x):=by
 have s:=xn5 ok t;have e:=λi y=>xC4 ok (i:=i) (y:=y) t;generalize iY rows x=r at s e
 match r,s with
 |[a,b,c,d],_=>
  have k:=e 0 a rfl;have h1:=e 1 b rfl;have l:=e 2 c rfl;have g:=e 3 d rfl;refine⟨a,b,c,d,rfl,λz q=>?_,k.2.1,h1.2.1,l.2.1,g.2.1⟩;simp only[Zu,Yd,Wi]at q;rcases q with rfl|rfl|rfl|rfl
  ·exact⟨k.1,by rw[k.2.1];exact p6 'b' f⟩
  ·exact⟨h1.1,by rw[h1.2.1];exact p6 'b' f⟩
  ·exact⟨l.1,by rw[l.2.1];exact p6 'b' f⟩
  ·exact⟨g.1,by rw[g.2.1];exact p6 'b' f⟩
section
variable{H H':Hp}{C ac dx rp cp kn:ae}{rows:List Row}{kvs:List (List Key×V)}
theorem c9.gf(h:c9 P w H C ac dx rp cp kn rows kvs){q:ae}{vs:List V}(e:H q=some (.tup vs)):q≠kn:=λz=>by
 obtain⟨b,a,_⟩:=h.nt;rw[z,a]at e;cases e
theorem c9.N3(h:c9 P w H C ac dx rp cp kn rows kvs)(m:rows.length<=1000):kvs.length<sizeLine:=by
 have h1:=h.nd.length_le_of_subset (l₂:=(List.range (rows.length+2)).flatMap λx=>(List.range (rows.length+2)).flatMap λy=>[[.inl (x:Nat),.inl (y:Nat),eh true],[.inl (x:Nat),.inl (y:Nat),eh false]]) λk hk=>by
  obtain⟨x,y,d,j,e,rfl⟩:=h.ks k hk;refine List.mem_flatMap.mpr ⟨x,Yw.mpr j,List.mem_flatMap.mpr ⟨y,Yw.mpr e,?_⟩⟩;cases d<;>simp
 rw[Zg]at h1;have a:∀(n:Nat)(f:Nat->List (List Key))(c:Nat),(∀i,(f i).length=c)->((List.range n).flatMap f).length=n*c:=λn f c l=>by
  rw[List.length_flatMap,YI (g:=λ_=>c) λi _=>l i,List.map_const',List.sum_replicate_nat,YK]
 rw[a _ _ ((rows.length+2)*2) λi=>a _ _ 2 λ_=>rfl]at h1;have b:(rows.length+2)*((rows.length+2)*2)<=1002*(1002*2):=WJ 'a' 'a';exact Ys (ZF h1 b) 'b'
theorem c9.put(h:c9 P w H C ac dx rp cp kn rows kvs){x y:Nat}{f:Bool}(b:bu kn H H')(u:x<rows.length+2)(F:y<rows.length+2)(A:c8 zL P w H' kn (putK kvs [.inl (x:Nat),.inl (y:Nat),eh f] (.int (dC 14 f (T rows x) (T rows y))))):c9 P w H' C ac dx rp cp kn rows (putK kvs [.inl (x:Nat),.inl (y:Nat),eh f] (.int (dC 14 f (T rows x) (T rows y)))):=by
 have j:∀{q:ae}{o:HO},H q=some o->(∀g,o≠.ext g)->H' q=some o:=λ{q o} e g=>b _ _ e λz=>by
  obtain⟨L,d,_⟩:=h.nt;rw[z,d]at e;exact g _ (ZE e).symm
 refine⟨j h.ob (λg z=>by cases z),h.zW.mono (λq v e=>j e (λg z=>by cases z)),?_,A,λp s l v t E e=>?_,?_,?_⟩
 ·obtain⟨bs,h1,G,B⟩:=h.cr;exact⟨bs,j h1 (λg z=>by cases z),G,λi c e=>j (B i c e) (λg z=>by cases z)⟩
 ·rw[Sd]at e;split at e
  ·rename_i J;obtain⟨I,d⟩:=Xr J;obtain⟨d,m⟩:=Xr d;obtain⟨m,_⟩:=Xr m;have M:=Wl I;have N:=Wl d;have D:=RY m;rw[<- ZE e,D,show p=x by lia,show s=y by lia]
  ·exact h.rt p s l v t E e
 ·rcases hv:b_ kvs [.inl (x:Nat),.inl (y:Nat),eh f]with _|v
  ·rw[SH hv,ZL];exact Xz.mpr ⟨h.nd,by simp,λa r c n e=>q24 hv (by rw[ZB,WQ,Z1]at n;have d:=e.trans n;rw[d]at r;exact r)⟩
  ·rw[Tj hv];exact h.nd
 ·rcases hv:b_ kvs [.inl (x:Nat),.inl (y:Nat),eh f]with _|v
  ·rw[SH hv,ZL];intro k hk;rcases ZW.mp hk with z|z
   ·exact h.ks k z
   ·rw[ZB,WQ,Z1]at z;exact⟨x,y,f,u,F,z⟩
  ·rw[Tj hv];exact h.ks
end
theorem Pe{f fQ fO fM C:ae}{fd A0 uD gh:ak}{m k:Nat}{S:Sp}(F:bj K "across" "Account.across" Gz f fd)(p:uO K C)(B:eR mg)(Tc:oS mg)(Ee:∃t,mg "EMPTY"=some (.int 0 t))(hQ:mg "quarters_of"=some (.ref fQ))(FQ:bj K "quarters_of" "quarters_of" Cz fQ A0)(bQ:Binds K A0 ["rows","number"] [])
  (MO:Meth K C "over_both" fO) (bO:Binds K uD kg []) (GO:aE P w K mg base aW (k+2) fO uD kg S) (hS:m=0\/∃m0,m=m0+1/\S=sX P w C m0)
  (MM:Meth K C "in_the_middle" fM) (FM:bj K "in_the_middle" "Account.in_the_middle" x_ fM gh) (bM:Binds K gh ft []):aE P w K mg base aW (k+3) f fd ow (JG P w C m):=by
 have GQ:aE P w K mg base aW 1 fQ A0 ["rows","number"] QG:=xM4 FQ Tc;have GM:aE P w K mg base aW 1 fM gh ft (JH C):=Pf FM p B;obtain⟨te,hte⟩:=Ee;obtain⟨tf,htf⟩:=Tc.full;refine F.ok n3 (λvs H Q E h=>?_) (λcA A outer s H vs Q E hr h=>?_)
 ·obtain⟨j,D,rp,cp,l,rows,i,x,y,g,rfl,_⟩:=h
  rfl
 ·obtain⟨j,D,rp,cp,l,rows,i,x,y,g,rfl,hA,W,I,M,q0⟩:=h;have un:=hr.units;have hu:_+10<cLine:=Ys (WU (show 10<=64 by decide) _) un;have jF:bh 1 _:=hr.mono 'a';refine aZ ⟨_,⟨fb (gB (Pm hr) (gI (v:=.int 0) (by rfl) hte ⟨_,rfl⟩) (bU.go ⟨eM (aF (pv 1) (aF (pv 2) aQ))⟩) (by first|exact dA _|rfl|decide|with_unfolding_all rfl)) (dB (cQ aV)) fU⟩,?_⟩;refine aZ ⟨_,⟨z_ (fb (xj7 p7 p7 (pv 1) (pv 2) (gI (v:=.int 1) (by rfl) htf ⟨_,rfl⟩)) (dB (cQ (xR1 xI1 aV))) fU)⟩,?_⟩;refine aZ ⟨_,⟨cR 4 n3.nd (@eM _ _ _ _ _ (bJ.go (.cons ⟨pv 1⟩ (.cons ⟨pv 2⟩ (.cons ⟨pv 3⟩ .nil rfl) rfl) rfl)))⟩,?_⟩;refine aZ ⟨_,⟨z_ (fb (gB (xd1 (nk:=zL) hu) (pv 4) (yb (pv 0) rfl) (by first|rfl|decide|with_unfolding_all rfl))
   (gZ.go (.cons ⟨cR 5 n3.nd (bU.go ⟨cF GQ jF hQ FQ.kp bQ (bJ.go (.cons ⟨yb (pv 0) rfl⟩ (.cons ⟨pv 1⟩ .nil rfl) rfl))⟩)⟩
   (.cons ⟨cR 6 n3.nd (bU.go ⟨cF GQ jF hQ FQ.kp bQ (bJ.go (.cons ⟨yb (pv 0) rfl⟩ (.cons ⟨pv 2⟩ .nil rfl) rfl))⟩)⟩
   (.cons ⟨z_ (fb (l4 (pv 3)) (gZ.go (.one ⟨cR 7 n3.nd (@eM _ _ _ _ _ (bJ.go (.cons ⟨cW bf (pv 5) aV⟩ (.cons ⟨cW bf (pv 5) aV⟩ (.cons ⟨cW bf (pv 6) aV⟩ (.cons ⟨cW bf (pv 6) aV⟩ .nil rfl) rfl) rfl) rfl)))⟩)) (gZ.go (.one ⟨cR 7 n3.nd (@eM _ _ _ _ _ (bJ.go (.cons ⟨cW bf (pv 5) aV⟩ (.cons ⟨cW bf (pv 6) aV⟩ (.cons ⟨cW bf (pv 5) aV⟩ (.cons ⟨cW bf (pv 6) aV⟩ .nil rfl) rfl) rfl) rfl)))⟩)))⟩
   (.one ⟨sE (a_ df (bU.go ⟨sG (pv 0) p.cls MO GO hr bO .nil mD (aF (pv 7) (aF (pv 3) aQ))⟩) (bU.go ⟨sG (pv 0) p.cls MM GM jF bM .nil mD (aF (pv 7) aQ)⟩)) (GU (yb (pv 0) rfl) (pv 4) (xn2 (nk:=zL) hu))⟩))))) fU)⟩,?_⟩
  refine fZ ⟨_,⟨cQ (cW (xC1 (nk:=zL) hu) (yb (pv 0) rfl) (pv 4))⟩,?_⟩;obtain⟨Q4,Q3⟩:=Qk W.1 I.1;obtain⟨QZ,QY⟩:=Qk W.1 I.2;refine⟨_,rfl,_,rfl,(by show 2<=sizeLine;decide),λk1 vO=>⟨k1,_,[.int (x:Nat),.int (y:Nat)],.int 0,rfl,aX,.cons (.int _) (.cons (.int _) .nil),.int _,rfl,rfl,by decide,_,rfl,?_⟩⟩;have s1:aG H (upd H k1 (.tup [.int (x:Nat),.int (y:Nat)])):=bw vO;have ea:([PyData.int (x:Nat),.int (y:Nat)].any λe=>PyData.eqv e (.int 0))=decide (x=0\/y=0):=by
   have e1:∀z:Nat,PyData.eqv (.int (z:Nat)) (.int 0)=decide (z=0):=λz=>by
    show decide (((z:Nat):Int)=0)=_;rw[YG];lia
   rw[Xc,Xc,List.any_nil,e1,e1,UA,Bool.decide_or]
  rw[ea];have wD:=hA.same s1;generalize upd H k1 (.tup [.int (x:Nat),.int (y:Nat)])=H1 at s1 wD ⊢;by_cases h0:x=0\/y=0
  ·rw[Zo h0];refine cM ?_;have n:=q0 H1 i (bu.of s1) wD;rw[show dC 14 g (T rows x) (T rows y)=0 by
    show(if _ then(0:Int)else _)=0;rw[Zk (h0.imp (λz=>Q4.mpr z) λz=>QZ.mpr z)]]at n
   exact n
  rw[Zm h0];refine cJ ?_;have u:¬(T rows x=.z\/T rows y=.z):=λz=>h0 (z.imp (λz=>Q4.mp z) λz=>QZ.mp z);refine⟨λJ H2=>H2=H1/\¬(x=1/\y=1)/\J=[some (.ref j),some (.int (x:Nat)),some (.int (y:Nat)),some (.bl g),none,none,none,none],?_,?_⟩
  ·refine⟨_,rfl,_,rfl,rfl,_,rfl,?_⟩;by_cases Hr:x=y
   ·rw[Zo (show V.int (x:Nat)=V.int (y:Nat) by rw[Hr])];refine cM ⟨rfl,_,rfl,?_⟩;by_cases h1:y=1
    ·rw[Zo (show V.int (y:Nat)=V.int 1 by rw[h1];rfl)];refine cM ⟨_,rfl,?_⟩;have n:=q0 H1 i (bu.of s1) wD;rw[show dC 14 g (T rows x) (T rows y)=-1 by
      show(if _ then(0:Int)else if _ then(-1:Int)else _)=-1;rw[Zi u,Zk ⟨Q3.mpr (Hr.trans h1),QY.mpr h1⟩]]at n
     exact n
    ·rw[Zm (show ¬V.int (y:Nat)=V.int 1 from λz=>h1 (by have:=V.int.inj z;lia))];exact cJ ⟨rfl,λz=>h1 z.2,rfl⟩
   ·rw[Zm (show ¬V.int (x:Nat)=V.int (y:Nat)from λz=>Hr (by have:=V.int.inj z;lia))];exact cJ ⟨_,rfl,cJ ⟨rfl,λz=>Hr (z.1.trans z.2.symm),rfl⟩⟩
  ·rintro J H2 ⟨rfl,NP,rfl⟩;have ho:¬(T rows x=.o/\T rows y=.o):=λz=>NP ⟨Q3.mp z.1,QY.mp z.2⟩;refine⟨_,rfl,_,rfl,_,rfl,(by show 3<=sizeLine;decide),λr hkk=>?_⟩;have R:upd H2 r (.tup [.int (x:Nat),.int (y:Nat),.bl g]) r=some (.tup [.int (x:Nat),.int (y:Nat),.bl g]):=aX;have s2:=s1.trans (bw (o:=.tup [.int (x:Nat),.int (y:Nat),.bl g]) hkk);have G:=wD.same (bw (o:=.tup [.int (x:Nat),.int (y:Nat),.bl g]) hkk);generalize upd H2 r (.tup [.int (x:Nat),.int (y:Nat),.bl g])=H3 at R s2 G ⊢;have MP:∀{H:Hp},H r=some (.tup [.int (x:Nat),.int (y:Nat),.bl g])->zL.tl H [.inl (x:Nat),.inl (y:Nat),eh g] r:=λh=>⟨x,y,g,rfl,h⟩;refine⟨λJ H4=>∃Y v5 v6 v7,J=[some (.ref j),some (.int (x:Nat)),some (.int (y:Nat)),some (.bl g),some (.ref r),v5,v6,v7]/\bu l H3 H4/\c9 P w H4 C j D rp cp l rows Y/\b_ Y [.inl (x:Nat),.inl (y:Nat),eh g]=some (.int (dC 14 g (T rows x) (T rows y))),?_,?_⟩
   ·refine⟨_,rfl,_,rfl,j,C,D,_,.ref l,rfl,G.ob,p.cls,p.known,rfl,l,r,_,i,rfl,rfl,G.nt,MP R,_,rfl,?_⟩;cases hv:b_ i [.inl (x:Nat),.inl (y:Nat),eh g]with
    |some v=>
     refine cJ ?_;have:=G.rt x y g v I.1 I.2 hv;exact⟨i,none,none,none,rfl,bu.refl _ _,G,by rw[hv,this]⟩
    |none=>
     refine cM ?_;rcases hS with rfl|⟨m,rfl,rfl⟩
     ·rcases vv M.1 with e|e
      ·exact absurd (.inl e) u
      ·rcases vv M.2.1 with e'|e'
       ·exact absurd (.inr e') u
       ·exact absurd ⟨e,e'⟩ ho
     refine⟨_,rfl,j,C,D,_,.ref rp,rfl,G.ob,p.cls,p.rows,rfl,_,rfl,rp,x,rows,rfl,G.zW.zs,I.1,λH4 X s4 O=>?_⟩;have U:=G.same s4;refine⟨_,rfl,j,C,D,_,.ref rp,rfl,U.ob,p.cls,p.rows,rfl,_,rfl,rp,y,rows,rfl,U.zW.zs,I.2,λH5 b6 s5 Z=>?_⟩;have yF:=U.same s5
     replace O:=s5 _ _ O
     obtain⟨m0,m1,m2,m3,em,N⟩:=QF W.1 I.1 M.1;obtain⟨t0,t1,t2,t3,et,L⟩:=QF W.1 I.2 M.2.1;rw[em]at O;rw[et]at Z;refine⟨λJ H6=>∃(q:ae)(a b c d:Nat),J=[some (.ref j),some (.int (x:Nat)),some (.int (y:Nat)),some (.bl g),some (.ref r),some (.ref X),some (.ref b6),some (.ref q)]/\aG H5 H6/\H6 q=some (.tup (vN [a,b,c,d]))/\(∀z∈[a,b,c,d],z<rows.length+2/\Tr.dep (T rows z)<=m)/\(⟨T rows a,T rows b,T rows c,T rows d⟩:sg)=mE g (T rows x) (T rows y),?_,?_⟩
     ·refine⟨_,rfl,g,rfl,?_⟩;cases g with
      |true=>
       refine cM ?_;refine⟨_,rfl,X,_,2,.int (m2:Nat),rfl,rfl,bg.of O,rfl,_,rfl,X,_,3,.int (m3:Nat),rfl,rfl,bg.of O,rfl,_,rfl,b6,_,0,.int (t0:Nat),rfl,rfl,bg.of Z,rfl,_,rfl,b6,_,1,.int (t1:Nat),rfl,rfl,bg.of Z,rfl,(by show 4<=sizeLine;decide),λq n=>?_⟩;refine⟨q,m2,m3,t0,t1,rfl,bw n,aX,?_,?_⟩
       ·intro z u;simp only[Zu,Yd,Wi]at u;rcases u with rfl|rfl|rfl|rfl
        ·exact N.1 _ (by simp)
        ·exact N.1 _ (by simp)
        ·exact L.1 _ (by simp)
        ·exact L.1 _ (by simp)
       ·rw[N.2.2.2.1,N.2.2.2.2,L.2.1,L.2.2.1];rfl
      |false=>
       refine cJ ?_;refine⟨_,rfl,X,_,1,.int (m1:Nat),rfl,rfl,bg.of O,rfl,_,rfl,b6,_,0,.int (t0:Nat),rfl,rfl,bg.of Z,rfl,_,rfl,X,_,3,.int (m3:Nat),rfl,rfl,bg.of O,rfl,_,rfl,b6,_,2,.int (t2:Nat),rfl,rfl,bg.of Z,rfl,(by show 4<=sizeLine;decide),λq n=>?_⟩;refine⟨q,m1,t0,m3,t2,rfl,bw n,aX,?_,?_⟩
       ·intro z u;simp only[Zu,Yd,Wi]at u;rcases u with rfl|rfl|rfl|rfl
        ·exact N.1 _ (by simp)
        ·exact L.1 _ (by simp)
        ·exact N.1 _ (by simp)
        ·exact L.1 _ (by simp)
       ·rw[N.2.2.1,N.2.2.2.2,L.2.1,L.2.2.2.1];rfl
     ·rintro J H6 ⟨q,a,b,c,d,rfl,s6,n,W_,ef⟩;have NL:=yF.same s6;refine⟨_,rfl,j,D,_,rfl,NL.ob,rfl,_,rfl,_,rfl,j,D,rp,cp,l,q,rows,i,a,b,c,d,g,rfl,NL,W,n,W_,by lia,λH7 Ml b7 H0=>?_⟩;have hq7:=b7 _ _ n (NL.gf n);refine⟨_,rfl,j,D,_,rfl,H0.ob,rfl,_,rfl,j,q,D,rp,cp,l,rows,rows.length,a,b,c,d,rfl,H0.ob,H0.cr,hq7,λz u=>(W_ z u).1,λH8 s8=>?_⟩;have HZ:=H0.same s8;have ev:o9 14 g ⟨T rows a,T rows b,T rows c,T rows d⟩+iB ⟨T rows a,T rows b,T rows c,T rows d⟩=dC 14 g (T rows x) (T rows y):=by
       rw[ef,<- Fz u ho];rw[Aa (k:=m+1) (m:=15) g _ _ M.1 M.2.1 'a',<- Aa (k:=m+1) (m:=14) g _ _ M.1 M.2.1 'a']
      have s34:aG H3 H6:=s4.trans (s5.trans s6);have bb:bu l H3 H8:=(bu.of s34).trans (b7.trans (bu.of s8));have nk:r≠l:=G.gf R;refine⟨_,_,rfl,rfl,?_⟩;rw[ev];refine⟨_,rfl,j,C,D,_,.ref l,rfl,HZ.ob,p.cls,p.known,rfl,_,rfl,l,r,_,Ml,rfl,rfl,HZ.nt,MP (bb _ _ R nk),HZ.N3 W.2,λH9 b9 hN9=>?_⟩;exact⟨_,_,_,_,rfl,bb.trans b9,HZ.put b9 I.1 I.2 hN9,by rw[Sd,Zk rfl]⟩
   ·rintro J H4 ⟨Y,v5,v6,v7,rfl,b4,U,hv4⟩;have nk:r≠l:=λz=>by
     obtain⟨xs,e,_⟩:=G.nt;rw[z,e]at R;cases R
    refine⟨_,rfl,j,C,D,_,.ref l,rfl,U.ob,p.cls,p.known,rfl,_,rfl,l,r,_,Y,_,rfl,rfl,U.nt,MP (b4 _ _ R nk),hv4,?_⟩;exact q0 H4 Y ((bu.of s2).trans b4) U
theorem RX{E L j I H C:ae}{g M A F J:ak}(y:bj K "across" "Account.across" Gz E g)(a:uO K C)(B:eR mg)(d:oS mg)(e:∃t,mg "EMPTY"=some (.int 0 t))(r:mg "quarters_of"=some (.ref L))(l:bj K "quarters_of" "quarters_of" Cz L M)(q:Binds K M ["rows","number"] [])
  (p:bj K "over_both" "Account.over_both" G5 j A) (s:Meth K C "over_both" j) (u:Binds K A kg []) (v:Meth K C "in_the_middle" I) (D:bj K "in_the_middle" "Account.in_the_middle" x_ I F) (b:Binds K F ft [])
  (f:mg "turned_about"=some (.ref H)) (c:bj K "turned_about" "turned_about" Cd H J) (x:Binds K J ["four"] []) (i:Meth K C "across" E) (n:Binds K g ow []):
  ∀m,aE P w K mg base aW (2*m+3) E g ow (JG P w C m)/\aE P w K mg base aW (2*m+4) j A kg (sX P w C m)
 |0=>by
  have G:=Pe (P:=P) (w:=w) (base:=base) (m:=0) (k:=0) (S:=λ_ _ _ _=>False) y a B d e r l q s u ⟨λ_ _ _ _ h=>h.elim,λ_ _ _ _ _ _ _ _ _ _ _ _ _ h=>h.elim⟩ (.inl rfl) v D b;exact⟨G,QH (k:=2) p a f c x i n G⟩
 |m+1=>by
  have N:=(RX y a B d e r l q p s u v D b f c x i n m).2;have G:=Pe (P:=P) (w:=w) (base:=base) (m:=m+1) (k:=2*m+2) y a B d e r l q s u N (.inr ⟨m,rfl,rfl⟩) v D b;exact⟨G,QH (k:=2*m+4) p a f c x i n G⟩
inductive xE(P:ag)(w:ai)(C:ae)(vs:List V)(H:Hp)(Q:VK):Prop
 |mk(ac dx rp cp kn q:ae)(rows:List Row)(kvs:List (List Key×V))(a b c d:Nat)(e0:vs=[.ref ac,.ref q])(e1:c9 P w H C ac dx rp cp kn rows kvs)(e2:dv rows/\rows.length<=1000)(e3:H q=some (.tup (vN [a,b,c,d])))(e4:∀x∈[a,b,c,d],x<rows.length+2/\Tr.dep (T rows x)<=14)
  (e6:∀H' rf,bu kn H H'->c9 P w H' C ac dx rp cp kn rows rf->Q (.int (iS 14 ⟨T rows a,T rows b,T rows c,T rows d⟩)) H')
def QE(P:ag)(w:ai)(C:ae):Sp:=λa H Q _=>xE P w C a H Q
theorem xT3:aI ft ft (ck Ly):=dz
theorem xM7{f L v C:ae}{R M D:ak}{k:Nat}(F:bj K "together" "Account.together" Ly f R)(j:uO K C)(B:eR mg)
  (S:Meth K C "over_both" L) (T:Binds K M kg []) (N:aE P w K mg base aW (k+1) L M kg (sX P w C 14))
  (MM:Meth K C "in_the_middle" v) (X:bj K "in_the_middle" "Account.in_the_middle" x_ v D) (U:Binds K D ft []):aE P w K mg base aW (k+2) f R ft (QE P w C):=by
 have W:aE P w K mg base aW 1 v D ft (JH C):=Pf X j B;refine F.ok xT3 (λvs H Q E h=>?_) (λcA A x s H vs Q E p h=>?_)
 ·obtain⟨g,e,rp,m,l,q,rows,i,a,b,c,d,rfl,_⟩:=h
  rfl
 ·obtain⟨g,e,rp,m,l,q,rows,i,a,b,c,d,rfl,hA,I,u,t,q0⟩:=h;have Z:bh 1 _:=p.mono ub;refine fZ ⟨_,⟨cQ (a_ df (a_ df (bU.go ⟨sG (pv 0) j.cls S N p T .nil mD (aF (pv 1) (aF lY aQ))⟩) (bU.go ⟨sG (pv 0) j.cls S N p T .nil mD (aF (pv 1) (aF lY aQ))⟩)) (bU.go ⟨sG (pv 0) j.cls MM W Z U .nil mD (aF (pv 1) aQ)⟩))⟩,?_⟩;refine⟨_,rfl,g,e,_,rfl,hA.ob,rfl,_,rfl,g,e,rp,m,l,q,rows,i,a,b,c,d,false,rfl,hA,I,u,t,by decide,λH2 iC O y=>?_⟩;have r:=O _ _ u (hA.gf u);refine⟨_,rfl,g,e,_,rfl,y.ob,rfl,_,rfl,g,e,rp,m,l,q,rows,iC,a,b,c,d,true,rfl,y,I,r,t,by decide,λH3 q_ J n=>?_⟩;have V:=J _ _ r (y.gf r);refine⟨_,_,rfl,rfl,_,rfl,g,e,_,rfl,n.ob,rfl,_,rfl,g,q,e,rp,m,l,rows,rows.length,a,b,c,d,rfl,n.ob,n.cr,V,λz Y=>(t z Y).1,λH4 G=>?_⟩;exact⟨_,_,rfl,rfl,q0 H4 q_ (O.trans (J.trans (bu.of G))) (n.same G)⟩
end Pr
namespace Qf
open Tr
theorem Qd{k m:Nat}{f:Bool}{a b c d:Tr}(g:dep a<=k)(hb:dep b<=k)(hc:dep c<=k)(h:dep d<=k)(e:k<=m):o9 m f ⟨a,b,c,d⟩=o9 k f ⟨a,b,c,d⟩:=by
 unfold o9;cases f with
 |true=>
  show dC m true a c+dC m true b d=dC k true a c+dC k true b d;rw[Aa true a c g hc e,Aa true b d hb h e]
 |false=>
  show dC m false a b+dC m false c d=dC k false a b+dC k false c d;rw[Aa false a b g hb e,Aa false c d hc h e]
theorem RW{k m:Nat}{a b c d:Tr}(f:dep a<=k)(hb:dep b<=k)(hc:dep c<=k)(g:dep d<=k)(e:k<=m):iS m ⟨a,b,c,d⟩=iS k ⟨a,b,c,d⟩:=by
 unfold iS;rw[Qd f hb hc g e,Qd f hb hc g e]
theorem Lh(a b c d:Tr):dep a<=dep (.nd a b c d)-1/\dep b<=dep (.nd a b c d)-1/\dep c<=dep (.nd a b c d)-1/\dep d<=dep (.nd a b c d)-1:=by
 have h:∀{i:Nat},i<4->dep (qr i (.nd a b c d))<=dep (.nd a b c d)-1:=λe=>p6 e 'a';exact⟨h (i:=0) 'b',h (i:=1) 'b',h (i:=2) 'b',h (i:=3) 'b'⟩
theorem xn6{a b c d:Tr}(h:dep (.nd a b c d)<=15):cX (.nd a b c d)=cX a+cX b+cX c+cX d+iS 14 ⟨a,b,c,d⟩:=by
 obtain⟨e,hb,f,g⟩:=Lh a b c d;rw[RW e hb f g (m:=14) 'a']
 rfl
def sm:Nat->(Nat->Int)->Int
 |0,_=>0
 |n+1,f=>sm n f+f n
theorem o7{f g:Nat->Int}:∀{n:Nat},(∀i,i<n->f i=g i)->sm n f=sm n g
 |0,_=>rfl
 |n+1,h=>by
  show sm n f+f n=sm n g+g n;rw[o7 λi a=>h i (i_ a),h n um]
theorem sD{f g h:Nat->Int}{a b:Int}(e:∀i,h i=a*f i+b*g i):∀n,sm n h=a*sm n f+b*sm n g
 |0=>by show(0:Int)=a*0+b*0;lia
 |n+1=>by
  show sm n h+h n=a*(sm n f+f n)+b*(sm n g+g n);rw[sD e n,e n];grind
theorem o6(c:Int):∀n:Nat,sm n (λ_=>c)=n*c
 |0=>by show(0:Int)=((0:Nat):Int)*c;simp
 |n+1=>by
  show sm n _+c=((n+1:Nat):Int)*c;rw[o6 c n];push_cast;grind
def Rr(h:Nat)(G:Nat->Nat->Int):Int:=sm h (λi=>G i i)-sm (h-1) λi=>G i (i+1)
theorem zZ(h:Nat)(G:Nat->Nat->Int):Rr (h+2) G=Rr (h+1) G+G (h+1) (h+1)-G h (h+1):=by
 unfold Rr;show sm (h+1) _+G (h+1) (h+1)-(sm h _+G h (h+1))=_-sm h _+_-_;lia
theorem Cm(G:Nat->Nat->Int):Rr 1 G=G 0 0:=by
 unfold Rr;show(0+G 0 0)-0=G 0 0;lia
theorem BZ{h:Nat}{G F:Nat->Nat->Int}(e:∀i k,i<h->k<h->G i k=F i k):Rr h G=Rr h F:=by
 unfold Rr;rw[o7 λi a=>e i i a a,o7 (n:=h-1) λi a=>e i (i+1) (qQ a) 'a']
theorem BY(p:Nat)(G:Nat->Nat->Int)(b:0<p):∀q,0<q->Rr (p+q) G=Rr p G+Rr q (λi k=>G (p+i) (p+k))-G (p-1) p
 |0,h=>absurd h 'b'
 |1,_=>by
  obtain⟨a,rfl⟩:∃a,p=a+1:=⟨p-1,mN b⟩;rw[Cm,zZ]
  rfl
 |q+2,_=>by
  have c:=BY p G b (q+1) ug;rw[zZ q];obtain⟨a,rfl⟩:∃a,p=a+1:=⟨p-1,mN b⟩;have e:a+1+(q+2)=(a+1+q)+2:=by lia
  rw[e,zZ,show a+1+q+1=a+1+(q+1) by lia,c];show _+G (a+1+(q+1)) (a+1+(q+1))-G (a+1+q) (a+1+(q+1))=_;lia
theorem Pc{G F E:Nat->Nat->Int}{a b:Int}(e:∀i k,E i k=a*F i k+b*G i k)(h:Nat):Rr h E=a*Rr h F+b*Rr h G:=by
 unfold Rr;rw[sD (λi=>e i i) h,sD (λi=>e i (i+1)) (h-1)]
 grind
theorem RV(c:Int){h:Nat}(b:0<h):Rr h (λ_ _=>c)=c:=by
 unfold Rr;rw[o6,o6];obtain⟨a,rfl⟩:∃a,h=a+1:=⟨h-1,mN b⟩;show((a+1:Nat):Int)*c-(a:Nat)*c=c;push_cast
 grind
theorem Ju{G:Nat->Nat->Int}{ρ:Nat->Nat}(h0:ρ 0=0):∀n,(∀i,i<n->ρ (i+1)=ρ i\/ρ (i+1)=ρ i+1)->Rr (n+1) (λi k=>G (ρ i) (ρ k))=Rr (ρ n+1) G
 |0,_=>by rw[Cm,h0,Cm]
 |n+1,a=>by
  rw[zZ,Ju h0 n λi b=>a i (i_ b)];rcases a n um with e|e
  ·rw[e];exact Jb
  ·rw[e,zZ]
def bi(b:Bool):Int:=if b then 1 else 0
def ru(w:Nat)(z:Nat->Bool):Int:=Rr w λj l=>bi (z j&&z l)
theorem i6{w:Nat}{y z:Nat->Bool}(e:∀j,j<w->y j=z j):ru w y=ru w z:=BZ λi k a hk=>by rw[e i a,e k hk]
theorem yi(w:Nat):ru w (λ_=>false)=0:=by
 unfold ru Rr;show sm w (λ_=>0)-sm (w-1) (λ_=>0)=0;rw[o6,o6];simp
theorem KY{w:Nat}(h:0<w):ru w (λ_=>true)=1:=RV 1 h
theorem xn7(p:Nat)(z:Nat->Bool)(a:0<p){q:Nat}(b:0<q):ru (p+q) z=ru p z+ru q (λj=>z (p+j))-bi (z (p-1)&&z p):=BY p _ a q b
theorem Kl(p:Nat)(z:Nat->Bool)(d:0<p){q:Nat}(e:0<q)(a b:Nat->Bool)(c:∀j,j<p->z j=a j)(hb:∀j,j<q->z (p+j)=b j):ru (p+q) z=ru p a+ru q b-bi (a (p-1)&&b 0):=by
 rw[xn7 p z d e,i6 c,i6 hb,c (p-1) (gJ d)];have:=hb 0 e;rw[Y3]at this;rw[this]
def gE(h w:Nat)(f:Nat->Nat->Bool):Int:=Rr h λi k=>ru w λj=>f i j&&f k j
theorem ke{h w:Nat}{f g:Nat->Nat->Bool}(e:∀i j,i<h->j<w->f i j=g i j):gE h w f=gE h w g:=BZ λi k b hk=>i6 λj a=>by rw[e i j b a,e k j hk a]
theorem BX(h w:Nat):gE h w (λ_ _=>false)=0:=by
 unfold gE Rr;show sm h (λ_=>ru w λ_=>false)-sm (h-1) (λ_=>ru w λ_=>false)=0;rw[yi,o6,o6];simp
theorem xC5{h w:Nat}(a:0<h)(hw:0<w):gE h w (λ_ _=>true)=1:=by
 show Rr h (λ_ _=>ru w λ_=>true)=1;rw[KY hw,RV 1 a]
theorem xM8(a b c d:Bool):bi ((a&&b)&&(c&&d))=bi ((a&&c)&&(b&&d)):=by cases a<;>cases b<;>cases c<;>cases d<;>rfl
theorem G4{h p:Nat}(f:Nat->Nat->Bool)(d:0<p){q:Nat}(c:0<q):gE h (p+q) f=gE h p f+gE h q (λi j=>f i (p+j))-ru h (λi=>f i (p-1)&&f i p):=by
 unfold gE ru;have e:∀i k,(Rr (p+q) λj l=>bi ((f i j&&f k j)&&(f i l&&f k l)))=1*((Rr p λj l=>bi ((f i j&&f k j)&&(f i l&&f k l)))+1*(Rr q λj l=>bi ((f i (p+j)&&f k (p+j))&&(f i (p+l)&&f k (p+l)))))+(-1)*bi ((f i (p-1)&&f i p)&&(f k (p-1)&&f k p)):=λi k=>by
  rw[BY p _ d q c,xM8 (f i (p-1)) (f i p)];lia
 rw[Pc e h];rw[Pc (E:=λi k=>(Rr p λj l=>bi ((f i j&&f k j)&&(f i l&&f k l)))+1*(Rr q λj l=>bi ((f i (p+j)&&f k (p+j))&&(f i (p+l)&&f k (p+l))))) (a:=1) (b:=1) (F:=λi k=>Rr p λj l=>bi ((f i j&&f k j)&&(f i l&&f k l))) (G:=λi k=>Rr q λj l=>bi ((f i (p+j)&&f k (p+j))&&(f i (p+l)&&f k (p+l)))) (λi k=>by lia) h];dsimp only;lia
theorem KW{w p:Nat}(f:Nat->Nat->Bool)(b:0<p){q:Nat}(a:0<q):gE (p+q) w f=gE p w f+gE q w (λi j=>f (p+i) j)-ru w (λj=>f (p-1) j&&f p j):=BY p _ b q a
def neg:Tr->Tr
 |.z=>.o
 |.o=>.z
 |.nd a b c d=>.nd (neg a) (neg b) (neg c) (neg d)
theorem neg_neg:∀t,neg (neg t)=t
 |.z=>rfl
 |.o=>rfl
 |.nd a b c d=>by
  show Tr.nd (neg (neg a)) (neg (neg b)) (neg (neg c)) (neg (neg d))=_;rw[neg_neg a,neg_neg b,neg_neg c,neg_neg d]
theorem ye:∀t,dep (neg t)=dep t
 |.z=>rfl
 |.o=>rfl
 |.nd a b c d=>by
  show 1+mx [dep (neg a),dep (neg b),dep (neg c),dep (neg d)]=1+mx [dep a,dep b,dep c,dep d];rw[ye a,ye b,ye c,ye d]
theorem j_(rows:List Row):(lr rows).length=rows.length:=by simp[lr]
theorem xM9{rows:List Row}{p:Nat}{r:Row}(h:rows[p]?=some r):(lr rows)[p]?=some (r.map ex):=by
 unfold lr;rw[Zh,h];rfl
theorem xC6{q:Nat}(h:¬q<2):ex q=q:=Zi h
theorem JF{rows:List Row}(ok:dv rows):∀x,x<rows.length+2->T (lr rows) (ex x)=neg (T rows x):=by
 intro x
 induction x using Nat.strongRecOn with
 |ind x g=>
  intro e;by_cases z:x<2
  ·match x,z with
   |0,_=>rw[lZ];exact iZ _
   |1,_=>rw[iZ];exact lZ _
  ·obtain⟨p,a,b,c,d,rfl,f⟩:=u6 ok e z;have h:=(ok p _ f).2;have m:=(cz f).1;have j:=h a (by simp);have l:=h b (by simp);have k:=h c (by simp);have i:=h d (by simp);rw[xC6 z,jm ok f,jm (Pw ok) (xM9 f),g a j (kr j e),g b l (kr l e),g c k (kr k e),g d i (kr i e)]
   rfl
theorem BW{Pd:Tr->Prop}(g:∀a b c d,Pd (.nd a b c d)->Pd a/\Pd b/\Pd c/\Pd d):∀(t:Tr)(e:List Tr),Pd t->(∀s∈e,Pd s)->∀s∈post t e,Pd s
 |.z,e,_,h=>h
 |.o,e,_,h=>h
 |.nd a b c d,e,i,h=>by
  obtain⟨h1,k,j,l⟩:=g a b c d i;intro s f;unfold post at f;split at f
  ·exact h s f
  ·rcases ZW.mp f with f|f
   ·exact BW g d _ l (BW g c _ j (BW g b _ k (BW g a _ h1 h))) s f
   ·have:s=.nd a b c d:=by simpa using f
    rw[this];exact i
theorem fj(m:Nat):0<2^m:=WI 'b'
theorem vo(m:Nat):2^(m+1)=2^m+2^m:=by rw[YJ];lia
theorem E5{m:Nat}(t:Tr){a b i j:Nat}(e:a<2)(hb:b<2)(d:i<2^m)(c:j<2^m):aK (m+1) t (2^m*a+i) (2^m*b+j)=aK m (qr (2*a+b) t) i j:=by
 show aK m (qr (2*((2^m*a+i)/2^m%2)+(2^m*b+j)/2^m%2) t) _ _=_;rw[XW (fj m),XW (fj m),Yl d,Yl c,FF];congr 2;lia
theorem vf{m:Nat}(t:Tr){i j:Nat}(d:i<2^m)(c:j<2^m):aK (m+1) t i j=aK m (qr 0 t) i j:=by
 have:=E5 t (a:=0) (b:=0) 'b' 'b' d c;simpa using this
theorem ve{m:Nat}(t:Tr){i j:Nat}(d:i<2^m)(c:j<2^m):aK (m+1) t i (2^m+j)=aK m (qr 1 t) i j:=by
 have:=E5 t (a:=0) (b:=1) 'b' 'b' d c;simpa using this
theorem vd{m:Nat}(t:Tr){i j:Nat}(d:i<2^m)(c:j<2^m):aK (m+1) t (2^m+i) j=aK m (qr 2 t) i j:=by
 have:=E5 t (a:=1) (b:=0) 'b' 'b' d c;simpa using this
theorem vc{m:Nat}(t:Tr){i j:Nat}(d:i<2^m)(c:j<2^m):aK (m+1) t (2^m+i) (2^m+j)=aK m (qr 3 t) i j:=by
 have:=E5 t (a:=1) (b:=1) 'b' 'b' d c;simpa using this
theorem E4(t:Tr){k:Nat}(hk:k<4):dr t k=dr (qr k t) k:=by
 cases t with
 |z|o=>rfl
 |nd a b c d=>
  match k,hk with
  |0,_|1,_|2,_|3,_=>rfl
theorem l5:∀(m:Nat)(t:Tr),dep t<=m->dr t 0=aK m t 0 0/\dr t 1=aK m t 0 (2^m-1)/\dr t 2=aK m t (2^m-1) 0/\dr t 3=aK m t (2^m-1) (2^m-1)
 |0,t,h=>by rcases vv h with rfl|rfl<;>exact⟨rfl,rfl,rfl,rfl⟩
 |m+1,t,h=>by
  have a:=fj m;have e:2^(m+1)-1=2^m+(2^m-1):=by rw[vo];exact I0
  have d:∀{k},k<4->dep (qr k t)<=m:=λhk=>p6 hk h;rw[e,vf t a a,ve t a (gJ a),vd t (gJ a) a,vc t (gJ a) (gJ a),E4 t (k:=0) 'b',E4 t (k:=1) 'b',E4 t (k:=2) 'b',E4 t (k:=3) 'b'];exact⟨(l5 m _ (d 'b')).1,(l5 m _ (d 'b')).2.1,(l5 m _ (d 'b')).2.2.1,(l5 m _ (d 'b')).2.2.2⟩
def zl(m:Nat)(a:Bool)(s t:Tr)(i:Nat):Bool:=if a then aK m s (2^m-1) i&&aK m t 0 i else aK m s i (2^m-1)&&aK m t i 0
theorem u5:∀(m:Nat)(h:Bool)(s t:Tr),dep s<=m->dep t<=m->dC m h s t=- ru (2^m) (zl m h s t)
 |0,h,s,t,p,n=>by
  show(if s=.z\/t=.z then 0 else -1)=- ru 1 (zl 0 h s t);unfold ru;rw[Cm];rcases vv p with rfl|rfl<;>rcases vv n with rfl|rfl<;>cases h<;>simp[zl,aK,bi]
 |m+1,h,s,t,p,n=>by
  have f:=fj m;by_cases h1:s=.z\/t=.z
  ·show(if _ then(0:Int)else _)=_;rw[Zk h1,i6 (z:=λ_=>false) λj _=>?_,yi]
   ·rfl
   ·unfold zl;rcases h1 with rfl|rfl<;>cases h<;>simp[yf]
  ·by_cases l:s=.o/\t=.o
   ·show(if _ then(0:Int)else if _ then(-1:Int)else _)=_;rw[Zi h1,Zk l,i6 (z:=λ_=>true) λj _=>?_,KY (fj _)];obtain⟨rfl,rfl⟩:=l;unfold zl;cases h<;>simp[oX]
   ·rw[Fz h1 l];have d:∀{k},k<4->dep (qr k s)<=m/\dep (qr k t)<=m:=λhk=>⟨p6 hk p,p6 hk n⟩;have e:2^(m+1)-1=2^m+(2^m-1):=by rw[vo];exact I0
    have u:∀a b c d:Bool,(if(a&&b&&c&&d)=true then(1:Int)else 0)=bi ((a&&b)&&(c&&d)):=λa b c d=>by cases a<;>cases b<;>cases c<;>cases d<;>rfl
    have i:∀a b c d:Bool,(if(a&&b&&c&&d)=true then(1:Int)else 0)=bi ((a&&c)&&(b&&d)):=λa b c d=>by cases a<;>cases b<;>cases c<;>cases d<;>rfl
    cases h with
    |false=>
     rw[vo,Kl (2^m) _ f f (zl m false (qr 1 s) (qr 0 t)) (zl m false (qr 3 s) (qr 2 t)) (λj g=>?_) λj g=>?_]
     ·have q:=u5 m false (qr 1 s) (qr 0 t) (d 'b').1 (d 'b').2;have r:=u5 m false (qr 3 s) (qr 2 t) (d 'b').1 (d 'b').2;show dC m false (qr 1 s) (qr 0 t)+dC m false (qr 3 s) (qr 2 t)+(if(dr (qr 1 s) 3&&dr (qr 0 t) 2&&dr (qr 3 s) 1&&dr (qr 2 t) 0)=true then 1 else 0)=_;rw[q,r,u,(l5 m _ (d (k:=1) 'b').1).2.2.2,(l5 m _ (d (k:=0) 'b').2).2.2.1,(l5 m _ (d (k:=3) 'b').1).2.1,(l5 m _ (d (k:=2) 'b').2).1];unfold zl;simp only[Zt,ZX];lia
     ·unfold zl;simp only[Zt,ZX];rw[e,ve s g (gJ f),vf t g f]
     ·unfold zl;simp only[Zt,ZX];rw[e,vc s g (gJ f),vd t g f]
    |true=>
     rw[vo,Kl (2^m) _ f f (zl m true (qr 2 s) (qr 0 t)) (zl m true (qr 3 s) (qr 1 t)) (λj g=>?_) λj g=>?_]
     ·have q:=u5 m true (qr 2 s) (qr 0 t) (d 'b').1 (d 'b').2;have r:=u5 m true (qr 3 s) (qr 1 t) (d 'b').1 (d 'b').2;show dC m true (qr 2 s) (qr 0 t)+dC m true (qr 3 s) (qr 1 t)+(if(dr (qr 2 s) 3&&dr (qr 3 s) 2&&dr (qr 0 t) 1&&dr (qr 1 t) 0)=true then 1 else 0)=_;rw[q,r,i,(l5 m _ (d (k:=2) 'b').1).2.2.2,(l5 m _ (d (k:=3) 'b').1).2.2.1,(l5 m _ (d (k:=0) 'b').2).2.1,(l5 m _ (d (k:=1) 'b').2).1];unfold zl;simp only[Xh];lia
     ·unfold zl;simp only[Xh];rw[e,vd s (gJ f) g,vf t f g]
     ·unfold zl;simp only[Xh];rw[e,vc s (gJ f) g,ve t f g]
theorem xN0{m:Nat}{a b c d:Tr}(h:dep a<=m)(hb:dep b<=m)(hc:dep c<=m)(j:dep d<=m):cX (.nd a b c d)=cX a+cX b+cX c+cX d+iS m ⟨a,b,c,d⟩:=by
 obtain⟨h1,f,e,i⟩:=Lh a b c d;have g:dep (.nd a b c d)-1<=m:=by
  have:=Co h hb hc j;lia
 rw[RW h1 f e i g]
 rfl
theorem Ar:∀(m:Nat)(t:Tr),dep t<=m->cX t=gE (2^m) (2^m) (aK m t)
 |m,.z,_=>by rw[ke (g:=λ_ _=>false) λi j _ _=>yf m i j,BX];rfl
 |m,.o,_=>by rw[ke (g:=λ_ _=>true) λi j _ _=>oX m i j,xC5 (fj m) (fj m)];rfl
 |0,.nd a b c d,h=>absurd h (by show ¬1+_<=0;exact Je)
 |m+1,.nd a b c d,h=>by
  obtain⟨p,hb,n,q⟩:=Qj h;have f:=fj m;have e:2^(m+1)-1=2^m+(2^m-1):=by rw[vo];exact I0
  rw[xN0 p hb n q,vo,KW _ f f,G4 _ f f,G4 _ f f];have q0:gE (2^m) (2^m) (aK (m+1) (.nd a b c d))=cX a:=by
   rw[Ar m a p];exact ke λi j k l=>vf _ k l
  have x:(gE (2^m) (2^m) λi j=>aK (m+1) (.nd a b c d) i (2^m+j))=cX b:=by
   rw[Ar m b hb];exact ke λi j k l=>ve _ k l
  have r:(gE (2^m) (2^m) λi j=>aK (m+1) (.nd a b c d) (2^m+i) j)=cX c:=by
   rw[Ar m c n];exact ke λi j k l=>vd _ k l
  have y:(gE (2^m) (2^m) λi j=>aK (m+1) (.nd a b c d) (2^m+i) (2^m+j))=cX d:=by
   rw[Ar m d q];exact ke λi j k l=>vc _ k l
  rw[q0,x,r,y];have C:(ru (2^m) λi=>aK (m+1) (.nd a b c d) i (2^m-1)&&aK (m+1) (.nd a b c d) i (2^m))=- dC m false a b:=by
   rw[u5 m false a b p hb,Int.neg_neg];refine i6 λi k=>?_;have:=ve (.nd a b c d) k f;simp only[Y3]at this;rw[vf _ k (gJ f),this]
   rfl
  have v:(ru (2^m) λi=>aK (m+1) (.nd a b c d) (2^m+i) (2^m-1)&&aK (m+1) (.nd a b c d) (2^m+i) (2^m))=- dC m false c d:=by
   rw[u5 m false c d n q,Int.neg_neg];refine i6 λi k=>?_;have:=vc (.nd a b c d) k f;simp only[Y3]at this;rw[vd _ k (gJ f),this]
   rfl
  have A:(ru (2^m+2^m) λj=>aK (m+1) (.nd a b c d) (2^m-1) j&&aK (m+1) (.nd a b c d) (2^m) j)=- dC m true a c-dC m true b d-iB ⟨a,b,c,d⟩:=by
   rw[Kl (2^m) _ f f (zl m true a c) (zl m true b d) (λj l=>?_) λj l=>?_,u5 m true a c p n,u5 m true b d hb q]
   ·have B:iB ⟨a,b,c,d⟩=bi (zl m true a c (2^m-1)&&zl m true b d 0):=by
     show(if(dr a 3&&dr b 2&&dr c 1&&dr d 0)=true then(1:Int)else 0)=_;rw[(l5 m _ p).2.2.2,(l5 m _ hb).2.2.1,(l5 m _ n).2.1,(l5 m _ q).1];unfold zl;simp only[Xh];generalize aK m a _ _=u;generalize aK m b _ _=s;generalize aK m c _ _=w;generalize aK m d _ _=D;cases u<;>cases s<;>cases w<;>cases D<;>rfl
    rw[B];lia
   ·have h1:=vd (.nd a b c d) f l;simp only[Y3]at h1;rw[vf _ (gJ f) l,h1]
    rfl
   ·have h1:=vc (.nd a b c d) f l;simp only[Y3]at h1;rw[ve _ (gJ f) l,h1]
    rfl
  rw[C,v,A];show cX a+cX b+cX c+cX d+(dC m false a b+dC m false c d+(dC m true a c+dC m true b d)+iB _)=_;lia
end Qf
namespace L2
open PySem PySem.Spec PyProof.Rows
section
variable{X:Cx}
theorem qS4(a:List Int):∀n,n<=a.length->preSum (λi=>a.getD i 0) n=(a.take n).sum:=by
 intro n
 induction n with
 |zero=>intro _;simp[preSum]
 |succ n c=>
  intro h;have b:n<a.length:=h;rw[preSum,c (XX b),YM b,List.sum_append];simp[List.getD,b]
inductive lF(xs:List V)(H:Hp)(Q:VK):Prop
 |mk(p:ae)(ns:List Int)(aT:xs=[.ref p])(cV:H p=some (.lst (ns.map V.int)))(cw:Q (.int ns.sum) H)
theorem xd5(hc:X.calm=true):f_ X (.builtin "sum") lF:=by
 intro N s K H J L Q I r h;obtain⟨p,a,rfl,B,q⟩:=h;obtain⟨u,rfl,E⟩:=iq r;cases E;obtain⟨z,c,n,g,d⟩:=I.aO p _ B;have m:s.heap.IsList p c.toArray:=⟨_,d,rfl,_,rfl⟩;have l:c.length=a.length:=by have:=g.length;simpa using this.symm
 have y:p≠s.heap.objs.size:=Zy (Zn d);refine call_sum_walkAnyB (Xy m ?_);refine⟨s.heap.objs.size,_,_,_,_,_,_,λi=>a.getD i 0,rfl,(UK (A:=X.A.in1) (I.ok.hd hc) s.heap.objs.size p y c.toArray).toS,⟨⟨_,Zj _ rfl,rfl,rfl⟩,m.at λo e=>Zc _ e⟩,?_,?_,?_⟩
 ·intro b hb;rw[Z0];rcases Zu.mp hb with rfl|hb
  ·exact ZN _
  ·have:b=p:=by simpa using hb
   subst this;exact Z6 (Zn d)
 ·intro i v F;have j:c[i]?=some v:=by simpa using F
  have f:i<a.length:=by rw[<- l];exact(cz j).1
  obtain⟨M,k,t,G⟩:=g.get (x:=V.int (a[i])) (i:=i) (by simp[f]);rw[j]at k;cases k;exact .inl ⟨t,by rw[G];simp[List.getD,f]⟩
 ·intro O D w;have C:c.toArray.size=a.length:=by simpa using l
  refine⟨.int a.sum,H,SQ I w λb o e hb=>?_,⟨D,?_⟩,q⟩
  ·have:b=s.heap.objs.size:=by simpa using hb
   exact YO _ (by rw[this]at e;exact Zn e)
  ·rw[C,qS4 a _ (Zd _),Wk]
end
end L2
namespace Qf
open Tr
def m6(rows:List Row)(i:Nat):List Int:=0::1::(List.range i).map λp=>cX (T rows (p+2))
theorem xo0(rows:List Row)(i:Nat):(m6 rows i).length=i+2:=by simp[m6]
theorem Qc{rows:List Row}{i x:Nat}(h:x<i+2):(m6 rows i)[x]?=some (cX (T rows x)):=by
 match x,h with
 |0,_=>rw[lZ];rfl
 |1,_=>rw[iZ];rfl
 |x+2,h=>
  show((List.range i).map λp=>cX (T rows (p+2)))[x]?=_;rw[Zh,WS (kj h)]
  rfl
theorem xd7(rows:List Row)(i:Nat):m6 rows (i+1)=m6 rows i++[cX (T rows (i+2))]:=by
 unfold m6;rw[YC,ZL]
 rfl
end Qf
namespace Pr
open PySem L2 Qf
abbrev U2:List ar:=["self","top","counts","row"]
inductive Bw(P:ag)(w:ai)(C:ae)(vs:List V)(H:Hp)(Q:VK):Prop
 |mk(ac dx rp cp kn:ae)(rows:List Row)(kvs:List (List Key×V))(x:Nat)(e0:vs=[.ref ac,.int (x:Nat)])(e1:c9 P w H C ac dx rp cp kn rows kvs)(e2:dv rows/\rows.length<=1000)(e3:x<rows.length+2)(e4:∀x,x<rows.length+2->Tr.dep (T rows x)<=15)
  (e5:∀H',bu kn H H'->Q (.int (cX (T rows x))) H')
def By(P:ag)(w:ai)(C:ae):Sp:=λa H Q _=>Bw P w C a H Q
theorem c9.lst{H:Hp}{C c f rp a d D:ae}{rows:List Row}{kvs:List (List Key×V)}{xs ys:List V}(h:c9 P w H C c f rp a d rows kvs)(k:H D=some (.lst xs))(ne:a≠D):c9 P w (upd H D (.lst ys)) C c f rp a d rows kvs:=by
 have t:∀b o,H b=some o->(∀zs,o≠.lst zs)->upd H D (.lst ys) b=some o:=λb o e n=>by
  rw[bV λz=>n xs (by rw[z,k]at e;exact(ZE e).symm)];exact e
 refine⟨t _ _ h.ob (λ_ z=>by cases z),h.zW.mono (λq v e=>t _ _ e (λ_ z=>by cases z)),?_,h.nt.mono (λb xs e=>t _ _ e (λ_ z=>by cases z)) (λo e=>t _ _ e (λ_ z=>by obtain⟨zs,j,_⟩:=h.nt;rw[z]at e;exact nomatch e.symm.trans j)),h.rt,h.nd,h.ks⟩;obtain⟨bs,h1,i,g⟩:=h.cr;exact⟨bs,by rw[bV ne];exact h1,i,λx b e=>t _ _ (g x b e) (λ_ z=>by cases z)⟩
theorem s_:aI U2 ["self","top"] (ck E7):=dz
theorem xT4{f fG C:ae}{fd J:ak}{k:Nat}(F:bj K "of_number" "Account.of_number" E7 f fd)(AC:uO K C)(MU:mg "sum"=none)
  (MG:Meth K C "together" fG) (bG:Binds K J ft []) (GG:aE P w K mg base aW (k+1) fG J ft (QE P w C)):aE P w K mg base aW (k+2) f fd ["self","top"] (By P w C):=by
 refine F.ok s_ (λvs H Q E h=>?_) (λcA A outer s H vs Q E hr h=>?_)
 ·obtain⟨v,M,rp,W,G,rows,X,x,rfl,_⟩:=h
  rfl
 ·obtain⟨v,M,rp,W,G,rows,X,x,rfl,hA,S,N,kH,q⟩:=h;refine aZ ⟨_,⟨cR 2 s_.nd (n_ (aF aV (aF aV aQ)))⟩,?_⟩;refine aZ ⟨_,⟨og Yv rfl (yc (yb (pv 0) rfl)) (eD 3 s_.nd)
    (gZ.go (.one ⟨tN (E_ XA Xp Xq An (pv 2) (aF (bU.go ⟨a_ df (bU.go ⟨dH (xd5 rfl) (by rfl) MU PyProof.Rows.boot_sum
     (aF (nH U2 (ck E7) rfl rfl rfl s_.nd (yc (pv 3)) (λcl C fp aM aN=>cW (AF K rfl) (pv 3) (pv 0))) aQ)⟩)
     (bU.go ⟨sG (pv 0) AC.cls MG GG hr bG .nil mD (aF (pv 3) aQ)⟩)⟩) aQ))⟩))⟩,?_⟩
  refine fZ ⟨_,⟨cQ (bU.go ⟨cW (AF K rfl) (pv 2) (pv 1)⟩)⟩,?_⟩;refine⟨(by show 2<=sizeLine;decide),λD t=>?_⟩;have wD:=hA.same (bw (o:=.lst [.int 0,.int 1]) t);obtain⟨cs,Nu,_,_⟩:=id hA.cr;have ncp:W≠D:=cI Nu t;have nkn:D≠G:=λz=>by
   obtain⟨xs,e2,_⟩:=hA.nt;rw[z,e2]at t;cases t
  obtain⟨bs,Z,j9,jC⟩:=id hA.zW;have jQ:(bs.map V.ref).length=rows.length:=by rw[Zg];exact j9
  have LQ:rp≠G:=hA.gf Z;refine⟨_,rfl,v,C,M,_,.ref rp,rfl,wD.ob,AC.cls,AC.rows,rfl,rp,rfl,⟨_,bg.of (aH Z t)⟩,Hf (K:=K) (a:=rp) (xs:=bs.map V.ref) (λi O r=>bu G H r/\r D=some (.lst ((m6 rows i).map V.int))/\(∃U,c9 P w r C v M rp W G rows U)/\∃v3,O=[some (.ref v),some (.int (x:Nat)),some (.ref D),v3])
   ⟨bu.of (bw t),aX,⟨_,wD⟩,none,rfl⟩ (λi O r _ ⟨I,_⟩=>bg.of (I _ _ Z LQ)) ?_ ?_⟩
  ·rintro i y O r Y ⟨I,B,⟨U,jY⟩,v3,rfl⟩;have hi:i<rows.length:=by rw[<- jQ];exact(cz Y).1
   rw[Zh]at Y;obtain⟨b,hb,rfl⟩:=Zl.mp Y;have L:rows[i]?=some rows[i]:=by simp[hi]
   have yD:=jC i b rows[i] hb L;have R:=I _ _ yD (hA.gf yD);obtain⟨d,g,l,p,er⟩:=L2.LL (S.1 i _ L).1;rw[er]at L R;have rk:=S.1 i _ L;have eT:T rows (i+2)=.nd (T rows d) (T rows g) (T rows l) (T rows p):=jm S.1 L;have Ei:=kH (i+2) (qY hi);rw[eT]at Ei;have hkd:=Lh (T rows d) (T rows g) (T rows l) (T rows p);refine⟨_,rfl,.inl ⟨rfl,_,cq.of B⟩,_,rfl,b,rfl,⟨_,bg.of R⟩,λD2 kD=>oo kD (λj z _=>∃x,[d,g,l,p][j]?=some x/\z=.int (cX (T rows x))) (Ak (K:=K) R) (by rw[jn];show 4<sizeLine;decide) (λ_ _ _ _ _ _ h=>h) ?_ ?_⟩
   ·intro j x H3 hj N u Q' hq;obtain⟨m,c,rfl⟩:=x8 N;have jA:=rk.2 m (ZH c);exact⟨_,rfl,_,rfl,D,_,(m:Int),.int (cX (T rows m)),rfl,rfl,cq.of (u _ _ B),oY (by rw[Zh,Qc jA];rfl),hq _ _ (aG.refl _) ⟨m,c,rfl⟩⟩
   ·intro ys H3 u kJ jW jV;have e2:ys=([cX (T rows d),cX (T rows g),cX (T rows l),cX (T rows p)]).map V.int:=by
     refine vq (by rw[jW,jn];rfl) λj x N=>?_;obtain⟨m,c,rfl⟩:=jV j x N
     match j,c with
     |0,c|1,c|2,c|3,c=>cases c;rfl
     |j+4,c=>cases c
    refine⟨D2,_,rfl,e2▸kJ,?_⟩;have vT:=jY.same u;refine⟨_,rfl,v,M,_,rfl,vT.ob,rfl,_,rfl,v,M,rp,W,G,b,rows,U,d,g,l,p,rfl,vT,S,u _ _ R,λz hz=>⟨by have:=rk.2 z hz;exact qW hi this,?_⟩,λH4 mP b4 wN=>?_⟩
    ·simp only[Zu,Yd,Wi]at hz;rcases hz with rfl|rfl|rfl|rfl<;>lia
    ·have kI:=b4 _ _ (u _ _ B) nkn;refine⟨_,_,rfl,rfl,D,_,_,rfl,rfl,kI,?_,?_⟩
     ·rw[Zg,xo0];exact i5 'a'
     ·refine⟨λb o e n=>by rw[bV (cI e t)];exact b4 _ _ (u _ _ (I _ _ e n)) n,?_,⟨mP,wN.lst kI ncp⟩,_,rfl⟩;rw[aX,xd7,ZL,eT,xn6 Ei];have es:[cX (T rows d),cX (T rows g),cX (T rows l),cX (T rows p)].sum+iS 14 ⟨T rows d,T rows g,T rows l,T rows p⟩=cX (T rows d)+cX (T rows g)+cX (T rows l)+cX (T rows p)+iS 14 ⟨T rows d,T rows g,T rows l,T rows p⟩:=by
       simp only[Wt,List.sum_nil];lia
      rw[es]
      rfl
  ·rintro O r ⟨I,B,⟨U,jY⟩,v3,rfl⟩;rw[jQ]at B;exact⟨_,rfl,_,rfl,D,_,(x:Int),.int (cX (T rows x)),rfl,rfl,cq.of B,oY (by rw[Zh,Qc N];rfl),q r I⟩
end Pr
namespace Qf
open Tr
theorem yn{rows more:List Row}(ok:dv (rows++more)):∀(n x:Nat),x<n->x<rows.length+2->T (rows++more) x=T rows x
 |0,_,h,_=>absurd h (YB _)
 |n+1,x,m,f=>by
  have g:dv rows:=λp r h=>ok p r (by rw[Zr (cz h).1];exact h);by_cases i:x<2
  ·match x,i with
   |0,_=>rw[lZ,lZ]
   |1,_=>rw[iZ,iZ]
  ·obtain⟨p,a,b,c,d,rfl,e⟩:=u6 g f i;have j:(rows++more)[p]?=some [a,b,c,d]:=by rw[Zr (kj f)];exact e
   have hk:=(g p _ e).2;have k:∀{y},y∈[a,b,c,d]->T (rows++more) y=T rows y:=λl=>by
    have:=hk _ l;exact yn ok n _ 'a' (kr this f)
   rw[jm ok j,jm g e,k (by simp),k (by simp),k (by simp),k (by simp)]
theorem Q_{rows:List Row}{r:Row}(ok:dv rows)(h:IC rows.length r):dv (rows++[r]):=λp q e=>by
 by_cases b:p<rows.length
 ·rw[Zr b]at e;exact ok p q e
 ·have a:=(cz e).1;rw[Zw]at a;have:p=rows.length:=by simp at a;exact yN a b
  subst this;rw[Zq (Zd _),X1]at e;cases e;exact h
def sR(t:Tr):Tr:=.nd (.nd .o .o .o (neg t)) .o .o .o
def oW(rows:List Row)(a:Nat):List Row:=lr rows++[[1,1,1,ex a],[rows.length+2,1,1,1]]
theorem Gb(rows:List Row)(a:Nat):oW rows a=(lr rows++[[1,1,1,ex a]])++[[rows.length+2,1,1,1]]:=by
 unfold oW;rw[YW]
 rfl
theorem Kz{rows:List Row}{b:Nat}(ok:dv rows)(h:b<rows.length+2):dv (lr rows++[[1,1,1,ex b]]):=
 Q_ (Pw ok) ⟨rfl,λx a=>by
  have:=Az h;rw[j_];simp only[Zu,Yd,Wi]at a;rcases a with rfl|rfl|rfl|rfl<;>lia⟩
theorem Lx{rows:List Row}{b:Nat}(ok:dv rows)(h:b<rows.length+2):dv (oW rows b):=by
 rw[Gb];refine Q_ (Kz ok h) ⟨rfl,λx a=>?_⟩;rw[Zw,j_];simp only[Zu,Yd,Wi]at a;rcases a with rfl|rfl|rfl|rfl<;>simp<;>lia
theorem Ky(rows:List Row)(a:Nat):(oW rows a).length=rows.length+2:=by
 unfold oW;rw[Zw,j_]
 rfl
theorem RU{rows:List Row}{a:Nat}(ok:dv rows)(h:a<rows.length+2):T (oW rows a) (rows.length+3)=sR (T rows a):=by
 have c:=Kz ok h;have b:=Lx ok h;rw[Gb]at b ⊢;have d:(lr rows++[[1,1,1,ex a]]).length=rows.length+1:=by rw[Zw,j_];rfl
 have g:=Az h;have f:((lr rows++[[1,1,1,ex a]])++[[rows.length+2,1,1,1]])[rows.length+1]?=some [rows.length+2,1,1,1]:=by
  rw[Zq (kq d),d,X1];rfl
 have e:(lr rows++[[1,1,1,ex a]])[rows.length]?=some [1,1,1,ex a]:=by
  rw[Zq (by rw[j_];exact Zd _),j_,X1];rfl
 rw[show rows.length+3=rows.length+1+2 from rfl,jm b f,yn b _ _ (ZN _) 'a',jm c e,iZ,iZ,yn c _ _ (ZN _) (by rw[j_];exact g),JF ok _ h]
 rfl
theorem q25{rows:List Row}{a n:Nat}(ok:dv rows)(h:a<rows.length+2)(g:∀x,x<rows.length+2->dep (T rows x)<=n):∀x,x<(oW rows a).length+2->dep (T (oW rows a) x)<=n+2:=λx l=>by
 have c:=Kz ok h;have b:=Lx ok h;rw[Ky]at l;by_cases d:x<rows.length+2
 ·rw[Gb]at b ⊢;rw[yn b _ _ (ZN _) (by rw[Zw,j_];simp;lia),yn c _ _ (ZN _) (by rw[j_];exact d)];have:=JF ok _ (Az d);rw[xS7]at this;rw[this,ye];exact ZF (g _ (Az d)) gT
 ·have j:dep (neg (T rows a))<=n:=by rw[ye];exact g _ h
  have f:dep (.nd .o .o .o (neg (T rows a)))<=n+1:=Co (Zs _) (Zs _) (Zs _) j;by_cases i:x=rows.length+3
  ·rw[i,RU ok h];exact Co f (Zs _) (Zs _) (Zs _)
  ·have e:x=rows.length+2:=by lia
   subst e;have k:(lr rows++[[1,1,1,ex a]])[rows.length]?=some [1,1,1,ex a]:=by
    rw[Zq (by rw[j_];exact Zd _),j_,X1];rfl
   rw[Gb]at b ⊢;rw[yn b _ _ (ZN _) (by rw[Zw,j_];simp),jm c k,iZ,yn c _ _ (ZN _) (by rw[j_];exact Az h),JF ok _ h];exact ZF f (Xu _)
theorem q26{n top:Nat}{rows:List Row}(c:Canon n top rows):∀x,x<rows.length+2->dep (T rows x)<=n:=λx j=>by
 by_cases e:x<2
 ·match x,e with
  |0,_=>rw[lZ];exact Zs _
  |1,_=>rw[iZ];exact Zs _
 ·have g:=(Tp c).1;have p:=(bK (T rows top) [] c6).1;have all:=BW (Pd:=λs=>dep s<=n) (λa b c d h=>by
   cases n with
   |zero=>exact absurd h (by show ¬1+_<=0;exact Je)
   |succ k=>
    obtain⟨h1,e,r,v⟩:=Qj h;exact⟨nN h1,nN e,nN r,nN v⟩) (T rows top) [] (xc2 c) (λs u=>by cases u)
  generalize post (T rows top) []=L at g p all;have m:rows.length=L.length:=by
   have:=ZZ List.length g;rw[bc]at this;exact this
  obtain⟨i,rfl⟩:∃i,x=i+2:=⟨x-2,yP e⟩;have f:L[i]?=some (L[i]'(IM m j)):=Ze (IM m j);have l:=ZH f;generalize L[i]'(IM m j)=t at f l;have q:=tG p t (.inr (.inr l));rw[eF p f]at q;rw[g,q];exact all t l
def Rp(h:Nat)(G:Nat->Nat->Int):Int:=2+Rr h G-G 0 0-G (h-1) (h-1)
def rp(w:Nat)(z:Nat->Bool):Int:=Rp w λj l=>bi (z j&&z l)
def gP(h w:Nat)(g:Nat->Nat->Bool):Int:=Rp h λi k=>rp w λj=>g i j&&g k j
theorem RT{h:Nat}{G F:Nat->Nat->Int}(a:0<h)(e:∀i k,i<h->k<h->G i k=F i k):Rp h G=Rp h F:=by
 unfold Rp;rw[BZ e,e 0 0 a a,e (h-1) (h-1) (gJ a) (gJ a)]
theorem xo1{w:Nat}{y z:Nat->Bool}(hw:0<w)(e:∀j,j<w->y j=z j):rp w y=rp w z:=RT hw λi k a hk=>by rw[e i a,e k hk]
theorem xo2{h w:Nat}{f g:Nat->Nat->Bool}(c:0<h)(hw:0<w)(e:∀i j,i<h->j<w->f i j=g i j):gP h w f=gP h w g:=RT c λi k b hk=>xo1 hw λj a=>by rw[e i j b a,e k j hk a]
theorem Pb{h:Nat}{G F:Nat->Nat->Int}(b:0<h)(c:G 0 0=1)(d:G (h+1) (h+1)=1)(f:G 0 1=F 0 0)(g:G h (h+1)=F (h-1) (h-1))(e:∀i k,i<h->k<h->G (1+i) (1+k)=F i k):Rr (h+2) G=Rp h F:=by
 obtain⟨a,rfl⟩:∃a,h=a+1:=⟨h-1,mN b⟩;rw[zZ,show a+1+1=1+(a+1)from yU,BY 1 G 'b' (a+1) b,Cm,BZ e];rw[show 1+(a+1)=a+1+1 from yU,d,g,c,f];unfold Rp;lia
def pd(n:Nat)(z:Nat->Bool)(j:Nat):Bool:=if 1<=j/\j<=n then z (j-1)else true
theorem Bb{n j:Nat}(z:Nat->Bool)(h:j<n):pd n z (1+j)=z j:=by
 unfold pd;rw[Zk 'a',show 1+j-1=j from mM]
theorem JE(n:Nat)(z:Nat->Bool):pd n z 0=true:=Zi 'a'
theorem JD(n:Nat)(z:Nat->Bool):pd n z (n+1)=true:=Zi IZ
theorem CK(b:Bool):bi (b&&b)=bi b:=by cases b<;>rfl
theorem JC{w:Nat}(hw:0<w)(z:Nat->Bool):ru (w+2) (pd w z)=rp w z:=by
 refine Pb hw ?_ ?_ ?_ ?_ λi k a hk=>?_
 ·rw[JE];rfl
 ·rw[JD];rfl
 ·have:=Bb z hw;rw[JE,show(1:Nat)=1+0 from rfl,this,Bool.true_and,CK]
 ·have:=Bb z (show w-1<w from gJ hw);rw[show 1+(w-1)=w by lia]at this;rw[JD,this,Bool.and_true,CK]
 ·rw[Bb z a,Bb z hk]
def pad2(h w:Nat)(g:Nat->Nat->Bool)(i j:Nat):Bool:=if 1<=i/\i<=h then pd w (g (i-1)) j else true
theorem xN1(w:Nat)(y z:Nat->Bool)(j:Nat):(pd w y j&&pd w z j)=pd w (λj=>y j&&z j) j:=by
 unfold pd;split<;>rfl
theorem Jt{h w:Nat}(c:0<h)(hw:0<w)(g:Nat->Nat->Bool):gE (h+2) (w+2) (pad2 h w g)=gP h w g:=by
 have d:∀j,pad2 h w g 0 j=true:=λj=>Zi 'a';have e:∀j,pad2 h w g (h+1) j=true:=λj=>Zi IZ;have a:∀{i j},i<h->pad2 h w g (1+i) j=pd w (g i) j:=λ{i j} f=>by
  unfold pad2;rw[Zk 'a',show 1+i-1=i from mM]
 have one:(ru (w+2) λ_=>true)=1:=KY 'a';have b:∀i,(λj=>g i j&&g i j)=g i:=λi=>funext λj=>UB _;refine Pb c ?_ ?_ ?_ ?_ λi k f hk=>?_
 ·rw[<- one];exact i6 λj _=>by rw[d];rfl
 ·rw[<- one];exact i6 λj _=>by rw[e];rfl
 ·show(ru (w+2) λj=>pad2 h w g 0 j&&pad2 h w g 1 j)=rp w λj=>g 0 j&&g 0 j;rw[b,<- JC hw];refine i6 λj _=>?_;have:=a (j:=j) c;rw[d,show(1:Nat)=1+0 from rfl,this,Bool.true_and]
 ·show(ru (w+2) λj=>pad2 h w g h j&&pad2 h w g (h+1) j)=rp w λj=>g (h-1) j&&g (h-1) j;rw[b,<- JC hw];refine i6 λj _=>?_;have:=a (i:=h-1) (j:=j) (gJ c);rw[show 1+(h-1)=h by lia]at this;rw[e,this,Bool.and_true]
 ·show(ru (w+2) λj=>pad2 h w g (1+i) j&&pad2 h w g (1+k) j)=rp w λj=>g i j&&g k j;rw[<- JC hw];refine i6 λj _=>?_;rw[a f,a hk,xN1]
theorem Js{f:Nat->Nat->Bool}{ρ τ:Nat->Nat}{h w:Nat}(a:ρ 0=0)(d:τ 0=0)(b:∀i,i<h->ρ (i+1)=ρ i\/ρ (i+1)=ρ i+1)(c:∀i,i<w->τ (i+1)=τ i\/τ (i+1)=τ i+1):gE (h+1) (w+1) (λi j=>f (ρ i) (τ j))=gE (ρ h+1) (τ w+1) f:=by
 unfold gE;rw[Ju (G:=λi k=>ru (w+1) λj=>f i (τ j)&&f k (τ j)) a h b];refine BZ λi k _ _=>?_;exact Ju (G:=λj l=>bi ((f i j&&f k j)&&(f i l&&f k l))) d w c
theorem RS:∀(m:Nat)(t:Tr)(i j:Nat),dep t<=m->aK m (neg t) i j=!aK m t i j
 |0,t,i,j,h=>by rcases vv h with rfl|rfl<;>rfl
 |m+1,t,i,j,h=>by
  show aK m (qr _ (neg t)) i j=!aK m (qr _ t) i j;have hk:2*(i/2^m%2)+j/2^m%2<4:=by exact qZ
  generalize 2*(i/2^m%2)+j/2^m%2=k at hk;rw[<- RS m (qr k t) i j (p6 hk h)];congr 1;cases t with
  |z|o=>rfl
  |nd a b c d=>
   match k,hk with
   |0,_|1,_|2,_|3,_=>rfl
theorem xD1{m:Nat}{t:Tr}(h:dep t<=m):cX (sR t)=gP (2^m) (2^m) λi j=>!aK m t i j:=by
 have k:=fj m;have B:dep (neg t)<=m:=by rw[ye];exact h
 have h1:dep (.nd .o .o .o (neg t))<=m+1:=Co (Zs _) (Zs _) (Zs _) B;have C:dep (sR t)<=m+1+1:=Co h1 (Zs _) (Zs _) (Zs _);have l:=vo (m+1);have E:=vo m
 let a:Nat->Nat:=λi=>if i<2^m then 0 else if i<2^m+2^m then i-2^m+1 else 2^m+1
 have s:∀i,a (i+1)=a i\/a (i+1)=a i+1:=λi=>by
  show(if i+1<2^m then 0 else if i+1<2^m+2^m then i+1-2^m+1 else 2^m+1)=(if i<2^m then 0 else if i<2^m+2^m then i-2^m+1 else 2^m+1)\/(if i+1<2^m then 0 else if i+1<2^m+2^m then i+1-2^m+1 else 2^m+1)=(if i<2^m then 0 else if i<2^m+2^m then i-2^m+1 else 2^m+1)+1;by_cases w:i<2^m<;>by_cases D:i<2^m+2^m<;>by_cases y:i+1<2^m<;>by_cases x:i+1<2^m+2^m<;>simp only[w,D,y,x,Xh,ZX,true_or,or_true]<;>lia
 rw[Ar (m+1+1) _ C,<- Jt k k];obtain⟨M,g⟩:∃M,2^(m+1+1)=M+1:=⟨2^(m+1+1)-1,by lia⟩;have A:a M+1=2^m+2:=by
  show(if _ then _ else if _ then _ else _)+1=_;rw[Zi 'a',Zi 'a']
 rw[<- A,g,<- Js (show a 0=0 from Zk k) (show a 0=0 from Zk k) (λi _=>s i) (λi _=>s i)];refine ke λi j q r=>?_;by_cases p:i<2^(m+1)
 ·by_cases f:j<2^(m+1)
  ·rw[vf _ p f];show aK (m+1) (.nd .o .o .o (neg t)) i j=_;by_cases c:i<2^m
   ·have e:a i=0:=Zk c;rw[e];show _=true;by_cases b:j<2^m
    ·rw[vf _ c b];exact oX _ _ _
    ·have:=ve (.nd .o .o .o (neg t)) c (show j-2^m<2^m by lia);rw[show 2^m+(j-2^m)=j from oE b]at this;rw[this];exact oX _ _ _
   ·have e:a i=i-2^m+1:=by show(if _ then _ else if _ then _ else _)=_;rw[Zi c,Zk 'a']
    have n:2^m+(i-2^m)=i:=by exact oE c
    rw[e];unfold pad2;rw[Zk 'a'];by_cases b:j<2^m
    ·have d:a j=0:=Zk b;rw[d,JE];have:=vd (.nd .o .o .o (neg t)) (show i-2^m<2^m by lia) b;rw[n]at this;rw[this];exact oX _ _ _
    ·have d:a j=1+(j-2^m):=by show(if _ then _ else if _ then _ else _)=_;rw[Zi b,Zk 'a'];exact yU
     rw[d,Bb _ 'a'];have:=vc (.nd .o .o .o (neg t)) (show i-2^m<2^m by lia) (show j-2^m<2^m by lia);rw[n,show 2^m+(j-2^m)=j from oE b]at this;rw[this];show aK m (neg t) _ _=_;rw[RS m t _ _ h,show i-2^m+1-1=i-2^m from Jc]
  ·have d:a j=2^m+1:=by show(if _ then _ else if _ then _ else _)=_;rw[Zi 'a',Zi 'a']
   have:=ve (sR t) p (show j-2^(m+1)<2^(m+1)from Ff r g l);rw[show 2^(m+1)+(j-2^(m+1))=j from oE f]at this;rw[this,d];show aK (m+1) .o _ _=_;rw[oX];unfold pad2;split
   ·rw[JD]
   ·rfl
 ·have n:a i=2^m+1:=by show(if _ then _ else if _ then _ else _)=_;rw[Zi 'a',Zi 'a']
  rw[n];have v:pad2 (2^m) (2^m) (λi j=>!aK m t i j) (2^m+1) (a j)=true:=Zi IZ;rw[v];have u:2^(m+1)+(i-2^(m+1))=i:=by exact oE p
  by_cases f:j<2^(m+1)
  ·have:=vd (sR t) (show i-2^(m+1)<2^(m+1)from Ff q g l) f;rw[u]at this;rw[this];exact oX _ _ _
  ·have:=vc (sR t) (show i-2^(m+1)<2^(m+1)from Ff q g l) (show j-2^(m+1)<2^(m+1)from Ff r g l);rw[u,show 2^(m+1)+(j-2^(m+1))=j from oE f]at this;rw[this];exact oX _ _ _
def n6(sd:Bool)(h w:Nat)(f:Nat->Nat->Bool):Int:=if sd then gE h w f else 1-gP h w λi j=>!f i j
theorem KH{sd:Bool}{h w:Nat}{f g:Nat->Nat->Bool}(c:0<h)(hw:0<w)(e:∀i j,i<h->j<w->f i j=g i j):n6 sd h w f=n6 sd h w g:=by
 unfold n6;rw[ke e,xo2 c hw λi j a b=>by rw[e i j a b]]
end Qf
namespace Qf
def gs(h w:Nat)(φ:Nat->Nat->Int):Int:=sm h λi=>sm w (φ i)
theorem Fy{h w:Nat}{φ ψ:Nat->Nat->Int}(e:∀i j,i<h->j<w->φ i j=ψ i j):gs h w φ=gs h w ψ:=o7 λi b=>o7 λj a=>e i j b a
theorem Jr{φ ψ χ:Nat->Nat->Int}{a b:Int}(e:∀i j,χ i j=a*φ i j+b*ψ i j)(h w:Nat):gs h w χ=a*gs h w φ+b*gs h w ψ:=sD (λi=>sD (e i) w) h
theorem xD2(h w:Nat):gs h w (λ_ _=>0)=0:=by
 unfold gs;rw[o7 (g:=λ_=>0) λi _=>by rw[o6];exact Jg,o6];exact Jg
theorem xo3(c:Int)(h w:Nat):gs h w (λ_ _=>c)=h*(w*c):=by
 unfold gs;rw[o7 (g:=λ_=>w*c) λi _=>o6 c w,o6]
theorem Jq(a:Nat)(v:Nat->Int):∀n,sm n (λi=>if i=a then v i else 0)=if a<n then v a else 0
 |0=>by rw[Zi 'a'];rfl
 |n+1=>by
  show sm n _+(if n=a then v n else 0)=_;rw[Jq a v n];by_cases h:n=a
  ·subst h;rw[Zk rfl,Zi 'a',Zk um];lia
  ·rw[Zi h];by_cases b:a<n
   ·rw[Zk b,Zk (i_ b)];exact Jf
   ·rw[Zi b,Zi 'a'];lia
theorem xN2{h w:Nat}(a b:Nat)(d:a<h)(hb:b<w)(v:Nat->Nat->Int):gs h w (λi j=>if i=a/\j=b then v i j else 0)=v a b:=by
 unfold gs;rw[o7 (g:=λi=>if i=a then v i b else 0) λi _=>?_,Jq a (λi=>v i b),Zk d];by_cases e:i=a
 ·rw[Zk e,o7 (g:=λj=>if j=b then v i j else 0) λj _=>?_,Jq b (v i),Zk hb];by_cases c:j=b
  ·dsimp only;rw[Zk c,Zk ⟨e,c⟩]
  ·dsimp only;rw[Zi c,Zi λz=>c z.2]
 ·rw[Zi e,o7 (g:=λ_=>0) λj _=>Zi λz=>e z.1,o6];exact Jg
theorem KU{h w:Nat}(v:Nat->Nat->Int):∀(S:List (Nat×Nat)),S.Nodup->(∀x∈S,x.1<h/\x.2<w)->(S.map λx=>v x.1 x.2).sum=gs h w λi j=>if(i,j)∈S then v i j else 0
 |[],_,_=>by
  rw[Fy (ψ:=λ_ _=>0) λi j _ _=>Zi (by simp),xD2];rfl
 |x::S,nd,hb=>by
  obtain⟨f,nd⟩:=Yu.mp nd;rw[ZB,Wt,KU v S nd λy d=>hb y (Zp _ d)];obtain⟨h1,c⟩:=hb x Zz;rw[Jr (χ:=λi j=>if(i,j)∈x::S then v i j else 0) (φ:=λi j=>if i=x.1/\j=x.2 then v i j else 0) (ψ:=λi j=>if(i,j)∈S then v i j else 0) (a:=1) (b:=1) (λi j=>?_) h w,xN2 _ _ h1 c]
  ·lia
  ·by_cases e:i=x.1/\j=x.2
   ·have ex:(i,j)=x:=XG e.1 e.2;rw[Zk e,Zk (by rw[ex];exact Zz),Zi (by rw[ex];exact f)];lia
   ·rw[Zi e];have ne:(i,j)≠x:=λz=>e ⟨ZZ Prod.fst z,ZZ Prod.snd z⟩;by_cases m:(i,j)∈S
    ·rw[Zk m,Zk (Zp _ m)];lia
    ·rw[Zi m,Zi (λz=>(Zu.mp z).elim ne m)];lia
theorem Pa{h w:Nat}{S:List (Nat×Nat)}(nd:S.Nodup)(hb:∀x∈S,x.1<h/\x.2<w):(S.length:Int)=gs h w λi j=>bi (decide ((i,j)∈S)):=by
 have e:=KU (λ_ _=>1) S nd hb;rw[Fy (ψ:=λi j=>bi (decide ((i,j)∈S))) λi j _ _=>by unfold bi;simp]at e;rw[<- e];clear e nd hb
 induction S with
 |nil=>rfl
 |cons x S a=>rw[ZM,ZB,Wt];lia
def CJ(S:List (Nat×Nat)):Int:=S.length+(S.map λx=>- bi (decide ((x.1,x.2+1)∈S))-bi (decide ((x.1+1,x.2)∈S))+bi (decide ((x.1,x.2+1)∈S))*bi (decide ((x.1+1,x.2)∈S))*bi (decide ((x.1+1,x.2+1)∈S))).sum
theorem O_{w:Nat}{z:Nat->Bool}(hw:0<w)(h:z w=false):ru w z=sm w λj=>bi (z j)-bi (z j&&z (j+1)):=by
 obtain⟨a,rfl⟩:∃a,w=a+1:=⟨w-1,mN hw⟩;unfold ru Rr;have e:sm (a+1) (λj=>bi (z j&&z (j+1)))=sm a λj=>bi (z j&&z (j+1)):=by
  show sm a _+bi (z a&&z (a+1))=_;rw[h,Y1];show _+0=_;exact Jf
 rw[sD (h:=λj=>bi (z j)-bi (z j&&z (j+1))) (f:=λj=>bi (z j&&z j)) (g:=λj=>bi (z j&&z (j+1))) (a:=1) (b:=-1) (λj=>by rw[CK];exact mK) (a+1),e,Xn];dsimp only;exact mK
theorem xN3{h w:Nat}{f:Nat->Nat->Bool}(c:0<h)(hw:0<w)(h0:∀j,f h j=false)(h1:∀i,f i w=false):gE h w f=gs h w λi j=>bi (f i j)-bi (f i j&&f i (j+1))-(bi (f i j&&f (i+1) j)-bi ((f i j&&f (i+1) j)&&(f i (j+1)&&f (i+1) (j+1)))):=by
 obtain⟨a,rfl⟩:∃a,h=a+1:=⟨h-1,mN c⟩;unfold gE Rr gs;have e:(sm (a+1) λi=>ru w λj=>f i j&&f (i+1) j)=sm a λi=>ru w λj=>f i j&&f (i+1) j:=by
  show sm a _+(ru w λj=>f a j&&f (a+1) j)=_;rw[i6 (z:=λ_=>false) λj _=>by rw[h0,Y1],yi];exact Jf
 rw[Xn,<- e];rw[sD (h:=λi=>sm w λj=>bi (f i j)-bi (f i j&&f i (j+1))-(bi (f i j&&f (i+1) j)-bi ((f i j&&f (i+1) j)&&(f i (j+1)&&f (i+1) (j+1))))) (f:=λi=>ru w λj=>f i j&&f i j) (g:=λi=>ru w λj=>f i j&&f (i+1) j) (a:=1) (b:=-1) (λi=>?_) (a+1)]
 ·dsimp only;exact mK
 ·rw[i6 (y:=λj=>f i j&&f i j) (z:=f i) λj _=>UB _,O_ hw (h1 i),O_ hw (show(f i w&&f (i+1) w)=false by rw[h1,US])];exact sD (λj=>mK) w
theorem q27{h w:Nat}{S:List (Nat×Nat)}(a:0<h)(hw:0<w)(nd:S.Nodup)(hb:∀x∈S,x.1<h/\x.2<w):CJ S=gE h w λi j=>decide ((i,j)∈S):=by
 rw[xN3 a hw (λj=>Zm λz=>by have:=(hb _ z).1;lia) λi=>Zm λz=>by have:=(hb _ z).2;lia];unfold CJ;rw[Pa nd hb,KU (λi j=>- bi (decide ((i,j+1)∈S))-bi (decide ((i+1,j)∈S))+bi (decide ((i,j+1)∈S))*bi (decide ((i+1,j)∈S))*bi (decide ((i+1,j+1)∈S))) S nd hb];rw[<- Int.one_mul (gs h w λi j=>bi (decide ((i,j)∈S))),<- Int.one_mul (gs h w λi j=>if(i,j)∈S then _ else 0)];refine(Jr (λi j=>?_) h w).symm;by_cases m:(i,j)∈S
 ·rw[Zk m,Zo m];cases decide ((i,j+1)∈S)<;>cases decide ((i+1,j)∈S)<;>cases decide ((i+1,j+1)∈S)<;>rfl
 ·rw[Zi m,Zm m];cases decide ((i,j+1)∈S)<;>cases decide ((i+1,j)∈S)<;>cases decide ((i+1,j+1)∈S)<;>rfl
theorem xT5(h w:Nat)(f:Nat->Nat->Bool):gE h w f=gs h w (λi j=>bi (f i j))-gs h (w-1) (λi j=>bi (f i j&&f i (j+1)))-(gs (h-1) w (λi j=>bi (f i j&&f (i+1) j))-gs (h-1) (w-1) (λi j=>bi ((f i j&&f (i+1) j)&&(f i (j+1)&&f (i+1) (j+1))))):=by
 unfold gE Rr gs;have c:(sm h λi=>ru w λj=>f i j&&f i j)=sm h (λi=>sm w λj=>bi (f i j))-sm h λi=>sm (w-1) λj=>bi (f i j&&f i (j+1)):=by
  rw[sD (h:=λi=>ru w λj=>f i j&&f i j) (f:=λi=>sm w λj=>bi (f i j)) (g:=λi=>sm (w-1) λj=>bi (f i j&&f i (j+1))) (a:=1) (b:=-1) (λi=>?_) h]
  ·exact IV
  ·rw[i6 (y:=λj=>f i j&&f i j) (z:=f i) λj _=>UB _];unfold ru Rr;rw[o7 (f:=λj=>bi (f i j&&f i j)) (g:=λj=>bi (f i j)) λj _=>CK _];dsimp only;exact mK
 have d:(sm (h-1) λi=>ru w λj=>f i j&&f (i+1) j)=sm (h-1) (λi=>sm w λj=>bi (f i j&&f (i+1) j))-sm (h-1) λi=>sm (w-1) λj=>bi ((f i j&&f (i+1) j)&&(f i (j+1)&&f (i+1) (j+1))):=by
  rw[sD (h:=λi=>ru w λj=>f i j&&f (i+1) j) (f:=λi=>sm w λj=>bi (f i j&&f (i+1) j)) (g:=λi=>sm (w-1) λj=>bi ((f i j&&f (i+1) j)&&(f i (j+1)&&f (i+1) (j+1)))) (a:=1) (b:=-1) (λi=>?_) (h-1)]
  ·exact IV
  ·unfold ru Rr;rw[o7 (f:=λj=>bi ((f i j&&f (i+1) j)&&(f i j&&f (i+1) j))) (g:=λj=>bi (f i j&&f (i+1) j)) λj _=>CK _];dsimp only;exact mK
 dsimp only;rw[c,d]
theorem Gv{h w:Nat}{a b:Nat->Nat->Bool}(e:∀i j,i<h->j<w->a i j=!b i j):gs h w (λi j=>bi (a i j))=h*(w*1)-gs h w λi j=>bi (b i j):=by
 rw[Fy (ψ:=λi j=>1-bi (b i j)) λi j d c=>by rw[e i j d c];cases b i j<;>rfl];rw[Jr (χ:=λi j=>1-bi (b i j)) (φ:=λ_ _=>1) (ψ:=λi j=>bi (b i j)) (a:=1) (b:=-1) (λi j=>mK),xo3];exact IV
theorem xe3{α c:Type}{g:α->c}(inj:∀a b,g a=g b->a=b){l:List α}(h:l.Nodup):(l.map g).Nodup:=by
 rw[Yb,Vt];exact(Yb.mp h).imp λn e=>n (inj _ _ e)
theorem Fx{h w:Nat}{S:List (Nat×Nat)}{q:Nat->Nat->Bool}(nd:S.Nodup)(hb:∀x∈S,x.1<h/\x.2<w)(e:∀i j,q i j=true<->(i,j)∈S):gs h w (λi j=>bi (q i j))=S.length:=by
 rw[Pa nd hb];exact Fy λi j _ _=>by rw[show q i j=decide ((i,j)∈S) by rw[Yn,e,YA]]
def up1(x:Nat×Nat):Nat×Nat:=(x.1+1,x.2+1)
def Fl(x:Nat×Nat):Nat×Nat:=(x.1+1,x.2)
def Fm(x:Nat×Nat):Nat×Nat:=(x.1,x.2+1)
theorem q28{h w:Nat}{S C L U:List (Nat×Nat)}(N:0<h)(hw:0<w)(nd:S.Nodup)(T:C.Nodup)(K:L.Nodup)(J:U.Nodup)(hb:∀x∈S,x.1<h/\x.2<w)
  (t:∀i j,(i,j)∈C<->∃x∈S,(i=x.1\/i=x.1+1)/\(j=x.2\/j=x.2+1)) (u:∀i j,(i,j)∈L<->∃x∈S,(i=x.1\/i=x.1+1)/\j=x.2) (A:∀i j,(i,j)∈U<->∃x∈S,i=x.1/\(j=x.2\/j=x.2+1)):
  (C.length:Int)-(L.length+U.length)+S.length=1-gP h w λi j=>!decide ((i,j)∈S):=by
 let q:Nat->Nat->Bool:=λi j=>decide ((i,j)∈S.map up1)
 have m:∀i j,q i j=true<->∃x∈S,i=x.1+1/\j=x.2+1:=λi j=>by
  rw[YA,ZU];constructor
  ·rintro⟨x,d,e⟩;exact⟨x,d,(ZZ Prod.fst e).symm,(ZZ Prod.snd e).symm⟩
  ·rintro⟨x,d,l,k⟩;exact⟨x,d,XG l.symm k.symm⟩
 have I:∀i j,i<h+2->j<w+2->pad2 h w (λi j=>!decide ((i,j)∈S)) i j=!q i j:=λi j Y Z=>by
  unfold pad2 pd;by_cases c:(1<=i/\i<=h)/\(1<=j/\j<=w)
  ·rw[Zk c.1,Zk c.2];show(!decide ((i-1,j-1)∈S))=!q i j;congr 1;rw[Yn,YA,m];constructor
   ·exact λz=>⟨_,z,by show i=i-1+1;lia,by show j=j-1+1;lia⟩
   ·rintro⟨x,d,l,k⟩;have:(i-1,j-1)=x:=XG (by show i-1=x.1;exact mL l) (by show j-1=x.2;exact mL k);rw[this];exact d
  ·have X:q i j=false:=by
    rw[<- Bool.not_eq_true,m];rintro⟨x,d,l,k⟩;have:=hb x d;exact c ⟨⟨oB l,by lia⟩,oB k,by lia⟩
   rw[X];split
   ·rw[Zi λz=>c ⟨by assumption,z⟩];rfl
   ·rfl
 rw[<- Jt N hw,ke I,xT5];have s:∀{g:Nat×Nat->Nat×Nat}{M:List (Nat×Nat)},(∀a b,g a=g b->a=b)->M.Nodup->(M.map g).Nodup:=λa b=>xe3 a b;have W:∀a b,up1 a=up1 b->a=b:=λa b e=>by
  have l:=ZZ Prod.fst e;have k:=ZZ Prod.snd e;exact XG (WO l) (WO k)
 have G:∀a b,Fl a=Fl b->a=b:=λa b e=>by
  have l:=ZZ Prod.fst e;have k:=ZZ Prod.snd e;exact XG (WO l) k
 have V:∀a b,Fm a=Fm b->a=b:=λa b e=>by
  have l:=ZZ Prod.fst e;have k:=ZZ Prod.snd e;exact XG l (WO k)
 have O:∀{M:List (Nat×Nat)}{i j},(i,j)∈M.map Fl<->1<=i/\(i-1,j)∈M:=λ{M i j}=>by
  rw[ZU];constructor
  ·rintro⟨x,d,e⟩;have l:=ZZ Prod.fst e;have k:=ZZ Prod.snd e;have l:x.1+1=i:=l;have k:x.2=j:=k;refine⟨by lia,?_⟩;rw[show(i-1,j)=x from XG (by show i-1=x.1;lia) k.symm];exact d
  ·rintro⟨h1,f⟩;exact⟨_,f,XG (by show i-1+1=i;lia) rfl⟩
 have H:∀{M:List (Nat×Nat)}{i j},(i,j)∈M.map Fm<->1<=j/\(i,j-1)∈M:=λ{M i j}=>by
  rw[ZU];constructor
  ·rintro⟨x,d,e⟩;have l:=ZZ Prod.fst e;have k:=ZZ Prod.snd e;have l:x.1=i:=l;have k:x.2+1=j:=k;refine⟨by lia,?_⟩;rw[show(i,j-1)=x from XG l.symm (by show j-1=x.2;lia)];exact d
  ·rintro⟨h1,f⟩;exact⟨_,f,XG rfl (by show j-1+1=j;lia)⟩
 have Q:gs (h+2) (w+2) (λi j=>bi (q i j))=S.length:=by
  have:=Fx (q:=q) (h:=h+2) (w:=w+2) (s W nd) (λx d=>by
   obtain⟨y,n,rfl⟩:=ZU.mp d;have:=hb y n;exact⟨by show y.1+1<_;lia,by show y.2+1<_;lia⟩) λi j=>YA
  rwa [Zg]at this
 have F:gs (h+2) (w+1) (λi j=>bi (q i j||q i (j+1)))=U.length:=by
  have:=Fx (S:=U.map Fl) (q:=λi j=>q i j||q i (j+1)) (h:=h+2) (w:=w+1) (s G J) (λx d=>by
   obtain⟨y,n,rfl⟩:=ZU.mp d;obtain⟨z,p,h1,f⟩:=(A y.1 y.2).mp n;have:=hb z p;exact⟨by show y.1+1<_;lia,by show y.2<_;lia⟩) λi j=>by
    rw[XF,m,m,O,A];constructor
    ·rintro(⟨x,d,h1,f⟩|⟨x,d,h1,f⟩)
     ·exact⟨oB h1,x,d,mL h1,by lia⟩
     ·exact⟨oB h1,x,d,mL h1,by lia⟩
    ·rintro⟨r,x,d,h1,f|f⟩
     ·exact .inr ⟨x,d,tY r h1,oG f⟩
     ·exact .inl ⟨x,d,tY r h1,f⟩
  rwa [Zg]at this
 have R:gs (h+1) (w+2) (λi j=>bi (q i j||q (i+1) j))=L.length:=by
  have:=Fx (S:=L.map Fm) (q:=λi j=>q i j||q (i+1) j) (h:=h+1) (w:=w+2) (s V K) (λx d=>by
   obtain⟨y,n,rfl⟩:=ZU.mp d;obtain⟨z,p,h1,f⟩:=(u y.1 y.2).mp n;have:=hb z p;exact⟨by show y.1<_;lia,by show y.2+1<_;lia⟩) λi j=>by
    rw[XF,m,m,H,u];constructor
    ·rintro(⟨x,d,h1,f⟩|⟨x,d,h1,f⟩)
     ·exact⟨oB f,x,d,by lia,mL f⟩
     ·exact⟨oB f,x,d,by lia,mL f⟩
    ·rintro⟨r,x,d,h1|h1,f⟩
     ·exact .inr ⟨x,d,oG h1,tY r f⟩
     ·exact .inl ⟨x,d,h1,tY r f⟩
  rwa [Zg]at this
 have P:gs (h+1) (w+1) (λi j=>bi ((q i j||q (i+1) j)||(q i (j+1)||q (i+1) (j+1))))=C.length:=by
  refine Fx (S:=C) (q:=λi j=>(q i j||q (i+1) j)||(q i (j+1)||q (i+1) (j+1))) (h:=h+1) (w:=w+1) T (λy n=>?_) λi j=>?_
  ·obtain⟨z,p,h1,f⟩:=(t y.1 y.2).mp n;have:=hb z p;exact⟨by lia,by lia⟩
  ·rw[XF,XF,XF,m,m,m,m,t];constructor
   ·rintro((⟨x,d,h1,f⟩|⟨x,d,h1,f⟩)|(⟨x,d,h1,f⟩|⟨x,d,h1,f⟩))<;>exact⟨x,d,by lia,by lia⟩
   ·rintro⟨x,d,h1|h1,f|f⟩
    ·exact .inr (.inr ⟨x,d,oG h1,oG f⟩)
    ·exact .inl (.inr ⟨x,d,oG h1,f⟩)
    ·exact .inr (.inl ⟨x,d,h1,oG f⟩)
    ·exact .inl (.inl ⟨x,d,h1,f⟩)
 rw[show h+2-1=h+1 from rfl,show w+2-1=w+1 from rfl];have D:=Gv (h:=h+2) (w:=w+2) (a:=λi j=>!q i j) (b:=q) λi j _ _=>rfl;have v:=Gv (h:=h+2) (w:=w+1) (a:=λi j=>!q i j&&!q i (j+1)) (b:=λi j=>q i j||q i (j+1)) λi j _ _=>by rw[Ux]
 have E:=Gv (h:=h+1) (w:=w+2) (a:=λi j=>!q i j&&!q (i+1) j) (b:=λi j=>q i j||q (i+1) j) λi j _ _=>by rw[Ux]
 have B:=Gv (h:=h+1) (w:=w+1) (a:=λi j=>(!q i j&&!q (i+1) j)&&(!q i (j+1)&&!q (i+1) (j+1))) (b:=λi j=>(q i j||q (i+1) j)||(q i (j+1)||q (i+1) (j+1))) λi j _ _=>by rw[Ux,Ux,Ux]
 rw[Q]at D;rw[F]at v;rw[R]at E;rw[P]at B;rw[D,v,E,B];push_cast
 grind
end Qf
namespace L2
open PySem PySem.Spec PyProof.Rows PySem.W
theorem SG{d:ae}{kvs:List (List Key×V)}{o:aw}{g:TG}{tb:TS}{D:Ends}{σ:St}{H:Hp}(Pv:Nat->St->Hp->Prop)(hk:∀i σ f,Pv i σ f->f d=some (.gC o (.dT kvs)))(h0:Pv 0 σ H)
  (hs:∀i b kv σ H,kvs[i]?=some kv->H b=some (.tup (kv.1.map kV))->Pv i σ H->g (.ref b) σ H λj f=>tb {D with nx:=Pv (i+1),ct:=Pv (i+1),bk:=D.nx} j f) (t:∀σ H,Pv kvs.length σ H->D.nx σ H):
  ∃W:Nat->Nat->St->Hp->Prop,(∃m,W 0 m σ H)/\∀i m σ H,W i m σ H ->
   ((oR d kvs o).stop i H/\D.nx σ H)\/((oR d kvs o).go i H/\∃N:St->Hp->Prop,(∀a c,N a c->∃k,k<m/\W (i+1) k a c)/\∀x c,(oR d kvs o).lV i H x c->g x σ c λj f=>tb {D with nx:=N,ct:=N,bk:=D.nx} j f):=by
 refine⟨λi m σ H=>m=kvs.length-i/\i<=kvs.length/\Pv i σ H,⟨kvs.length,by simp,Zs _,h0⟩,?_⟩;rintro i m σ H ⟨rfl,q,p⟩;have l:=hk i σ H p;by_cases h:i<kvs.length
 ·refine .inr ⟨⟨l,h⟩,Pv (i+1),λa c n=>⟨kvs.length-(i+1),q9 h,rfl,h,n⟩,λx c y=>?_⟩;obtain⟨r,b,kv,u,s,v⟩:=y;subst r s;exact hs i b kv σ _ u v p
 ·have e:i=kvs.length:=by exact oJ q h
  subst e;exact .inl ⟨⟨l,rfl⟩,t σ H p⟩
theorem Rd.aH{H:Hp}{d k:ae}{x u:HO}(h:Rd H d x)(hk:H k=none):Rd (upd H k u) d x:=h.imp (λh=>L2.aH h hk) λ⟨o,h⟩=>⟨o,L2.aH h hk⟩
theorem Rd.ne{H:Hp}{d k:ae}{x:HO}(h:Rd H d x)(hk:H k=none):d≠k:=h.elim (λh=>cI h hk) λ⟨_,h⟩=>cI h hk
section
variable{X:Cx}
inductive jh(xs:List V)(H:Hp)(Q:VK):Prop
 |mk(d:_)(kvs:_)(aT:xs=[V.ref d])(cV:Rd H d (.dT kvs))(cw:Q (.int kvs.length) H)
theorem Gk:f_ X (.builtin "len") jh:=by
 intro x s t H n v Q I r h;obtain⟨d,a,rfl,l,q⟩:=h;obtain⟨u,rfl,ru⟩:=iq r;cases ru;obtain⟨z,k,y,e,o,b,w,m,j,i,f,p⟩:=(show bo X.prog X.w H s.heap d (.dT a)from IF I.aO l);have g:b.size=a.length:=(Ws f).trans (Yx e).symm;have c:(b.size:Int)<2^63:=by rw[g];rw[XY]at z;lia
 refine R4 k ⟨o,m,j,i⟩ c ⟨.int a.length,H,I.tok _,?_,q⟩;rw[g];exact⟨_,rfl⟩
def xN4(g:TE):TI:=λf H R=>g f H λx e=>∃(d:ae)(a:List (List Key×V)),x=.ref d/\Rd e d (.dT a)/\∀o c,c d=some (.gC o (.dT a))->(∀b,b≠d->c b=e b)->R (oR d a o) c
theorem RR{O l:av}{G:TE}(P:PE X l G):PI X O l (xN4 G):=by
 intro J s F H R I h;refine bz (P J s F H _ I h) λv g ⟨x,w,B,S,d,c,ex,r,q⟩=>?_;subst ex;cases S;obtain⟨o,i,ep,C,D,m,y,t,A,z,k,N,f,L⟩:∃(o:aw)(i:Array aB)(ep:Nat)(C:Hp),Inv X J F C {g with heap:=g.heap,toks:=g.toks}/\g.heap.get? d=some o/\o.ExactDict/\o.data=.dict i ep/\(d==sysModules)=false/\c.length<=sizeLine/\∃k:List (List Key×ae×aa),c.length=k.length/\i.size=k.length/\R (oR d c o) C:=by
  rcases r with r|⟨o,r⟩
  ·obtain⟨z,A,k,j,o,i,ep,m,y,t,f,E⟩:=(show bo X.prog X.w w g.heap d (.dT c)from B.aO d _ r);have M:∀{b:ae}{u:List V},w b=some (.tup u)->upd w d (.gC o (.dT c)) b=some (.tup u):=λ{b u} e=>by
    have:b≠d:=λz=>by rw[z,r]at e;cases e
    rw[bV this];exact e
   have Q:Paired (λ(p:List Key×V) (q:List Key×ae×aa)=>p.1=q.1/\upd w d (.gC o (.dT c)) q.2.1=some (.tup (p.1.map kV))/\RelV p.2 q.2.2) c k:=xc9 (λa b h=>⟨h.1,M h.2.1,h.2.2⟩) j;exact⟨o,i,ep,upd w d (.gC o (.dT c)),B.write (x:=d) (e:=d) (by rw[r];exact True.intro) (.inl rfl) (λb u hb e=>e) ⟨o,m⟩ ⟨m,z,A,k,Q,o,i,ep,m,y,t,f,E⟩,m,y,t,A,z,k,Yx j,Ws f,q o _ aX λb n=>bV n⟩
  ·obtain⟨K,z,A,k,j,T,i,ep,m,y,t,f,E⟩:=(show bo X.prog X.w w g.heap d (.gC o (.dT c))from B.aO d _ r);rw[K]at m;cases m;exact⟨o,i,ep,w,B,K,y,t,A,z,k,Yx j,Ws f,q o _ r λb n=>rfl⟩
 refine SN (tab:=i) (ep:=ep) A ⟨o,m,y,t⟩ ?_;refine⟨g.heap.objs.size,[g.heap.objs.size],_,_,_,rfl,D.kept (t':=g.toks) λb q e=>Zc _ e,q23 (o:=o) (ep:=ep) t (ue N f),⟨_,Zj _ rfl,rfl,rfl⟩,λb hb=>?_,L⟩;have e:b=g.heap.objs.size:=by simpa using hb
 subst e;exact D.iG (Zd _) (D.aO.fresh (Zd _))
end
def dD{α:Type}(κ:α->List Key)(C:List α):List (List Key×V):=C.map λx=>(κ x,.bl true)
def ee{α:Type}[DecidableEq α](x:α)(C:List α):List α:=if x∈C then C else C++[x]
section
variable{α:Type}[DecidableEq α]{κ:α->List Key}
theorem O9(inj:∀a b,κ a=κ b->a=b)(C:List α)(x:α)[Decidable (x∈C)]:(dD κ C).any (λkv=>decide (kv.1=κ x))=decide (x∈C):=by
 rw[Yn,Ym,YA];constructor
 ·rintro⟨kv,c,e⟩;obtain⟨y,d,rfl⟩:=ZU.mp c;have:y=x:=inj _ _ (ZJ e);rw[<- this];exact d
 ·exact λh=>⟨(κ x,.bl true),ZU.mpr ⟨x,h,rfl⟩,Zo rfl⟩
theorem JB(inj:∀a b,κ a=κ b->a=b)(C:List α)(x:α)[Decidable (x∈C)]:(b_ (dD κ C) (κ x)).isSome=decide (x∈C):=by
 rw[<- o8,O9 inj]
theorem Jp(inj:∀a b,κ a=κ b->a=b)(C:List α)(x:α):putK (dD κ C) (κ x) (.bl true)=dD κ (ee x C):=by
 unfold putK ee;rw[O9 inj];by_cases h:x∈C
 ·rw[Zo h,Zk rfl,Zk h];unfold dD;rw[YL];refine YI λy _=>?_;show(if κ y=κ x then(κ y,V.bl true)else(κ y,V.bl true))=_;split<;>rfl
 ·rw[Zm h,Zi 'b',Zi h];unfold dD;rw[ZL]
  rfl
theorem xD4{x:α}{C:List α}(h:C.Nodup):(ee x C).Nodup:=by
 unfold ee;split
 ·exact h
 ·rename_i d;exact Xz.mpr ⟨h,by simp,λa c b hb e=>d (by rw[Z1]at hb;rw[<- hb,<- e];exact c)⟩
theorem xo4{x y:α}{C:List α}:y∈ee x C<->y∈C\/y=x:=by
 unfold ee;split
 ·rename_i h;exact⟨.inl,λz=>z.elim id λe=>e▸h⟩
 ·rw[ZW,Z1]
theorem xo5(x:α)(C:List α):(ee x C).length<=C.length+1:=by
 unfold ee;split
 ·exact gT
 ·rw[Zw];exact Zd _
theorem uZ(C:List α):(dD κ C).length=C.length:=Zg _
end
end L2
namespace L2
open PySem
def cK(x:Nat×Nat):List Key:=[.inl (x.1:Int),.inl (x.2:Int)]
theorem Ck:∀a b,cK a=cK b->a=b:=λa b e=>by
 obtain⟨d,c⟩:=Xr e;obtain⟨c,_⟩:=Xr c;have g:=Wl d;have f:=Wl c;exact XG 'a' 'a'
theorem xo6{H:Hp}{d b:ae}{S:List (Nat×Nat)}{i j:Nat}(h:Rd H d (.dT (dD cK S)))(hb:H b=some (.tup [.int (i:Nat),.int (j:Nat)])):dn H d (.ref b) (b_ (dD cK S) (cK (i,j))):=.inr ⟨_,cK (i,j),b,h,rfl,hb,rfl⟩
end L2
namespace Qf
def Ol(S:List (Nat×Nat))(x:Nat×Nat):Int:=- bi (decide ((x.1,x.2+1)∈S))-bi (decide ((x.1+1,x.2)∈S))+bi (decide ((x.1,x.2+1)∈S))*bi (decide ((x.1+1,x.2)∈S))*bi (decide ((x.1+1,x.2+1)∈S))
theorem xo7{S:List (Nat×Nat)}{g:Nat×Nat->Int}{i:Nat}{x:Nat×Nat}(h:S[i]?=some x):((S.take (i+1)).map g).sum=((S.take i).map g).sum+g x:=by
 obtain⟨a,e⟩:=cz h;rw[YM a,e,ZL,List.sum_append];simp
end Qf
namespace Pr
open PySem L2 Qf
abbrev nBs:List ar:=["_law_there","_law_found","_law_r","_law_c","_law_one","_law_other"]
theorem mw:aI nBs ["_law_there"] (ck FI):=dz
inductive Bz(vs:List V)(H:Hp)(Q:VK):Prop
 |mk(d:ae)(S:List (Nat×Nat))(e0:vs=[.ref d])(e1:Rd H d (.dT (dD cK S)))(e2:∀H',bu d H H'->Rd H' d (.dT (dD cK S))->Q (.int (CJ S)) H')
def BA:Sp:=λa H Q _=>Bz a H Q
theorem xD5(a b c:Bool):su (bi a*bi b) (bi c):=.inl (by cases a<;>cases b<;>exact⟨by decide,by decide⟩)
theorem xN5{a b:Bool}:su (bi a) (bi b):=.inl (by cases a<;>exact⟨by decide,by decide⟩)
theorem xT6{f:ae}{X:ak}(F:bj K "_law_by_sides" "_law_by_sides" FI f X)(B:eR mg):aE P w K mg base aW 1 f X ["_law_there"] BA:=by
 refine F.ok mw (λvs H Q E h=>?_) (λcA A G s H vs Q E hr h=>?_)
 ·obtain⟨d,S,rfl,_⟩:=h
  rfl
 ·obtain⟨d,S,rfl,Z,q⟩:=h;have un:=hr.units;have N:_+1<cLine:=Ys (WU (show 1<=64 by decide) _) un;refine aZ ⟨_,⟨cR 1 mw.nd (dH Gk (by rfl) B.len Yq (aF (pv 0) aQ))⟩,?_⟩;refine aZ ⟨_,⟨og Yv rfl (RR (pv 0)) (qg rfl (gc (eD 2 mw.nd) (gc (eD 3 mw.nd) qh)))
   (gZ.go (.cons ⟨cR 4 mw.nd (hV Ce (by rfl) B.int Xk (aF (bU.go ⟨LG (CB N (bU.go ⟨eM (aF (pv 2) (aF (a_ df (pv 3) aV) aQ))⟩) (pv 0)) (by first|exact dA _|rfl|decide|with_unfolding_all rfl)⟩) aQ))⟩
    (.cons ⟨cR 5 mw.nd (hV Ce (by rfl) B.int Xk (aF (bU.go ⟨LG (CB N (bU.go ⟨eM (aF (a_ df (pv 2) aV) (aF (pv 3) aQ))⟩) (pv 0)) (by first|exact dA _|rfl|decide|with_unfolding_all rfl)⟩) aQ))⟩
    (.one ⟨cR 1 mw.nd (a_ df (a_ gA (a_ gA (pv 1) (pv 4)) (pv 5)) (bU.go ⟨a_ qe (bU.go ⟨a_ qe (pv 4) (pv 5)⟩) (bU.go ⟨hV Ce (by rfl) B.int Xk (aF (bU.go ⟨LG (CB N (bU.go ⟨eM (aF (a_ df (pv 2) aV) (aF (a_ df (pv 3) aV) aQ))⟩) (pv 0)) (by first|exact dA _|rfl|decide|with_unfolding_all rfl)⟩) aQ)⟩)⟩))⟩))))⟩,?_⟩
  refine fZ ⟨_,⟨cQ (pv 1)⟩,?_⟩;refine⟨_,rfl,d,_,rfl,Z,?_⟩;rw[uZ];refine⟨_,rfl,d,_,rfl,Z,λo H1 MC kG=>SG (λi m a=>a d=some (.gC o (.dT (dD cK S)))/\bu d H a/\∃v I J R,m=[some (.ref d),some (.int ((S.length:Int)+((S.take i).map (Ol S)).sum)),v,I,J,R]) (λi m a h=>h.1)
   ⟨MC,λx u e n=>by rw[kG _ n];exact e,none,none,none,none,by rw[show((S.take 0).map (Ol S)).sum=0 from rfl,Int.add_zero];rfl⟩ ?_ ?_⟩
  ·rintro i b kv m a M hb ⟨l,bt,v,I,J,R,rfl⟩;unfold dD at M;rw[Zh]at M;obtain⟨⟨r,c⟩,hx,rfl⟩:=Zl.mp M
   replace hb:a b=some (.tup [.int (r:Nat),.int (c:Nat)]):=hb
   refine⟨b,_,rfl,bg.of hb,rfl,_,_,rfl,_,_,rfl,rfl,?_⟩;have rd:∀{g:Hp},aG a g->Rd g d (.dT (dD cK S)):=λs=>.inr ⟨o,s _ _ l⟩;have O:∀{g:Hp}{t:ae}{x y:Int}{i j:Nat},x=(i:Nat)->y=(j:Nat)->g t=none->aG a g->dn (upd g t (.tup [.int x,.int y])) d (.ref t) (b_ (dD cK S) (cK (i,j))):=λ{g t x y i j} e1 e2 ht s=>by
    subst e1 e2;exact xo6 (rd (s.trans (bw ht))) aX
   refine⟨_,rfl,_,rfl,_,_,rfl,rfl,(by show 2<=sizeLine;decide),λY U=>⟨_,rfl,d,_,rfl,O (i:=r) (j:=c+1) rfl Fg U (aG.refl _),.inr ⟨_,rfl,?_⟩⟩⟩;rw[JB Ck];have T:aG a (upd a Y (.tup [.int (r:Nat),.int ((c:Nat)+1)])):=bw U;generalize upd a Y (.tup [.int (r:Nat),.int ((c:Nat)+1)])=H3 at T;refine⟨_,rfl,_,_,rfl,rfl,_,rfl,(by show 2<=sizeLine;decide),λW V=>⟨_,rfl,d,_,rfl,O (i:=r+1) (j:=c) Fg rfl V T,.inr ⟨_,rfl,?_⟩⟩⟩;rw[JB Ck];have L:aG a (upd H3 W (.tup [.int ((r:Nat)+1),.int (c:Nat)])):=T.trans (bw V);generalize upd H3 W (.tup [.int ((r:Nat)+1),.int (c:Nat)])=H4 at L;refine⟨_,rfl,_,rfl,_,_,rfl,rfl,_,rfl,_,_,rfl,rfl,_,rfl,_,rfl,_,_,rfl,rfl,xN5,_,rfl,_,_,rfl,rfl,_,rfl,_,_,rfl,rfl,(by show 2<=sizeLine;decide),λt3 k=>⟨_,rfl,d,_,rfl,O (i:=r+1) (j:=c+1) Fg Fg k L,.inr ⟨_,rfl,?_⟩⟩⟩;rw[JB Ck];have s3:aG a (upd H4 t3 (.tup [.int ((r:Nat)+1),.int ((c:Nat)+1)])):=L.trans (bw k);refine⟨_,_,rfl,rfl,xD5 (decide ((r,c+1)∈S)) (decide ((r+1,c)∈S)) (decide ((r+1,c+1)∈S)),_,_,rfl,rfl,?_⟩;refine⟨s3 _ _ l,bt.trans (bu.of s3),some (.int (r:Nat)),some (.int (c:Nat)),some (.int (bi (decide ((r,c+1)∈S)))),some (.int (bi (decide ((r+1,c)∈S)))),?_⟩;rw[xo7 hx];have:Ol S (r,c)=- bi (decide ((r,c+1)∈S))-bi (decide ((r+1,c)∈S))+bi (decide ((r,c+1)∈S))*bi (decide ((r+1,c)∈S))*bi (decide ((r+1,c+1)∈S)):=rfl;rw[this];have ei:∀A B C D p:Int,A+(B+(-C-D+p))=A+B-C-D+p:=λA B C D p=>by lia
   rw[ei]
   rfl
  ·rintro m a ⟨l,bt,v,I,J,R,rfl⟩;rw[uZ,Wk]at *;exact⟨_,rfl,q a bt (.inr ⟨o,l⟩)⟩
end Pr
namespace Qf
open L2
section
variable{α β:Type}[DecidableEq α]
def dm(l C:List α):List α:=l.foldl (λC x=>ee x C) C
theorem RQ{x:α}:∀{l C:List α},x∈dm l C<->x∈C\/x∈l
 |[],C=>by show x∈C<->_;simp
 |y::l,C=>by
  show x∈dm l (ee y C)<->_;rw[RQ,xo4,Zu,or_assoc]
theorem Qb:∀{l C:List α},C.Nodup->(dm l C).Nodup
 |[],_,h=>h
 |y::l,C,h=>Qb (l:=l) (xD4 h)
theorem Fw:∀(l C:List α),(dm l C).length<=C.length+l.length
 |[],C=>Zd _
 |y::l,C=>by
  show(dm l (ee y C)).length<=_;have:=Fw l (ee y C);have:=xo5 y C;rw[ZM];lia
theorem SF(l:List α)(x:α)(C:List α):dm (l++[x]) C=ee x (dm l C):=by
 unfold dm;rw[Vq]
 rfl
def fF(f:β->List α)(S:List β)(C:List α):List α:=S.foldl (λC y=>dm (f y) C) C
theorem fz{f:β->List α}{x:α}:∀{S:List β}{C:List α},x∈fF f S C<->x∈C\/∃y∈S,x∈f y
 |[],C=>by show x∈C<->_;simp
 |y::S,C=>by
  show x∈fF f S (dm (f y) C)<->_;rw[fz,RQ];constructor
  ·rintro((h|h)|⟨z,a,h⟩)
   ·exact .inl h
   ·exact .inr ⟨y,Zz,h⟩
   ·exact .inr ⟨z,Zp _ a,h⟩
  ·rintro(h|⟨z,a,h⟩)
   ·exact .inl (.inl h)
   ·rcases Zu.mp a with rfl|a
    ·exact .inl (.inr h)
    ·exact .inr ⟨z,a,h⟩
theorem KS{f:β->List α}:∀{S:List β}{C:List α},C.Nodup->(fF f S C).Nodup
 |[],_,h=>h
 |y::S,C,h=>KS (S:=S) (Qb h)
theorem Lg{f:β->List α}{n:Nat}(a:∀y,(f y).length=n):∀(S:List β)(C:List α),(fF f S C).length<=C.length+n*S.length
 |[],C=>by show C.length<=_;exact gT
 |y::S,C=>by
  show(fF f S (dm (f y) C)).length<=_;have h1:=Lg a S (dm (f y) C);have b:=Fw (f y) C;rw[a]at b;rw[ZM,Nat.mul_succ];lia
theorem SE{f:β->List α}{S:List β}{C:List α}{i:Nat}{y:β}(h:S[i]?=some y):fF f (S.take (i+1)) C=dm (f y) (fF f (S.take i) C):=by
 obtain⟨a,e⟩:=cz h;unfold fF;rw[YM a,e,Vq]
 rfl
end
def cs(y:Nat×Nat):List (Nat×Nat):=(List.range 4).map λj=>(y.1+j/2,y.2+j%2)
def n0(y:Nat×Nat):List (Bool×Nat×Nat):=[(true,y.1,y.2),(true,y.1+1,y.2),(false,y.1,y.2),(false,y.1,y.2+1)]
def zH(S:List (Nat×Nat)):List (Nat×Nat):=fF cs S []
def iV(S:List (Nat×Nat)):List (Bool×Nat×Nat):=fF n0 S []
def Cc(S:List (Nat×Nat)):Int:=((zH S).length:Int)-(iV S).length+S.length
theorem RP{α:Type}(p:α->Bool):∀l:List α,(l.filter p).length+(l.filter λx=>!p x).length=l.length
 |[]=>rfl
 |x::l=>by
  have a:=RP p l;rw[Y9,Y9];cases p x<;>simp<;>lia
theorem qM9{h w:Nat}{S:List (Nat×Nat)}(t:0<h)(hw:0<w)(nd:S.Nodup)(hb:∀x∈S,x.1<h/\x.2<w):Cc S=1-gP h w λi j=>!decide ((i,j)∈S):=by
 have n:(iV S).Nodup:=KS Xv;have g:=RP (λx:Bool×Nat×Nat=>x.1) (iV S);have k:∀b:Bool,(((iV S).filter λx=>x.1==b).map (·.2)).Nodup:=λb=>by
  rw[Yb,Vt];refine(Vu.mpr λ{x y} d e=>?_);have h1:=List.Pairwise.sublist (List.filter_sublist (p:=λx:Bool×Nat×Nat=>x.1==b)) (Yb.mp n);have r:=(Vu.mp h1) d;have mx:=d.subset (Zz (a:=x) (l:=[y]));have u:=d.subset (Zp x (Zz (a:=y) (l:=[])));have bx:=(Y2.mp mx).2;have c:=(Y2.mp u).2
  exact r (XG ((by simpa using bx:x.1=b).trans (by simpa using c:y.1=b).symm) e)
 have m:∀(b:Bool)(i j:Nat),(i,j)∈((iV S).filter λx=>x.1==b).map (·.2)<->∃y∈S,(b,i,j)∈n0 y:=λb i j=>by
  rw[ZU];constructor
  ·rintro⟨⟨v,x⟩,q,e⟩;obtain⟨h1,D⟩:=Y2.mp q;have e:x=(i,j):=e;subst e;have:v=b:=by simpa using D
   subst this;exact(fz.mp h1).resolve_left (by simp)
  ·rintro⟨y,B,h⟩;exact⟨(b,i,j),Y2.mpr ⟨fz.mpr (.inr ⟨y,B,h⟩),by simp⟩,rfl⟩
 have key:=q28 t hw nd (C:=zH S) (KS Xv) (k true) (k false) hb (λi j=>by
   unfold zH;rw[fz];have s:∀y:Nat×Nat,(i,j)∈cs y<->(i=y.1\/i=y.1+1)/\(j=y.2\/j=y.2+1):=λy=>by
    unfold cs;simp only[YC,List.range_zero,ZL,ZB,WQ,VS,ZW,Zu,Yd,Wi,WW];lia
   simp only[Yd,false_or,s]) (λi j=>by
   rw[m];have f:∀y:Nat×Nat,(true,i,j)∈n0 y<->(i=y.1\/i=y.1+1)/\j=y.2:=λy=>by
    unfold n0;simp only[Zu,Yd,Wi,WW,true_and,reduceCtorEq,false_and];lia
   simp only[f]) (λi j=>by
   rw[m];have f:∀y:Nat×Nat,(false,i,j)∈n0 y<->i=y.1/\(j=y.2\/j=y.2+1):=λy=>by
    unfold n0;simp only[Zu,Yd,Wi,WW,true_and,reduceCtorEq,false_and,false_or];lia
   simp only[f])
 rw[<- key,Zg,Zg];unfold Cc;have E:(iV S).filter (λx=>x.1==true)=(iV S).filter (λx=>x.1):=by congr 1;funext x;cases x.1<;>rfl
 have A:(iV S).filter (λx=>x.1==false)=(iV S).filter (λx=>!x.1):=by congr 1;funext x;cases x.1<;>rfl
 rw[E,A];lia
def A4(sd:Bool)(S:List (Nat×Nat)):Int:=if sd then CJ S else Cc S
theorem RO{sd:Bool}{h w:Nat}{S:List (Nat×Nat)}{f:Nat->Nat->Bool}(a:0<h)(hw:0<w)(nd:S.Nodup)(hb:∀x∈S,x.1<h/\x.2<w)(e:∀i j,i<h->j<w->(f i j=true<->(i,j)∈S)):A4 sd S=n6 sd h w f:=by
 rw[KH (f:=f) (g:=λi j=>decide ((i,j)∈S)) a hw λi j b c=>by rw[Yn,e i j b c,YA]];unfold A4 n6;rw[q27 a hw nd hb,qM9 a hw nd hb]
def pr(x:Nat×Nat):Row:=[x.1,x.2]
def BU(s i:Nat):Nat×Nat:=(i/s,i%s)
theorem xN6{s:Nat}(hs:0<s):∀n,((List.range n).map (BU s)).Nodup:=λn=>by
 rw[Yb,Vt];refine(Yb.mp List.nodup_range).imp λ{a b} h e=>h ?_;have c:a/s=b/s:=ZZ Prod.fst e;have d:a%s=b%s:=ZZ Prod.snd e;rw[<- Yo a s,<- Yo b s,c,d]
end Qf
namespace Qf
open Tr L2
def xk(x:Nat×Nat):Row:=[x.1,x.2,1,1]
def jk(n:Nat)(S:List (Nat×Nat)):Tr:=bt n (S.map xk) 0 0
theorem xD6{n:Nat}{S:List (Nat×Nat)}(i j:Nat):aK n (jk n S) i j=true<->(i%2^n,j%2^n)∈S:=by
 have c:=FF n (jk n S) (i/2^n) (j/2^n) (i%2^n) (j%2^n);rw[Yo,Yo]at c;rw[c];have d:=Yr i (fj n);have e:=Yr j (fj n);generalize i%2^n=a at d ⊢;generalize j%2^n=b at e ⊢;have h1:=Qg n (S.map xk) 0 0 a b (Yl d) (Yl e);rw[UL]at h1;show aK n (bt n (S.map xk) 0 0) a b=true<->_;rw[h1,Ym];constructor
 ·rintro⟨r,f,h⟩;obtain⟨x,g,rfl⟩:=ZU.mp f;have h:=ZJ h;have h:x.1<=a/\a+1<=x.1+1/\x.2<=b/\b+1<=x.2+1:=h;have:(a,b)=x:=XG (by show a=x.1;lia) (by show b=x.2;lia);rw[this];exact g
 ·exact λh=>⟨_,ZU.mpr ⟨_,h,rfl⟩,Zo ⟨Zd _,Zd _,Zd _,Zd _⟩⟩
theorem Jo(n:Nat)(S:List (Nat×Nat)):dep (jk n S)<=n:=x5 n _ 0 0
end Qf
namespace Qf
open Tr
def Zf(f:Nat->Nat->Bool)(i j:Nat):Bool:=if 1<=i/\1<=j then f (i-1) (j-1)else false
def tZ(sd:Bool)(h w:Nat)(F:Nat->Nat->Bool):Int:=if sd then gE h w F else 1-gE h w λi j=>!F i j
theorem RN{sd:Bool}{h w:Nat}{F G:Nat->Nat->Bool}(e:∀i j,i<h->j<w->F i j=G i j):tZ sd h w F=tZ sd h w G:=by
 unfold tZ;rw[ke e,ke (f:=λi j=>!F i j) (g:=λi j=>!G i j) λi j b a=>by rw[e i j b a]]
theorem O8{sd:Bool}{F:Nat->Nat->Bool}{ρ τ:Nat->Nat}{h w:Nat}(a:ρ 0=0)(d:τ 0=0)(b:∀i,i<h->ρ (i+1)=ρ i\/ρ (i+1)=ρ i+1)(c:∀i,i<w->τ (i+1)=τ i\/τ (i+1)=τ i+1):tZ sd (h+1) (w+1) (λi j=>F (ρ i) (τ j))=tZ sd (ρ h+1) (τ w+1) F:=by
 unfold tZ;rw[Js a d b c,Js (f:=λi j=>!F i j) a d b c]
theorem xD7{h p q:Nat}{f:Nat->Nat->Bool}(b:0<p)(a:0<q)(z:∀i j,p<=j->f i j=false):gE h (p+q) f=gE h p f:=by
 rw[G4 f b a,ke (f:=λi j=>f i (p+j)) (g:=λ_ _=>false) λi j _ _=>z _ _ gT,BX,i6 (z:=λ_=>false) λi _=>by rw[z i p (Zd _),Y1],yi];exact Jb
theorem xD8{w p q:Nat}{f:Nat->Nat->Bool}(b:0<p)(a:0<q)(z:∀i j,p<=i->f i j=false):gE (p+q) w f=gE p w f:=by
 rw[KW f b a,ke (f:=λi j=>f (p+i) j) (g:=λ_ _=>false) λi j _ _=>z _ _ gT,BX,i6 (z:=λ_=>false) λj _=>by rw[z p j (Zd _),Y1],yi];exact Jb
theorem xT7(f:Nat->Nat->Bool)(i j:Nat):Zf f (1+i) (1+j)=f i j:=by
 unfold Zf;rw[Zk 'a',show 1+i-1=i from mM,show 1+j-1=j from mM]
theorem QD(f:Nat->Nat->Bool)(j:Nat):Zf f 0 j=false:=Zi 'a'
theorem QC(f:Nat->Nat->Bool)(i:Nat):Zf f i 0=false:=Zi 'a'
theorem Gu{sd:Bool}{h w:Nat}{f:Nat->Nat->Bool}(k:0<h)(hw:0<w)(z:∀i j,h<=i\/w<=j->f i j=false):n6 sd h w f=tZ sd (h+2) (w+2) (Zf f):=by
 unfold n6 tZ;cases sd with
 |true=>
  rw[Zk rfl,Zk rfl,show h+2=1+(h+1) by lia,show w+2=1+(w+1) by lia,KW _ 'b' ug];rw[ke (h:=1) (g:=λ_ _=>false) λi j a _=>by rw[show i=0 from Jd a];exact QD f j,BX,i6 (y:=λj=>Zf f (1-1) j&&Zf f 1 j) (z:=λ_=>false) λj _=>by show(Zf f 0 j&&_)=_;rw[QD];rfl,yi];rw[G4 _ 'b' ug,ke (w:=1) (g:=λ_ _=>false) λi j _ b=>by rw[show j=0 from Jd b];exact QC f _,BX,i6 (y:=λi=>Zf f (1+i) (1-1)&&Zf f (1+i) 1) (z:=λ_=>false) λj _=>by show(Zf f _ 0&&_)=_;rw[QC];rfl,yi];rw[ke (f:=λi j=>Zf f (1+i) (1+j)) (g:=f) λi j _ _=>xT7 f i j,xD8 (q:=1) k 'b' λi j a=>z i j (.inl a),xD7 (q:=1) hw 'b' λi j b=>z i j (.inr b)];lia
 |false=>
  rw[Zi 'b',Zi 'b',<- Jt k hw];congr 1;refine ke λi j a b=>?_;unfold pad2 pd Zf;by_cases c:1<=i/\1<=j
  ·rw[Zk c];by_cases e:i<=h
   ·rw[Zk ⟨c.1,e⟩];by_cases d:j<=w
    ·rw[Zk ⟨c.2,d⟩]
    ·rw[Zi λz=>d z.2,z (i-1) (j-1) (.inr (oA d))];rfl
   ·rw[Zi λz=>e z.2,z (i-1) (j-1) (.inl (oA e))];rfl
  ·rw[Zi c];split
   ·rw[Zi λz=>c ⟨by lia,by lia⟩];rfl
   ·rfl
theorem xo8(x:Nat){z:Nat}(hz:0<z):(x+1)/z=x/z\/(x+1)/z=x/z+1:=by
 have h1:=Yo x z;have a:=Yr x hz;by_cases c:x%z+1<z
 ·left;have:x+1=z*(x/z)+(x%z+1):=by lia
  rw[this,XW hz,Yl c,Y3]
 ·right;have:x+1=z*(x/z+1):=by rw[WD,Nat.mul_one];lia
  rw[this,Nat.mul_div_cancel_left _ hz]
def iL(R q z i:Nat):Nat:=if i<=R then 0 else if i<=R+q*z then 1+(i-1-R)/z else q+1
theorem RM{R q z:Nat}(d:0<q)(hz:0<z)(i:Nat):iL R q z (i+1)=iL R q z i\/iL R q z (i+1)=iL R q z i+1:=by
 unfold iL;by_cases f:i<=R
 ·rw[Zk f];by_cases b:i+1<=R
  ·rw[Zk b];exact .inl rfl
  ·have g:=Nat.mul_pos d hz;rw[Zi b,Zk 'a',show i+1-1-R=0 by lia,Nat.zero_div];exact .inr rfl
 ·rw[Zi f,Zi (show ¬i+1<=R by lia)];by_cases b:i+1<=R+q*z
  ·rw[Zk b,Zk (show i<=R+q*z from h_ b)];have:=xo8 (i-1-R) hz;rw[show i+1-1-R=i-1-R+1 by lia];lia
  ·rw[Zi b];by_cases c:i<=R+q*z
   ·rw[Zk c];have:(i-1-R)/z=q-1:=by
     have e:i-1-R=z*(q-1)+(z-1):=by
      obtain⟨a,rfl⟩:∃a,q=a+1:=⟨q-1,mN d⟩;rw[VL,Nat.one_mul]at b c;rw[Xn,Z7 z];lia
     rw[e,XW hz,Yl (gJ hz),Y3]
    rw[this];right;lia
   ·rw[Zi c];exact .inl rfl
theorem q29{sd:Bool}{N q z R C:Nat}{f g:Nat->Nat->Bool}(b:0<q)(hz:0<z)(s:R+q*z<=N)(r:C+q*z<=N)(a:∀i j,q<=i\/q<=j->f i j=false)
  (d:∀i j,g i j=((decide (R<=i)&&decide (C<=j))&&f ((i-R)/z) ((j-C)/z))):n6 sd N N g=n6 sd q q f:=by
 have v:=Nat.mul_pos b hz;have p:0<N:=by lia
 have big:∀{i R:Nat},R+q*z<=i->q<=(i-R)/z:=λ{i R} h=>(Nat.le_div_iff_mul_le hz).mpr 'a';rw[Gu p p (λi j h=>by
  rw[d];by_cases c:R<=i/\C<=j
  ·rw[a _ _ (h.imp (λh=>big (ko s h)) λh=>big (ko r h)),Y1]
  ·rw[show(decide (R<=i)&&decide (C<=j))=false by simp only[Bool.and_eq_false_iff,Ve];lia];rfl),Gu b b a]
 have key:∀i j,Zf g i j=Zf f (iL R q z i) (iL C q z j):=λi j=>by
  have e:∀{R i},iL R q z i=0<->i<=R:=λ{R i}=>by
   unfold iL;by_cases c:i<=R
   ·rw[Zk c];exact⟨λ_=>c,λ_=>rfl⟩
   ·rw[Zi c];constructor
    ·intro h;split at h
     ·rw[WR]at h;exact absurd h (Nat.succ_ne_zero _)
     ·exact absurd h (Nat.succ_ne_zero _)
    ·exact λh=>absurd h c
  have u:∀{R i},¬i<=R->iL R q z i-1=(if i<=R+q*z then(i-1-R)/z else q):=λ{R i} c=>by
   unfold iL;rw[Zi c];split
   ·exact Vd 1 _
   ·rfl
  unfold Zf;by_cases l:i<=R
  ·rw[e.mpr l,Zi (show ¬(1<=0/\1<=iL C q z j) by lia)];split
   ·rename_i h;rw[d,show decide (R<=i-1)=false from Zm 'a'];rfl
   ·rfl
  ·by_cases k:j<=C
   ·rw[e.mpr k,Zi (show ¬(1<=iL R q z i/\1<=0) by lia)];split
    ·rename_i h;rw[d,show decide (C<=j-1)=false from Zm 'a',Y1];rfl
    ·rfl
   ·have x:iL R q z i≠0:=λh=>l (e.mp h);have y:iL C q z j≠0:=λh=>k (e.mp h);rw[Zk 'a',Zk 'a',d,u l,u k,Zo (show R<=i-1 from oA l),Zo (show C<=j-1 from oA k)];show f ((i-1-R)/z) ((j-1-C)/z)=_;by_cases n:i<=R+q*z
    ·rw[Zk n];by_cases m:j<=C+q*z
     ·rw[Zk m]
     ·rw[Zi m,a _ _ (.inr (big (R:=C) (i:=j-1) (oA m))),a _ _ (.inr (Zd _))]
    ·rw[Zi n,a _ _ (.inl (big (R:=R) (i:=i-1) (oA n))),a _ _ (.inl (Zd _))]
 have top:∀{R},R+q*z<=N->iL R q z (N+1)=q+1:=λ{R} h=>by
  unfold iL;rw[Zi 'a',Zi 'a']
 have t:∀{R},iL R q z 0=0:=λ{R}=>Zk (Zs _);rw[RN λi j _ _=>key i j];have:=O8 (sd:=sd) (F:=Zf f) (ρ:=iL R q z) (τ:=iL C q z) (h:=N+1) (w:=N+1) t t (λi _=>RM b hz i) λi _=>RM b hz i;rw[top s,top r]at this;exact this
theorem SD{m:Nat}{sd:Bool}{t:Tr}(h:dep t<=m):(if sd then cX t else 1-cX (sR t))=n6 sd (2^m) (2^m) (aK m t):=by
 unfold n6;cases sd with
 |true=>rw[Zk rfl,Zk rfl];exact Ar m t h
 |false=>rw[Zi 'b',Zi 'b',xD1 h]
end Qf
namespace Qf
open Tr L2
def dP(i:Nat)(t:Tr):Tr:=mk (if i=0 then t else .z) (if i=1 then t else .z) (if i=2 then t else .z) (if i=3 then t else .z)
def bit(r j:Nat):Nat:=r/2^j%2
def l6(t:Tr)(R C:Nat):Nat->Tr
 |0=>t
 |j+1=>dP (2*bit R j+bit C j) (l6 t R C j)
theorem xo9{i:Nat}{t:Tr}(h:Red t):Red (dP i t):=by
 unfold dP;have:∀c:Prop,[Decidable c]->Red (if c then t else .z):=λc _=>by split<;>first|exact h|exact trivial
 exact Pj (this _) (this _) (this _) (this _)
theorem xp0{i k:Nat}{t:Tr}(h:dep t<=k):dep (dP i t)<=k+1:=by
 unfold dP;have:∀c:Prop,[Decidable c]->dep (if c then t else .z)<=k:=λc _=>by split<;>first|exact h|exact Zs _
 exact Ph (this _) (this _) (this _) (this _)
theorem xD9{i k:Nat}{t:Tr}(hk:k<4):qr k (dP i t)=if i=k then t else .z:=by
 unfold dP;rw[QJ hk]
 match k,hk with
 |0,_|1,_|2,_|3,_=>rfl
theorem Qa{t:Tr}(h:Red t)(R C:Nat):∀j,Red (l6 t R C j)
 |0=>h
 |j+1=>xo9 (Qa h R C j)
theorem KR{t:Tr}{k:Nat}(h:dep t<=k)(R C:Nat):∀j,dep (l6 t R C j)<=k+j
 |0=>h
 |j+1=>xp0 (KR h R C j)
theorem Lf(k:Nat)(t:Tr)(i j:Nat):aK k t i j=aK k t (i%2^k) (j%2^k):=by
 have h:=FF k t (i/2^k) (j/2^k) (i%2^k) (j%2^k);rw[Yo,Yo]at h;exact h
theorem O7{u r j:Nat}(f:u<2^(j+1)):u=r%2^(j+1)<->u/2^j=bit r j/\u%2^j=r%2^j:=by
 have e:r%2^(j+1)=2^j*bit r j+r%2^j:=by
  unfold bit;rw[YJ,Nat.mod_mul,WR]
 have h1:=Yo u (2^j);have d:=Yr u (fj j);have c:=Yr r (fj j);rw[e];constructor
 ·intro h;rw[h];rw[XW (fj j),Yl c,Y3,Nat.mul_add_mod,Nat.mod_mod];exact⟨rfl,rfl⟩
 ·rintro⟨a,b⟩;rw[<- a,<- b];exact h1.symm
theorem xE0{x y u v:Nat}(a:x<2)(b:y<2)(c:u<2)(d:v<2)(h:2*x+y=2*u+v):u=x/\v=y:=by lia
theorem RL{N:Nat}{t:Tr}(R C:Nat):∀(j a b:Nat),a<2^(N+j)->b<2^(N+j)->aK (N+j) (l6 t R C j) a b=((decide (a/2^N=R%2^j)&&decide (b/2^N=C%2^j))&&aK N t a b)
 |0,a,b,d,hb=>by
  have d:a<2^N:=d;have hb:b<2^N:=hb;rw[Yl d,Yl hb,Nat.pow_zero,Nat.mod_one,Nat.mod_one]
  rfl
 |j+1,a,b,d,hb=>by
  have y:=RL (N:=N) (t:=t) R C j (a%2^(N+j)) (b%2^(N+j)) (Yr _ (fj _)) (Yr _ (fj _));have hk:2*(a/2^(N+j)%2)+b/2^(N+j)%2<4:=by exact qZ
  show aK (N+j) (qr (2*(a/2^(N+j)%2)+b/2^(N+j)%2) (dP _ _)) a b=_;rw[xD9 hk];have top:∀x:Nat,x<2^(N+(j+1))->x/2^N<2^(j+1):=λx g=>by
   rw[YY (fj N),<- YX,WR];exact g
  have p:∀x:Nat,x/2^(N+j)=x/2^N/2^j:=λx=>by rw[YX,XH]
  have n:∀x:Nat,x%2^(N+j)/2^N=x/2^N%2^j:=λx=>by rw[YX,Uh]
  have m:∀x:Nat,x<2^(N+(j+1))->x/2^(N+j)<2:=λx g=>by
   rw[YY (fj _),Z7,<- YJ];exact g
  have v:aK N t (a%2^(N+j)) (b%2^(N+j))=aK N t a b:=by
   rw[Lf N t (a%_),Lf N t a b];have:∀x:Nat,x%2^(N+j)%2^N=x%2^N:=λx=>by rw[YX,Nat.mod_mul_right_mod]
   rw[this,this]
  have f:=O7 (r:=R) (top a d);have e:=O7 (r:=C) (top b hb);rw[<- p]at f e;have k:=m a d;have l:=m b hb;rw[XM k,XM l];have s:bit R j<2:=Yr _ 'b';have w:bit C j<2:=Yr _ 'b';by_cases c:2*bit R j+bit C j=2*(a/2^(N+j))+b/2^(N+j)
  ·rw[Zk c,Lf,y,v,n,n];obtain⟨u,q⟩:=xE0 s w k l c;rw[show decide (a/2^N=R%2^(j+1))=decide (a/2^N%2^j=R%2^j) by rw[YG,f];exact⟨λh=>h.2,λh=>⟨u,h⟩⟩,
    show decide (b/2^N=C%2^(j+1))=decide (b/2^N%2^j=C%2^j) by rw[YG,e];exact⟨λh=>h.2,λh=>⟨q,h⟩⟩]
  ·rw[Zi c,yf];have:¬(a/2^N=R%2^(j+1)/\b/2^N=C%2^(j+1)):=λh=>c (by rw[(f.mp h.1).1,(e.mp h.2).1]);by_cases i:a/2^N=R%2^(j+1)
   ·rw[Zm λh=>this ⟨i,h⟩,Y1];rfl
   ·rw[Zm i];rfl
theorem xe8{t:Tr}(h:dep t<=0):t=.z\/t=.o:=by
 cases t with
 |z=>exact .inl rfl
 |o=>exact .inr rfl
 |nd a b c d=>exact absurd h (by unfold dep;exact Je)
theorem SA(s:Nat):∀(n:Nat)(t:Tr)(a b:Nat),dep t<=n->aK (n+s) t a b=aK n t (a/2^s) (b/2^s)
 |0,t,a,b,h=>by
  rcases xe8 h with rfl|rfl
  ·rw[yf,yf]
  ·rw[oX,oX]
 |n+1,t,a,b,h=>by
  have e:n+1+s=(n+s)+1:=by lia
  rw[e];show aK (n+s) (qr (2*(a/2^(n+s)%2)+b/2^(n+s)%2) t) a b=aK n (qr (2*(a/2^s/2^n%2)+b/2^s/2^n%2) t) (a/2^s) (b/2^s);have d:∀x:Nat,x/2^s/2^n=x/2^(n+s):=λx=>by rw[XH,<- YX,WR]
  rw[d,d];exact SA s n _ a b (Pk qZ _ h)
theorem Fv{n s R i:Nat}(x:Nat)(g:x<2^n):(i/2^(n+s)=R/\i/2^s%2^n=x)<->(R*2^(n+s)<=i/\(i-R*2^(n+s))/2^s=x):=by
 have e:2^(n+s)=2^s*2^n:=by rw[WR,YX]
 have d:=fj (n+s);have key:i/2^s%2^n=i%2^(n+s)/2^s:=by rw[e,Uh]
 constructor
 ·rintro⟨h1,b⟩;have a:=Yo i (2^(n+s));rw[h1]at a;rw[Z7]at a;refine⟨by lia,?_⟩;rw[show i-R*2^(n+s)=i%2^(n+s) by lia,<- key];exact b
 ·rintro⟨h1,b⟩;have a:i-R*2^(n+s)<2^(n+s):=by
   have:(i-R*2^(n+s))/2^s<2^n:=by rw[b];exact g
   rw[YY (fj s)]at this;rw[<- YX]at this;exact this
  have c:i=2^(n+s)*R+(i-R*2^(n+s)):=by rw[Z7];exact qO h1
  have f:i/2^(n+s)=R:=by
   rw[c,XW d,Yl a,Y3]
  have h:i%2^(n+s)=i-R*2^(n+s):=by
   rw[c,Nat.mul_add_mod,XM a,Z7];lia
  exact⟨f,by rw[key,h];exact b⟩
theorem xp1{sd:Bool}{n s J R C:Nat}{S:List (Nat×Nat)}(nd:S.Nodup)(d:∀x∈S,x.1<2^n/\x.2<2^n)(u:R<2^J)(t:C<2^J):(if sd then cX (l6 (jk n S) R C J)else 1-cX (sR (l6 (jk n S) R C J)))=A4 sd S:=by
 have A:dep (l6 (jk n S) R C J)<=n+s+J:=KR (ZF (Jo n S) (YF n s)) R C J;rw[SD A,RO (fj n) (fj n) nd d (f:=λa b=>decide ((a,b)∈S)) λi j _ _=>YA];have fits:∀x:Nat,x<2^J->x*2^(n+s)+2^n*2^s<=2^(n+s+J):=λx y=>by
  rw[<- YX,<- Y5,YX 2 (n+s) J,Z7 (2^(n+s))];exact Xa _ y
 have r:∀i j,2^n<=i\/2^n<=j->decide ((i,j)∈S)=false:=λi j h=>Zm λz=>by
  have:=d _ z;simp only at this;lia
 rw[<- q29 (sd:=sd) (N:=2^(n+s+J)) (q:=2^n) (z:=2^s) (R:=R*2^(n+s)) (C:=C*2^(n+s)) (f:=λa b=>decide ((a,b)∈S))
  (g:=λi j=>(decide (R*2^(n+s)<=i)&&decide (C*2^(n+s)<=j))&&decide (((i-R*2^(n+s))/2^s,(j-C*2^(n+s))/2^s)∈S)) (fj n) (fj s) (fits R u) (fits C t) r λi j=>rfl]
 refine KH (fj _) (fj _) λi j w v=>?_;rw[RL R C J i j w v,XM u,XM t,SA s n _ i j (Jo n S),Yn];simp only[We,YA,xD6];constructor
 ·rintro⟨⟨h1,m⟩,c⟩;have b:=d _ c;obtain⟨e,l⟩:=(Fv _ b.1).mp ⟨h1,rfl⟩;obtain⟨p,k⟩:=(Fv _ b.2).mp ⟨m,rfl⟩;exact⟨⟨e,p⟩,by rw[l,k];exact c⟩
 ·rintro⟨⟨h1,m⟩,c⟩;have b:=d _ c;obtain⟨e,l⟩:=(Fv _ b.1).mpr ⟨h1,rfl⟩;obtain⟨p,k⟩:=(Fv _ b.2).mpr ⟨m,rfl⟩;exact⟨⟨e,p⟩,by rw[l,k];exact c⟩
end Qf
namespace Pr
open PySem L2 Qf
abbrev nPl:List ar:=["_law_pot_here","_law_n","_law_s","_law_m","_law_far"]
theorem sZ:aI nPl ["_law_pot_here","_law_n"] (ck Gx):=dz
inductive Br(vs:List V)(H:Hp)(Q:VK):Prop
 |mk(p:ae)(n:Nat)(e0:vs=[.ref p,.int (n:Nat)])(e1:aY H p)(e2:n<=4)
  (e3:∀(H':Hp)(t:ae)(s J R C:Nat),bu p H H'->aY H' p->H' t=some (.tup [.int ((n+s+J:Nat):Int),.int (s:Nat),.int ((R*2^(n+s):Nat):Int),.int ((C*2^(n+s):Nat):Int)])->n+s+J<=12->R<2^J->C<2^J->Q (.ref t) H')
def Bs:Sp:=λa H Q _=>Br a H Q
theorem xT8{f k:ae}{y l:ak}(F:bj K "_law_place" "_law_place" Gx f y)(g:mg "_law_digit"=some (.ref k))(a:bj K "_law_digit" "_law_digit" tH k l)(d:Binds K l ["_law_pot_here","_law_many"] []):aE P w K mg base aW 2 f y ["_law_pot_here","_law_n"] Bs:=by
 have i:aE P w K mg base aW 1 k l ["_law_pot_here","_law_many"] vh:=Ai a;refine F.ok sZ (λW H Q E h=>?_) (λcA A j s H W Q E c h=>?_)
 ·obtain⟨p,n,rfl,_⟩:=h
  rfl
 ·obtain⟨p,n,rfl,L,hn,q⟩:=h;refine aZ ⟨_,⟨cR 2 sZ.nd (bU.go ⟨cF i c g a.kp d (bJ.go (.cons ⟨pv 0⟩ (.cons ⟨a_ gA aV (pv 1)⟩ .nil rfl) rfl))⟩)⟩,?_⟩;refine aZ ⟨_,⟨cR 3 sZ.nd (bU.go ⟨a_ df (a_ df (pv 1) (pv 2)) (bU.go ⟨cF i c g a.kp d (bJ.go (.cons ⟨pv 0⟩ (.cons ⟨a_ gA (a_ gA aV (pv 1)) (pv 2)⟩ .nil rfl) rfl))⟩)⟩)⟩,?_⟩;refine aZ ⟨_,⟨cR 4 sZ.nd (bU.go ⟨a_ nF aV (a_ gA (a_ gA (pv 3) (pv 1)) (pv 2))⟩)⟩,?_⟩;refine fZ ⟨_,⟨cQ (eM (bJ.go (.cons ⟨pv 3⟩ (.cons ⟨pv 2⟩ (.cons ⟨a_ nF (bU.go ⟨cF i c g a.kp d (aF (pv 0) (aF (pv 4) aQ))⟩) (a_ df (pv 1) (pv 2))⟩ (.cons ⟨a_ nF (bU.go ⟨cF i c g a.kp d (aF (pv 0) (aF (pv 4) aQ))⟩) (a_ df (pv 1) (pv 2))⟩ .nil rfl) rfl) rfl) rfl)))⟩,?_⟩;have Y:V.int ((13:Int)-(n:Nat))=.int ((13-n:Nat):Int):=by congr 1;lia
  refine⟨_,rfl,_,rfl,_,_,rfl,rfl,p,13-n,by rw[Y];rfl,L,by lia,by lia,λs H1 hs N X=>?_⟩;have U:V.int ((13:Int)-(n:Nat)-(s:Nat))=.int ((13-n-s:Nat):Int):=by congr 1;lia
  refine⟨_,rfl,_,rfl,_,_,rfl,rfl,_,rfl,_,rfl,_,_,rfl,rfl,_,rfl,_,_,rfl,rfl,p,13-n-s,by rw[U];rfl,X,by lia,by lia,λJ H2 hJ S O=>⟨_,_,rfl,rfl,?_⟩⟩;rw[show V.int ((n:Int)+(s:Nat)+(J:Nat))=.int ((n+s+J:Nat):Int)from rfl];have Z:J<=12:=by lia
  have m:2^J<=4096:=ZF (X3 (n:=2) 'b' Z) 'b';have u:=fj J;refine⟨_,rfl,_,rfl,_,_,rfl,rfl,_,rfl,_,_,rfl,rfl,_,_,rfl,rfl,⟨by lia,by lia,by decide⟩,?_⟩;have e3:V.int (1*2^(((n+s+J:Nat):Int)-(n:Nat)-(s:Nat)).toNat)=.int ((2^J:Nat):Int):=by rw[show((n+s+J:Nat):Int)-(n:Nat)-(s:Nat)=(J:Nat) by lia,vg]
  rw[e3];refine⟨_,rfl,_,rfl,_,rfl,_,rfl,p,2^J,rfl,O,u,oH m,λR H3 T G B=>⟨_,rfl,_,rfl,_,_,rfl,rfl,_,_,rfl,rfl,?_,?_⟩⟩
  ·exact⟨Fh,by lia,by lia⟩
  have r:∀x:Nat,V.int ((x:Int)*2^((n:Int)+(s:Nat)).toNat)=.int ((x*2^(n+s):Nat):Int):=λx=>by
   rw[show((n:Int)+(s:Nat)).toNat=n+s by lia];congr 1
  rw[r];refine⟨_,rfl,_,rfl,p,2^J,rfl,B,u,oH m,λC H4 D I M=>⟨_,rfl,_,rfl,_,_,rfl,rfl,_,_,rfl,rfl,⟨Fh,by lia,by lia⟩,(by show 4<=sizeLine;decide),λt v=>?_⟩⟩;rw[r];exact q _ t s J R C (λb o e n=>aH (I _ _ (G _ _ (S _ _ (N b o e n) n) n) n) v) (M.same (bw v)) aX 'a' T D
end Pr
namespace Qf
open Tr
theorem kp0{b e d c:Tr}{L a:List Tr}(g:a=post c (post d (post e (post b L))))(z:[0,0,0,0]=[name a b,name a e,name a d,name a c].map λx:Nat=>(x:Int)):a=L/\mk b e d c=.z/\name a b=0:=by
 simp only[ZB,WQ,XV,UU]at z;have f:=tQ (L:=a) (t:=b) 'a';have h:=tQ (L:=a) (t:=e) 'a';have i:=tQ (L:=a) (t:=d) 'a';have j:=tQ (L:=a) (t:=c) 'a';subst f h i j;exact⟨g,rfl,rfl⟩
theorem kp1{b e d c:Tr}{L a:List Tr}(g:a=post c (post d (post e (post b L))))(z:[1,1,1,1]=[name a b,name a e,name a d,name a c].map λx:Nat=>(x:Int)):a=L/\mk b e d c=.o/\name a b=1:=by
 simp only[ZB,WQ,XV,UU]at z;have f:=vp (L:=a) (t:=b) 'a';have h:=vp (L:=a) (t:=e) 'a';have i:=vp (L:=a) (t:=d) 'a';have j:=vp (L:=a) (t:=c) 'a';subst f h i j;exact⟨g,rfl,rfl⟩
theorem kpn{d e c b:Tr}{a:List Tr}(hc:¬(decide ([0,0,0,0]=[name a d,name a e,name a c,name a b].map λx:Nat=>(x:Int))||decide ([1,1,1,1]=[name a d,name a e,name a c,name a b].map λx:Nat=>(x:Int)))=true):mk d e c b=.nd d e c b:=by
 unfold mk;rw[Zi,Zi]
 ·rintro⟨rfl,rfl,rfl,rfl⟩;exact hc (by rw[XF];exact .inr (Zo rfl))
 ·rintro⟨rfl,rfl,rfl,rfl⟩;exact hc (by rw[XF];exact .inl (Zo rfl))
theorem kpi{c d b a:Tr}{L f:List Tr}(n:Ord L)(g:f=post a (post b (post d (post c L))))(p:Tr.nd c d b a∈f):Tr.nd c d b a∈L/\f=L:=by
 have j:Tr.nd c d b a∈L:=by
  by_cases h:Tr.nd c d b a∈L
  ·exact h
  ·exact absurd (g▸p) (Tr.iN h)
 obtain⟨i,k,l⟩:=ZK.mp j;have e:=λs m=>(Tr.d_ n (i:=i) (t:=.nd c d b a) (by rw[Ze k,l]) (s:=s) m).1;exact⟨j,by rw[g,BM (e c (by simp[Tr.kids])),BM (e d (by simp[Tr.kids])),BM (e b (by simp[Tr.kids])),BM (e a (by simp[Tr.kids]))]⟩
theorem kpx{a b c d:Tr}{L e:List Tr}(f:e=post d (post c (post b (post a L))))(k:Tr.nd a b c d∉e):post (.nd a b c d) L=e++[.nd a b c d]:=by
 have i:Tr.nd a b c d∉L:=λz=>k (by
  rw[f];obtain⟨p,h1⟩:=Tr.cB a L;obtain⟨m,h⟩:=Tr.cB b (Tr.post a L);obtain⟨n,g⟩:=Tr.cB c (Tr.post b (Tr.post a L));obtain⟨l,j⟩:=Tr.cB d (Tr.post c (Tr.post b (Tr.post a L)));rw[j,g,h,h1];simp[z])
 rw[f];show(if Tr.nd a b c d∈L then L else _)=_;rw[Zi i]
end Qf
namespace Pr
open PySem L2 Qf
theorem O6{g f e d:Tr}{c:List Tr}(l:Tr.Ord c)(hk:∀s∈Tr.kids (.nd g f e d),Tr.In c s)(i:¬[Tr.name c g,Tr.name c f,Tr.name c e,Tr.name c d]∈Tr.rowsOf c):
  putK (tK (Tr.rowsOf c)) (dQ [Tr.name c g,Tr.name c f,Tr.name c e,Tr.name c d]) (.int (((tK (Tr.rowsOf c)).length:Int)+2))=tK (Tr.rowsOf (c++[.nd g f e d])):=by
 have h:=Tn l hk;rw[show(Tr.kids (.nd g f e d)).map (Tr.name c)=[Tr.name c g,Tr.name c f,Tr.name c e,Tr.name c d]from rfl]at h;have j:(tK (Tr.rowsOf c)).length=c.length:=by unfold tK;rw[Aj,Tr.bc]
 have h1:=xm6 (key:=dQ) (k:=2) (λa b=>Lk) i;rw[h,j];unfold tK;rw[<- h1,Tr.bc];congr 2;lia
structure fJ(p D:ae)(H:Hp)(ok:Row->Prop)(i:Nat)(xs:List V)(H2:Hp):Prop where
 but:bu p H H2
 Hg:aY H2 p
 at_:H2 D=some (.lst xs)
 len:xs.length<=i
 aP:∃(cs:List ae)(bs:List Row),xs=cs.map V.ref/\cs.length=bs.length/\(∀b∈bs,ok b)/\∀(j:Nat) c b,cs[j]?=some c->bs[j]?=some b->H2 c=some (.tup (vN b))
theorem fJ.start{p D:ae}{H:Hp}{ok:Row->Prop}(d:aY H p)(a:H D=none):fJ p D H ok 0 [] (upd H D (.lst [])):=
 ⟨bu.of (bw a),d.same (bw a),aX,Zd _,[],[],rfl,rfl,λb hb=>(nomatch hb),λj c b e=>by simp at e⟩
theorem fJ.kept{p D:ae}{H d a:Hp}{ok:Row->Prop}{i:Nat}{xs:List V}(g:fJ p D H ok i xs d)(l:p≠D)(b:bu p d a)(n:aY a p):fJ p D H ok (i+1) xs a:=by
 obtain⟨q,u,m,f,cs,bs,e,s,h,k⟩:=g;refine⟨q.trans b,n,b _ _ m (YE l),nN f,cs,bs,e,s,h,λj c r v t=>?_⟩;have:=k j c r v t;refine b _ _ this λz=>?_;obtain⟨x,y,w,_⟩:=u;rw[z,w]at this;cases this
theorem fJ.more{p D t:ae}{H C d:Hp}{ok:Row->Prop}{i:Nat}{xs:List V}{r:Row}(g:fJ p D H ok i xs C)(O:H D=none)(v:p≠D)(b:bu p C d)(A:aY d p)(F:d t=some (.tup (vN r)))(G:ok r):
  d D=some (.lst xs)/\fJ p D H ok (i+1) (xs++[.ref t]) (upd d D (.lst (xs++[.ref t]))):=by
 have k:=g.kept v b A;obtain⟨N,Q,w,P,cs,bs,rfl,m,I,s⟩:=k;have L:=g.len;refine⟨w,λc o e n=>?_,?_,aX,by rw[Zw];show(cs.map V.ref).length+1<=_;exact t6 L,cs++[t],bs++[r],xm7 cs t,by rw[Zw,Zw,m];rfl,?_,?_⟩
 ·rw[bV (cI e O)];exact N c o e n
 ·obtain⟨x,y,e,M⟩:=A;exact⟨x,y,by rw[bV v];exact e,M⟩
 ·intro z f;rcases ZW.mp f with f|f
  ·exact I z f
  ·have:z=r:=by simpa using f
   rw[this];exact G
 ·intro j c q a h;have E:∀{c:ae}{u:List V},d c=some (.tup u)->c≠D:=λ{c u} e z=>by rw[z,w]at e;cases e
  by_cases l:j<cs.length
  ·rw[Zr l]at a;rw[Zr (oz l m)]at h;have:=s j c q a h;rw[bV (E this)];exact this
  ·rw[Zq (gS l)]at a;rw[Zq (IY m l)]at h;have B:j-cs.length=0:=by
    have:=(cz a).1;simp at this;exact this
   rw[B]at a;rw[<- m,B]at h;have K:c=t:=by simpa using a.symm
   have J:q=r:=by simpa using h.symm
   rw[K,J,bV (E F)];exact F
theorem fJ.rows{p D:ae}{H d:Hp}{ok:Row->Prop}{i:Nat}{xs:List V}(g:fJ p D H ok i xs d):∃bs:List Row,br d D bs/\(∀b∈bs,ok b)/\bs.length<=i:=by
 obtain⟨_,_,e,a,cs,bs,rfl,c,f,h⟩:=g;exact⟨bs,⟨cs,e,c,h⟩,f,by rw[Zg]at a;exact wt c a⟩
abbrev O3:List ar:=["_law_pot_here","_law_n","_law_side"]
theorem iX:aI O3 ["_law_pot_here","_law_n"] (ck Cv):=dz
inductive pN(vs:List V)(H:Hp)(Q:VK):Prop
 |mk(p:ae)(n:Nat)(e0:vs=[.ref p,.int (n:Nat)])(e1:aY H p)(e2:n<4)(e3:∀(H':Hp)(l:ae)(bs:List Row),bu p H H'->aY H' p->H l=none->br H' l bs->(∀b∈bs,yp n b)->bs.length<=64->Q (.ref l) H')
def P_:Sp:=λa H Q _=>pN a H Q
theorem xp2{f v:ae}{W x:ak}(F:bj K "_law_cells" "_law_cells" Cv f W)(B:eR mg)(hD:mg "_law_digit"=some (.ref v))(S:bj K "_law_digit" "_law_digit" tH v x)(bD:Binds K x ["_law_pot_here","_law_many"] []):
  aE P w K mg base aW 2 f W ["_law_pot_here","_law_n"] P_:=by
 have GD:aE P w K mg base aW 1 v x ["_law_pot_here","_law_many"] vh:=Ai S;refine F.ok iX (λvs H Q E h=>?_) (λcA A l s H vs Q E hr h=>?_)
 ·obtain⟨p,n,rfl,_⟩:=h
  rfl
 ·obtain⟨p,n,rfl,O,hn,q⟩:=h;refine aZ ⟨_,⟨cR 2 iX.nd (a_ nF aV (pv 1))⟩,?_⟩;refine fZ ⟨_,⟨cQ (SR O3 (ck Cv) rfl rfl rfl iX.nd (ym (by rfl) B.range (aF (a_ qe (pv 2) (pv 2)) aQ))
   (λcl C fp aM aN=>gB p7 (cF GD hr hD S.kp bD (aF (pv 1) (aF aV aQ))) aV (dA _))
   (λcl C fp aM aN=>bU.go ⟨eM (bJ.go (.cons ⟨a_ yh (pv 0) (pv 3)⟩ (.cons ⟨a_ u_ (pv 0) (pv 3)⟩ (.cons ⟨aV⟩ (.cons ⟨aV⟩ .nil rfl) rfl) rfl) rfl))⟩))⟩,?_⟩
  obtain⟨p1,X⟩:=Ah (show n<=12 by lia);have U:2^n<=8:=by
   have:=X3 (n:=2) 'b' (show n<=3 by lia);simpa using this
  have R:=vg n;refine⟨_,rfl,_,_,rfl,rfl,⟨nO,by lia,by decide⟩,?_⟩;have y:(2^n*2^n:Nat)<=64:=by
   have:=WJ U U;lia
  have j:((1:Int)*2^((n:Int)).toNat)*(1*2^((n:Int)).toNat)=((2^n*2^n:Nat):Int):=by rw[R];push_cast;rfl
  have k:(((1:Int)*2^((n:Int)).toNat)*(1*2^((n:Int)).toNat)).toNat=2^n*2^n:=by rw[j,ZG]
  refine⟨_,rfl,_,rfl,_,_,rfl,rfl,.inl ⟨by lia,by lia⟩,_,rfl,by lia,by lia,λD c=>?_⟩;have M:p≠D:=by obtain⟨a,b,e,_⟩:=O;exact cI e c
  refine xb8 (fJ p D H (yp n)) (by rw[k];exact yk 'a') (fJ.start O c) (λi I u g=>⟨g.at_,g.len⟩) ?_ ?_
  ·intro i I u J g os ho Q1 Q2 q1 q2;rw[k]at J;obtain⟨o1,rfl⟩:=L2.Hi ho
   ·
    refine⟨_,rfl,p,2,rfl,g.Hg,by decide,by decide,λd Y hd L G=>⟨rfl,_,rfl,?_⟩⟩;refine c7 (λ_=>?_) (λ_=>q1 Y (g.kept M L G));refine⟨_,rfl,_,rfl,_,_,rfl,rfl,⟨by lia,by lia⟩,_,rfl,_,rfl,_,_,rfl,rfl,(by show(0:Int)<1*2^((n:Int)).toNat;lia),(by show 4<=sizeLine;decide),λt T=>?_⟩;have Z:yp n [i/2^n,i%2^n,1,1]:=by
     refine⟨_,_,_,_,rfl,Zd _,Zd _,?_,?_⟩
     ·exact(YY X).mpr J
     ·exact Yr _ X
    have e4:HO.tup [V.int ((0+(i:Int))/(1*2^((n:Int)).toNat)),V.int ((0+(i:Int))%(1*2^((n:Int)).toNat)),V.int 1,V.int 1]=HO.tup (vN [i/2^n,i%2^n,1,1]):=by
     rw[R,UM];show HO.tup [V.int ((i:Int)/((2^n:Nat):Int)),V.int ((i:Int)%((2^n:Nat):Int)),V.int 1,V.int 1]=HO.tup [V.int ((i/2^n:Nat):Int),V.int ((i%2^n:Nat):Int),V.int 1,V.int 1];rw[UF,UG]
    show Q2 (.ref t) (upd Y t (HO.tup [V.int ((0+(i:Int))/(1*2^((n:Int)).toNat)),V.int ((0+(i:Int))%(1*2^((n:Int)).toNat)),V.int 1,V.int 1]));rw[e4];have m:=g.more (t:=t) (r:=[i/2^n,i%2^n,1,1]) c M (L.trans (bu.of (bw T))) (G.same (bw T)) aX Z;exact q2 _ _ m.1 m.2
  ·intro I u g;obtain⟨bs,h1,h2,N⟩:=g.rows;exact q u D bs g.but g.Hg c h1 h2 (by rw[k]at N;exact ko N y)
abbrev O2:List ar:=["_law_pot_here","_law_n"]
theorem nA:aI O2 ["_law_pot_here","_law_n"] (ck Cu):=dz
inductive pO(vs:List V)(H:Hp)(Q:VK):Prop
 |mk(p:ae)(n:Nat)(e0:vs=[.ref p,.int (n:Nat)])(e1:aY H p)(e2:n<=12)(e3:∀(H':Hp)(l:ae)(bs:List Row),bu p H H'->aY H' p->H l=none->br H' l bs->E6 n bs->Q (.ref l) H')
def P9:Sp:=λa H Q _=>pO a H Q
theorem xp3{f W O N:ae}{fd X T U:ak}(F:bj K "_law_boxes" "_law_boxes" Cu f fd)(B:eR mg)(M:mg "_law_digit"=some (.ref W))(u:bj K "_law_digit" "_law_digit" tH W X)(y:Binds K X ["_law_pot_here","_law_many"] [])
  (hC:mg "_law_cells"=some (.ref O)) (FC:bj K "_law_cells" "_law_cells" Cv O T) (bC:Binds K T ["_law_pot_here","_law_n"] [])
  (hB:mg "_law_box"=some (.ref N)) (Z:bj K "_law_box" "_law_box" ur N U) (bB:Binds K U ["_law_pot_here","_law_n","_law_most"] []):
  aE P w K mg base aW 3 f fd ["_law_pot_here","_law_n"] P9:=by
 have GD:aE P w K mg base aW 1 W X ["_law_pot_here","_law_many"] vh:=Ai u;have GC:aE P w K mg base aW 2 O T ["_law_pot_here","_law_n"] P_:=xp2 FC B M u y;have GB:aE P w K mg base aW 2 N U ["_law_pot_here","_law_n","_law_most"] JL:=xL4 Z B M u y;refine F.ok nA (λvs H Q E h=>?_) (λcA A S s H vs Q E V h=>?_)
 ·obtain⟨p,n,rfl,_⟩:=h
  rfl
 ·obtain⟨p,n,rfl,hp,hn,q⟩:=h;have jF:bh 1 _:=V.mono 'b';refine aZ ⟨_,⟨fb (PW.pt (PN (gB nE (pv 1) aV (dA _)) (T3 (gB p7 (cF GD jF M u.kp y (aF (pv 0) (aF aV aQ))) aV (dA _)))))
   (dB (cQ (cF GC V hC FC.kp bC (aF (pv 0) (aF (pv 1) aQ))))) fU⟩,?_⟩
  refine fZ ⟨_,⟨cQ (nH O2 (ck Cu) rfl rfl rfl nA.nd (ym (by rfl) B.range (aF (cF GD jF M u.kp y (aF (pv 0) (aF aV aQ))) aQ))
   (λcl C fp aM aN=>cF GB V hB Z.kp bB (aF (pv 1) (aF (pv 2) (aF aV aQ)))))⟩,?_⟩
  have c:∀k,bu p H k->aY k p->E9 (QW (v_ (Fb vh [] E0 (v_ (pB 0) (v_ (tC (.int 6)) pD))) pD)) (Fb JL [] E0 (v_ (pB 1) (v_ (pB 2) (v_ (tC (.int 9)) pD)))) [some (.ref p),some (.int (n:Nat))] k Q:=λk j x=>by
   refine⟨_,rfl,p,6,rfl,x,by decide,by decide,λd J hd I G=>⟨_,rfl,by lia,by lia,λD v=>?_⟩⟩;have Y:p≠D:=by obtain⟨a,b,e,_⟩:=G;exact cI e v
   have HW:H D=none:=by
    cases e:H D with
    |none=>rfl
    |some o=>rw[(j.trans I) _ _ e (YE Y)]at v;cases v
   refine R0 (fJ p D J (λb=>yp n b/\JM b)) (by rw[ZG];exact yk 'a') (fJ.start G v) (λi xs J g=>⟨g.at_,g.len⟩) ?_ ?_
   ·intro i xs H3 hi g Q2 q2;refine⟨_,rfl,_,rfl,p,n,rfl,g.Hg,hn,λH4 t b b4 k9 ht h1 L=>?_⟩;have m:=g.more (t:=t) (r:=b) v Y b4 k9 ht ⟨h1,L⟩;exact q2 _ _ m.1 m.2
   ·intro xs H3 g;obtain⟨bs,h1,L,h3⟩:=g.rows;rw[ZG]at h3;exact q H3 D bs ((j.trans I).trans g.but) g.Hg HW h1 ⟨λb hb=>(L b hb).1,.inr ⟨by lia,λb hb=>(L b hb).2⟩⟩
  refine⟨_,rfl,_,_,rfl,rfl,_,rfl,?_⟩;refine c7 (λhc=>?_) (λhc=>?_)
  ·have n4:n<4:=by have:=ZJ hc;lia
   refine⟨_,rfl,p,2,rfl,hp,by decide,by decide,λd k hd j x=>⟨rfl,_,rfl,?_⟩⟩;refine c7 (λ_=>?_) (λ_=>c k j x);refine⟨_,rfl,_,rfl,p,n,rfl,x,n4,λJ l bs I G R hR hb j9=>q J l bs (j.trans I) G ?_ hR ⟨hb,.inl ⟨n4,j9⟩⟩⟩;cases e:H l with
   |none=>rfl
   |some o=>
    have LV:l≠p:=by obtain⟨a,b,e2,_⟩:=x;exact(cI e2 R).symm
    rw[j _ _ e LV]at R;cases R
  ·exact cJ (c H (bu.refl p H) hp)
end Pr
namespace Qf
open Tr
theorem RK{m:Row->Bool}:∀(bs:List Nat)(a:List Row),bs.length=a.length ->
  ((List.range bs.length).filter (λi=>m (a.getD i []))).map (λi=>bs.getD i 0)=((bs.zip a).filter (λq=>m q.2)).map Prod.fst
 |[],[],_=>rfl
 |b::bs,r::a,h=>by
  have c:=RK (m:=m) bs a (by simpa using h);rw[ZM,List.range_succ_eq_map,Y9,Ug,Y9,List.filter_map];have e:((λi=>m ((r::a).getD i []))∘Nat.succ)=λi=>m (a.getD i []):=by funext i;rfl
  have d:((λi=>(b::bs).getD i 0)∘Nat.succ)=λi=>bs.getD i 0:=by funext i;rfl
  rw[e];show List.map _ (if m r=true then _ else _)=List.map _ (if m r=true then _ else _);split
  ·rw[ZB,YL,d,c,ZB];rfl
  ·rw[YL,d,c]
theorem Le{m:Row->Bool}:∀(bs:List Nat)(a:List Row),bs.length=a.length->((bs.zip a).filter (λq=>m q.2)).map Prod.snd=a.filter m
 |[],[],_=>rfl
 |b::bs,r::a,h=>by
  have c:=Le (m:=m) bs a (by simpa using h);rw[Ug,Y9,Y9];show List.map _ (if m r=true then _ else _)=_;split
  ·rw[ZB,c]
  ·exact c
end Qf
namespace Pr
open PySem L2 Qf
theorem br.filter{H f:Hp}{p D:ae}{a:List Row}{bs:List ae}(m:Row->Bool)(d:bs.length=a.length)(t:∀(i:Nat) b r,bs[i]?=some b->a[i]?=some r->H b=some (.tup (vN r)))(s:aG H f)
  (l:f D=some (.lst (((List.range bs.length).filter (λi=>m (a.getD i []))).map (λi=>V.ref (bs.getD i 0))))):br f D (a.filter m):=by
 have e:((List.range bs.length).filter (λi=>m (a.getD i []))).map (λi=>V.ref (bs.getD i 0))=(((bs.zip a).filter (λq=>m q.2)).map Prod.fst).map V.ref:=by
  rw[<- RK bs a d,YL];rfl
 rw[e]at l;refine⟨_,l,by rw[<- Le bs a d,Zg,Zg],λi b r n c=>?_⟩;rw[<- Le bs a d]at c;rw[Zh]at n c;obtain⟨q,k,rfl⟩:=Zl.mp n;rw[k]at c;have w:q.2=r:=by simpa using c
 have v:=(Y2.mp (ZH k)).1;obtain⟨j,h,u⟩:=ZK.mp v;rw[UR]at h;have g:(bs.zip a)[j]?=some q:=by rw[Ze (by rw[UR];exact h),u]
 rw[Uo]at g;rw[<- w];exact s _ _ (t j q.1 q.2 g.1 g.2)
abbrev jl:List ar:=["_law_box_here","_law_row","_law_column","_law_side"]
theorem xE1:aI jl jl (ck x9):=dz
theorem xT9:aI jl jl (ck kx):=dz
inductive pL(m:Nat->Nat->Nat->Row->Bool)(vs:List V)(H:Hp)(Q:VK):Prop
 |mk(b:ae)(bx:Row)(r c s:Nat)(e0:vs=[.ref b,.int (r:Nat),.int (c:Nat),.int (s:Nat)])(e1:H b=some (.tup (vN bx)))(e2:bx.length=4)(e3:Q (.bl (m r c s bx)) H)
def CI(m:Nat->Nat->Nat->Row->Bool):Sp:=λa H Q _=>pL m a H Q
theorem xp4{f:ae}{j:ak}(F:bj K "_law_meets" "_law_meets" x9 f j):aE P w K mg base aW 1 f j jl (CI n9):=by
 refine F.ok xE1 (λm H Q E h=>?_) (λu A i s H m Q E p h=>?_)
 ·obtain⟨b,bx,r,c,s,rfl,_⟩:=h
  rfl
 ·obtain⟨b,bx,r,c,s,rfl,hb,l,q⟩:=h;obtain⟨x,y,g,d,rfl⟩:=tJ l;refine aZ ⟨_,⟨fb (p9 (gB tT (a_ df (pv 1) (pv 3)) (cW bf (pv 0) aV) (dA _))
   (sF (gB tT (a_ df (cW bf (pv 0) aV) (cW bf (pv 0) aV)) (pv 1) (dA _)))).pt (dB (cQ lY)) fU⟩,?_⟩
  refine fZ ⟨_,⟨cQ (va (mF nE (pv 2) (a_ df (cW bf (pv 0) aV) (cW bf (pv 0) aV)) (dA _)) (vb (mF nE (cW bf (pv 0) aV) (a_ df (pv 2) (pv 3)) (dA _))))⟩,?_⟩;have n:n9 r c s [x,y,g,d]=decide (x<r+s/\r<x+g/\c<y+d/\y<c+s):=rfl;rw[n]at q;refine⟨_,rfl,_,rfl,_,_,rfl,rfl,_,rfl,b,_,0,.int (x:Nat),rfl,rfl,bg.of hb,rfl,_,_,rfl,rfl,_,rfl,?_⟩;refine c7 (λa=>?_) (λa=>?_)
  ·have:=ZJ a;rw[Zm 'a']at q;exact cM q
  ·have h1:=YN (YV.mpr a);refine⟨_,rfl,b,_,0,.int (x:Nat),rfl,rfl,bg.of hb,rfl,_,rfl,b,_,2,.int (g:Nat),rfl,rfl,bg.of hb,rfl,_,_,rfl,rfl,_,rfl,_,_,rfl,rfl,_,rfl,?_⟩;refine c7 (λa=>?_) (λa=>?_)
   ·have:=ZJ a;rw[Zm 'a']at q;exact q
   ·have t:=YN (YV.mpr a);refine⟨_,rfl,_,rfl,b,_,1,.int (y:Nat),rfl,rfl,bg.of hb,rfl,_,rfl,b,_,3,.int (d:Nat),rfl,rfl,bg.of hb,rfl,_,_,rfl,rfl,_,_,rfl,rfl,_,rfl,?_⟩;refine c7 (λa=>?_) (λa=>?_)
    ·have k:=ZJ a;refine⟨_,rfl,b,_,1,.int (y:Nat),rfl,rfl,bg.of hb,rfl,_,rfl,_,rfl,_,_,rfl,rfl,_,_,rfl,rfl,?_⟩;have e:decide ((y:Int)<(c:Int)+(s:Int))=decide (x<r+s/\r<x+g/\c<y+d/\y<c+s):=by
      congr 1;exact propext ⟨λz=>⟨by lia,by lia,by lia,by lia⟩,λz=>by lia⟩
     show Q (.bl (decide ((y:Int)<(c:Int)+(s:Int)))) H;rw[e];exact q
    ·have k:=YN (YV.mpr a);rw[Zm 'a']at q;exact q
theorem O1{f:ae}{j:ak}(F:bj K "_law_has" "_law_has" kx f j):aE P w K mg base aW 1 f j jl (CI hasB):=by
 refine F.ok xT9 (λm H Q E h=>?_) (λu A i s H m Q E p h=>?_)
 ·obtain⟨b,bx,r,c,s,rfl,_⟩:=h
  rfl
 ·obtain⟨b,bx,r,c,s,rfl,hb,l,q⟩:=h;obtain⟨x,y,g,d,rfl⟩:=tJ l;refine aZ ⟨_,⟨fb (p9 (gB nE (pv 1) (cW bf (pv 0) aV) (dA _))
   (sF (gB nE (a_ df (cW bf (pv 0) aV) (cW bf (pv 0) aV)) (a_ df (pv 1) (pv 3)) (dA _)))).pt (dB (cQ lY)) fU⟩,?_⟩
  refine fZ ⟨_,⟨cQ (va (mF tT (cW bf (pv 0) aV) (pv 2) (dA _)) (vb (mF tT (a_ df (pv 2) (pv 3)) (a_ df (cW bf (pv 0) aV) (cW bf (pv 0) aV)) (dA _))))⟩,?_⟩;have n:hasB r c s [x,y,g,d]=decide (x<=r/\r+s<=x+g/\y<=c/\c+s<=y+d):=rfl;rw[n]at q;refine⟨_,rfl,_,rfl,b,_,0,.int (x:Nat),rfl,rfl,bg.of hb,rfl,_,_,rfl,rfl,_,rfl,?_⟩;refine c7 (λa=>?_) (λa=>?_)
  ·have:=ZJ a;rw[Zm 'a']at q;exact cM q
  ·have h1:=YN (YV.mpr a);refine⟨_,rfl,b,_,0,.int (x:Nat),rfl,rfl,bg.of hb,rfl,_,rfl,b,_,2,.int (g:Nat),rfl,rfl,bg.of hb,rfl,_,_,rfl,rfl,_,rfl,_,rfl,_,_,rfl,rfl,_,_,rfl,rfl,_,rfl,?_⟩;refine c7 (λa=>?_) (λa=>?_)
   ·have:=ZJ a;rw[Zm 'a']at q;exact q
   ·have t:=YN (YV.mpr a);refine⟨_,rfl,b,_,1,.int (y:Nat),rfl,rfl,bg.of hb,rfl,_,rfl,_,_,rfl,rfl,_,rfl,?_⟩;refine c7 (λa=>?_) (λa=>?_)
    ·have k:=ZJ a;refine⟨_,rfl,_,rfl,_,_,rfl,rfl,_,rfl,b,_,1,.int (y:Nat),rfl,rfl,bg.of hb,rfl,_,rfl,b,_,3,.int (d:Nat),rfl,rfl,bg.of hb,rfl,_,_,rfl,rfl,_,_,rfl,rfl,?_⟩;have e:decide ((c:Int)+(s:Int)<=(y:Int)+(d:Int))=decide (x<=r/\r+s<=x+g/\y<=c/\c+s<=y+d):=by
      congr 1;exact propext ⟨λz=>⟨by lia,by lia,by lia,by lia⟩,λz=>by lia⟩
     show Q (.bl (decide ((c:Int)+(s:Int)<=(y:Int)+(d:Int)))) H;rw[e];exact q
    ·have k:=YN (YV.mpr a);rw[Zm 'a']at q;exact q
end Pr
namespace Qf
open Tr
def qt(k:Nat)(m:List Row)(r c i:Nat):Tr:=bt k m (r+2^k*(i/2)) (c+2^k*(i%2))
def qL(k:Nat)(m:List Row)(r c:Nat)(L:List Tr):Nat->List Tr
 |0=>L
 |i+1=>post (qt k m r c i) (qL k m r c L i)
theorem Cj{k:Nat}{m:List Row}{r c:Nat}{L:List Tr}(h:Ord L):∀i,Ord (qL k m r c L i)
 |0=>h
 |i+1=>(bK _ _ (Cj h i)).1
theorem Ay{k:Nat}{m:List Row}{r c:Nat}{L:List Tr}(h:Ord L){j:Nat}:∀i,j<i->In (qL k m r c L i) (qt k m r c j)
 |i+1,a=>by
  by_cases e:j=i
  ·rw[e];exact(bK _ _ (Cj h i)).2
  ·exact(Ay h i (qN a e)).post _
theorem xE2{k:Nat}{m:List Row}{r c:Nat}{L:List Tr}(h:Ord L){i:Nat}{t:Tr}(a:In (qL k m r c L i) t):name (qL k m r c L (i+1)) t=name (qL k m r c L i) t:=by
 obtain⟨s,e⟩:=cB (qt k m r c i) (qL k m r c L i);show name (post _ _) t=_;rw[e];exact dY a (Cj h i)
theorem Jn{k:Nat}{m:List Row}{r c:Nat}{L:List Tr}:∀i,(qL k m r c L i).length<=L.length+i*sz k
 |0=>by show L.length<=_;exact gT
 |i+1=>by
  have h1:=Jn (k:=k) (m:=m) (r:=r) (c:=c) (L:=L) i;have a:=yg (qt k m r c i) (qL k m r c L i);have b:=yo k m (r+2^k*(i/2)) (c+2^k*(i%2));show(post _ _).length<=_;rw[Y5];unfold qt at a;unfold qt;lia
def names(k:Nat)(m:List Row)(r c:Nat)(L:List Tr)(i:Nat):List Nat:=(List.range i).map λj=>name (qL k m r c L i) (qt k m r c j)
theorem q31{k:Nat}{m:List Row}{r c:Nat}{L:List Tr}(h:Ord L)(i:Nat):names k m r c L (i+1)=names k m r c L i++[name (post (qt k m r c i) (qL k m r c L i)) (qt k m r c i)]:=by
 unfold names;rw[YC,ZL];congr 1;exact YI λj a=>xE2 h (Ay h i (Yw.mp a))
theorem xU0(k:Nat)(a:List Row)(r c:Nat)(h1:met a r c (2^(k+1))≠[])(b:(met a r c (2^(k+1))).any (hasB r c (2^(k+1)))=false):
  bt (k+1) a r c=mk (qt k (met a r c (2^(k+1))) r c 0) (qt k (met a r c (2^(k+1))) r c 1) (qt k (met a r c (2^(k+1))) r c 2) (qt k (met a r c (2^(k+1))) r c 3):=by
 unfold bt;rw[Zi h1,Zi (by rw[b];decide)];unfold qt;simp
theorem xE3{a:List Row}{r c s:Nat}:(met a r c s).length<=a.length:=Vz _ _
theorem xE4{a:List Row}{r c:Nat}(h:met a r c 1≠[]):(met a r c 1).any (hasB r c 1)=true:=by
 obtain⟨b,hb⟩:=Up _ h;refine Ym.mpr ⟨b,hb,?_⟩;have m:b.getD 0 0<r+1/\r<b.getD 0 0+b.getD 2 0/\c<b.getD 1 0+b.getD 3 0/\b.getD 1 0<c+1:=ZJ (Y2.mp hb).2;exact Zo ⟨by lia,by lia,by lia,by lia⟩
theorem JA:∀{k n:Nat},k<=n->sz k<=sz n
 |k,0,h=>by rw[show k=0 by lia];exact Zd _
 |k,n+1,h=>by
  by_cases e:k=n+1
  ·rw[e];exact Zd _
  ·have:=JA (show k<=n by lia);show _<=4*sz n+1;lia
end Qf
namespace L2
open PySem
theorem Sz{H:Hp}{n:Nat}{te:TE}{σ:St}{Fin:Hp->Prop}{D:ae}(f:Nat->List V->Hp->Prop)(hsz:n<sizeLine)(i0:f 0 [] (upd H D (.lst [])))(u:∀i a c,f i a c->c D=some (.lst a)/\a.length<=i)
  (step:∀i a c,i<n->f i a c->∀p:VK,(∀v e,e D=some (.lst a)->f (i+1) (a++[v]) (upd e D (.lst (a++[v])))->p v e)->te (some (.int (0+(i:Int)))::σ) c p)
  (fin:∀a c,f n a c->Fin c):
  ∃W:Nat->Nat->List V->Hp->Prop,(∃m,W 0 m [] (upd H D (.lst []))) /\
   ∀i m a c,W i m a c->c D=some (.lst a)/\a.length<sizeLine/\(((mh 0 n).stop i c/\Fin c)\/((mh 0 n).go i c/\∀y e,(mh 0 n).lV i c y e->∀k:St,k.length=1 ->
    ir 0 y (k++σ) e λq C=>AA q C λb l=>if b=true then te q l λv j=>j D=some (.lst a)/\∃d,d<m/\W (i+1) d (a++[v]) (upd j D (.lst (a++[v])))else ∃d,d<m/\W (i+1) d a l)):=by
 obtain⟨W,r,w⟩:=R0 (te:=te) (σ:=σ) f hsz i0 u step fin;refine⟨W,r,λi m a c h=>?_⟩;obtain⟨h1,A,t⟩:=w i m a c h;refine⟨h1,A,t.imp id λ⟨g,y⟩=>⟨g,λx e s k B=>?_⟩⟩;obtain⟨o,rfl⟩:=L2.Hi B
 ·
  show(if(true:Bool)=true then te (some x::σ) e (λv j=>j D=some (.lst a)/\∃d,d<m/\W (i+1) d (a++[v]) (upd j D (.lst (a++[v]))))else ∃d,d<m/\W (i+1) d a e);rw[Zk rfl];exact y x e s
end L2
namespace Qf
theorem xE6:∀{k:Nat}{a:List Row}{r c:Nat},met a r c (2^k)=[]->bt k a r c=.z
 |0,_,_,_,h=>Zk h
 |_+1,_,_,_,h=>Zk h
theorem xE7:∀{k:Nat}{a:List Row}{r c:Nat},met a r c (2^k)≠[]->(met a r c (2^k)).any (hasB r c (2^k))=true->bt k a r c=.o
 |0,_,_,_,h,g=>(Zi h).trans (Zk g)
 |_+1,_,_,_,h,g=>(Zi h).trans (Zk g)
end Qf
namespace Pr
open PySem L2 Qf
abbrev sM:List ar:=["_law_rows","_law_boxes_here","_law_row","_law_column","_law_side"]
abbrev tW:List ar:=["_law_rows","_law_boxes_here","_law_row","_law_column","_law_side","_law_met","_law_half","_law_quarters"]
theorem iK:aI tW sM (ck tM):=dz
inductive xJ(k:Nat)(vs:List V)(H:Hp)(Q:VK):Prop
 |mk(e bp:ae)(aD:List Row)(r c:Nat)(L:List Tr)(e0:vs=[.ref e,.ref bp,.int (r:Nat),.int (c:Nat),.int ((2^k:Nat):Int)])(e1:br H bp aD)(e2:(∀b∈aD,b.length=4))(e3:aD.length<=900)(e4:bp≠e)(e5:Tr.Ord L)(e6:H e=some (.dT (tK (Tr.rowsOf L))))(e7:L.length+sz k<=6000000)(e8:∀H',bu e H H'->H' e=some (.dT (tK (Tr.rowsOf (Tr.post (bt k aD r c) L))))->Q (.int (Tr.name (Tr.post (bt k aD r c) L) (bt k aD r c):Nat)) H')
def Ba(k:Nat):Sp:=λa H Q _=>xJ k a H Q
theorem P8{f fM fH:ae}{fd gh l9:ak}(F:bj K "_law_number" "_law_number" tM f fd)(B:eR mg)(hN:mg "_law_number"=some (.ref f))(bN:Binds K fd sM [])
  (hM:mg "_law_meets"=some (.ref fM)) (FM:bj K "_law_meets" "_law_meets" x9 fM gh) (bM:Binds K gh jl [])
  (hH:mg "_law_has"=some (.ref fH)) (FH:bj K "_law_has" "_law_has" kx fH l9) (bH:Binds K l9 jl []){m:Nat}(hk:m<=12){sp':Sp}(GI:aE P w K mg base aW (m+1) f fd sM sp') (vU:∀j,m=j+1->sp'=Ba j):aE P w K mg base aW (m+2) f fd sM (Ba m):=by
 have GM:aE P w K mg base aW 1 fM gh jl (CI n9):=xp4 FM;have GH:aE P w K mg base aW 1 fH l9 jl (CI hasB):=O1 FH;refine F.ok iK (λvs H Q E h=>?_) (λcA A outer s H vs Q E hr h=>?_)
 ·obtain⟨e,bp,n,r,c,L,rfl,_⟩:=h
  rfl
 ·obtain⟨e,bp,n,r,c,L,rfl,hB,h4,vG,wV,J,he,hLs,q⟩:=h;have jF:bh 1 _:=hr.mono ub;have hu:A.units+3+1<cLine:=by
   have h2:A.units+3+16*(m+1)+200<cLine:=hr.un;lia
  refine aZ ⟨_,⟨cR 5 iK.nd (SR tW (ck tM) rfl rfl rfl iK.nd (sH (pv 1))
   (λcl C fp aM aN=>l4 (cF GM jF hM FM.kp bM (aF (pv 0) (aF (pv 3) (aF (pv 4) (aF (pv 5) aQ)))))) (λcl C fp aM aN=>pv 0))⟩,?_⟩
  refine aZ ⟨_,⟨fb (PW.pt (p9 (gB (LC hr) (pv 5) (n_ aQ) (dA _)) (sF (l4 (dH (Kq rfl) (by rfl) B.any VC (aF (nH tW (ck tM) rfl rfl rfl iK.nd (sH (pv 5))
   (λcl C fp aM aN=>cF GH jF hH FH.kp bH (aF (pv 0) (aF (pv 3) (aF (pv 4) (aF (pv 5) aQ)))))) aQ))))))
   (dB (cQ (hV Ce (by rfl) B.int Xk (aF (mF (xK1 hr) (pv 5) (n_ aQ) (dA _)) aQ)))) fU⟩,?_⟩
  refine aZ ⟨_,⟨cR 6 iK.nd (a_ yh (pv 4) aV)⟩,?_⟩;refine aZ ⟨_,⟨Tz (i0:=7) tW (ck tM) rfl rfl rfl iK.nd rfl rfl (ym (by rfl) B.range (aF aV aQ)) (λcl C fp aM aN=>bU.go ⟨cF GI hr hN F.kp bN (bJ.go (.cons ⟨pv 1⟩ (.cons ⟨pv 6⟩
   (.cons ⟨a_ df (pv 3) (a_ qe (pv 7) (a_ yh (pv 0) aV))⟩ (.cons ⟨a_ df (pv 4) (a_ qe (pv 7) (a_ u_ (pv 0) aV))⟩ (.cons ⟨pv 7⟩ .nil rfl) rfl) rfl) rfl) rfl))⟩)⟩,?_⟩
  refine aZ ⟨_,⟨fb (gB (Pm hr) (pv 7) (bU.go ⟨eM (bJ.go (.cons ⟨n_ (bJ.go (.cons gH (.cons gH (.cons gH (.cons gH .nil rfl) rfl) rfl) rfl))⟩ (.cons ⟨n_ (bJ.go (.cons gH (.cons gH (.cons gH (.cons gH .nil rfl) rfl) rfl) rfl))⟩ .nil rfl) rfl))⟩) (by first|rfl|decide|with_unfolding_all rfl))
   (dB (cQ (cW cC (pv 7) aV))) fU⟩,?_⟩
  refine aZ ⟨_,⟨fb (GV (S9 hu (hV (iR K rfl) (by rfl) B.tuple ZP (aF (pv 7) aQ)) (pv 0)))
   (dB (BS hu (pv 0) (hV (iR K rfl) (by rfl) B.tuple ZP (aF (pv 7) aQ)) (a_ df (dH SK (by rfl) B.len Yq (aF (pv 0) aQ)) aV) (by rfl))) fU⟩,?_⟩
  refine fZ ⟨_,⟨cQ (xz1 hu (pv 0) (hV (iR K rfl) (by rfl) B.tuple ZP (aF (pv 7) aQ)) (λ_ _=>rfl))⟩,?_⟩;obtain⟨bs,hb,j9,jC⟩:=id hB;have jQ:(bs.map V.ref).length=bs.length:=Zg ..;refine⟨_,rfl,bp,rfl,⟨_,cq.of hb⟩,λD hD=>Gn hD (λi=>n9 r c (2^m) (n.getD i [])) (λi=>.ref (bs.getD i 0)) (tP (K:=K) hb) (by rw[jQ];exact yk 'a') ?_ ?_⟩
  ·intro j x H2 hj O s2 os ho Q1 Q2 q1 q2;rw[Zh]at O;obtain⟨b,wJ,rfl⟩:=Zl.mp O;have Y:j<n.length:=by rw[jQ]at hj;exact oz hj j9
   have hg:n[j]?=some (n.getD j []):=by rw[ZD,Ze Y];rfl
   have eb:bs.getD j 0=b:=by rw[ZD,wJ];rfl
   rw[eb]at q2;obtain⟨o1,rfl⟩:=L2.Hi ho
   ·
    refine⟨_,rfl,_,rfl,_,rfl,_,rfl,b,n.getD j [],r,c,2^m,rfl,s2 _ _ (jC j b _ wJ hg),h4 _ (ZH hg),_,rfl,?_⟩;refine c7 (λT=>⟨_,rfl,q2 T H2 (aG.refl _)⟩) (λT=>q1 (YV.mpr T) H2 (aG.refl _))
  ·intro H2 s2 kD;rw[jQ]at kD;have Es:br H2 D (met n r c (2^m)):=br.filter (p:=bp) (n9 r c (2^m)) j9 jC s2 kD;have wE:(met n r c (2^m)).length<=900:=ZF xE3 vG;have M9:∀b∈met n r c (2^m),b.length=4:=λb hb=>h4 b (Y2.mp hb).1;have kW:=s2 _ _ he;have Hm:D≠e:=(cI he hD).symm;refine⟨_,rfl,(by show 0<=sizeLine;decide),λl hl=>?_⟩;refine⟨_,_,KC (Es.same (bw hl)),.lst aX .nil,FG _,rfl,KI _,_,rfl,?_⟩;rw[Qm];have S3:aG H (upd H2 l (.lst [])):=s2.trans (bw hl);have W:=Es.same (bw (o:=.lst []) hl);have y9:=aH (u:=.lst []) kW hl;generalize upd H2 l (.lst [])=H3 at S3 W y9;cases DV:met n r c (2^m)with
   |nil=>
    have hT:bt m n r c=.z:=xE6 DV;rw[hT]at q;rw[DV]at W;refine cM (cM ?_);refine⟨_,rfl,(by show 0<=sizeLine;decide),λl2 S=>?_⟩;refine⟨_,_,KC (W.same (bw S)),.lst aX .nil,FG _,rfl,KI _,.inr ⟨_,rfl,?_⟩⟩;exact q _ (bu.of (S3.trans (bw S))) (aH y9 S)
   |cons b0 ml=>
    have X:met n r c (2^m)≠[]:=by rw[DV];exact λz=>nomatch z
    rw[<- DV];clear DV;have AS:(met n r c (2^m)).isEmpty=false:=by
     cases hq:met n r c (2^m)with
     |nil=>exact absurd hq X
     |cons _ _=>rfl
    rw[AS];refine cJ ?_;obtain⟨ms,M7,DW,w_⟩:=id W;have rn:(ms.map V.ref).length=(met n r c (2^m)).length:=by rw[Zg,DW]
    refine⟨_,rfl,D,rfl,⟨_,cq.of M7⟩,λD2 hDD=>oo hDD (λi y _=>y=.bl (hasB r c (2^m) ((met n r c (2^m)).getD i []))) (tP (K:=K) M7) (by rw[rn];exact yk (qS wE)) (λ_ _ _ _ _ _ h=>h) ?_ ?_⟩
    ·intro j x H4 hj O s4 Q' hq;rw[Zh]at O;obtain⟨b,wJ,rfl⟩:=Zl.mp O;have Y:j<(met n r c (2^m)).length:=by rw[rn]at hj;exact hj
     have hg:(met n r c (2^m))[j]?=some ((met n r c (2^m)).getD j []):=by rw[ZD,Ze Y];rfl
     exact⟨_,rfl,_,rfl,_,rfl,_,rfl,b,_,r,c,2^m,rfl,s4 _ _ (w_ j b _ wJ hg),M9 _ (ZH hg),hq _ _ (aG.refl _) rfl⟩
    ·intro ys H4 s4 kI jW jV;have ey:ys=((met n r c (2^m)).map (hasB r c (2^m))).map V.bl:=by
      refine vq (by rw[jW,rn,Zg,Zg]) λj x O=>?_;have Y:j<(met n r c (2^m)).length:=by
       have:=(cz O).1;rw[jW,rn]at this;exact this
      rw[jV j x O,Zh,Zh,Ze Y,ZD,Ze Y]
      rfl
     subst ey;refine⟨D2,_,rfl,kI,_,rfl,?_⟩;have uH:((met n r c (2^m)).map (hasB r c (2^m))).any id=(met n r c (2^m)).any (hasB r c (2^m)):=by rw[List.any_map];rfl
     rw[uH];have S4:=S3.trans s4;have NH:=W.same s4;have HH:=s4 _ _ y9;cases hh:(met n r c (2^m)).any (hasB r c (2^m))with
     |true=>
      have hT:bt m n r c=.o:=xE7 X hh;rw[hT]at q;refine cM ?_;refine⟨_,rfl,(by show 0<=sizeLine;decide),λl2 S=>?_⟩;refine⟨_,_,KC (NH.same (bw S)),.lst aX .nil,FG _,rfl,KI _,.inr ⟨_,rfl,?_⟩⟩;rw[Qm,AS];exact q _ (bu.of (S4.trans (bw S))) (aH HH S)
     |false=>
      obtain⟨k,rfl⟩:∃k,m=k+1:=by
       rcases m with _|k
       ·simp only[Nat.pow_zero]at X hh;rw[xE4 X]at hh;cases hh
       ·exact⟨k,rfl⟩
      cases vU k rfl;refine cJ ?_;have hT:=xU0 k n r c X hh;obtain⟨p1,p2⟩:=Ah (show k<=12 from h_ hk);obtain⟨p3,p4⟩:=Ah hk;have EJ:(((2^(k+1):Nat):Int))/2=((2^k:Nat):Int):=by
       rw[YJ];lia
      clear AS M7 DW w_ rn kI jW jV uH Es W kD S3 s4 jQ;generalize met n r c (2^(k+1))=m at hT NH wE M9 X hh;refine⟨_,rfl,_,_,rfl,rfl,⟨by decide,by decide⟩,?_⟩;refine⟨_,rfl,by decide,by decide,λI wB=>?_⟩;have yI:I≠e:=(cI HH wB).symm;refine Sz (λi xs G=>bu e H4 G/\G I=some (.lst xs)/\xs=vN (names k m r c L i)/\G e=some (.dT (tK (Tr.rowsOf (qL k m r c L i))))) 'b' ⟨bu.of (bw wB),aX,rfl,aH HH wB⟩ (λi xs G h=>⟨h.2.1,by rw[h.2.2.1,jn];simp[names]⟩) ?_ ?_
      ·rintro i xs G hi ⟨b5,N,rfl,AY⟩ Q2 q2;have Bd:[V.ref e,V.ref D,V.int ((r:Int)+((2^(k+1):Nat):Int)/2*((0+(i:Int))/2)),V.int ((c:Int)+((2^(k+1):Nat):Int)/2*((0+(i:Int))%2)),V.int (((2^(k+1):Nat):Int)/2)]=[V.ref e,V.ref D,V.int ((r+2^k*(i/2):Nat):Int),V.int ((c+2^k*(i%2):Nat):Int),V.int ((2^k:Nat):Int)]:=by
        rw[EJ,UM,Int.natCast_add,VU,UF,Int.natCast_add,VU,UG]
        rfl
       refine⟨_,rfl,_,rfl,_,rfl,_,rfl,_,rfl,_,_,rfl,rfl,⟨by decide,by decide⟩,_,_,rfl,rfl,.inl ⟨by lia,by lia⟩,_,_,rfl,rfl,_,rfl,_,rfl,_,rfl,_,_,rfl,rfl,(by show(0:Int)<2;decide),_,_,rfl,rfl,.inl ⟨by lia,by lia⟩,_,_,rfl,rfl,_,rfl,
        e,D,m,r+2^k*(i/2),c+2^k*(i%2),qL k m r c L i,Bd,NH.but b5 Hm HH (λu z=>by cases z),M9,wE,Hm,Cj J i,AY,?_,λM b6 Z=>?_⟩
       ·have h1:=Jn (k:=k) (m:=m) (r:=r) (c:=c) (L:=L) i;have h2:sz (k+1)=4*sz k+1:=rfl;have h3:i*sz k<=3*sz k:=Xa _ 'a';lia
       ·refine q2 _ _ (b6 _ _ N yI) ⟨?_,aX,?_,?_⟩
        ·intro b o z nb;rw[bV (cI z wB)];exact b6 _ _ (b5 _ _ z nb) nb
        ·rw[q31 J];unfold vN;rw[ZL]
         rfl
        ·rw[bV (YE yI)];exact Z
      ·rintro xs G ⟨b5,N,rfl,AY⟩;have N:G I=some (.lst (vN (names k m r c L 4))):=N;have AY:G e=some (.dT (tK (Tr.rowsOf (qL k m r c L 4)))):=AY;have O4:=Cj (k:=k) (m:=m) (r:=r) (c:=c) J 4;have Mw:=Ay (k:=k) (m:=m) (r:=r) (c:=c) J (j:=0) 4 'b';have R:=Ay (k:=k) (m:=m) (r:=r) (c:=c) J (j:=1) 4 'b';have Mu:=Ay (k:=k) (m:=m) (r:=r) (c:=c) J (j:=2) 4 'b';have Mt:=Ay (k:=k) (m:=m) (r:=r) (c:=c) J (j:=3) 4 'b';have hl4:=Jn (k:=k) (m:=m) (r:=r) (c:=c) (L:=L) 4;have hs4:sz (k+1)=4*sz k+1:=rfl;have e4:qL k m r c L 4=Tr.post (qt k m r c 3) (Tr.post (qt k m r c 2) (Tr.post (qt k m r c 1) (Tr.post (qt k m r c 0) L))):=rfl;have en:names k m r c L 4=[Tr.name (qL k m r c L 4) (qt k m r c 0),Tr.name (qL k m r c L 4) (qt k m r c 1),Tr.name (qL k m r c L 4) (qt k m r c 2),Tr.name (qL k m r c L 4) (qt k m r c 3)]:=rfl;rw[en]at N;rw[hT]at q;generalize qL k m r c L 4=g at AY O4 Mw R Mu Mt hl4 e4 N;generalize qt k m r c 0=t0,qt k m r c 1=t1,qt k m r c 2=t2,qt k m r c 3=v at Mw R Mu Mt e4 N q;have B5:bu e H G:=(bu.of S4).trans b5;refine⟨_,rfl,(by show 4<=sizeLine;decide),λa ha=>⟨(by show 4<=sizeLine;decide),λb jq=>⟨(by show 2<=sizeLine;decide),λt ht=>?_⟩⟩⟩;have S6:aG G (upd (upd (upd G a (.lst [.int 0,.int 0,.int 0,.int 0])) b (.lst [.int 1,.int 1,.int 1,.int 1])) t (.tup [.ref a,.ref b])):=((bw ha).trans (bw jq)).trans (bw ht);have da:bF (upd (upd (upd G a (.lst [.int 0,.int 0,.int 0,.int 0])) b (.lst [.int 1,.int 1,.int 1,.int 1])) t (.tup [.ref a,.ref b])) (.ref a) (dL [0,0,0,0]):=.lst (aH (aH aX jq) ht) (aS.ints [0,0,0,0]);have db:bF (upd (upd (upd G a (.lst [.int 0,.int 0,.int 0,.int 0])) b (.lst [.int 1,.int 1,.int 1,.int 1])) t (.tup [.ref a,.ref b])) (.ref b) (dL [1,1,1,1]):=.lst (aH aX ht) (aS.ints [1,1,1,1]);have w6:=S6 _ _ N;have Z:=S6 _ _ AY;have Z_:upd (upd (upd G a (.lst [.int 0,.int 0,.int 0,.int 0])) b (.lst [.int 1,.int 1,.int 1,.int 1])) t (.tup [.ref a,.ref b]) t=some (.tup [.ref a,.ref b]):=aX;generalize upd (upd (upd G a (.lst [.int 0,.int 0,.int 0,.int 0])) b (.lst [.int 1,.int 1,.int 1,.int 1])) t (.tup [.ref a,.ref b])=M at S6 da db w6 Z Z_ ⊢;refine⟨t,[.ref a,.ref b],[dL [0,0,0,0],dL [1,1,1,1]],dL ([Tr.name g t0,Tr.name g t1,Tr.name g t2,Tr.name g v].map λx:Nat=>(x:Int)),rfl,Z_,.cons da (.cons db .nil),.lst (w6.trans (ZZ (λz=>some (HO.lst z)) (x6 _))) (aS.ints _),GK _,(by simp[PyData.canLayAll0,GK]),ZF (R6 _) 'b',?_⟩;rw[Xc,Xc,List.any_nil,LA,LA,UA];have B6:bu e H M:=B5.trans (bu.of S6);refine⟨_,rfl,?_⟩;have hk:∀s∈Tr.kids (.nd t0 t1 t2 v),Tr.In g s:=λs hs=>by
        have:s=t0\/s=t1\/s=t2\/s=v:=by simpa[Tr.kids]using hs
        rcases this with rfl|rfl|rfl|rfl<;>assumption
       refine c7 (λT=>?_) (λT=>?_)
       ·rcases XF _ _▸T with z|z
        ·obtain⟨eL,em,e0⟩:=kp0 e4 (ZJ z);rw[em]at q;have q':=q M B6 (show M e=some (.dT (tK (Tr.rowsOf L)))from eL▸Z);exact⟨_,rfl,I,_,0,.int (Tr.name g t0:Nat),rfl,rfl,cq.of w6,rfl,by rw[e0];exact q'⟩
        ·obtain⟨eL,em,e0⟩:=kp1 e4 (ZJ z);rw[em]at q;have q':=q M B6 (show M e=some (.dT (tK (Tr.rowsOf L)))from eL▸Z);exact⟨_,rfl,I,_,0,.int (Tr.name g t0:Nat),rfl,rfl,cq.of w6,rfl,by rw[e0];exact q'⟩
       ·have HF:=kpn T;rw[HF]at q;have jT:(Tr.kids (.nd t0 t1 t2 v)).map (Tr.name g)=[Tr.name g t0,Tr.name g t1,Tr.name g t2,Tr.name g v]:=rfl;have k5:=Ql O4 hk;rw[jT]at k5;refine⟨_,rfl,I,_,rfl,.inl ⟨cq.of w6,λu hu=>?_⟩⟩;have S7:=bw (o:=.tup (vN [Tr.name g t0,Tr.name g t1,Tr.name g t2,Tr.name g v])) hu;have AW:=S7 _ _ Z;have Y_:upd M u (.tup (vN [Tr.name g t0,Tr.name g t1,Tr.name g t2,Tr.name g v])) u=some (.tup ((dQ [Tr.name g t0,Tr.name g t1,Tr.name g t2,Tr.name g v]).map kV)):=by rw[aX,p_]
        have yB:=S7 _ _ w6;have B7:=B6.trans (bu.of (e:=e) S7);generalize upd M u (.tup (vN [Tr.name g t0,Tr.name g t1,Tr.name g t2,Tr.name g v]))=H7 at S7 AW Y_ yB B7 ⊢;refine⟨_,rfl,e,_,rfl,dn.t AW Y_,_,rfl,?_⟩;rw[Gw];by_cases hm:[Tr.name g t0,Tr.name g t1,Tr.name g t2,Tr.name g v]∈Tr.rowsOf g
        ·rw[Zk hm];refine cJ ?_;have yE:=k5.mp hm;obtain⟨wW,eL⟩:=kpi J e4 yE;rw[BM (.inr (.inr wW))]at q;rw[<- eL]at q wW;refine⟨_,rfl,_,rfl,I,_,rfl,.inl ⟨cq.of yB,λu2 U=>⟨e,_,rfl,Jv O4 wW (aH AW U) aX,?_⟩⟩⟩;exact q _ (B7.trans (bu.of (bw U))) (aH AW U)
        ·rw[Zi hm];refine cM ?_;have yE:Tr.nd t0 t1 t2 v∉g:=λz=>hm (k5.mpr z);have ep:=kpx e4 yE;have O5:=(Tr.bK (.nd t0 t1 t2 v) L J).1;rw[ep]at q O5;have er:=Tn O4 hk;rw[jT]at er;have jA:(tK (Tr.rowsOf g)).length=g.length:=by unfold tK;rw[Aj,Tr.bc]
         refine⟨_,rfl,e,_,rfl,AW,_,_,rfl,rfl,_,rfl,_,rfl,I,_,rfl,.inl ⟨cq.of yB,λu2 U=>?_⟩⟩;have he8:=aH (u:=.tup (vN [Tr.name g t0,Tr.name g t1,Tr.name g t2,Tr.name g v])) AW U;refine⟨e,_,rfl,gO.t he8 (by rw[aX,p_]) (by rw[jA];exact Ys (show g.length<=6000000 by lia) 'b'),?_⟩;have N7:=O6 O4 hk hm;rw[N7];have hd8:upd (upd H7 u2 (.tup (vN [Tr.name g t0,Tr.name g t1,Tr.name g t2,Tr.name g v]))) e (.dT (tK (Tr.rowsOf (g++[.nd t0 t1 t2 v])))) I=some (.lst (vN [Tr.name g t0,Tr.name g t1,Tr.name g t2,Tr.name g v])):=by
          rw[bV yI];exact aH yB U
         have Nq:upd (upd H7 u2 (.tup (vN [Tr.name g t0,Tr.name g t1,Tr.name g t2,Tr.name g v]))) e (.dT (tK (Tr.rowsOf (g++[.nd t0 t1 t2 v])))) e=some (.dT (tK (Tr.rowsOf (g++[.nd t0 t1 t2 v])))):=aX;have B8:bu e H (upd (upd H7 u2 (.tup (vN [Tr.name g t0,Tr.name g t1,Tr.name g t2,Tr.name g v]))) e (.dT (tK (Tr.rowsOf (g++[.nd t0 t1 t2 v]))))):=(B7.trans (bu.of (bw U))).trans bu.upd;generalize upd (upd H7 u2 (.tup (vN [Tr.name g t0,Tr.name g t1,Tr.name g t2,Tr.name g v]))) e (.dT (tK (Tr.rowsOf (g++[.nd t0 t1 t2 v]))))=H8 at hd8 Nq B8 ⊢;have uG:∀s,Tr.In g s->Tr.name (g++[.nd t0 t1 t2 v]) s=Tr.name g s:=λs hs=>Tr.dY hs O4;refine⟨_,rfl,_,rfl,I,_,rfl,.inl ⟨cq.of hd8,λu3 MK=>⟨e,_,rfl,Jv (a:=t0) (b:=t1) (c:=t2) (d:=v) O5 (by simp) (aH Nq MK) (by rw[aX,uG t0 Mw,uG t1 R,uG t2 Mu,uG v Mt]),?_⟩⟩⟩;exact q _ (B8.trans (bu.of (bw MK))) (aH Nq MK)
theorem Jm{f p q:ae}{n s r:ak}(F:bj K "_law_number" "_law_number" tM f n)(B:eR mg)(a:mg "_law_number"=some (.ref f))(g:Binds K n sM [])
  (c:mg "_law_meets"=some (.ref p)) (m:bj K "_law_meets" "_law_meets" x9 p s) (b:Binds K s jl [])
  (i:mg "_law_has"=some (.ref q)) (l:bj K "_law_has" "_law_has" kx q r) (d:Binds K r jl []):∀k,k<=12->aE P w K mg base aW (k+2) f n sM (Ba k)
 |0,h=>P8 F B a g c m b i l d h (sp':=λ_ _ _ _=>False) ⟨λ_ _ _ _ h=>h.elim,λ_ _ _ _ _ _ _ _ _ _ _ _ _ h=>h.elim⟩ (λj e=>nomatch e)
 |k+1,h=>P8 F B a g c m b i l d h (Jm F B a g c m b i l d k (h_ h)) (λj e=>by cases e;rfl)
abbrev U0:List ar:=["row","rows"]
theorem xU1:U0.Nodup:=by decide +kernel
theorem xN9:aI ["number"] ["number"] (ck CL):=dz
def Jl:Sp:=λa H Q _=>∃q:Nat,a=[.int (q:Nat)]/\Q (.int (ex q:Nat)) H
theorem P7{f:ae}{d:ak}(F:bj K "exchanged" "exchanged" CL f d)(T:oS mg):aE P w K mg base aW 1 f d ["number"] Jl:=by
 obtain⟨l,j⟩:=T.first;obtain⟨m,g⟩:=T.full;refine F.ok xN9 (λi H Q E h=>?_) (λn A b s H i Q E k h=>?_)
 ·obtain⟨x,rfl,_⟩:=h
  rfl
 ·obtain⟨x,rfl,q⟩:=h;refine⟨_,iA (fb (gB nE (pv 0) (gI (v:=.int 2) (by rfl) j ⟨_,rfl⟩) (dA _)) (dB (cQ (a_ gA (gI (v:=.int 1) (by rfl) g ⟨_,rfl⟩) (pv 0)))) fU) (dB (cQ (pv 0))),?_⟩;refine⟨_,rfl,_,_,rfl,rfl,_,rfl,?_⟩;refine c7 (λa=>?_) (λa=>?_)
  ·have c:x<2:=by have:=ZJ a;lia
   refine⟨_,rfl,_,_,rfl,rfl,?_⟩;have e:ex x=1-x:=Zk c;rw[e]at q;show Q (V.int (1-(x:Int))) H;rw[show(1:Int)-(x:Int)=((1-x:Nat):Int) by lia];exact q
  ·have c:¬x<2:=λz=>a (Zo 'a');have e:ex x=x:=Zi c;rw[e]at q;exact⟨_,rfl,q⟩
theorem ny:aI ["rows"] ["rows"] (ck Cw):=dz
def P6:Sp:=λc H Q _=>∃(p:ae)(rows:List Row),c=[.ref p]/\cf H p rows/\dv rows/\rows.length<=1190900/\∀a b,aG H a->cf a b (lr rows)->Q (.ref b) a
theorem xp5{f O:ae}{S L:ak}(F:bj K "exchanged_rows" "exchanged_rows" Cw f S)(B:eR mg)(T:oS mg)
  (hX:mg "exchanged"=some (.ref O)) (W:bj K "exchanged" "exchanged" CL O L) (bX:Binds K L ["number"] []):aE P w K mg base aW 2 f S ["rows"] P6:=by
 have GX:aE P w K mg base aW 1 O L ["number"] Jl:=P7 W T;refine F.ok ny (λvs H Q E h=>?_) (λcA A M s H vs Q E hr h=>?_)
 ·obtain⟨p,rows,rfl,_⟩:=h
  rfl
 ·obtain⟨p,rows,rfl,jN,ok,hl,q⟩:=h;obtain⟨bs,U,j9,jC⟩:=id jN;have N:(bs.map V.ref).length=rows.length:=by rw[Zg];exact j9
  refine⟨_,dB (cQ (hV (iR K rfl) (by rfl) B.tuple ZP (aF (nH ["rows"] (ck Cw) rfl rfl rfl ny.nd (Hh K rfl (pv 0))
   (λcl C fp aM aN=>hV (iR K rfl) (by rfl) B.tuple ZP (aF (nH U0 _ rfl rfl rfl xU1 (Hh K rfl (pv 0))
    (λcl2 C2 fp2 s2 H2=>cF GX hr hX W.kp bX (aF (pv 0) aQ)) (hfr:=by rfl)) aQ))) aQ))),?_⟩
  refine⟨_,rfl,p,rfl,⟨_,bg.of U⟩,λD hD=>oo hD (λi z d=>∃b r,z=.ref b/\rows[i]?=some r/\d b=some (.tup (vN (r.map ex)))) (Ak (K:=K) U) (by rw[N];exact i5 'a') ?_ ?_ ?_⟩
  ·rintro i z d H2 _ tk ⟨b,r,rfl,h1,h2⟩;exact⟨b,r,rfl,h1,tk _ _ h2⟩
  ·intro j x X hj a I Q' hq;have k6:j<rows.length:=by rw[<- N];exact hj
   rw[Zh]at a;obtain⟨b,hb,rfl⟩:=Zl.mp a;have u:rows[j]?=some rows[j]:=by simp[k6]
   have G:=I _ _ (jC j b _ hb u);have rk:=ok j _ u;generalize rows[j]=r at u G rk;refine⟨_,rfl,b,rfl,⟨_,bg.of G⟩,λD2 kD=>oo kD (λi z _=>∃m:Nat,r[i]?=some m/\z=.int (ex m:Nat)) (Ak (K:=K) G) (by rw[jn,rk.1];decide) (λ_ _ _ _ _ _ h=>h) ?_ ?_⟩
   ·intro i x H4 Z a Y Q2 vB;obtain⟨m,R,rfl⟩:=x8 a;exact⟨_,rfl,m,rfl,vB _ _ (aG.refl _) ⟨m,R,rfl⟩⟩
   ·intro g H4 Y kI v n;have ey:g=vN (r.map ex):=by
     refine vq (by rw[v,jn,jn,Zg]) λi x a=>?_;obtain⟨m,R,rfl⟩:=n i x a;exact QN (by rw[Zh,R];rfl)
    refine⟨D2,g,rfl,.inl ⟨cq.of kI,λl t=>hq _ _ (Y.trans (bw t)) ⟨l,r,rfl,u,?_⟩⟩⟩;rw[aX,ey]
  ·intro g X I kJ v n;refine⟨D,g,rfl,.inl ⟨cq.of kJ,λl t=>q _ l (I.trans (bw t)) ?_⟩⟩;have c:∀(zs:List V)(d:Hp),(∀(i:Nat) z,zs[i]?=some z->∃b r,z=.ref b/\rows[i]?=some r/\d b=some (.tup (vN (r.map ex))))->∃cs:List ae,zs=cs.map V.ref:=λzs d hz=>by
    have:∀zs:List V,(∀z∈zs,∃b:ae,z=.ref b)->∃cs:List ae,zs=cs.map V.ref:=λzs=>by
     induction zs with
     |nil=>exact λ_=>⟨[],rfl⟩
     |cons z zs ih=>
      intro h;obtain⟨b,rfl⟩:=h z Zz;obtain⟨cs,rfl⟩:=ih λy hy=>h y (Zp _ hy);exact⟨b::cs,rfl⟩
    refine this zs λz J=>?_;obtain⟨i,Z,e⟩:=ZK.mp J;obtain⟨b,_,k,_⟩:=hz i z (by simp[Z,e]);exact⟨b,k⟩
   obtain⟨cs,rfl⟩:=c g X n;have jU:cs.length=rows.length:=by rw[Zg]at v;rw[v,N]
   refine⟨cs,aX,by rw[jU];simp[lr],λi b r e1 k=>?_⟩;obtain⟨b',r',e3,e4,e5⟩:=n i (.ref b) (by rw[Zh,e1];rfl);cases e3;have:r=r'.map ex:=by
    unfold lr at k;rw[Zh,e4]at k;exact(ZE k).symm
   rw[this];exact aH e5 t
end Pr
namespace L2
open PySem PySem.Spec PyProof.Rows
section
variable{X:Cx}
theorem xp6:eJ X (binaryOp .Add) (λx y H Q=>∃a b i,x=.ref a/\y=.ref b/\H a=some (.tup [])/\H b=some (.tup i)/\Q (.ref b) H):=by
 intro O s L H x y v u Q I D C h;obtain⟨a,b,i,rfl,rfl,w,hb,q⟩:=h;cases D;cases C;obtain⟨N,E,m,_⟩:=I.tuple (bg.of w);obtain⟨r,K,F,_⟩:=I.tuple (bg.of hb);cases E;obtain⟨⟨J,G,e,t⟩,k,f,n,j⟩:=id m;obtain⟨⟨M,B,c,p⟩,g,l,A,d⟩:=id F;simp only at f j l d;subst f j l d;exact concat_meets ⟨_,k,rfl⟩ ⟨_,g,rfl⟩ noFill_tuple_add seq_tuple_add Vh Vb (WX _ _)
   (tuple_addW0 a b #[] r.toArray n A G B t p rfl) ⟨k,g,⟨.ref b,H,I,rfl,q⟩⟩
theorem xp7:eJ X (binaryOp .Add) (λx y H Q=>∃a b c d,x=.ref a/\y=.ref b/\H a=some (.tup c)/\H b=some (.tup d)/\c.length+d.length<=sizeLine /\
  ∀p f,f p=some (.tup (c++d))->(f=H\/H p=none/\f=upd H p (.tup (c++d)))->Q (.ref p) f):=by
 intro l s j H x y v u Q I n m h;obtain⟨a,b,c,d,ex,k,g,hb,r,q⟩:=h;by_cases i:c=[]
 ·subst i;exact xp6 l s j H x y v u Q I n m ⟨a,b,d,ex,k,g,hb,q b H hb (.inl rfl)⟩
 ·refine xy4 l s j H x y v u Q I n m ⟨a,b,c,d,ex,k,bg.of g,bg.of hb,i,r,λe=>?_,λ_ p t=>q p _ aX (.inr ⟨t,rfl⟩)⟩;subst e;exact q a H (by rw[XU];exact g) (.inl rfl)
end
end L2
namespace Pr
open PySem L2 Qf
abbrev C1:List ar:=["self","rows"]
inductive BD(P:ag)(w:ai)(C:ae)(vs:List V)(H:Hp)(Q:VK):Prop
 |mk(ac dx rp:ae)(rows:List Row)(e0:vs=[.ref ac,.ref rp])(e1:H ac=some (.ins C dx []))(e2:cf H rp rows)(e3:dv rows/\rows.length<=1000)
  (e4:∀H' cp kn,bu ac H H'->H kn=none->c9 P w H' C ac dx rp cp kn rows []->Q .cU H')
def xT(P:ag)(w:ai)(C:ae):Sp:=λa H Q _=>BD P w C a H Q
theorem Kb:aI C1 C1 (ck K3):=dz
theorem xU2{f O C:ae}{fd J:ak}(F:bj K "__init__" "Account.__init__" K3 f fd)(j:uO K C)(B:eR mg)(hC:mg "corners_of"=some (.ref O))(X:bj K "corners_of" "corners_of" B9 O J)(bC:Binds K J ["rows"] []):aE P w K mg base aW 2 f fd C1 (xT P w C):=by
 have GC:aE P w K mg base aW 1 O J ["rows"] QI:=xL7 X B;refine F.ok Kb (λvs H Q E h=>?_) (λcA A I s H vs Q E hr h=>?_)
 ·obtain⟨a,c,rp,rows,rfl,_⟩:=h
  rfl
 ·obtain⟨a,c,rp,rows,rfl,V,Z,aO,q⟩:=h;refine aZ ⟨_,⟨LF (pv 0) (pv 1) rfl⟩,?_⟩;refine aZ ⟨_,⟨LF (pv 0) (bU.go ⟨cF GC hr hC X.kp bC (aF (pv 1) aQ)⟩) rfl⟩,?_⟩;refine fZ ⟨_,⟨LF (pv 0) (xn3 (nk:=zL)) rfl⟩,?_⟩;refine⟨_,rfl,_,rfl,a,C,c,[],rfl,V,j.cls,j.rows,(by show 0<1000;decide),?_⟩;have up:∀{m:Hp}{o:HO},bu a m (upd m a o):=λ{m o} x y e n=>by rw[bV n];exact e
  have h1:upd H a (.ins C c (cD "rows" (.ref rp) [])) a=some (.ins C c (cD "rows" (.ref rp) [])):=aX;have r:bu a H (upd H a (.ins C c (cD "rows" (.ref rp) []))):=up;have N1:∀x,upd H a (.ins C c (cD "rows" (.ref rp) [])) x=none->H x=none:=λx e=>by
   have n:x≠a:=λz=>by rw[z,aX]at e;cases e
   rwa [bV n]at e
  generalize upd H a (.ins C c (cD "rows" (.ref rp) []))=H1 at h1 r N1 ⊢;have Y:∀{m:Hp},bu a H m->je H m:=λB=>B.c_ V (λu z=>by cases z);refine⟨_,rfl,rp,rows,rfl,Z.mono (Y r),aO.1,by lia,λg i M T Nu=>?_⟩;have h2:=M _ _ h1;refine⟨_,rfl,a,C,c,_,rfl,h2,j.cls,j.gX,(by show 1<1000;decide),?_⟩;have G:upd g a (.ins C c (cD "corners" (.ref i) (cD "rows" (.ref rp) []))) a=some (.ins C c (cD "corners" (.ref i) (cD "rows" (.ref rp) []))):=aX;have t:bu a H (upd g a (.ins C c (cD "corners" (.ref i) (cD "rows" (.ref rp) [])))):=λx o e n=>by rw[bV n];exact M _ _ (r x o e n)
  have k3:∀x o,g x=some o->x≠a->upd g a (.ins C c (cD "corners" (.ref i) (cD "rows" (.ref rp) []))) x=some o:=λx o e n=>by rw[bV n];exact e
  generalize upd g a (.ins C c (cD "corners" (.ref i) (cD "rows" (.ref rp) [])))=H3 at G t k3 ⊢;intro p N H4 D hkn4 L;have h4:=D _ _ G;have W:a≠p:=cI G N;refine⟨_,rfl,a,C,c,_,rfl,h4,j.cls,j.known,(by show 2<1000;decide),?_⟩;have R:H p=none:=by
   cases e:H p with
   |none=>rfl
   |some o=>rw[t _ _ e (YE W)]at N;cases N
  have S:∀{x:ae}{o:HO},g x=some o->(∀d l,o≠.ins C d l)->x≠a:=λ{x o} e n z=>by
   rw[z,h2]at e;exact n _ _ (ZE e).symm
  have U:∀{x:ae}{o:HO},g x=some o->(∀d l,o≠.ins C d l)->upd H4 a (.ins C c (zM rp i p)) x=some o:=λ{x o} e n=>by
   rw[bV (S e n)];exact D _ _ (k3 _ _ e (S e n))
  refine q _ i p (λx o e n=>by rw[bV n];exact D _ _ (t x o e n)) R ⟨aX,?_,?_,?_,(λx y up v _ _ e=>by cases e),Xv,(λk hk=>by cases hk)⟩
  ·exact Z.mono λx u e=>U (M _ _ (Y r _ _ e)) (λd l z=>by cases z)
  ·obtain⟨bs,e1,e2,e3⟩:=Nu;exact⟨bs,U e1 (λd l z=>by cases z),e2,λx b e=>U (e3 x b e) (λd l z=>by cases z)⟩
  ·refine L.mono (λb xs e=>?_) (λo e=>?_)
   ·rw[bV (λz=>by rw[z,h4]at e;cases e)];exact e
   ·rw[bV (YE W)];exact e
end Pr
namespace Qf
def rT(sd:Bool)(t:Tr):Int:=if sd then cX t else 1-cX (sR t)
def mn(sd:Bool):PySem.Str:=if sd then"sides"else"corners"
end Qf
namespace Pr
open PySem L2 Qf
theorem xU3:aI ["by"] ["by"] (ck FK):=dz
inductive xD(vs:List V)(H:Hp)(Q:VK):Prop
 |mk(sd:Bool)(e0:vs=[.str (mn sd)])(e1:∀H',aG H H'->Q .cU H')
def QB:Sp:=λa H Q _=>xD a H Q
structure zN(mg:ar->Option aa):Prop where
 uS:∃t,mg "SIDES"=some (.str "sides" t)
 gX:∃t,mg "CORNERS"=some (.str "corners" t)
theorem xO1{f:ae}{e:ak}(F:bj K "want_way" "want_way" FK f e)(B:eR mg)(g:mg "str"=none)(d:zN mg):aE P w K mg base aW 1 f e ["by"] QB:=by
 obtain⟨n,j⟩:=d.uS;obtain⟨m,c⟩:=d.gX;refine F.ok xU3 (λk H Q E h=>?_) (λr A b s H k Q E l h=>?_)
 ·obtain⟨a,rfl,_⟩:=h
  rfl
 ·obtain⟨a,rfl,q⟩:=h;refine fZ ⟨_,⟨fb (PW.pt (p9 (tI (l4 (dH Al (by rfl) B.AG YD (aF (pv 0) (aF (Ad (v:=.ty "str") (by rfl) g PyProof.Rows.boot_str rfl) aQ)))))
   (sF (gB qI4 (pv 0) (bU.go ⟨eM (aF (gI (v:=.str "sides") (by rfl) j ⟨_,rfl⟩) (aF (gI (v:=.str "corners") (by rfl) c ⟨_,rfl⟩) aQ))⟩) (by first|exact dA _|rfl|decide|with_unfolding_all rfl))))) Gh fU⟩,?_⟩
  refine⟨_,rfl,_,_,_,_,true,rfl,rfl,.inl (.str _),rfl,_,rfl,cJ ?_⟩;refine⟨_,rfl,(by show 2<=sizeLine;decide),λp i=>⟨p,_,rfl,.inr (bg.of aX),rfl,rfl,_,rfl,?_⟩⟩;rw[show(if true=true then !Hq (.str (mn a)) [.str "sides",.str "corners"]else Hq (.str (mn a)) [.str "sides",.str "corners"])=false by cases a<;>decide +kernel];exact cJ (q _ (bw i))
abbrev LY:List ar:=["shape","by","top","rows","amid","around"]
theorem jy:aI LY ["shape","by"] (ck FJ):=dz
inductive xQ(vs:List V)(H:Hp)(Q:VK):Prop
 |mk(t:ae)(sd:Bool)(n tp:Nat)(rows:List Row)(e0:vs=[.ref t,.str (mn sd)])(e1:vn H t n tp rows)(e2:∀H',aG H H'->Q (.int (rT sd (T rows tp))) H')
def QA:Sp:=λa H Q _=>xQ a H Q
theorem xO3{f fW fY fE fX fI fN C:ae}{fd rO N5 zC zA W jr:ak}(F:bj K "balance" "balance" FJ f fd)(B:eR mg)(Tc:oS mg)(Wy:zN mg)(AC:uO K C)(U5:mg "Account"=some (.ref C))
  (hW:mg "want_shape"=some (.ref fW)) (FW:bj K "want_shape" "want_shape" GF fW rO) (bW:Binds K rO ["shape"] []) (GW:aE P w K mg base aW 16 fW rO ["shape"] Qo)
  (hY:mg "want_way"=some (.ref fY)) (FY:bj K "want_way" "want_way" FK fY N5) (bY:Binds K N5 ["by"] []) (GY:aE P w K mg base aW 1 fY N5 ["by"] QB)
  (hE:mg "exchanged_rows"=some (.ref fE)) (FE:bj K "exchanged_rows" "exchanged_rows" Cw fE zC) (bE:Binds K zC ["rows"] []) (GE:aE P w K mg base aW 2 fE zC ["rows"] P6)
  (hX:mg "exchanged"=some (.ref fX)) (FX:bj K "exchanged" "exchanged" CL fX zA) (bX:Binds K zA ["number"] [])
  (MI:Mk K C fI) (bI:Binds K W C1 []) (GI:aE P w K mg base aW 2 fI W C1 (xT P w C))
  (MN:Meth K C "of_number" fN) (bN:Binds K jr ["self","top"] []) (GN:aE P w K mg base aW 34 fN jr ["self","top"] (By P w C)):aE P w K mg base aW 35 f fd ["shape","by"] QA:=by
 have GX:aE P w K mg base aW 1 fX zA ["number"] Jl:=P7 FX Tc;obtain⟨tf,hfi⟩:=Tc.first;obtain⟨tu,L⟩:=Tc.full;obtain⟨t1,AJ⟩:=Wy.uS;refine F.ok jy (λvs H Q E h=>?_) (λcA A outer s H vs Q E T h=>?_)
 ·obtain⟨t,sd,n,d,rows,rfl,_⟩:=h
  rfl
 ·obtain⟨t,sd,n,d,rows,rfl,HS,q⟩:=h;have MX:bh 16 _:=T.mono 'b';have vV:bh 3 _:=T.mono 'b';have k8:bh 2 _:=T.mono 'b';have jF:bh 1 _:=T.mono 'b';refine aZ ⟨_,⟨tN (cF GW MX hW FW.kp bW (aF (pv 0) aQ))⟩,?_⟩;refine aZ ⟨_,⟨tN (cF GY jF hY FY.kp bY (aF (pv 1) aQ))⟩,?_⟩;refine aZ ⟨_,⟨sE (Sf PF (pv 0) (TR aV) TU) (qg rfl (gc (eD 2 jy.nd) (gc (eD 3 jy.nd) qh)))⟩,?_⟩;refine aZ ⟨_,⟨fb (gB p7 (pv 1) (gI (v:=.str (mn true)) (by rfl) AJ ⟨_,rfl⟩) (by first|exact dA _|rfl|decide|with_unfolding_all rfl)) (dB (cQ (bU.go ⟨sG (bU.go ⟨TX MI GI vV (by rfl) U5 bI .nil mD (aF (pv 3) aQ)⟩) AC.cls MN GN T bN .nil mD (aF (pv 2) aQ)⟩))) fU⟩,?_⟩;refine aZ ⟨_,⟨cR 4 jy.nd (a_ df (dH tR (by rfl) B.len Yq (aF (pv 3) aQ)) (gI (v:=.int 2) (by rfl) hfi ⟨_,rfl⟩))⟩,?_⟩;refine aZ ⟨_,⟨cR 5 jy.nd (bU.go ⟨a_ xp7 (bU.go ⟨cF GE k8 hE FE.kp bE (aF (pv 3) aQ)⟩)
   (bU.go ⟨eM (aF (bU.go ⟨@eM _ _ _ _ _ (bJ.go (.cons ⟨gI (v:=.int 1) (by rfl) L ⟨_,rfl⟩⟩ (.cons ⟨gI (v:=.int 1) (by rfl) L ⟨_,rfl⟩⟩ (.cons ⟨gI (v:=.int 1) (by rfl) L ⟨_,rfl⟩⟩ (.cons ⟨cF GX jF hX FX.kp bX (aF (pv 2) aQ)⟩ .nil rfl) rfl) rfl) rfl))⟩)
    (aF (bU.go ⟨@eM _ _ _ _ _ (bJ.go (.cons ⟨pv 4⟩ (.cons ⟨gI (v:=.int 1) (by rfl) L ⟨_,rfl⟩⟩ (.cons ⟨gI (v:=.int 1) (by rfl) L ⟨_,rfl⟩⟩ (.cons ⟨gI (v:=.int 1) (by rfl) L ⟨_,rfl⟩⟩ .nil rfl) rfl) rfl) rfl))⟩) aQ))⟩)⟩)⟩,?_⟩
  refine fZ ⟨_,⟨cQ (bU.go ⟨a_ gA aV (bU.go ⟨sG (bU.go ⟨TX MI GI vV (by rfl) U5 bI .nil mD (aF (pv 5) aQ)⟩) AC.cls MN GN T bN .nil mD (aF (bU.go ⟨a_ df (pv 4) aV⟩) aQ)⟩)⟩)⟩,?_⟩;refine⟨_,rfl,t,n,d,rows,rfl,HS,λH1 s1=>?_⟩;refine⟨_,rfl,sd,rfl,λH2 s2=>?_⟩;obtain⟨⟨rp,ht,hR⟩,l,hl⟩:=xA9 HS (s1.trans s2);have hd:=q26 l;refine⟨_,rfl,_,rfl,t,_,rfl,bg.of ht,(by show ¬(HT.dy 3 0 (some 1)=0/\HT.dy 3 3 none=3);decide),λu hu=>?_⟩;have X_:upd H2 u (.tup (mZ [.int (n:Nat),.int (d:Nat),.ref rp] (some 1) none)) u=some (.tup [.int (d:Nat),.ref rp]):=aX;have s3:aG H2 (upd H2 u (.tup (mZ [.int (n:Nat),.int (d:Nat),.ref rp] (some 1) none))):=bw hu;have Ke:=s1.trans (s2.trans s3);have vS:=hR.same s3;generalize upd H2 u (.tup (mZ [.int (n:Nat),.int (d:Nat),.ref rp] (some 1) none))=H3 at X_ s3 Ke vS ⊢;clear hu s3;refine⟨u,_,rfl,bg.of X_,rfl,_,_,rfl,_,_,rfl,rfl,?_⟩;have S:∀{g H5 Y:Hp}{a c J:ae}{M:List (ar×V)},g a=none->g c=none->bu a (upd (upd g c (.own a)) a (.ins C c M)) H5->upd (upd g c (.own a)) a (.ins C c M) J=none->bu J H5 Y->aG g Y:=λ{g H5 Y a c J M} G I U hk Z y o e=>by
   have k:upd (upd g c (.own a)) a (.ins C c M) y=some o:=by rw[bV (cI e G),bV (cI e I)];exact e
   exact Z _ _ (U _ _ k (cI e G)) (cI k hk)
  have R:∀{g:Hp}{a c r2:ae}{uW:List Row}{M:List (ar×V)},g a=none->g c=none->cf g r2 uW->cf (upd (upd g c (.own a)) a (.ins C c M)) r2 uW:=λG I h=>h.mono λx v e=>by
   rw[bV (cI e G),bV (cI e I)];exact e
  refine⟨_,rfl,rfl,_,rfl,?_⟩;cases sd with
  |true=>
   rw[Zo rfl];refine cM ⟨_,rfl,λa c G I jH=>?_⟩;refine⟨a,c,rp,rows,rfl,aX,R G I vS,⟨l.n5,qS hl⟩,λH5 cp J U Nf X=>⟨rfl,a,c,_,rfl,X.ob,rfl,_,rfl,a,c,rp,cp,J,rows,[],d,rfl,X,⟨l.n5,qS hl⟩,l.o_,λy hy=>ZF (hd y hy) (by have:=l.size;lia),λY Z=>?_⟩⟩;exact q Y (Ke.trans (S G I U Nf Z))
  |false=>
   rw[Zm (show ¬V.str (mn false)=V.str (mn true) by decide +kernel)];refine cJ ?_;obtain⟨bs,hp,vG,jC⟩:=id vS;refine⟨_,rfl,rp,_,rfl,.inr (bg.of hp),_,_,rfl,rfl,?_⟩;rw[Zg,vG];refine⟨_,rfl,rp,rows,rfl,vS,l.n5,by lia,λg ep s4 hE=>?_⟩;refine⟨_,rfl,d,rfl,(by show 4<=sizeLine;decide),λp HC=>⟨_,rfl,(by show 4<=sizeLine;decide),λD vB=>⟨(by show 2<=sizeLine;decide),λO DO=>?_⟩⟩⟩;obtain⟨cs,hep,N,hcr⟩:=id hE;rw[j_]at N;have s6:=(bw (o:=.tup (vN [1,1,1,ex d])) HC).trans ((bw (o:=.tup (vN [rows.length+2,1,1,1])) vB).trans (bw (o:=.tup [.ref p,.ref D]) DO));have g1:upd (upd (upd g p (.tup (vN [1,1,1,ex d]))) D (.tup (vN [rows.length+2,1,1,1]))) O (.tup [.ref p,.ref D]) p=some (.tup (vN [1,1,1,ex d])):=aH (aH aX vB) DO;have g2:upd (upd (upd g p (.tup (vN [1,1,1,ex d]))) D (.tup (vN [rows.length+2,1,1,1]))) O (.tup [.ref p,.ref D]) D=some (.tup (vN [rows.length+2,1,1,1])):=aH aX DO;have g3:upd (upd (upd g p (.tup (vN [1,1,1,ex d]))) D (.tup (vN [rows.length+2,1,1,1]))) O (.tup [.ref p,.ref D]) O=some (.tup [.ref p,.ref D]):=aX;refine⟨ep,O,_,_,rfl,rfl,s6 _ _ hep,g3,by rw[Zg,N];exact XX (i5 (by show rows.length+2<=_;lia)),λap H7 hap hH7=>?_⟩;have s7:aG (upd (upd (upd g p (.tup (vN [1,1,1,ex d]))) D (.tup (vN [rows.length+2,1,1,1]))) O (.tup [.ref p,.ref D])) H7:=by
    rcases hH7 with e|⟨m,k⟩
    ·rw[e];exact aG.refl _
    ·rw[k];exact bw m
   have hA:cf H7 ap (oW rows d):=by
    refine⟨cs++[p,D],by rw[hap,ZL];rfl,by rw[Zw,N,Ky];rfl,λi b r m k=>?_⟩;unfold oW at k;by_cases hi:i<rows.length
    ·rw[Zr (ki hi N)]at m;rw[Zr (by rw[j_];exact hi)]at k;exact s7 _ _ (s6 _ _ (hcr i b r m k))
    ·rw[Zq (yS N hi),N]at m;rw[Zq (by rw[j_];exact gS hi),j_]at k;generalize i-rows.length=j at m k
     match j,m,k with
     |0,m,k=>cases m;cases k;exact s7 _ _ g1
     |1,m,k=>cases m;cases k;exact s7 _ _ g2
     |j+2,m,_=>cases m
   have s47:=s4.trans (s6.trans s7);refine⟨_,rfl,λa c G I jH=>?_⟩;have T6:=Lx l.n5 l.o_;have lA:=Ky rows d;refine⟨a,c,ap,oW rows d,rfl,aX,R G I hA,⟨T6,by lia⟩,λH8 cp J U Nf X=>⟨rfl,a,c,_,rfl,X.ob,rfl,_,rfl,_,_,rfl,rfl,a,c,ap,cp,J,oW rows d,[],rows.length+3,rfl,X,⟨T6,by lia⟩,by lia,λy hy=>ZF (q25 l.n5 l.o_ hd y hy) (by have:=l.size;lia),λH9 Z=>?_⟩⟩;rw[RU l.n5 l.o_];exact⟨_,_,rfl,rfl,q H9 (Ke.trans (s47.trans (S G I U Nf Z)))⟩
end Pr
namespace L2
open PySem
def sK(x:Bool×Nat×Nat):List Key:=[.inr (if x.1 then"-"else"|"),.inl (x.2.1:Int),.inl (x.2.2:Int)]
theorem xO4:∀a b,sK a=sK b->a=b:=λa b e=>by
 obtain⟨d,e⟩:=Xr e;obtain⟨c,e⟩:=Xr e;obtain⟨h,_⟩:=Xr e;have j:=Wl c;have i:=Wl h;have f:=Sum.inr.inj d;have g:∀a b:Bool,(if a=true then("-":ar)else("|":ar))=(if b=true then("-":ar)else("|":ar))->a=b:=by decide +kernel
 exact XG (g _ _ f) (XG 'a' 'a')
end L2
namespace Pr
open PySem L2 Qf
abbrev nBc:List ar:=["_law_there","_law_corners","_law_sides","_law_r","_law_c","_law_k","_law_side"]
theorem mz:aI nBc ["_law_there"] (ck Gm):=dz
inductive BB(vs:List V)(H:Hp)(Q:VK):Prop
 |mk(d:ae)(S:List (Nat×Nat))(e0:vs=[.ref d])(e1:Rd H d (.dT (dD cK S)))(e2:S.length<=100000)(e3:∀H',bu d H H'->Q (.int (Cc S)) H')
def BC:Sp:=λa H Q _=>BB a H Q
def uI(r c k:Nat):List (Nat×Nat):=(List.range k).map λj=>(r+j/2,c+j%2)
theorem xU4{f:ae}{fd:ak}(F:bj K "_law_by_corners" "_law_by_corners" Gm f fd)(B:eR mg):aE P w K mg base aW 1 f fd ["_law_there"] BC:=by
 refine F.ok mz (λvs H Q E h=>?_) (λcA A outer s H vs Q E hr h=>?_)
 ·obtain⟨d,S,rfl,_⟩:=h
  rfl
 ·obtain⟨d,S,rfl,hd,X,q⟩:=h;have un:=hr.units;have hu:_+1<cLine:=Ys (WU (show 1<=64 by decide) _) un;refine aZ ⟨_,⟨cR 1 mz.nd F_⟩,?_⟩;refine aZ ⟨_,⟨cR 2 mz.nd F_⟩,?_⟩;refine aZ ⟨_,⟨og Yv rfl (RR (pv 0)) (qg rfl (gc (eD 3 mz.nd) (gc (eD 4 mz.nd) qh)))
   (gZ.go (.cons ⟨og Yv rfl (ym (by rfl) B.range (aF aV aQ)) (eD 5 mz.nd)
     (gZ.go (.one ⟨BS hu (pv 1) (bU.go ⟨eM (aF (a_ df (pv 3) (a_ yh (pv 5) aV)) (aF (a_ df (pv 4) (a_ u_ (pv 5) aV)) aQ))⟩) lY (by rfl)⟩))⟩
    (.one ⟨og Yv rfl (sH (@n_ _ _ _ _ (bJ.go (.cons ⟨eM (aF Ax (aF (pv 3) (aF (pv 4) aQ)))⟩ (.cons ⟨eM (aF Ax (aF (a_ df (pv 3) aV) (aF (pv 4) aQ)))⟩ (.cons ⟨eM (aF Ax (aF (pv 3) (aF (pv 4) aQ)))⟩ (.cons ⟨eM (aF Ax (aF (pv 3) (aF (a_ df (pv 4) aV) aQ)))⟩ .nil rfl) rfl) rfl) rfl)))) (eD 6 mz.nd)
     (gZ.go (.one ⟨BS hu (pv 2) (pv 6) lY (by rfl)⟩))⟩)))⟩,?_⟩
  refine fZ ⟨_,⟨cQ (bU.go ⟨a_ df (a_ gA (dH Gk (by rfl) B.len Yq (aF (pv 1) aQ)) (dH Gk (by rfl) B.len Yq (aF (pv 2) aQ))) (dH Gk (by rfl) B.len Yq (aF (pv 0) aQ))⟩)⟩,?_⟩;refine λm vO g vY=>?_;have n1:d≠m:=hd.ne vO;have HJ:=hd.aH (u:=.dT []) vO;have n2:d≠g:=HJ.ne vY;have Hn:m≠g:=cI aX vY;have D8:H g=none:=by rw[bV Hn.symm]at vY;exact vY
  refine⟨_,rfl,d,_,rfl,HJ.aH vY,λo Hz MC kG=>SG (λi p J=>J d=some (.gC o (.dT (dD cK S)))/\J m=some (.dT (dD cK (fF cs (S.take i) [])))/\J g=some (.dT (dD sK (fF n0 (S.take i) [])))/\bu d H J/\∃v3 v4 G I,p=[some (.ref d),some (.ref m),some (.ref g),v3,v4,G,I]) (λi p J h=>h.1)
   ⟨MC,?_,?_,λx u e n=>by rw[kG _ n,bV (cI e D8),bV (cI e vO)];exact e,none,none,none,none,rfl⟩ ?_ ?_⟩
  ·rw[kG _ n1.symm,bV Hn,aX];rfl
  ·rw[kG _ n2.symm,aX];rfl
  ·rintro i b kv p J vD hb ⟨O,h1,L,bt,v3,v4,G,I,rfl⟩;unfold dD at vD;rw[Zh]at vD;obtain⟨⟨r,c⟩,hx,rfl⟩:=Zl.mp vD;have hi:i<S.length:=(cz hx).1
   replace hb:J b=some (.tup [.int (r:Nat),.int (c:Nat)]):=hb
   have lC:=Lg (f:=cs) (n:=4) (λ_=>rfl) (S.take i) [];have lM:=Lg (f:=n0) (n:=4) (λ_=>rfl) (S.take i) [];rw[Wd]at lC lM;simp only[VP]at lC lM;rw[SE hx,SE hx];generalize fF cs (S.take i) []=C at h1 lC ⊢;generalize fF n0 (S.take i) []=M at L lM ⊢;refine⟨b,_,rfl,bg.of hb,rfl,_,_,rfl,_,_,rfl,rfl,?_⟩;refine As (σ':=[some (.ref d),some (.ref m),some (.ref g),some (.int (r:Nat)),some (.int (c:Nat)),G,I]) rfl ?_;refine⟨4,rfl,by decide,by decide,Gg (λk p D=>D d=some (.gC o (.dT (dD cK S)))/\D m=some (.dT (dD cK (dm (uI r c k) C)))/\D g=some (.dT (dD sK M))/\bu d H D/\∃G,p=[some (.ref d),some (.ref m),some (.ref g),some (.int (r:Nat)),some (.int (c:Nat)),G,I])
    ⟨O,h1,L,bt,G,rfl⟩ ?_ ?_⟩
   ·rintro k p D hk ⟨O,h1,L,bt,G,rfl⟩;have hlk:(dm (uI r c k) C).length<sizeLine:=by
     have h3:=Fw (uI r c k) C;have h4:(uI r c k).length=k:=by unfold uI;rw[Zg,YK]
     exact i5 'a'
    refine⟨_,rfl,_,rfl,_,rfl,_,_,rfl,rfl,⟨by decide,by decide⟩,_,_,rfl,rfl,_,rfl,_,rfl,_,_,rfl,rfl,by decide,_,_,rfl,rfl,(by show 2<=sizeLine;decide),λt ht=>?_⟩;have et:V.int ((r:Int)+(0+(k:Nat):Int)/2)=.int ((r+k/2:Nat):Int):=by congr 1;lia
    have et2:V.int ((c:Int)+(0+(k:Nat):Int)%2)=.int ((c+k%2:Nat):Int):=by congr 1;lia
    rw[et,et2]at *;have nt1:m≠t:=cI h1 ht;refine⟨m,_,rfl,gO.t (k:=cK (r+k/2,c+k%2)) (aH h1 ht) aX (by rw[uZ];exact hlk),?_⟩;rw[Jp Ck];have K:∀{x:ae}{u:HO},D x=some u->x≠m->upd (upd D t (.tup [.int ((r+k/2:Nat):Int),.int ((c+k%2:Nat):Int)])) m (.dT (dD cK (ee (r+k/2,c+k%2) (dm (uI r c k) C)))) x=some u:=λe n=>by rw[bV n];exact aH e ht
    refine⟨K O n1,?_,K L Hn.symm,λx u e n=>K (bt x u e n) (cI e vO),_,rfl⟩;rw[aX];have:uI r c (k+1)=uI r c k++[(r+k/2,c+k%2)]:=by unfold uI;rw[YC,ZL];rfl
    rw[this,SF]
   ·rintro p D ⟨O,h1,L,bt,G,rfl⟩
    replace h1:D m=some (.dT (dD cK (dm (cs (r,c)) C))):=h1
    refine⟨_,rfl,_,rfl,(by show 3<=sizeLine;decide),λU ha1=>⟨_,rfl,_,_,rfl,rfl,_,rfl,(by show 3<=sizeLine;decide),λY ha2=>⟨_,rfl,_,rfl,(by show 3<=sizeLine;decide),λZ NC=>⟨_,rfl,_,rfl,_,_,rfl,rfl,(by show 3<=sizeLine;decide),λT HQ=>⟨(by show 4<=sizeLine;decide),λl X=>⟨l,rfl,⟨_,cq.of aX⟩,?_⟩⟩⟩⟩⟩⟩;have ei:∀x:Nat,V.int ((x:Int)+1)=.int ((x+1:Nat):Int):=λx=>rfl;rw[ei,ei]at *;obtain⟨R,N⟩:∃R,upd (upd (upd (upd (upd D U (.tup [.str "-",.int (r:Nat),.int (c:Nat)])) Y (.tup [.str "-",.int ((r+1:Nat):Int),.int (c:Nat)])) Z (.tup [.str "|",.int (r:Nat),.int (c:Nat)])) T (.tup [.str "|",.int (r:Nat),.int ((c+1:Nat):Int)])) l (.lst [.ref U,.ref Y,.ref Z,.ref T])=R:=⟨_,rfl⟩;have hy:∀(j:Nat)(x:V),[V.ref U,.ref Y,.ref Z,.ref T][j]?=some x->∃t y,x=.ref t/\(n0 (r,c))[j]?=some y/\R t=some (.tup ((sK y).map kV)):=λj x v=>by
     match j,v with
     |0,v=>cases v;exact⟨U,_,rfl,rfl,by rw[<- N];exact aH (aH (aH (aH aX ha2) NC) HQ) X⟩
     |1,v=>cases v;exact⟨Y,_,rfl,rfl,by rw[<- N];exact aH (aH (aH aX NC) HQ) X⟩
     |2,v=>cases v;exact⟨Z,_,rfl,rfl,by rw[<- N];exact aH (aH aX HQ) X⟩
     |3,v=>cases v;exact⟨T,_,rfl,rfl,by rw[<- N];exact aH aX X⟩
     |j+4,v=>cases v
    have SX:aG D R:=by
     rw[<- N];exact(bw ha1).trans ((bw ha2).trans ((bw NC).trans ((bw HQ).trans (bw X))))
    have Nb:R l=some (.lst [.ref U,.ref Y,.ref Z,.ref T]):=by rw[<- N];exact aX
    rw[N];clear N;have NM:=SX _ _ L;have nl:l≠g:=λz=>by rw[z,NM]at Nb;cases Nb
    refine xj6 (K:=K) (a:=l) (xs:=[.ref U,.ref Y,.ref Z,.ref T]) (λj p H4=>bu g R H4/\H4 g=some (.dT (dD sK (dm ((n0 (r,c)).take j) M)))/\∃I,p=[some (.ref d),some (.ref m),some (.ref g),some (.int (r:Nat)),some (.int (c:Nat)),G,I])
     ⟨bu.refl _ _,NM,I,rfl⟩ (λj p H4 _ h=>cq.of (h.1 _ _ Nb nl)) ?_ ?_
    ·rintro j x p H4 v ⟨W,h4,I,rfl⟩;obtain⟨t,y,rfl,hy1,wX⟩:=hy j x v;have nt:t≠g:=λz=>by rw[z,NM]at wX;cases wX
     have j9:=Fw ((n0 (r,c)).take j) M;have hl4:((n0 (r,c)).take j).length<=4:=by rw[Wd];exact Nat.min_le_right _ _
     refine⟨_,rfl,_,rfl,g,_,rfl,gO.t (k:=sK y) h4 (W _ _ wX nt) (by rw[uZ];exact i5 'a'),?_⟩;rw[Jp xO4];refine⟨λx u e n=>by rw[bV n];exact W _ _ e n,?_,_,rfl⟩;rw[aX];obtain⟨k6,ey⟩:=cz hy1;rw[YM k6,ey,SF]
    ·rintro p H4 ⟨W,h4,I,rfl⟩;refine⟨W _ _ (SX _ _ O) n2,W _ _ (SX _ _ h1) Hn,h4,λx u e n=>W _ _ (SX _ _ (bt x u e n)) (cI e D8),_,_,_,_,rfl⟩
  ·rintro p J ⟨O,h1,L,bt,v3,v4,G,I,rfl⟩;rw[uZ,Wk]at h1 L;refine⟨_,rfl,m,_,rfl,.inl h1,_,rfl,g,_,rfl,.inl L,_,_,rfl,rfl,_,rfl,d,_,rfl,.inr ⟨o,O⟩,_,_,rfl,rfl,?_⟩;rw[uZ,uZ,uZ];exact q J bt
end Pr
namespace Qf
open Tr
def qf(i:Nat)(t:Tr)(k:Nat):Tr:=if i=k then t else .z
theorem Gs(i:Nat):dP i .z=.z:=by
 unfold dP;simp only[ite_self]
 rfl
theorem G3{i:Nat}{t:Tr}(a:i<4)(h:t≠.z):dP i t=.nd (qf i t 0) (qf i t 1) (qf i t 2) (qf i t 3):=by
 unfold dP mk
 match i,a with
 |0,_=>rw[Zi (λz=>h z.1),Zi (λz=>nomatch z.2.1)];rfl
 |1,_=>rw[Zi (λz=>h z.2.1),Zi (λz=>nomatch z.1)];rfl
 |2,_=>rw[Zi (λz=>h z.2.2.1),Zi (λz=>nomatch z.1)];rfl
 |3,_=>rw[Zi (λz=>h z.2.2.2),Zi (λz=>nomatch z.1)];rfl
theorem qS9{i:Nat}{t:Tr}(a:i<4):Tr.nd (qf i t 0) (qf i t 1) (qf i t 2) (qf i t 3)∉post t []:=λh=>by
 rcases tO t [] _ h with z|z
 ·cases z
 ·match i,a with
  |0,_|1,_|2,_|3,_=>simp[qf]at z;lia
theorem Lw{i:Nat}{t:Tr}(a:i<4):post (.nd (qf i t 0) (qf i t 1) (qf i t 2) (qf i t 3)) []=post t []++[.nd (qf i t 0) (qf i t 1) (qf i t 2) (qf i t 3)]:=by
 show(if Tr.nd _ _ _ _∈[]then _ else post (qf i t 3) (post (qf i t 2) (post (qf i t 1) (post (qf i t 0) [])))++[Tr.nd _ _ _ _])=_;rw[Zi (by simp)]
 match i,a with
 |0,_|1,_|2,_|3,_=>rfl
def nI(n:Nat)(S:List (Nat×Nat))(R C j:Nat):List Tr:=post (l6 (jk n S) R C j) []
theorem Jk(n:Nat)(S:List (Nat×Nat))(R C j:Nat):Ord (nI n S R C j)/\In (nI n S R C j) (l6 (jk n S) R C j):=bK _ [] c6
theorem Jj{n:Nat}(c:n<=4)(S:List (Nat×Nat))(R C:Nat):∀j,(nI n S R C j).length<=341+j
 |0=>by
  have h1:=yg (jk n S) [];have e:=yo n (S.map xk) 0 0;have d:sz n<=341:=by
   match n,c with
   |0,_|1,_|2,_|3,_|4,_=>decide
  simp only[VP]at h1;show(post (jk n S) []).length<=341;unfold jk at h1 ⊢;lia
 |j+1=>by
  have b:=Jj c S R C j;have a:2*bit R j+bit C j<4:=by unfold bit;exact qZ
  unfold nI at b ⊢;show(post (dP (2*bit R j+bit C j) (l6 (jk n S) R C j)) []).length<=_;by_cases h:l6 (jk n S) R C j=.z
  ·rw[h,Gs];exact Zs _
  ·rw[G3 a h,Lw a,Zw];exact Nat.succ_le_succ b
end Qf
namespace Pr
open PySem L2 Qf
theorem xE8{n j:Nat}(h:j<n):uv n ((j:Nat):Int)=some j:=by
 unfold uv;rw[Zk nO,Zk 'a'];simp
theorem xO5{rows:List Row}{i:Nat}{r:Row}(h:rows[i]?=some r):∃v,(tK rows)[i]?=some (dQ r,v):=by
 unfold tK e_;rw[Zh,List.getElem?_zipIdx,h];exact⟨_,rfl⟩
theorem xE9(r k:Nat):Builtin.bitAnd ((r:Int)/2^((k:Nat):Int).toNat) 1=((r/2^k%2:Nat):Int):=by
 rw[PyProof.Rows.bitAnd_m1,ZG];have e:((2:Int)^k)=((2^k:Nat):Int):=by simp
 rw[e];lia
theorem xg0{n s R j:Nat}:R*2^(n+s)/2^(n+s+j)%2=bit R j:=by
 unfold bit;rw[YX 2 (n+s) j,Z7 R,Nat.mul_div_mul_left _ _ (fj (n+s))]
abbrev U1:List ar:=["_law_place_here","_law_n","_law_cells_here","_law_m","_law_s","_law_row","_law_column","_law_rows","_law_number_here","_law_k","_law_quarters"]
abbrev tV:List ar:=["_law_place_here","_law_n","_law_cells_here"]
theorem g9:aI U1 tV (ck Cs):=dz
inductive Bt(vs:List V)(H:Hp)(Q:VK):Prop
 |mk(tp l:ae)(n s J R C:Nat)(S:List (Nat×Nat))(e0:vs=[.ref tp,.int (n:Nat),.ref l])(e1:H tp=some (.tup [.int ((n+s+J:Nat):Int),.int (s:Nat),.int ((R*2^(n+s):Nat):Int),.int ((C*2^(n+s):Nat):Int)]))(e2:br H l (S.map pr))(e3:n<=4/\n+s+J<=12)(e4:S.length<=256)
  (e5:∀H' t,aG H H'->gq H' t (n+s+J) (Tr.name (nI n S R C J) (l6 (jk n S) R C J)) (Tr.rowsOf (nI n S R C J))->Q (.ref t) H')
def Bu:Sp:=λa H Q _=>Bt a H Q
theorem xU5{f fN fM fH:ae}{fd jr gh l9:ak}(F:bj K "_law_put_at" "_law_put_at" Cs f fd)(B:eR mg)(hN:mg "_law_number"=some (.ref fN))(FN:bj K "_law_number" "_law_number" tM fN jr)(bN:Binds K jr sM [])
  (hM:mg "_law_meets"=some (.ref fM)) (FM:bj K "_law_meets" "_law_meets" x9 fM gh) (bM:Binds K gh jl [])
  (hH:mg "_law_has"=some (.ref fH)) (FH:bj K "_law_has" "_law_has" kx fH l9) (bH:Binds K l9 jl []):aE P w K mg base aW 7 f fd tV Bu:=by
 have GN:∀k,k<=12->aE P w K mg base aW (k+2) fN jr sM (Ba k):=Jm FN B hN bN hM FM bM hH FH bH;refine F.ok g9 (λvs H Q E h=>?_) (λcA A outer s H vs Q E hr h=>?_)
 ·obtain⟨tp,l,n,s,J,R,C,S,rfl,_⟩:=h
  rfl
 ·obtain⟨tp,l,n,s,J,R,C,S,rfl,AI,hl,⟨hn,hm⟩,wF,q⟩:=h;have un:=hr.units;have G:_+1<cLine:=Ys (WU (show 1<=64 by decide) _) un;have MW:bh (n+2) _:=hr.mono 'a';refine aZ ⟨_,⟨sE (pv 0) (qg rfl (gc (eD 3 g9.nd) (gc (eD 4 g9.nd) (gc (eD 5 g9.nd) (gc (eD 6 g9.nd) qh)))))⟩,?_⟩;refine aZ ⟨_,⟨cR 7 g9.nd F_⟩,?_⟩;refine aZ ⟨_,⟨cR 8 g9.nd (bU.go ⟨K7 (GN n 'a') MW (by rfl) hN FN.kp bN .nil mD (bJ.go (.cons ⟨pv 7⟩ (.cons ⟨FZ U1 (ck Cs) rfl rfl rfl g9.nd (sH (pv 2)) (λcl C fp aM aN=>@eM _ _ _ _ _ (bJ.go (.cons ⟨pv 0⟩ (.cons ⟨pv 1⟩ (.cons gH (.cons gH .nil rfl) rfl) rfl) rfl)))⟩ (.cons gH (.cons gH (.cons ⟨a_ nF aV (pv 1)⟩ .nil rfl) rfl) rfl) rfl) rfl))⟩)⟩,?_⟩;refine aZ ⟨_,⟨og Yv rfl (q46 (by rfl) B.range (aF (a_ df (pv 1) (pv 4)) (aF (pv 3) aQ))) (eD 9 g9.nd)
   (gZ.go (.cons ⟨cR 10 g9.nd (n_ (bJ.go (.cons gH (.cons gH (.cons gH (.cons gH .nil rfl) rfl) rfl) rfl)))⟩
    (.cons ⟨sE (pv 8) (GU (pv 10) (bU.go ⟨a_ df (a_ qe aV (a_ PL (a_ PM (pv 5) (pv 9)) aV)) (a_ PL (a_ PM (pv 6) (pv 9)) aV)⟩) Lu)⟩
    (.cons ⟨z_ (fb (PW.pt (PN (gB QV (pv 8) aV (dA _)) (T3 (GV (S9 G (hV (iR K rfl) (by rfl) B.tuple ZP (aF (pv 10) aQ)) (pv 7))))))
     (dB (BS G (pv 7) (hV (iR K rfl) (by rfl) B.tuple ZP (aF (pv 10) aQ)) (a_ df (dH SK (by rfl) B.len Yq (aF (pv 7) aQ)) aV) (by rfl))) fU)⟩
    (.one ⟨cR 8 g9.nd (xk6 G (pv 7) (hV (iR K rfl) (by rfl) B.tuple ZP (aF (pv 10) aQ)) aV ⟨rfl,rfl,rfl,rfl⟩)⟩)))))⟩,?_⟩
  refine fZ ⟨_,⟨cQ (@eM _ _ _ _ _ (bJ.go (.cons ⟨pv 3⟩ (.cons ⟨pv 8⟩ (.cons ⟨hV (Ri rfl) (by rfl) B.tuple ZP (aF (pv 7) aQ)⟩ .nil rfl) rfl) rfl)))⟩,?_⟩;refine⟨_,rfl,tp,_,rfl,bg.of AI,rfl,_,_,rfl,_,_,rfl,_,_,rfl,_,_,rfl,rfl,?_⟩;intro e U;obtain⟨bs,hb,j9,jC⟩:=id hl;rw[Zg]at j9;have nle:l≠e:=cI hb U;refine⟨_,rfl,_,rfl,l,rfl,⟨_,cq.of (aH hb U)⟩,λD hD=>qS0 hD (λ_=>true) (λj z H3=>∃c x,z=.ref c/\S[j]?=some x/\H3 c=some (.tup (vN (xk x)))) (tP (K:=K) (aH hb U)) (by rw[Zg,j9];exact i5 'a') ?_ ?_ ?_⟩
  ·rintro j y H1 H2 tk ⟨c,x,rfl,h1,h2⟩;exact⟨c,x,rfl,h1,tk _ _ h2⟩
  ·rintro j y H2 hj O s2 os ho Q1 Q2 q1 q2;obtain⟨o1,o2,rfl⟩:=L2.AB ho;rw[Zh]at O;obtain⟨b,wJ,rfl⟩:=Zl.mp O;have hjS:j<S.length:=by rw[<- j9];exact(cz wJ).1
   have W:S[j]?=some (S[j]'hjS):=Ze hjS;have wU:=s2 _ _ (aH (jC j b (pr S[j]) wJ (by rw[Zh,W];rfl)) U);generalize S[j]=x at W wU;obtain⟨x1,x2⟩:=x;refine⟨b,_,rfl,bg.of wU,rfl,_,_,rfl,_,_,rfl,rfl,?_⟩;refine cM (B:=Q1 H2) ?_;exact⟨_,rfl,_,rfl,(by show 4<=sizeLine;decide),λc hc=>q2 rfl _ _ (bw hc) ⟨c,(x1,x2),rfl,W,aX⟩⟩
  ·intro ys H2 s2 jM jW jV;have ef:(List.range (bs.map V.ref).length).filter (λ_=>true)=List.range S.length:=by rw[List.filter_eq_self.mpr (λ_ _=>rfl),Zg,j9]
   rw[ef,YK]at jW;rw[ef]at jV;have DC:∀(j:Nat) y,ys[j]?=some y->∃c x,y=.ref c/\S[j]?=some x/\H2 c=some (.tup (vN (xk x))):=λj y O=>by
    have hj:=(cz O).1;exact jV j y j O (WS (oz hj jW))
   obtain⟨cs,rfl⟩:=K1 λj y O=>by
    obtain⟨c,x,M,_⟩:=DC j y O;exact⟨c,M⟩
   rw[Zg]at jW;have wC:br H2 D (S.map xk):=⟨cs,jM,by rw[jW,Zg],λj b r M e2=>by
    obtain⟨c,x,e3,e4,e5⟩:=DC j (.ref b) (by rw[Zh,M];rfl);cases e3;rw[Zh,e4]at e2;cases e2;exact e5⟩
   have kW:=s2 _ _ (show upd H e (.dT []) e=some (.dT [])from aX);have Hm:D≠e:=λz=>by rw[z,aX]at hD;cases hD
   have hsz:sz n<=6000000:=ZF (JA (show n<=12 by lia)) 'b';have Bd:[V.ref e,V.ref D,V.int 0,V.int 0,V.int (1*2^((n:Int)).toNat)]=[V.ref e,V.ref D,V.int ((0:Nat):Int),V.int ((0:Nat):Int),V.int ((2^n:Nat):Int)]:=by rw[vg];rfl
   refine⟨_,rfl,_,_,rfl,rfl,⟨nO,by lia,by decide⟩,e,D,S.map xk,0,0,[],Bd,wC,(λb hb=>by obtain⟨x,_,rfl⟩:=ZU.mp hb;rfl),by rw[Zg];lia,Hm,Tr.c6,kW,by simpa using hsz,λH3 b3 y9=>?_⟩;have S3:aG H H3:=λx o z=>b3 _ _ (s2 _ _ (aH z U)) (cI z U);have elo:V.int ((n:Int)+(s:Nat))=.int ((n+s:Nat):Int):=rfl;refine⟨_,rfl,_,rfl,_,_,rfl,rfl,_,rfl,((n+s:Nat):Int),((n+s+J:Nat):Int),rfl,⟨by lia,by lia,by lia,by lia⟩,?_⟩;rw[show(((n+s+J:Nat):Int)-(n+s:Nat)).toNat=J by lia];refine Gg (λj X T=>bu e H T/\T e=some (.dT (tK (Tr.rowsOf (nI n S R C j))))/\∃L N,X=[some (.ref tp),some (.int (n:Nat)),some (.ref l),some (.int ((n+s+J:Nat):Int)),some (.int (s:Nat)),some (.int ((R*2^(n+s):Nat):Int)),some (.int ((C*2^(n+s):Nat):Int)),some (.ref e),some (.int (Tr.name (nI n S R C j) (l6 (jk n S) R C j):Nat)),L,N])
    ⟨bu.of S3,y9,none,none,rfl⟩ ?_ ?_
   ·rintro j X T hj ⟨b4,h4,L,N,rfl⟩;refine⟨(by show 4<=sizeLine;decide),λg hqd=>?_⟩;have zE:∀x:Nat,Builtin.bitAnd (((x*2^(n+s):Nat):Int)/2^(((n+s:Nat):Int)+(j:Nat)).toNat) 1=((bit x j:Nat):Int):=λx=>by
     have:=xE9 (x*2^(n+s)) (n+s+j);rw[xg0]at this;exact this
    have hbR:bit R j<2:=Yr _ 'b';have hbC:bit C j<2:=Yr _ 'b';have I:2*bit R j+bit C j<4:=by lia
    refine⟨_,rfl,_,rfl,_,rfl,_,rfl,_,_,rfl,rfl,Fh,_,_,rfl,rfl,_,_,rfl,rfl,?_,_,rfl,_,rfl,_,_,rfl,rfl,Fh,_,_,rfl,rfl,_,_,rfl,rfl,?_⟩
    ·rw[zE];exact .inl ⟨by lia,by lia⟩
    rw[zE,zE,show V.int (2*((bit R j:Nat):Int)+((bit C j:Nat):Int))=.int ((2*bit R j+bit C j:Nat):Int)from rfl];obtain⟨k,AR⟩:∃k,2*bit R j+bit C j=k:=⟨_,rfl⟩;obtain⟨t,MR⟩:∃t,l6 (jk n S) R C j=t:=⟨_,rfl⟩;obtain⟨od,o_⟩:=Jk n S R C j;have vG:=Jj hn S R C j;have EG:l6 (jk n S) R C (j+1)=dP k t:=by rw[<- AR,<- MR];rfl
    have N8:nI n S R C (j+1)=Tr.post (dP k t) []:=by unfold nI;rw[EG]
    have eL:nI n S R C j=Tr.post t []:=by unfold nI;rw[MR]
    rw[AR]at I ⊢;rw[MR]at o_ ⊢;rw[EG,N8];rw[eL]at od o_ vG h4 ⊢;obtain⟨row,jT⟩:∃row,[Tr.name (Tr.post t []) (qf k t 0),Tr.name (Tr.post t []) (qf k t 1),Tr.name (Tr.post t []) (qf k t 2),Tr.name (Tr.post t []) (qf k t 3)]=row:=⟨_,rfl⟩;have MV:[V.int 0,V.int 0,V.int 0,V.int 0].set k (.int (Tr.name (Tr.post t []) t:Nat))=vN row:=by
     rw[<- jT]
     match k,I with
     |0,_|1,_|2,_|3,_=>rfl
    refine⟨g,_,(k:Nat),k,rfl,rfl,aX,xE8 (by show k<4;exact I),?_⟩;rw[MV,K9];have Z:∀i,Tr.In (Tr.post t []) (qf k t i):=λi=>by
     unfold qf;split
     ·exact o_
     ·exact .inl rfl
    have D7:∀x∈Tr.kids (.nd (qf k t 0) (qf k t 1) (qf k t 2) (qf k t 3)),Tr.In (Tr.post t []) x:=λx W=>by
     have:x=qf k t 0\/x=qf k t 1\/x=qf k t 2\/x=qf k t 3:=by simpa[Tr.kids]using W
     rcases this with rfl|rfl|rfl|rfl<;>exact Z _
    have zj:row∉Tr.rowsOf (Tr.post t []):=by
     rw[<- jT];exact λz=>qS9 I ((Ql od D7).mp z)
    have DP:=O6 od D7 (by rw[<- jT]at zj;exact zj);rw[jT]at DP;have s5:=bw (o:=.lst (vN row)) hqd;have Y:upd T g (.lst (vN row)) g=some (.lst (vN row)):=aX;generalize upd T g (.lst (vN row))=H5 at s5 Y ⊢;have h5:=s5 _ _ h4;have b5:=b4.trans (bu.of (e:=e) s5);have nqe:g≠e:=λz=>by rw[z,h5]at Y;cases Y
    refine⟨λX H6=>bu e H H6/\H6 e=some (.dT (tK (Tr.rowsOf (Tr.post (dP k t) []))))/\H6 g=some (.lst (vN row))/\∃v8 L,X=[some (.ref tp),some (.int (n:Nat)),some (.ref l),some (.int ((n+s+J:Nat):Int)),some (.int (s:Nat)),some (.int ((R*2^(n+s):Nat):Int)),some (.int ((C*2^(n+s):Nat):Int)),some (.ref e),v8,L,some (.ref g)],?_,?_⟩
    ·refine⟨_,rfl,_,_,rfl,rfl,_,rfl,?_⟩;by_cases p:t=.z
     ·rw[Zm (by rw[p];show ¬(0:Int)<((0:Nat):Int);decide)];exact cJ (cJ ⟨b5,by rw[p,Gs];rw[p]at h5;exact h5,Y,_,_,rfl⟩)
     ·rw[Zo (by have:Tr.name (Tr.post t []) t≠0:=λz=>p (Qf.tQ z);lia)];refine cM ?_;refine⟨_,rfl,g,_,rfl,.inl ⟨cq.of Y,λu G=>?_⟩⟩;have m:=aH (u:=.tup (vN row)) h5 G;have u7:upd H5 u (.tup (vN row)) u=some (.tup ((dQ row).map kV)):=by rw[aX,p_]
      have q7:=aH (u:=.tup (vN row)) Y G;have b7:=b5.trans (bu.of (e:=e) (bw (o:=.tup (vN row)) G));generalize upd H5 u (.tup (vN row))=H7 at m u7 q7 b7 ⊢;refine⟨_,rfl,e,_,rfl,dn.t m u7,_,rfl,?_⟩;rw[Gw,Zi zj];refine cM ?_;refine⟨_,rfl,e,_,rfl,m,_,_,rfl,rfl,_,rfl,_,rfl,g,_,rfl,.inl ⟨cq.of q7,λu2 vI=>?_⟩⟩;have h8:=aH (u:=.tup (vN row)) m vI;have jA:(tK (Tr.rowsOf (Tr.post t []))).length=(Tr.post t []).length:=by unfold tK;rw[Aj,Tr.bc]
      refine⟨e,_,rfl,gO.t h8 (by rw[aX,p_]) (by rw[jA];exact i5 'a'),?_⟩;rw[DP,G3 I p,Lw I];refine⟨λx o z nx=>by rw[bV nx];exact aH (b7 _ _ z nx) vI,aX,?_,_,_,rfl⟩;rw[bV nqe];exact aH q7 vI
    ·rintro X H6 ⟨b6,h6,q6,v8,L,rfl⟩;refine⟨_,rfl,e,rfl,.inr ⟨_,.inl h6⟩,_,rfl,g,_,rfl,.inl ⟨cq.of q6,λu G=>?_⟩⟩;have m:=aH (u:=.tup (vN row)) h6 G;have u7:upd H6 u (.tup (vN row)) u=some (.tup ((dQ row).map kV)):=by rw[aX,p_]
     have b7:=b6.trans (bu.of (e:=e) (bw (o:=.tup (vN row)) G));by_cases p:t=.z
     ·have e0:Tr.post (dP k t) []=[]:=by rw[p,Gs];rfl
      refine⟨_,dn.t m u7,?_⟩;rw[Gw,e0,Zi (show row∉Tr.rowsOf []from λz=>nomatch z)];rw[e0]at m;refine⟨b7,m,L,some (.ref g),?_⟩;rw[p,Gs]
      rfl
     ·have M:Tr.post (dP k t) []=Tr.post t []++[.nd (qf k t 0) (qf k t 1) (qf k t 2) (qf k t 3)]:=by rw[G3 I p,Lw I]
      have od1:Tr.Ord (Tr.post t []++[.nd (qf k t 0) (qf k t 1) (qf k t 2) (qf k t 3)]):=by rw[<- M];exact(Tr.bK _ [] Tr.c6).1
      have uG:∀x,Tr.In (Tr.post t []) x->Tr.name (Tr.post t []++[.nd (qf k t 0) (qf k t 1) (qf k t 2) (qf k t 3)]) x=Tr.name (Tr.post t []) x:=λx W=>Tr.dY W od;rw[M]at m ⊢;refine⟨_,Jv (a:=qf k t 0) (b:=qf k t 1) (c:=qf k t 2) (d:=qf k t 3) od1 (by simp) m (by rw[aX,uG _ (Z 0),uG _ (Z 1),uG _ (Z 2),uG _ (Z 3),jT]),?_⟩;refine⟨b7,m,L,some (.ref g),?_⟩;rw[G3 I p]
      rfl
   ·rintro X T ⟨b4,h4,L,N,rfl⟩;have S4:aG H T:=λx o z=>b4 _ _ z (cI z U);refine⟨_,rfl,_,rfl,_,rfl,e,_,rfl,h4,λl2 bs2 jI zr Nx=>⟨(by show 3<=sizeLine;decide),λt ht=>?_⟩⟩;refine q _ t ((S4.trans (bw jI)).trans (bw ht)) ⟨l2,aX,bs2,aH aX ht,?_,λi b r M e2=>?_⟩
    ·rw[zr];unfold tK;rw[Aj]
    ·obtain⟨v,hv⟩:=xO5 e2;have:=Nx i b _ M hv;rw[p_]at this;exact aH (aH this jI) ht
end Pr
namespace L2
open PySem PySem.Spec PyProof.Rows PySem.W
section
variable{X:Cx}{e:av}{te:TE}
def Cx.hide(X:Cx)(k:Nat)(d:ar):Cx:={X with N:=X.N.set k d}
theorem xF0{k:Nat}{d:ar}(ok:X.Ok):(X.hide k d).Ok:=by
 obtain⟨⟩:=ok;constructor<;>assumption
theorem xg1{k:Nat}{d:ar}(ok:(X.hide k d).Ok):X.Ok:=by
 obtain⟨⟩:=ok;constructor<;>assumption
end
end L2
namespace L2
open PySem PySem.Spec PyProof.Rows
section
variable{X:Cx}
theorem Inv.hide{k:Nat}{d:ar}{c:List (ae×aw)}{s:ab}{σ:St}{H:Hp}(I:Inv X c σ H s)(hk:σ[k]?=some none):Inv (X.hide k d) c σ H s:=by
 refine⟨xF0 I.ok,I.os,I.bare,I.base,?_,I.cell,I.free,I.dM,I.pin,I.aO,by rw[I.len];exact(UO ..).symm⟩;obtain⟨m,h1,e⟩:=I.loc;refine⟨m,h1,λi x v f b g=>?_⟩;have a:(X.N.set k d)[i]?=some x:=f;rw[List.getElem?_set]at a;by_cases z:k=i
 ·subst z;rw[hk]at b;cases b
 ·rw[Zi z]at a;exact e i x v a b g
theorem Inv.xq{k:Nat}{d:ar}{b:List (ae×aw)}{s:ab}{σ:St}{H:Hp}(J:Inv (X.hide k d) b σ H s)(hk:σ[k]?=some none):Inv X b σ H s:=by
 refine⟨xg1 J.ok,J.os,J.bare,J.base,?_,J.cell,J.free,J.dM,J.pin,J.aO,by rw[J.len];exact UO ..⟩;obtain⟨m,h1,c⟩:=J.loc;refine⟨m,h1,λi x v e a f=>?_⟩;by_cases z:k=i
 ·subst z;rw[hk]at a;cases a
 ·refine c i x v ?_ a f;show(X.N.set k d)[i]?=some x;rw[List.getElem?_set,Zi z];exact e
theorem xF1{st:aA}{t:TS}(k:Nat)(d:ar)(h:PS (X.hide k d) st t):PS X st (λD b H=>b[k]?=some none/\t {nx:=λa c=>a[k]?=some none/\D.nx a c,rt:=λ_ _=>False,bk:=λ_ _=>False,ct:=λ_ _=>False} b H):=by
 intro g s b H D I ⟨hk,q⟩;refine bz (h g s b H _ (I.hide hk) q) λf j z=>?_;cases f with
 |next=>
  obtain⟨a,c,J,e,i⟩:=z;exact⟨a,c,J.xq e,i⟩
 |ret v=>
  obtain⟨_,_,_,_,_,z⟩:=z;exact z.elim
 |brk=>
  obtain⟨_,_,_,z⟩:=z;exact z.elim
 |cont=>
  obtain⟨_,_,_,z⟩:=z;exact z.elim
end
end L2
namespace L2
open PySem PySem.Spec PyProof.Rows PySem.W
section
variable{X:Cx}
def least(a:List Int):Nat->Int
 |0=>a.getD 0 0
 |k+1=>if a.getD (k+1) 0<least a k then a.getD (k+1) 0 else least a k
theorem Sy(a:List Int):∀k,a.getD (argBest (λi j=>decide (a.getD i 0<a.getD j 0)) k) 0=least a k/\argBest (λi j=>decide (a.getD i 0<a.getD j 0)) k<=k
 |0=>⟨rfl,Zd _⟩
 |k+1=>by
  obtain⟨h1,c⟩:=Sy a k;unfold argBest least;rw[<- h1];by_cases b:a.getD (k+1) 0<a.getD (argBest (λi j=>decide (a.getD i 0<a.getD j 0)) k) 0
  ·rw[Zk (Zo b),Zk b];exact⟨rfl,Zd _⟩
  ·rw[Zi (by simpa using b),Zi b];exact⟨rfl,Ut c⟩
theorem xg2(a b c d:aa):argsOk "min" ⟨[a,b,c,d],[]⟩:=by unfold argsOk;kernel_rfl
inductive lI(xs:List V)(H:Hp)(Q:VK):Prop
 |mk(a b c d:Int)(aT:xs=[.int a,.int b,.int c,.int d])(cV:Q (.int (least [a,b,c,d] 3)) H)
theorem xg3(hc:X.calm=true):f_ X (.builtin "min") lI:=by
 intro j8 s σ H xs N Q I r h;obtain⟨a,b,c,d,rfl,q⟩:=h;have B:=r;have j9:N.length=4:=B.length.symm;obtain⟨m,k,g,l,rfl⟩:=L2.LL j9
 ·
  have U:(toString "min"++toString ".loop":String)="min.loop":=by decide
  refine call_function_tree PySem.F.kind_min PySem.F.plain_min PySem.F.entry_min (xg2 _ _ _ _) ?_;show af _ X.A.in1 (Builtin.Builtins.bindParams "min" ["key","default"] 0 ⟨[],[]⟩ >>= _) _ _ s;refine Za (WG (show Builtin.Builtins.bindParams "min" ["key","default"] 0 ⟨[],[]⟩=pure [none,none]from rfl) ?_);show af _ X.A.in1 (newTuple [m,k,g,l] >>= _) _ _ s;refine Za (ZS ?_);have C:(s.heap.push {cls:=.type "tuple",data:=.seq #[m,k,g,l]}).IsTuple s.heap.objs.size #[m,k,g,l]:=⟨_,Zj _ rfl,rfl,0,rfl⟩;have p:(s.heap.push {cls:=.type "tuple",data:=.seq #[m,k,g,l]}).objs.size=s.heap.objs.size+1:=Z0 ..;have f:∀(i:Nat)(v:aa),(#[m,k,g,l]:Array aa)[i]?=some v->∃t,v=.int ([a,b,c,d].getD i 0) t:=λi v Y=>by
   have F:[m,k,g,l][i]?=some v:=by simpa using Y
   have u:i<4:=(cz F).1;obtain⟨w',J,t,Z⟩:=B.get (x:=V.int ([a,b,c,d].getD i 0)) (i:=i) (by
    match i,u with
    |0,_|1,_|2,_|3,_=>rfl)
   rw[F]at J;cases J;exact⟨t,Z⟩
  refine Za (Y7 (Wn C (Q:=λE G=>E=.ref (s.heap.objs.size+1)/\G=_) ⟨by rw[p],rfl⟩) (λE G T=>?_) λ_ _ e=>e);obtain⟨rfl,rfl⟩:=T;have W:=Walks.tuple (prog:=X.prog) (w:=X.w) (A:=X.A.in1) (I.ok.hd hc) (s.heap.objs.size+1) s.heap.objs.size (Zy (ZN _)) #[m,k,g,l];refine Za (ZS ?_);rw[U];refine Zb ⟨Xd PySem.F.plain_min_loop _,codeAny_min_loop_first W (λi j=>decide ([a,b,c,d].getD i 0<[a,b,c,d].getD j 0)) ?_ _ ?_ (by show 0<4;decide) ?_ (Zj _ rfl) λv h' R S hk=>?_⟩
  ·intro i j P L s' Q' E' u K O;obtain⟨t,rfl⟩:=f i P u;obtain⟨t',rfl⟩:=f j L K;exact lt_int O
  ·intro D;simp only[Z0]at D;have:s.heap.objs.size+1+1=s.heap.objs.size+1\/s.heap.objs.size+1+1=s.heap.objs.size:=by simpa using D
   lia
  ·refine W.frame _ _ _ ?_ λb _ o e=>Zc _ e;refine⟨⟨{cls:=.type "tuple_iterator",data:=.fields #[.ref s.heap.objs.size,.int 0 0]},?_,rfl,rfl⟩,C.push _⟩;rw[<- p];exact Zj _ rfl
  ·obtain⟨t,rfl⟩:=f _ v S;have M:=(Sy [a,b,c,d] 3).1;refine⟨.int _,H,I.kept (h':=h') (t':=R) (λy o n=>hk y o (λz=>?_) (λz=>?_) (Zc _ (Zc _ (Zc _ n)))),⟨t,rfl⟩,?_⟩
   ·have h1:y=s.heap.objs.size+1:=by simpa using z
    rw[h1]at n;exact absurd (Zn n) (Nat.not_lt.mpr (Xu _))
   ·have h1:y=s.heap.objs.size+1+1:=by rw[z];simp only[Z0]
    rw[h1]at n;exact absurd (Zn n) (Nat.not_lt.mpr (ZF (Xu _) (Xu _)))
   ·show Q (.int ([a,b,c,d].getD (argBest (λi j=>decide ([a,b,c,d].getD i 0<[a,b,c,d].getD j 0)) 3) 0)) H;rw[M];exact q
end
end L2
namespace Pr
open PySem L2 Qf
theorem br.push{H:Hp}{p k:ae}{rows:List Row}{r:Row}{bs:List ae}(h0:H p=some (.lst (bs.map V.ref)))(h1:bs.length=rows.length)(f:∀(i:Nat) b r,bs[i]?=some b->rows[i]?=some r->H b=some (.tup (vN r)))(hk:H k=none):br (upd (upd H k (.tup (vN r))) p (.lst (bs.map V.ref++[.ref k]))) p (rows++[r]):=by
 have g:p≠k:=cI h0 hk;have h:∀{b:ae}{x:List V},H b=some (.tup x)->upd (upd H k (.tup (vN r))) p (.lst (bs.map V.ref++[.ref k])) b=some (.tup x):=λ{b x} e=>by
  rw[bV (λz=>by rw[z,h0]at e;cases e),bV (cI e hk)];exact e
 refine⟨bs++[k],by rw[aX,ZL];rfl,by rw[Zw,Zw,h1];rfl,λi b x a c=>?_⟩;by_cases d:i<bs.length
 ·rw[Zr d]at a;rw[Zr (oz d h1)]at c;exact h (f i b x a c)
 ·rw[Zq (gS d)]at a;rw[Zq (IY h1 d),<- h1]at c;have j:i-bs.length=0:=by
   have:=(cz a).1;simp at this;exact this
  rw[j]at a c;cases a;cases c;rw[bV (YE g),aX]
end Pr
namespace L2
open PySem PySem.Spec PyProof.Rows
inductive oP(x:V)(xs:List V)(H:Hp)(Q:VK):Prop
 |mk(a:Int)(aT:x=.int a)(cV:xs=[])(cw:Q (.int ((Builtin.Int.intBits a:Nat):Int)) H)
theorem xF2{X:Cx}:Ij X "int.bit_length" oP:=by
 intro g s d H x e v f Q I b c h;obtain⟨a,rfl,rfl,q⟩:=h;obtain⟨t,rfl⟩:=b;cases c;exact call_int_bit_length ⟨.int ((Builtin.Int.intBits a:Nat):Int),H,I.tok _,⟨_,rfl⟩,q⟩
theorem xO6{a b c d m:Int}(h:(0<=a/\0<=b/\0<=c/\0<=d)/\(a<=m\/c<=m)):0<=least [a,b,c,d] 3/\least [a,b,c,d] 3<=m:=by
 have g:least [a,b,c,d] 0=a:=rfl;have e:least [a,b,c,d] 1=if b<least [a,b,c,d] 0 then b else least [a,b,c,d] 0:=rfl
 have i:least [a,b,c,d] 2=if c<least [a,b,c,d] 1 then c else least [a,b,c,d] 1:=rfl
 have f:least [a,b,c,d] 3=if d<least [a,b,c,d] 2 then d else least [a,b,c,d] 2:=rfl
 rw[g]at e;rw[f,i,e];split<;>split<;>split<;>lia
end L2
namespace Pr
open PySem L2 Qf
abbrev nSm:List ar:=["_law_pot_here","_law_sizes","_law_side","_law_way","_law_rings","_law_found","_law_k","_law_r","_law_c","_law_is_in"]
abbrev CY:List ar:=["_law_pot_here","_law_sizes","_law_side","_law_way","_law_rings","_law_found",".h","_law_r","_law_c","_law_is_in"]
theorem xO7:CY.Nodup:=by decide +kernel
theorem jw:aI nSm ["_law_pot_here","_law_sizes"] (ck Ct):=dz
inductive Bp(vs:List V)(H:Hp)(Q:VK):Prop
 |mk(p q:ae)(e0:vs=[.ref p,.ref q])(e1:aY H p)(e2:H q=some (.lst [.int 0,.int 1,.int 2,.int 3,.int 3,.int 4]))
  (e3:∀(H':Hp)(t l:ae)(n:Nat)(S:List (Nat×Nat)),bu p H H'->aY H' p->H' t=some (.tup [.int (n:Nat),.ref l])->n<=4->br H' l (S.map pr)->S.length<=256->S.Nodup->(∀x∈S,x.1<2^n/\x.2<2^n)->Q (.ref t) H')
def Bq:Sp:=λa H Q _=>Bp a H Q
theorem xU6{f fD:ae}{fd gj:ak}(F:bj K "_law_small" "_law_small" Ct f fd)(B:eR mg)(hD:mg "_law_digit"=some (.ref fD))(W:bj K "_law_digit" "_law_digit" tH fD gj)(Z:Binds K gj ["_law_pot_here","_law_many"] []):aE P w K mg base aW 2 f fd ["_law_pot_here","_law_sizes"] Bq:=by
 have GD:aE P w K mg base aW 1 fD gj ["_law_pot_here","_law_many"] vh:=Ai W;refine F.ok jw (λvs H Q E h=>?_) (λcA A outer s H vs Q E hr h=>?_)
 ·obtain⟨p,q,rfl,_⟩:=h
  rfl
 ·obtain⟨p,sz,rfl,hp,I,q⟩:=h;refine aZ ⟨_,⟨cR 2 jw.nd (a_ nF aV (bU.go ⟨cW cC (pv 1) (bU.go ⟨cF GD hr hD W.kp Z (aF (pv 0) (aF (dH tR (by rfl) B.len Yq (aF (pv 1) aQ)) aQ))⟩)⟩))⟩,?_⟩;refine aZ ⟨_,⟨cR 3 jw.nd (cF GD hr hD W.kp Z (aF (pv 0) (aF aV aQ)))⟩,?_⟩;refine aZ ⟨_,⟨xF1 6 ".h" (Tz (i0:=4) CY (ck Ct) rfl rfl rfl xO7 rfl rfl (ym (by rfl) B.range (aF aV aQ)) (λcl C fp aM aN=>mF p7 (cF GD hr hD W.kp Z (aF (pv 1) (aF aV aQ))) aV (dA _)))⟩,?_⟩;refine aZ ⟨_,⟨cR 5 jw.nd (n_ aQ)⟩,?_⟩;refine aZ ⟨_,⟨og Yv rfl (ym (by rfl) B.range (aF (a_ qe (pv 2) (pv 2)) aQ)) (eD 6 jw.nd)
   (gZ.go (.cons ⟨xH8 (i:=7) (j:=8) rfl jw.nd rfl rfl 'b' rfl rfl (aF (a_ yh (pv 6) (pv 2)) (aF (a_ u_ (pv 6) (pv 2)) aQ)) rfl⟩
    (.cons ⟨z_ (fb (gB nE (pv 3) aV (dA _))
      (dB (cR 9 jw.nd (bU.go ⟨mF tT (bU.go ⟨cF GD hr hD W.kp Z (aF (pv 0) (aF aV aQ))⟩) (pv 3) (dA _)⟩)))
      (dB (cR 9 jw.nd (bU.go ⟨mF IH (bU.go ⟨cW cC (pv 4) (bU.go ⟨dH (xg3 rfl) (by rfl) B.min Wu (bJ.go (.cons ⟨pv 7⟩ (.cons ⟨pv 8⟩ (.cons ⟨a_ gA (a_ gA (pv 2) aV) (pv 7)⟩ (.cons ⟨a_ gA (a_ gA (pv 2) aV) (pv 8)⟩ .nil rfl) rfl) rfl) rfl))⟩)⟩)
       (bU.go ⟨mF p7 (bU.go ⟨cF GD hr hD W.kp Z (aF (pv 0) (aF aV aQ))⟩) aV (dA _)⟩) (dA _)⟩))))⟩
    (.one ⟨fb (l4 (pv 9)) (gZ.go (.one ⟨tN (bU.go (Pl XA Xp Xq An ⟨pv 5⟩ (.cons ⟨eM (aF (pv 7) (aF (pv 8) aQ))⟩ .nil rfl)))⟩)) fU⟩))))⟩,?_⟩
  refine fZ ⟨_,⟨cQ (eM (bJ.go (.cons ⟨a_ gA (bU.go ⟨xI8 PySem.F.plainAttrs_int PySem.F.slot_int_bit_length PySem.F.type_int_bit_length xF2 (pv 2)⟩) aV⟩ (.cons ⟨pv 5⟩ .nil rfl) rfl)))⟩,?_⟩;have nsp:sz≠p:=by
   obtain⟨a,b,e,_⟩:=hp;intro z;rw[z,e]at I;cases I
  refine⟨_,rfl,_,rfl,_,rfl,sz,_,rfl,.inl (cq.of I),p,6,rfl,hp,by decide,by decide,λd H1 w6 b1 kB=>?_⟩;have DL:=b1 _ _ I nsp;obtain⟨n,M6,Nz⟩:∃n:Nat,n<=4/\[V.int 0,V.int 1,V.int 2,V.int 3,V.int 3,V.int 4][d]?=some (.int (n:Nat)):=by
   match d,w6 with
   |0,_=>exact⟨0,by decide,rfl⟩
   |1,_=>exact⟨1,by decide,rfl⟩
   |2,_=>exact⟨2,by decide,rfl⟩
   |3,_=>exact⟨3,by decide,rfl⟩
   |4,_=>exact⟨3,by decide,rfl⟩
   |5,_=>exact⟨4,by decide,rfl⟩
  refine⟨sz,_,(d:Nat),.int (n:Nat),rfl,rfl,cq.of DL,oY Nz,_,_,rfl,rfl,⟨nO,by lia,by decide⟩,?_⟩;rw[vg];have L:=fj n;have zg:2^n<=16:=ZF (X3 (n:=2) 'b' M6) 'b';have En:((Builtin.Int.intBits ((2^n:Nat):Int):Nat):Int)-1=(n:Nat):=by
   match n,M6 with
   |0,_|1,_|2,_|3,_|4,_=>decide
  obtain⟨g,vJ⟩:∃g,2^n=g:=⟨_,rfl⟩;rw[vJ]at L zg En ⊢;refine⟨_,rfl,p,4,rfl,kB,by decide,by decide,λway H2 hway b2 jO=>⟨rfl,?_⟩⟩;have B2:bu p H H2:=b1.trans b2;refine⟨8,rfl,by decide,by decide,λD kM=>?_⟩;have nK:p≠D:=by obtain⟨a,b,e,_⟩:=jO;exact cI e kM
  refine Sz (λi xs R=>bu p H2 R/\aY R p/\R D=some (.lst xs)/\∃bs:List Bool,xs=bs.map V.bl/\bs.length=i) 'b' ⟨bu.of (bw kM),jO.same (bw kM),aX,[],rfl,rfl⟩ (λi xs R h=>⟨h.2.2.1,by obtain⟨bs,rfl,e⟩:=h.2.2.2;rw[Zg];exact kq e⟩) ?_ ?_
  ·rintro i xs R hi ⟨b3,kF,HY,bs,rfl,vG⟩ Q2 q2;refine⟨_,rfl,p,2,rfl,kF,by decide,by decide,λd J hd Y N=>⟨rfl,?_⟩⟩;have wB:=Y _ _ HY (YE nK);refine q2 _ _ wB ⟨λb o e n=>?_,?_,aX,bs++[decide (V.int (d:Nat)=V.int 1)],by rw[ZL];rfl,by rw[Zw,vG];rfl⟩
   ·rw[bV (cI e kM)];exact Y _ _ (b3 _ _ e n) n
   ·obtain⟨x,y,e,rr⟩:=N;exact⟨x,y,by rw[bV nK];exact e,rr⟩
  ·rintro xs R ⟨b3,kF,HY,bs,rfl,vG⟩;refine⟨rfl,?_⟩;have B3:bu p H R:=B2.trans b3;refine⟨(by show 0<=sizeLine;decide),λv O=>?_⟩;have nDf:D≠v:=cI HY O;have LR:p≠v:=by obtain⟨a,b,e,_⟩:=kF;exact cI e O
   have Nl:H v=none:=by
    cases e:H v with
    |none=>rfl
    |some o=>rw[B3 _ _ e (YE LR)]at O;cases O
   have A2:((g:Int)*(g:Int)).toNat=g*g:=by rw[<- VU,ZG]
   have hss:g*g<=16*16:=WJ zg zg;have AJ:(g:Int)*(g:Int)=((g*g:Nat):Int):=by rw[VU]
   refine⟨_,rfl,_,rfl,_,_,rfl,rfl,.inl ⟨by lia,by lia⟩,_,rfl,by rw[AJ];lia,by rw[AJ];lia,Gg (λi U J=>bu p H J/\aY J p/\J D=some (.lst (bs.map V.bl))/\(∃S:List (Nat×Nat),br J v (S.map pr)/\S.Sublist ((List.range i).map (BU g)))/\∃v6 v7 v8 v9,U=[some (.ref p),some (.ref sz),some (.int (g:Nat)),some (.int (way:Nat)),some (.ref D),some (.ref v),v6,v7,v8,v9])
    ⟨λb o e n=>aH (B3 b o e n) O,kF.same (bw O),aH HY O,⟨[],⟨[],aX,rfl,λi b r e=>by cases e⟩,List.Sublist.refl _⟩,none,none,none,none,rfl⟩ ?_ ?_⟩
   ·rw[A2];rintro i U J hi ⟨Y,N,wB,⟨S,hF,l⟩,v6,v7,v8,v9,rfl⟩;refine⟨_,rfl,_,rfl,_,_,rfl,rfl,⟨IW L,by lia⟩,_,rfl,_,rfl,_,_,rfl,rfl,IW L,_,_,rfl,?_⟩;obtain⟨r,kZ⟩:∃r,i/g=r:=⟨_,rfl⟩;obtain⟨c,El⟩:∃c,i%g=c:=⟨_,rfl⟩;have hrlt:r<g:=by rw[<- kZ];exact(YY L).mpr hi
    have hclt:c<g:=by rw[<- El];exact Yr _ L
    have er:(0+(i:Int))/(g:Nat)=((r:Nat):Int):=by rw[UM,<- kZ,UF]
    have ec:(0+(i:Int))%(g:Nat)=((c:Nat):Int):=by rw[UM,<- El,UG]
    have eq:BU g i=(r,c):=by unfold BU;rw[kZ,El]
    refine As (σ':=[some (.ref p),some (.ref sz),some (.int (g:Nat)),some (.int (way:Nat)),some (.ref D),some (.ref v),some (.int (0+(i:Int))),some (.int (r:Nat)),some (.int (c:Nat)),v9]) (by rw[<- er,<- ec];rfl) ?_;refine⟨λU T=>bu p J T/\aY T p/\∃bb:Bool,U=[some (.ref p),some (.ref sz),some (.int (g:Nat)),some (.int (way:Nat)),some (.ref D),some (.ref v),some (.int (0+(i:Int))),some (.int (r:Nat)),some (.int (c:Nat)),some (.bl bb)],?_,?_⟩
    ·refine⟨_,rfl,_,_,rfl,rfl,_,rfl,?_⟩;refine c7 (λ_=>?_) (λ_=>?_)
     ·exact⟨_,rfl,p,4,rfl,N,by decide,by decide,λd T hd M X=>⟨_,rfl,_,_,rfl,rfl,M,X,_,rfl⟩⟩
     ·refine⟨_,rfl,_,rfl,_,rfl,_,rfl,_,_,rfl,rfl,_,rfl,_,_,rfl,rfl,_,rfl,_,_,rfl,rfl,_,rfl,_,_,rfl,rfl,_,_,_,_,rfl,?_⟩;obtain⟨m0,m7⟩:=xO6 (a:=(r:Nat)) (b:=(c:Nat)) (c:=(g:Int)-1-(r:Nat)) (d:=(g:Int)-1-(c:Nat)) (m:=7) ⟨⟨nO,nO,by lia,by lia⟩,by lia⟩;generalize least [((r:Nat):Int),((c:Nat):Int),(g:Int)-1-(r:Nat),(g:Int)-1-(c:Nat)] 3=m at m0 m7 ⊢;obtain⟨m,rfl⟩:∃k:Nat,m=k:=⟨m.toNat,by lia⟩;have hbm:(bs.map V.bl)[m]?=some (.bl (bs[m]'(by lia))):=by rw[Zh,Ze 'a'];rfl
      refine⟨D,_,(m:Nat),_,rfl,rfl,cq.of wB,oY hbm,?_⟩;exact⟨_,rfl,p,16,rfl,N,by decide,by decide,λd T hd M X=>⟨rfl,rfl,M,X,_,rfl⟩⟩
    ·rintro U T ⟨M,X,bb,rfl⟩;have B5:bu p H T:=Y.trans M;have hD5:=M _ _ wB (YE nK);obtain⟨fs0,f0',_⟩:=id hF;have hF5:br T v (S.map pr):=by
      obtain⟨x,y,ex,_⟩:=N;exact hF.but M (YE LR) ex (λu z=>by cases z)
     refine⟨_,rfl,_,rfl,?_⟩;cases bb with
     |false=>
      refine cJ ⟨B5,X,hD5,⟨S,hF5,?_⟩,_,_,_,_,rfl⟩;rw[YC,ZL];exact l.trans (List.sublist_append_left _ _)
     |true=>
      refine cM ?_;obtain⟨fs,f0,f1,f2⟩:=id hF5;have lS:S.length<=256:=by
       have:=l.length_le;rw[Zg,YK]at this;lia
      refine⟨_,rfl,.inl ⟨rfl,_,cq.of f0⟩,_,rfl,_,rfl,(by show 2<=sizeLine;decide),λt G=>?_⟩;refine⟨v,_,_,rfl,rfl,aH f0 G,by rw[Zg,f1,Zg];exact i5 'a',?_⟩;have push:=br.push (r:=pr (r,c)) f0 f1 f2 G;refine⟨λb o e n=>?_,?_,?_,⟨S++[(r,c)],by rw[ZL];exact push,?_⟩,_,_,_,_,rfl⟩
      ·rw[bV (cI e Nl)];exact aH (B5 _ _ e n) G
      ·obtain⟨x,y,e,rr⟩:=X;exact⟨x,y,by rw[bV LR];exact aH e G,rr⟩
      ·rw[bV nDf];exact aH hD5 G
      ·rw[YC,ZL];refine l.append ?_;show[(r,c)].Sublist [BU g i];rw[eq];exact List.Sublist.refl _
   ·rw[A2];rintro U J ⟨Y,N,wB,⟨S,hF,l⟩,v6,v7,v8,v9,rfl⟩;refine⟨_,rfl,rfl,_,rfl,rfl,_,_,rfl,rfl,_,rfl,(by show 2<=sizeLine;decide),λt G=>?_⟩;rw[En];refine q _ t v n S (λb o e n=>aH (Y b o e n) G) (N.same (bw G)) aX M6 (hF.same (bw G)) (by have:=l.length_le;rw[Zg,YK]at this;lia) ?_ ?_
    ·exact Yb.mpr (List.Pairwise.sublist l (Yb.mp (xN6 L (g*g))))
    ·intro x hx;obtain⟨j,hj,rfl⟩:=ZU.mp (l.subset hx);rw[vJ];exact⟨(YY L).mpr (Yw.mp hj),Yr _ L⟩
end Pr
namespace L2
open PySem PySem.Spec PyProof.Rows
theorem xg4:typeLookup (.type "list") "keys"=pure none:=by rw[VV,Ww];kernel_rfl
theorem xg5{prog:ag}{w:ai}{A:aj}{E:aa->ab->Prop}{s:ab}{a:ae}{o:aw}{xs:Array aa}{k:Nat}{name:ar}{Q:Option aa->ab->Prop}
  (l:s.heap.get? a=some o) (hc:o.cls=.type "list") (i:o.data=.seq xs k) (p:o.dict=none) (r:typeLookup (.type "list") name=pure none) (x:(["__module__","__name__","__qualname__","__doc__","__annotations__"]:List ar).contains name=false) (hA:A.handled=none)
  (hsz:name.length+100<=sizeLine) (h:∀f n,(∀b o,s.heap.get? b=some o->f.get? b=some o)->Q none {s with heap:=f,toks:=n}):
  af (ah prog w) A (getAttr? (.ref a) name) Q E s:=by
 obtain⟨c,B,y,v⟩:=o;simp only at hc i p;subst hc i p;obtain⟨t,g,d,n,u⟩:=s;have m:∀q,(⟨t,g,d,q,u⟩:ab).TypeIs (.ref a) "list":=λ_=>⟨_,l,rfl⟩;have G:=sub_AttributeError;have I:=F.slot_list_getattribute.lookup;have K:=F.slot_list_getattribute.bind (.ref a);have H:=am_list_getattr_none;unfold getAttr? getAttrBy? getAttrBy
 repeat (any_goals (first|assumption|exact m _|((with_reducible show af _ _ (call (Value.builtin "list.__getattribute__") _ _) _ _ _);refine call_meets F.slot_list_getattribute (m _) am_entry_list_getattribute (F.args_list_getattribute_2 _ _) (meets_getattribute_miss_list a xs k v name _ r x hsz) ⟨l,hA,λf q e j=>?_⟩)|wp_step))
 obtain⟨J,D,C⟩:=j.there;show af _ _ (getattributeRaised _ _ _ _ _ _ _) _ _ _;unfold getattributeRaised
 repeat (any_goals (first|assumption|wp_step))
 exact h _ _ j.of.keeps
theorem P5{X:Cx}{f:List (ae×aw)}{σ:St}{H:Hp}{s:ab}{h':ao}{t':Nat}{fp:List ae}(I:Inv X f σ H s)(k:∀c u,c∉fp->s.heap.get? c=some u->h'.get? c=some u)(d:∀b∈fp,gz X f H b):Inv X f σ H {s with heap:=h',toks:=t'}:=by
 have g:∀b u,H b=some u->b∉fp:=λb u e z=>by rw[(d b z).1]at e;cases e
 have i:X.env.locals∉fp:=λz=>(d _ z).2.1 rfl;refine I.step (g':=s.gens) (d':=s.drawn) (ch:=fp) (λb hb=>⟨(d b hb).2.2.2.1,(d b hb).2.1,(d b hb).2.2.2.2.1,(d b hb).2.2.2.2.2⟩) (λb o _ _ a e _=>k b o a e) (λb o _ _ a e _=>⟨o.slots,k b o a e⟩) (λ_ _ _ _ n=>n)
  (λb o a e=>⟨o,k b o a e⟩) (λ_ _ e=>e) (λ_ _ _ e=>e) (λb t e=>⟨#[],by rw[e];simp⟩) (λm j=>?_) (λb u e=>?_) I.bare
 ·obtain⟨o,h,l,p,r⟩:=j;exact⟨o,h,l,k _ o i p,r⟩
 ·refine(I.aO b u e).de (λc v a q=>k c v ?_ q) (λ_ q=>q) λ_ _ q=>q;rcases a with z|z
  ·rw[z];exact g b u e
  ·exact g c _ z
theorem Sx:entryFor table "dict.update.loop"=some Builtin.«dict.update.loop»:=entryFor_of_tree (by kernel_rfl)
theorem Ga:plainId "dict.update.loop"=true:=by decide +kernel
section
variable{X:Cx}{A:aj}{j8:List (ae×aw)}{σ:St}{R:Result->ab->Prop}
theorem q32(hh:A.handled=none)(hu:A.in1.units<cLine){p d it:ae}(E:d≠it)(more:List (List Key×ae×V))(q:List ae)(K:q.length=more.length):
  ∀(k i:Nat)(H:Hp)(s:ab)(a:List (List Key×V)),more.length-i=k->i<=more.length->s.heap.IsListIter it p i->Inv X j8 σ H s->gz X j8 H it->H p=some (.lst (q.map V.ref))->H d=some (.dT a) ->
   (∀(j:Nat) t x,q[j]?=some t->more[j]?=some x->H t=some (.tup [.ref x.2.1,x.2.2])/\H x.2.1=some (.tup (x.1.map kV)))->a.length+k<=1000000 ->
   (∀M,Inv X j8 σ (upd H d (.dT (Av a (more.drop i)))) M->R (.ok (.ret .none)) M)->codeAny (ah X.prog X.w) A (.builtin "dict.update.loop" ⟨[.ref d,.ref it,rawInt (i:Nat),.none],[]⟩) R s:=by
 intro k
 induction k with
 |zero=>
  intro i H s a hk hi h I G C f Z ha N;have jS:i=more.length:=by lia
  obtain⟨z,Y,n,rv,ho⟩:=I.aO p _ C;have hl:=rv.length;rw[Zg]at hl;refine Yp Sx ?_;rw[Z9 Ga _];show af _ A.in1 (pyNext (.ref it) >>= _) _ _ s;refine Za (wpAny_pyNext_list_end (items:=Y.toArray) (show A.handled=none from hh) h ⟨_,ho,rfl,n,rfl⟩ (by simp;exact IQ K jS hl) λF he=>?_);have l:Inv X j8 σ H {s with heap:=F}:=P5 (t':=s.toks) I (fp:=[it]) (λc u W e=>he c u (λz=>W (by rw[z];exact List.mem_singleton_self _)) e) λb hb=>by rw[Z1.mp hb];exact G
  show af _ A.in1 (Builtin.Dict.addKeywords d [] >>= _) _ _ _;refine Za (Zb ?_);show af _ A.in1 (ret Value.none) _ _ _;refine Zb (N _ ?_);rw[jS,List.drop_length];have e:upd H d (.dT (Av a []))=H:=by
   funext b;unfold upd;split
   ·rename_i z;rw[z,f];rfl
   ·rfl
  rw[e];exact l
 |succ k ih=>
  intro i H s a hk hi h I G C f Z ha N;have r:i<more.length:=by exact yT hk
  obtain⟨z,Y,n,rv,ho⟩:=I.aO p _ C;have P:q[i]?=some (q[i]'(ki r K)):=Ze (ki r K);have B:more[i]?=some more[i]:=Ze r;obtain⟨Q,U⟩:=Z i _ _ P B;have xc:more.drop i=more[i]::more.drop (i+1):=XT r;generalize q[i]'(ki r K)=t at P Q;generalize more[i]=x at B Q U xc;obtain⟨g,b,y⟩:=x;obtain⟨v,hv,O⟩:=rv.get (i:=i) (x:=V.ref t) (by rw[Zh,P];rfl);cases(show v=Value.ref t from O);refine Yp Sx ?_;rw[Z9 Ga _];show af _ A.in1 (pyNext (.ref it) >>= _) _ _ s;refine Za (wpAny_pyNext_list_item (items:=Y.toArray) h ⟨_,ho,rfl,n,rfl⟩ (x:=.ref t) (by simpa using hv) λF Ni sb=>?_);have l:Inv X j8 σ H {s with heap:=F}:=P5 (t':=s.toks) I (fp:=[it]) (λc u W e=>(sb.2 c (λz=>W (by rw[z];exact List.mem_singleton_self _))).trans e) λb hb=>by rw[Z1.mp hb];exact G
  obtain⟨z2,mQ,S,ot,AN,wH,n2,wS⟩:=l.aO t _ Q;obtain⟨J,w,rfl,r1,r2⟩:∃J w,mQ=[J,w]/\RelV (.ref b) J/\RelV y w:=by
   cases S with
   |cons a1 a2=>cases a2 with
    |cons a3 a4=>cases a4;exact⟨_,_,rfl,a1,a3⟩
  cases(show J=Value.ref b from r1);obtain⟨zx,lo,xs,D,dd⟩:=QS l.aO f;have ME:xs.length<=sizeLine:=by rw[<- Yx D];exact zx
  have hlp:=Gr a g y;have jI:(putK a g y).length<=sizeLine:=XX (Ys (m:=1000001) 'a' 'b');show af _ A.in1 (holding [Value.ref t] _ >>= _) _ _ _;refine Za (ZY (Za (wpAny_tryCatch ?_)));unfold Builtin.Dict.pairItems;refine Za (WP (T:= "tuple") ⟨ot,AN,wH⟩ ?_);rw[Zk 'b'];refine Za (Wg AN wS (Zb ?_));show af _ A.in1 (holding [Value.ref b,w] (dictSet d (.ref b) w)) _ _ _;refine ZY (wpAny_dictSet_heap (hsz:=ME) (knd:=tupleKind (g_ X.prog X.w)) hu (ya l.aO U) dd λL d' uV=>?_);obtain⟨q0,es,ep,hq,g2,g3,g4,_,g5⟩:=d';have I2:Inv X j8 σ (upd H d (.dT (putK a g y))) {s with heap:=L,toks:=s.toks+(tupleKind (g_ X.prog X.w)).draws g}:=by
   refine Hc (s:={s with heap:=F}) l (by rw[f];exact True.intro) uV ⟨q0,hq⟩ ⟨jI,lo,_,(D.put g U r2).keeps λc ys ec=>?_,q0,es,ep,hq,g2,g3,g4,g5⟩;rw[bV (Aq ec f (λz=>nomatch z))];exact ec
  obtain⟨f0,f1,f2,f3,f4,f5⟩:=G;refine Zb ⟨Xd Ga _,ih (i+1) (upd H d (.dT (putK a g y))) _ (putK a g y) 'a' (km r) (Ni.at λo e=>(uV.2 it (YE E)).trans e) I2 ⟨by rw[bV (YE E)];exact f0,f1,f2,f3,f4,f5⟩ (by rw[bV (Aq C f (λz=>nomatch z))];exact C) aX (λj t x e1 e2=>?_) 'a' λM I3=>N M ?_⟩
  ·obtain⟨h1,L⟩:=Z j t x e1 e2;exact⟨by rw[bV (Aq h1 f (λz=>nomatch z))];exact h1,by rw[bV (Aq L f (λz=>nomatch z))];exact L⟩
  ·rw[xc];rw[K9]at I3;exact I3
end
section
variable{X:Cx}
inductive ji(xs:List V)(H:Hp)(Q:VK):Prop
 |mk(p:ae)(ts:List ae)(more:List (List Key×ae×V))(aT:xs=[.ref p])(cV:H p=some (.lst (ts.map V.ref)))(cw:ts.length=more.length)(aR:more.length<=1000000)(zF:(∀(j:Nat) t x,ts[j]?=some t->more[j]?=some x->H t=some (.tup [.ref x.2.1,x.2.2])/\H x.2.1=some (.tup (x.1.map kV))))(EK:∀r,H r=none->Q (.ref r) (upd H r (.dT (Av [] more))))
theorem q33(hc:X.calm=true){k:Nat}(D:bh k X.A):f_ X (.type "dict") ji:=by
 intro R s K H xs us Q I J h;obtain⟨p,g,more,rfl,v,E,Z,Y,q⟩:=h;obtain⟨u,rfl,ru⟩:=iq J;cases(show u=Value.ref p from ru);have un:=D.units;have d:=I.aO.fresh (Zd s.heap.objs.size);have y:Inv X R K (upd H s.heap.objs.size (.dT [])) {s with heap:=s.heap.push {cls:=.type "dict",data:=.dict #[]},toks:=s.toks}:=I.laid (λ_ _ q=>Zc _ q) (Zd _) (Sb s.heap I.big);have B:upd H s.heap.objs.size (.dT []) p=some (.lst (g.map V.ref)):=by rw[bV (cI v d)];exact v
 have G:upd H s.heap.objs.size (.dT []) s.heap.objs.size=some (.dT []):=aX;have O:∀(j:Nat) t x,g[j]?=some t->more[j]?=some x->upd H s.heap.objs.size (.dT []) t=some (.tup [.ref x.2.1,x.2.2])/\upd H s.heap.objs.size (.dT []) x.2.1=some (.tup (x.1.map kV)):=λj t x U S=>by
  obtain⟨a,b⟩:=Y j t x U S;exact⟨by rw[bV (cI a d)];exact a,by rw[bV (cI b d)];exact b⟩
 refine callType_codes (Q₁:=λc r=>c=.ref s.heap.objs.size/\r={s with heap:=s.heap.push {cls:=.type "dict",data:=.dict #[]}}) F.kt_called_dict (F.kt_typeCall_dict_1 _) F.entry_dict_init (kt_code_dict_new _ ⟨rfl,rfl⟩) ?_;rintro c r ⟨rfl,rfl⟩;obtain⟨hz,P,n,r2,l⟩:=y.aO p _ B;have m:(s.heap.push {cls:=.type "dict",data:=.dict #[]}).DictOf (g_ X.prog X.w) s.heap.objs.size []:=Heap.DictOf.new s.heap;refine⟨m.typeIs,F.args_dict_init_2 _ _,?_⟩;unfold Builtin.«dict.__init__»;refine Za ?_;unfold Builtin.Dict.selfAndRest;refine Za (wpAny_notOrdered_dict m.typeIs ?_);show af _ _ (pure (s.heap.objs.size,[Value.ref p])) _ _ _;refine Zb ?_;show af _ _ (Builtin.Dict.updateFrom "dict.__init__" s.heap.objs.size (.ref p) [] .none) _ _ _;unfold Builtin.Dict.updateFrom;refine Za (WP (T:= "list") ⟨_,l,rfl⟩ ?_);rw[Zk 'b'];refine Za (xg5 l rfl rfl rfl xg4 'b' (show X.A.handled=none from I.ok.hd hc) (by size_fits) λM w f=>?_);have i:=y.kept (t':=w) f;have N:=f _ _ l;have W:s.heap.objs.size<M.objs.size:=by
  obtain⟨ob,_,_,L,_⟩:=m;exact Zn (f _ _ L)
 rw[Zk (show(none:Option aa).isNone=true from rfl)];refine Za (Y8 (Za (Xy (items:=P.toArray) ⟨_,N,rfl,n,rfl⟩ ?_)));refine Zb ⟨Xd Ga _,?_⟩;refine q32 (A:=X.A.in1) (show X.A.handled=none from I.ok.hd hc) (show X.A.units+1+1<cLine by lia) (Zy W) more g E more.length 0 _ _ [] rfl (Zs _) ⟨_,Zj _ rfl,rfl,rfl⟩
  (i.kept (t':=w) λb o e=>Zc _ e) (i.iG (Zd _) (i.aO.fresh (Zd _))) B G O (by rw[VP];lia) λs' C=>⟨rfl,.ref s.heap.objs.size,_,?_,rfl,q _ d⟩
 rw[K9,List.drop_zero]at C;exact C
end
end L2
namespace Pr
open PySem L2 Qf
theorem Rg:∀(more:List (List Key×ae×V))(S C:List (Nat×Nat)),more.map (λx=>(x.1,x.2.2))=S.map (λx=>(cK x,V.bl true))->Av (dD cK C) more=dD cK (dm S C)
 |[],[],C,_=>rfl
 |[],y::S,C,e=>by simp at e
 |x::more,[],C,e=>by simp at e
 |x::more,y::S,C,e=>by
  rw[ZB,ZB]at e;obtain⟨c,d⟩:=Xr e;obtain⟨b,a⟩:=Prod.mk.inj c;have b:x.1=cK y:=b;have a:x.2.2=V.bl true:=a;show Av (putK (dD cK C) x.1 x.2.2) more=dD cK (dm S (ee y C));rw[b,a,Jp Ck];exact Rg more S _ d
theorem Sw:∀(S C:List (Nat×Nat)),S.Nodup->(∀x∈S,x∉C)->dm S C=C++S
 |[],C,_,_=>(XU C).symm
 |x::S,C,nd,h=>by
  obtain⟨d,b⟩:=Yu.mp nd;show dm S (ee x C)=_;have e:ee x C=C++[x]:=Zi (h x Zz);rw[e,Sw S _ b λy a c=>?_,YW]
  ·rfl
  ·rcases ZW.mp c with z|z
   ·exact h y (Zp _ a) z
   ·exact d (by rw[<- Z1.mp z];exact a)
theorem qT0{more:List (List Key×ae×V)}{S:List (Nat×Nat)}(nd:S.Nodup)(e:more.map (λx=>(x.1,x.2.2))=S.map (λx=>(cK x,V.bl true))):Av [] more=dD cK S:=by
 have:=Rg more S [] e;rw[Sw S [] nd (λx _ h=>nomatch h),VS]at this;exact this
abbrev CZ:List ar:=["_law_shape_here","_law_cells_here","_law_there"]
abbrev E3:List ar:=["_law_shape_here","_law_cells_here"]
theorem pR:aI CZ E3 (ck Cr):=dz
inductive xG(vs:List V)(H:Hp)(Q:VK):Prop
 |mk(a l:ae)(n tp:Nat)(rows:List Row)(S:List (Nat×Nat))(e0:vs=[.ref a,.ref l])(e1:vn H a n tp rows)(e2:br H l (S.map pr))(e3:S.Nodup)(e4:S.length<=20000)(e5:∀sd,rT sd (T rows tp)=A4 sd S)(e6:∀H',aG H H'->Q (.bl true) H')
def Qz:Sp:=λa H Q _=>xG a H Q
theorem xO9{f Z W J:ae}{fd L M O:ak}(F:bj K "_law_right" "_law_right" Cr f fd)(B:eR mg)(Nt:mg "dict"=none)
  (hA:mg "balance"=some (.ref Z)) (FA:bj K "balance" "balance" FJ Z L) (bA:Binds K L ["shape","by"] []) (GA:aE P w K mg base aW 35 Z L ["shape","by"] QA)
  (hS:mg "_law_by_sides"=some (.ref W)) (FS:bj K "_law_by_sides" "_law_by_sides" FI W M) (bS:Binds K M ["_law_there"] []) (GS:aE P w K mg base aW 1 W M ["_law_there"] BA)
  (hC:mg "_law_by_corners"=some (.ref J)) (FC:bj K "_law_by_corners" "_law_by_corners" Gm J O) (bC:Binds K O ["_law_there"] []) (GC:aE P w K mg base aW 1 J O ["_law_there"] BC):aE P w K mg base aW 36 f fd E3 Qz:=by
 refine F.ok pR (λvs H Q E h=>?_) (λcA A N s H vs Q E u h=>?_)
 ·obtain⟨a,l,n,m,rows,S,rfl,_⟩:=h
  rfl
 ·obtain⟨a,l,n,m,rows,S,rfl,I,hl,nd,wF,val,q⟩:=h;have jF:bh 1 _:=u.mono 'a';refine aZ ⟨_,⟨cR 2 pR.nd (hV (q33 rfl u) (by rfl) Nt PyProof.Rows.boot_dict (bJ.go (.cons ⟨nH CZ (ck Cr) rfl rfl rfl pR.nd (sH (pv 1))
   (λcl C fp aM aN=>bU.go ⟨eM (aF (pv 0) (aF lY aQ))⟩)⟩ .nil rfl)))⟩,?_⟩
  refine fZ ⟨_,⟨cQ (va (mF p7 (bU.go ⟨cF GA u hA FA.kp bA (aF (pv 0) (aF Ax aQ))⟩) (bU.go ⟨cF GS jF hS FS.kp bS (aF (pv 2) aQ)⟩) (dA _))
   (vb (mF p7 (bU.go ⟨cF GA u hA FA.kp bA (aF (pv 0) (aF Ax aQ))⟩) (bU.go ⟨cF GC jF hC FC.kp bC (aF (pv 2) aQ)⟩) (dA _))))⟩,?_⟩
  obtain⟨bs,hb,g,jC⟩:=id hl;rw[Zg]at g;refine⟨_,rfl,l,rfl,⟨_,cq.of hb⟩,λD hD=>oo hD (λj y H3=>∃t b,y=.ref t/\bs[j]?=some b/\H3 t=some (.tup [.ref b,.bl true])) (tP (K:=K) hb) (by rw[Zg,g];exact i5 'a') ?_ ?_ ?_⟩
  ·rintro j y H1 p hj tk ⟨t,b,rfl,k,r⟩;exact⟨t,b,rfl,k,tk _ _ r⟩
  ·intro j x p hj hx G Q' hq;rw[Zh]at hx;obtain⟨b,wJ,rfl⟩:=Zl.mp hx;exact⟨_,rfl,(by show 2<=sizeLine;decide),λt ht=>hq _ _ (bw ht) ⟨t,b,rfl,wJ,aX⟩⟩
  intro ys p G jM U jV;rw[Zg,g]at U;obtain⟨ts,rfl⟩:=K1 λj y hy=>by
   obtain⟨t,b,k,_⟩:=jV j y hy;exact⟨t,k⟩
  rw[Zg]at U;have DX:((S.zip bs).map λx=>(cK x.1,x.2,V.bl true)).map (λx:List Key×ae×V=>(x.1,x.2.2))=S.map (λx=>(cK x,V.bl true)):=by
   rw[YL];have:∀(S:List (Nat×Nat))(bs:List ae),S.length<=bs.length->(S.zip bs).map ((λx:List Key×ae×V=>(x.1,x.2.2))∘λx=>(cK x.1,x.2,V.bl true))=S.map λx=>(cK x,V.bl true):=λS=>by
    induction S with
    |nil=>intro bs _;rfl
    |cons y S ih=>
     intro bs h;cases bs with
     |nil=>cases h
     |cons b bs=>exact ZZ _ (ih bs (Nat.le_of_succ_le_succ h))
   exact this S bs (IQ g g g)
  have X:((S.zip bs).map λx=>(cK x.1,x.2,V.bl true)).length=S.length:=by rw[Zg,UR];lia
  refine⟨D,ts,(S.zip bs).map λx=>(cK x.1,x.2,V.bl true),rfl,jM,ue X U,by lia,λj t x k r=>?_,λd R=>?_⟩
  ·rw[Zh]at r;obtain⟨z,v,rfl⟩:=Zl.mp r;rw[Uo]at v;obtain⟨t',b,h1,h2,h3⟩:=jV j (.ref t) (by rw[Zh,k];rfl);cases h1;rw[v.2]at h2;cases h2;have h5:H z.2=some (.tup (vN (pr z.1))):=jC j z.2 (pr z.1) v.2 (by rw[Zh,v.1];rfl);exact⟨h3,G _ _ h5⟩
  ·rw[qT0 nd DX];have i:Rd (upd p d (.dT (dD cK S))) d (.dT (dD cK S)):=.inl aX;have Y:=G.trans (bw (o:=.dT (dD cK S)) R);have Nr:H d=none:=by
    cases e:H d with
    |none=>rfl
    |some o=>rw[G _ _ e]at R;cases R
   generalize upd p d (.dT (dD cK S))=H3 at Y i ⊢;have c:∀{Hx Hy:Hp},Rd Hx d (.dT (dD cK S))->aG Hx Hy->Rd Hy d (.dT (dD cK S)):=λh s=>h.imp (λh=>s _ _ h) λ⟨o,h⟩=>⟨o,s _ _ h⟩;refine⟨_,rfl,a,true,n,m,rows,rfl,⟨I.1.mono Y.c_,I.2⟩,λH4 s4=>⟨_,rfl,d,S,rfl,c i s4,λH5 b5 kE=>⟨rfl,_,rfl,?_⟩⟩⟩;have S5:aG H H5:=λb o e=>b5 _ _ (s4 _ _ (Y _ _ e)) (cI e Nr);have v1:rT true (T rows m)=CJ S:=val true;have v2:rT false (T rows m)=Cc S:=val false;rw[v1,Zo rfl];refine cM ?_;refine⟨_,rfl,a,false,n,m,rows,rfl,⟨I.1.mono S5.c_,I.2⟩,λH6 s6=>⟨_,rfl,d,S,rfl,c kE s6,by lia,λH7 b7=>⟨rfl,?_⟩⟩⟩;rw[v2,Zo rfl];exact q _ λb o e=>b7 _ _ (s6 _ _ (S5 _ _ e)) (cI e Nr)
end Pr
namespace Qf
open Tr
def below(E:List Nat)(i:Nat):Nat:=E.countP λe=>decide (e<i)
theorem Gj(E:List Nat):below E 0=0:=WV.mpr λx _=>by simp
theorem Ti{E:List Nat}(h:E.Pairwise (·<·))(i:Nat):below E (i+1)=below E i\/below E (i+1)=below E i+1:=by
 induction E with
 |nil=>exact .inl rfl
 |cons e E b=>
  obtain⟨h1,d⟩:=XR.mp h;unfold below at b ⊢;rw[UH,UH];by_cases c:e=i
  ·have:E.countP (λe=>decide (e<i+1))=0:=WV.mpr λx a=>by have:=h1 x a;simp;lia
   have:E.countP (λe=>decide (e<i))=0:=WV.mpr λx a=>by have:=h1 x a;simp;lia
   rw[Zo (show e<i+1 by lia),Zm (show ¬e<i by lia)];right;simp;lia
  ·rw[show decide (e<i+1)=decide (e<i) by rw[YG];lia];rcases b d with z|z<;>lia
theorem Ld(E:List Nat)(i:Nat):below E i<=E.length:=List.countP_le_length
theorem Sv{E:List Nat}{i:Nat}(h:∀e∈E,e<i):below E i=E.length:=List.countP_eq_length.mpr λx a=>Zo (h x a)
theorem below_at{E:List Nat}(h:E.Pairwise (·<·))(i:Nat):∀k (hk:k<E.length),E[k]<i<->k<below E i:=by
 induction E with
 |nil=>exact λk hk=>absurd hk (YB _)
 |cons e E d=>
  obtain⟨h1,b⟩:=XR.mp h;intro k hk;have hb:below (e::E) i=below E i+(if e<i then 1 else 0):=by
   unfold below;rw[UH];by_cases c:e<i<;>simp[c]
  rw[hb];by_cases c:e<i
  ·rw[Zk c];cases k with
   |zero=>exact⟨λ_=>V3 _,λ_=>c⟩
   |succ k=>
    have:=d b k (by rw[ZM]at hk;exact kj hk);rw[List.getElem_cons_succ,this];lia
  ·rw[Zi c];have:below E i=0:=WV.mpr λx a=>by have:=h1 x a;simp;exact IU this c
   rw[this];refine⟨λz=>?_,λz=>absurd z (YB _)⟩;have:∀x∈e::E,i<=x:=λx a=>by
    rcases Zu.mp a with rfl|a
    ·exact gS c
    ·have:=h1 x a;exact IU this c
   have:=this _ (XN hk);lia
theorem P4{E:List Nat}(h:E.Pairwise (·<·)){x a e:Nat}(f:below E (x+1)=a+1)(d:e∈E):e<=x<->e<=E.getD a 0:=by
 have b:a<E.length:=by have:=Ld E (x+1);exact IT f this
 obtain⟨k,hk,rfl⟩:=ZK.mp d;rw[ZD,Ze b,UE];have h1:=below_at h (x+1) k hk;have c:E[k]<=E[a]<->k<=a:=by
  constructor
  ·intro z;refine Wf λy=>?_;have:=Yy.mp h a k b hk y;lia
  ·intro z;rcases Ui z with y|y
   ·have:=Yy.mp h k a hk b y;exact yV this
   ·subst y;exact Zd _
 rw[c];lia
theorem P2{E:List Nat}(h:E.Pairwise (·<·)){x e:Nat}(b:below E (x+1)=0)(a:e∈E):¬e<=x:=λz=>by
 obtain⟨k,hk,rfl⟩:=ZK.mp a;have h1:=(below_at h (x+1) k hk).mp 'a';lia
structure dO(B:List Row)(u v:Nat)(E:List Nat):Prop where
 asc:E.Pairwise (·<·)
 mem:∀x,x∈E<->∃b∈B,x=b.getD u 0\/x=b.getD u 0+b.getD v 0
theorem CH{i j:Nat}{b:Row}:jc i j b=true<->(b.getD 0 0<=i/\i<b.getD 0 0+b.getD 2 0)/\(b.getD 1 0<=j/\j<b.getD 1 0+b.getD 3 0):=by
 show decide _=true<->_;rw[YA];lia
def i7(B:List Row)(E D:List Nat)(i j:Nat):Bool:=decide (i+1<E.length)&&decide (j+1<D.length)&&B.any (jc (E.getD i 0) (D.getD j 0))
theorem P1{B:List Row}{u v:Nat}{E:List Nat}(h:dO B u v E){b:Row}(hb:b∈B){x a:Nat}(c:below E (x+1)=a+1):(b.getD u 0<=x/\x<b.getD u 0+b.getD v 0)<->(b.getD u 0<=E.getD a 0/\E.getD a 0<b.getD u 0+b.getD v 0):=by
 have h1:=P4 h.asc c ((h.mem _).mpr ⟨b,hb,.inl rfl⟩);have d:=P4 h.asc c ((h.mem _).mpr ⟨b,hb,.inr rfl⟩);lia
theorem Su{B:List Row}{u v:Nat}{E:List Nat}(h:dO B u v E){b:Row}(hb:b∈B){a:Nat}(d:a+1=E.length):¬E.getD a 0<b.getD u 0+b.getD v 0:=by
 obtain⟨k,hk,c⟩:=ZK.mp ((h.mem _).mpr ⟨b,hb,.inr rfl⟩);rw[ZD,Ze 'a',UE,<- c];rcases Ui (show k<=a by lia)with y|y
 ·have:=Yy.mp h.asc k a hk 'a' y;lia
 ·subst y;lia
theorem Lc{B:List Row}{E D:List Nat}(a:dO B 0 2 E)(d:dO B 1 3 D){i j:Nat}(e:i<E.length)(f:j<D.length):i7 B E D i j=B.any (jc (E.getD i 0) (D.getD j 0)):=by
 unfold i7;by_cases c:i+1<E.length/\j+1<D.length
 ·rw[Zo c.1,Zo c.2];rfl
 ·have:B.any (jc (E.getD i 0) (D.getD j 0))=false:=by
   rw[XZ];intro b hb h;rw[CH]at h;by_cases g:i+1<E.length
   ·exact Su d hb (show j+1=D.length by lia) h.2.2
   ·exact Su a hb (show i+1=E.length by lia) h.1.2
  rw[this,Y1]
theorem qT1{sd:Bool}{N:Nat}{B:List Row}{E D:List Nat}{g:Nat->Nat->Bool}(l:dO B 0 2 E)(m:dO B 1 3 D)(p:∀b∈B,(0<b.getD 2 0/\b.getD 0 0+b.getD 2 0<=N)/\(0<b.getD 3 0/\b.getD 1 0+b.getD 3 0<=N))(q:0<N)(L:B≠[])
  (K:∀i j,i<N->j<N->g i j=B.any (jc i j)):1<E.length/\1<D.length/\n6 sd N N g=n6 sd (E.length-1) (D.length-1) (i7 B E D):=by
 have n:∀{u v:Nat}{E:List Nat},dO B u v E->(∀b∈B,0<b.getD v 0)->1<E.length:=λ{u v E} h J=>by
  obtain⟨b,hb⟩:=Up _ L;have h1:=(h.mem _).mpr ⟨b,hb,.inl rfl⟩;have r:=(h.mem _).mpr ⟨b,hb,.inr rfl⟩;have:=J b hb
  match E,h1,r with
  |[],h1,_=>cases h1
  |[x],h1,r=>
   have h1:=Z1.mp h1;have r:=Z1.mp r;lia
  |_::_::_,_,_=>exact Nat.succ_lt_succ (V3 _)
 have G:=n l λb hb=>(p b hb).1.1;have C:=n m λb hb=>(p b hb).2.1;refine⟨G,C,?_⟩;rw[KH q q K,Gu q q (λi j h=>by
  rw[XZ];intro b hb z;rw[CH]at z;have:=p b hb;lia),Gu (f:=i7 B E D) (qR G) (qR C) λi j h=>by
  unfold i7;rw[show(decide (i+1<E.length)&&decide (j+1<D.length))=false by simp only[Bool.and_eq_false_iff,Ve];lia]
  rfl]
 have key:∀i j,Zf (λi j=>B.any (jc i j)) i j=Zf (i7 B E D) (below E i) (below D j):=λi j=>by
  unfold Zf;by_cases c:1<=i/\1<=j
  ·rw[Zk c];obtain⟨i,rfl⟩:∃k,i=k+1:=⟨i-1,by lia⟩;obtain⟨j,rfl⟩:∃k,j=k+1:=⟨j-1,by lia⟩;show B.any (jc i j)=_;by_cases s:1<=below E (i+1)/\1<=below D (j+1)
   ·rw[Zk s];obtain⟨a,y⟩:∃a,below E (i+1)=a+1:=⟨_,(Nat.sub_add_cancel s.1).symm⟩;obtain⟨d,A⟩:∃a,below D (j+1)=a+1:=⟨_,(Nat.sub_add_cancel s.2).symm⟩;rw[y,A,Xn,Xn];have I:=Ld E (i+1);have H:=Ld D (j+1);rw[Lc l m (IT y I) (IT A H),Yn,Ym,Ym];refine exists_congr λb=>W6 λhb=>?_;rw[CH,CH,P1 l hb y,P1 m hb A]
   ·rw[Zi s,XZ];intro b hb z;rw[CH]at z;by_cases M:1<=below E (i+1)
    ·exact P2 m.asc (show below D (j+1)=0 by lia) ((m.mem _).mpr ⟨b,hb,.inl rfl⟩) z.2.1
    ·exact P2 l.asc (show below E (i+1)=0 by lia) ((l.mem _).mpr ⟨b,hb,.inl rfl⟩) z.1.1
  ·rw[Zi c,Zi λh=>c ⟨?_,?_⟩]
   ·refine Nat.pos_of_ne_zero λz=>?_;rw[z,Gj]at h;exact absurd h.1 'b'
   ·refine Nat.pos_of_ne_zero λz=>?_;rw[z,Gj]at h;exact absurd h.2 'b'
 rw[RN λi j _ _=>key i j];have:=O8 (sd:=sd) (F:=Zf (i7 B E D)) (ρ:=below E) (τ:=below D) (h:=N+1) (w:=N+1) (Gj E) (Gj D) (λi _=>Ti l.asc i) λi _=>Ti m.asc i;rw[Sv (λe t=>by
  obtain⟨b,hb,h⟩:=(l.mem _).mp t;have:=p b hb;lia),Sv (λe t=>by
  obtain⟨b,hb,h⟩:=(m.mem _).mp t;have:=p b hb;lia)]at this
 rw[show E.length-1+2=E.length+1 by lia,show D.length-1+2=D.length+1 by lia];exact this
end Qf
namespace L2
open PySem PySem.Spec PyProof.Rows PySem.W
theorem bZ:Slot "set_iterator" "__next__" "set_iterator.__next__":=
 .of (owner:= "set_iterator") (n:= "__next__") (by rw[VV,Ww];kernel_rfl) (by decide +kernel) (by decide +kernel) (by decide +kernel) (by first|exact .inl (by decide +kernel)|exact .inr (by decide +kernel)) (by rw[Uj];kernel_rfl)
theorem Rw:entryFor table "set_iterator.__next__"=some Builtin.«set_iterator.__next__»:=entryFor_of_tree (by kernel_rfl)
theorem Rv(a:aa):argsOk "set_iterator.__next__" ⟨[a],[]⟩:=by unfold argsOk;kernel_rfl
theorem Ru:Slot "set_iterator" "__iter__" "set_iterator.__iter__":=
 .of (owner:= "set_iterator") (n:= "__iter__") (by rw[VV,Ww];kernel_rfl) (by decide +kernel) (by decide +kernel) (by decide +kernel) (by first|exact .inl (by decide +kernel)|exact .inr (by decide +kernel)) (by rw[Uj];kernel_rfl)
theorem qB5(a:aa):argsOk "set_iterator.__iter__" ⟨[a],[]⟩:=by unfold argsOk;kernel_rfl
theorem qB6:entryFor table "set.__iter__"=some Builtin.«frozenset.__iter__»:=entryFor_alias (id':= "frozenset.__iter__") (by kernel_rfl) rfl (by decide +kernel) (by kernel_rfl)
theorem qA6:entryFor table "set_iterator.__iter__"=some Builtin.«dict_keyiterator.__iter__»:=entryFor_alias (id':= "dict_keyiterator.__iter__") (by kernel_rfl) rfl (by decide +kernel) (by kernel_rfl)
theorem Kx{α:Type}:∀{l:List α}{i:Nat}(h:i<l.length),(l[i]::l.eraseIdx i).Perm l
 |x::l,0,_=>.refl _
 |x::l,i+1,h=>by
  have a:i<l.length:=by simpa using h
  show(l[i]::x::l.eraseIdx i).Perm (x::l);exact(List.Perm.swap _ _ _).trans ((Kx a).cons _)
theorem iz:Slot "set" "__len__" "set.__len__":=
 .of (owner:= "set") (n:= "__len__") (by rw[VV,Ww];kernel_rfl) (by decide +kernel) (by decide +kernel) (by decide +kernel) (by first|exact .inl (by decide +kernel)|exact .inr (by decide +kernel)) (by rw[Uj];kernel_rfl)
theorem Ss{α:Type}(next:Nat->Nat):∀(a k:Nat)(left:List α)(b:Array α),left.length=a->(pickOrder.go next a k left b).toList.Perm (b.toList++left)
 |0,k,left,b,h=>by
  have:left=[]:=Vf.mp h;subst this;unfold pickOrder.go;rw[XU]
 |a+1,k,left,b,h=>by
  unfold pickOrder.go;have c:next k%left.length<left.length:=Yr _ 'a'
  rw[Ze c];dsimp only;refine(Ss next a (k+1) (left.eraseIdx (next k%left.length)) (b.push left[next k%left.length]) (by rw[Uk c];exact mL h)).trans ?_;rw[XB,YW];refine VF _ ?_;exact(Kx c)
theorem Rt{α:Type}(next:Nat->Nat)(xs:Array α):(pickOrder next xs).toList.Perm xs.toList:=by
 unfold pickOrder;have:=Ss next xs.size 0 xs.toList #[] (by simp)
 simpa using this
section
theorem qO0{a:Source}{n:Nat}{Q:Nat->ab->Prop}(b:0<n)(h:∀i d,i<n->Q i {s with drawn:=d}):af (ah prog w) A (choose a n) Q E s:=λc p _=>by
 show Sem.wp _ _ (.choose a n .pure) _ _ _ _;rw[Sem.wp_choose];exact⟨by lia,h _ _ (Yr _ b)⟩
theorem Sr{α:Type}:∀(n:Nat)(a:List α)(s:ab)(Q:List α->ab->Prop),a.length=n->(∀e d,e.Perm a->Q e {s with drawn:=d})->af (ah prog w) A (drawOrder n a) Q E s
 |0,a,s,Q,b,h=>by
  have:a=[]:=Vf.mp b;subst this;exact Zb (h [] s.drawn (.refl _))
 |n+1,[],s,Q,b,h=>by simp at b
 |n+1,x::a,s,Q,b,h=>by
  show af _ _ (choose .order (x::a).length >>= _) _ _ _;refine Za (qO0 (by simp) λi d c=>?_);rw[Ze c];refine Za (Sr n ((x::a).eraseIdx i) _ _ (by rw[Uk c];simpa using b) λe g f=>?_);exact Zb (h _ _ ((f.cons _).trans (Kx c)))
def ff(h:ao)(a:ae)(b:Array (Int×aa))(ep:Nat)(t:aq):Prop:=∃o,h.get? a=some o/\o.ExactSet/\o.data=.set b ep t
theorem ff.de{h h':ao}{a:ae}{b:Array (Int×aa)}{ep:Nat}{t:aq}(x:ff h a b ep t)(k:∀o,h.get? a=some o->h'.get? a=some o):ff h' a b ep t:=let ⟨o,ho,r⟩:=x;⟨o,k o ho,r⟩
theorem ff.ty{s:ab}{a:ae}{b:Array (Int×aa)}{ep:Nat}{t:aq}(x:ff s.heap a b ep t):s.TypeIs (.ref a) "set":=let ⟨o,ho,hc,_⟩:=x;⟨o,ho,hc.1⟩
theorem ff.lt{h:ao}{a:ae}{b:Array (Int×aa)}{ep:Nat}{t:aq}(x:ff h a b ep t):a<h.objs.size:=let ⟨_,ho,_⟩:=x;Zn ho
def gv(h:ao)(it:ae)(first:aa)(i:Nat)(a:ae)(n ep:Nat):Prop:=∃o,h.get? it=some o/\o.cls=.type "set_iterator" /\ o.data=.fields #[first,.int i 0,.ref a,.int n 0,.int ep 0]
theorem gv.ty{s:ab}{it:ae}{first:aa}{i:Nat}{a:ae}{n ep:Nat}(x:gv s.heap it first i a n ep):s.TypeIs (.ref it) "set_iterator":=let ⟨o,ho,hc,_⟩:=x;⟨o,ho,hc⟩
inductive Md(w:ai)(a:ae)(es:Array (Int×aa))(ep:Nat)(t:aq):(ao->Prop)->(Nat->aa)->List aa->Prop
 |text (b:w.params.followText "set-order"=true):Md w a es ep t (λ_=>True) (λ_=>.int 0 0) ((pickOrder (w.params.setOrder a ep) es).toList.map (·.2))
 |plain (b:w.params.followText "set-order"=false) (nd:(!t.plain&&decide (es.size>1))=false) (led:t.led=true) (sl:Nat->Nat) (s0:sl 0=0) (bl:∀i,i<=es.size->SetTable.below t.place (sl i)=i) (sn:∀i j,t.place[i]?=some j->sl (i+1)=j+1):Md w a es ep t (λ_=>True) (λi=>.int (sl i) 0) (es.toList.map (·.2))
 |draw (b:w.params.followText "set-order"=false) (tp:ae) (ps:List Nat) (pp:ps.Perm (List.range es.size)):Md w a es ep t (λh=>h.IsTuple tp (ps.map λ(i:Nat)=>Value.int i 0).toArray) (λ_=>.ref tp) (ps.map λi=>(es.getD i (0,.none)).2)
variable{it a:ae}{es:Array (Int×aa)}{ep i:Nat}{t:aq}{OK:ao->Prop}{fst:Nat->aa}{ord:List aa}
theorem xh0{Q:Option aa->ab->Prop}(m:Md w a es ep t OK fst ord)(st:gv s.heap it (fst i) i a es.size ep)(x:ff s.heap a es ep t)(p:t.fits es.size=true)(ok:OK s.heap){v:aa}(G:ord[i]?=some v)
  (q:∀n,gv n it (fst (i+1)) (i+1) a es.size ep->Heap.SameBut it s.heap n->Q (some v) {s with heap:=n}):af (ah prog w) A (pyNext (.ref it)) Q E s:=by
 obtain⟨o,D,N,B⟩:=id st;obtain⟨oa,r,W,y⟩:=id x;unfold pyNext;refine Za (XJ (Z3 (name:=Str.ofString "__next__") st.ty bZ (Z2 bZ st.ty Rw ?_ (Rv _))));refine Za (Zb (Za (WH D B ?_)));show af _ _ (setEntries a >>= _) _ _ s;refine Za (V1 r y p ?_);rw[Zi (by simp)];refine Za (Zb ?_);have P:∀{H:aa->ab->Prop}(c:ab) (F:aw) (f:aa),c.heap.get? it=some F->F.cls=.type "set_iterator"->F.data=.fields #[f,.int i 0,.ref a,.int es.size 0,.int ep 0]->f=fst (i+1)->Heap.SameBut it s.heap c.heap->c={s with heap:=c.heap} ->
   af (ah prog w) A.in1 (setField (.ref it) 1 (rawInt ((i:Int)+1)) >>= λ_=>ret v) (λl c=>∃v,l=Fin.done (Flow.ret v)/\af (ah prog w) A (pure (some v)) Q E c) H c:=λc F f T HM J ef sb L=>by
  refine Za (XQ T J (by simp) (Zb ⟨v,rfl,Zb ?_⟩));rw[L];refine q _ ⟨_,Yh _ T (XS (Yz J _)),(Vm ..).trans HM,?_⟩ (sb.trans (Yi ..));rw[Yz J,ef];simp[rawInt]
 have g:∀{H:aa->ab->Prop}(u:Nat),Value.int u 0=fst (i+1)->af (ah prog w) A.in1 (setField (.ref it) 0 (rawInt u) >>= λ_=>setField (.ref it) 1 (rawInt ((i:Int)+1)) >>= λ_=>ret v) (λl c=>∃v,l=Fin.done (Flow.ret v)/\af (ah prog w) A (pure (some v)) Q E c) H s:=λu e=>by
  refine Za (XQ D B (by simp) ?_);exact P {s with heap:=s.heap.update it (Obj.mapFields (·.setIfInBounds 0 (rawInt u)))} _ (.int u 0) (Yh _ D (XS (Yz B _))) ((Vm ..).trans N) (by rw[Yz B];simp[rawInt]) e (Yi ..) rfl
 cases m with
 |text b=>
  show af _ _ (setNext a 0 ((i:Nat):Int).toNat ((ep:Nat):Int).toNat >>= _) _ _ s;rw[ZG,ZG];unfold setNext;refine Za (Za (Z5 r y p ?_));dsimp only;unfold setsByText;refine Za (Za (YT (Zb ?_)));refine ZR (λ_=>?_) (λh=>absurd b h);rw[Zi (by simp)];unfold setWalk;refine Za (Za (Z5 r y p ?_));dsimp only;unfold setsByText;refine Za (Za (YT (Zb ?_)));refine ZR (λ_=>?_) (λh=>absurd b h);refine Za (YT (Zb (Zb ?_)));have d:((pickOrder (w.params.setOrder a ep) es).toList.map (·.2))[i]?=some v:=G;rw[Zh,Yt]at d;obtain⟨e,C,rfl⟩:=Zl.mp d;show af _ _ (match Option.map (λe=>(e.2,0)) (pickOrder (w.params.setOrder a ep) es)[i]? with|some (x,next)=>_|none=>_) _ _ s;rw[C];exact g 0 rfl
 |plain b nd I Y s0 bl Z=>
  show af _ _ (setNext a ((Y i:Nat):Int).toNat ((i:Nat):Int).toNat ((ep:Nat):Int).toNat >>= _) _ _ s;rw[ZG,ZG,ZG];unfold setNext;refine Za (Za (Z5 r y p ?_));dsimp only;unfold setsByText;refine Za (Za (YT (Zb ?_)));refine ZR (λh=>absurd (show w.params.followText "set-order"=true from h) (by rw[b];exact Zv)) (λ_=>?_);refine ZR (λh=>absurd (show(!t.plain&&decide (es.size>1))=true from h) (by rw[nd];exact Zv)) (λ_=>?_);have d:(es.toList.map (·.2))[i]?=some v:=G;rw[Zh,Yt]at d;obtain⟨e,C,rfl⟩:=Zl.mp d;have S:=(Z8.mp C).1;have K:t.place.size=es.size:=by
   have:=p;unfold SetTable.fits at this;simp at this;exact this.1
  obtain⟨j,M⟩:∃j,t.place[i]?=some j:=⟨_,Z4 (ki S K)⟩;refine Za ?_;refine ZR (λh=>?_) (λ_=>Zb (Zb ?_))
  ·have n:(!t.led&&!es.isEmpty)=true:=h;rw[I]at n;cases n
  ·rw[bl i (yV S),C,M];exact g (j+1) (by show Value.int _ 0=Value.int _ 0;rw[Z i j M])
 |draw b O R pp=>
  obtain⟨ot,X,wH,nt,V⟩:=id ok;show af _ _ (seqItems? (.ref O) >>= _) _ _ s;refine Za (Wg X V ?_);have d:(R.map λi=>(es.getD i (0,.none)).2)[i]?=some v:=G;rw[Zh]at d;obtain⟨k,hk,rfl⟩:=Zl.mp d;have U:k<es.size:=Yw.mp (pp.mem_iff.mp (ZH hk));have ek:(R.map λ(i:Nat)=>Value.int i 0).toArray[((i:Nat):Int).toNat]?=some (.int k 0):=by rw[ZG,List.getElem?_toArray,Zh,hk];rfl
  have ex:es[k]?=some (es.getD k (0,.none)):=by rw[Z4 U];simp[Array.getD,U]
  dsimp only;rw[ek];show af _ _ (setNextDrawn a ((k:Nat):Int).toNat ((ep:Nat):Int).toNat >>= _) _ _ s;rw[ZG,ZG];unfold setNextDrawn;refine Za (Za (Z5 r y p ?_));dsimp only;rw[Zi (by simp)];rw[ex];refine Zb ?_;exact P s o (.ref O) D N B rfl (WA _ _) rfl
theorem xp9{Q:Option aa->ab->Prop}(L:A.handled=none)(m:Md w a es ep t OK fst ord)(st:gv s.heap it (fst es.size) es.size a es.size ep)(x:ff s.heap a es ep t)(n:t.fits es.size=true)(ok:OK s.heap)
  (q:∀g,Heap.ExtBut it s.heap g->Q none {s with heap:=g}):af (ah prog w) A (pyNext (.ref it)) Q E s:=by
 obtain⟨o,j,V,f⟩:=id st;obtain⟨Y,k,G,l⟩:=id x;unfold pyNext;refine Za (XJ (Z3 (name:=Str.ofString "__next__") st.ty bZ (Z2 bZ st.ty Rw ?_ (Rv _))));refine Za (Zb (Za (WH j f ?_)));show af _ _ (setEntries a >>= _) _ _ s;refine Za (V1 k l n ?_);rw[Zi (by simp)];refine Za (Zb ?_);have c:∀(d:ab)(B:aw)(p:Array aa),d.heap.get? it=some B->B.data=.fields p->p.size=5->Heap.SameBut it s.heap d.heap->d={s with heap:=d.heap} ->
   af (ah prog w) A.in1 (setField (.ref it) 2 .none >>= λ_=>newExc (.type "StopIteration") [] >>= λe=>raiseNew e) (λc d=>∃v,c=Fin.done (Flow.ret v)/\af (ah prog w) A (pure (some v)) Q E d) (λe d=>af (ah prog w) A (isInstance e (.type "StopIteration") >>= λb=>if b=true then pure none else throw e) Q E d) d:=λd B p N F S O y=>by
  refine Za (XQ N F 'a' ?_);refine Za ?_;simp only[newExc,newTuple];refine Za (ZS ?_ (by size_fits));refine Za (m:=firstArgMember _ _) (WG (a:=Value.none) (by first|rfl|(simp only[firstArgMember];rfl)) (ZS ?_ (by size_fits)));simp only[raiseNew];refine Za (wpAny_handled ?_);rw[show A.in1.handled=none by exact L];refine Za (Zb (wpAny_throw ?_));refine Za (Wj (T:= "StopIteration") (b:=true) ⟨_,Zj _ rfl,rfl⟩ isSubtype_stop ?_);rw[y];exact Zb (q _ (((O.trans (Yi ..)).extBut.push _).push _))
 cases m with
 |text b=>
  show af _ _ (setNext a 0 ((es.size:Nat):Int).toNat ((ep:Nat):Int).toNat >>= _) _ _ s;rw[ZG,ZG];unfold setNext;refine Za (Za (Z5 k l n ?_));dsimp only;unfold setsByText;refine Za (Za (YT (Zb ?_)));refine ZR (λ_=>?_) (λh=>absurd b h);rw[Zi (by simp)];unfold setWalk;refine Za (Za (Z5 k l n ?_));dsimp only;unfold setsByText;refine Za (Za (YT (Zb ?_)));refine ZR (λ_=>?_) (λh=>absurd b h);refine Za (YT (Zb (Zb ?_)));have r:(pickOrder (w.params.setOrder a ep) es)[es.size]?=none:=by
   rw[Ul];have:=(Rt (w.params.setOrder a ep) es).length_eq;simp at this;exact kq this
  show af _ _ (match Option.map (λe=>(e.2,0)) (pickOrder (w.params.setOrder a ep) es)[es.size]? with|some (x,next)=>_|none=>_) _ _ s;rw[r];exact c s o _ j f rfl (WA _ _) rfl
 |plain b nd u K Z bl X=>
  show af _ _ (setNext a ((K es.size:Nat):Int).toNat ((es.size:Nat):Int).toNat ((ep:Nat):Int).toNat >>= _) _ _ s;rw[ZG,ZG,ZG];unfold setNext;refine Za (Za (Z5 k l n ?_));dsimp only;unfold setsByText;refine Za (Za (YT (Zb ?_)));refine ZR (λh=>absurd (show w.params.followText "set-order"=true from h) (by rw[b];exact Zv)) (λ_=>?_);refine ZR (λh=>absurd (show(!t.plain&&decide (es.size>1))=true from h) (by rw[nd];exact Zv)) (λ_=>?_);have r:es[es.size]?=none:=Wr (Zd _);refine Za ?_;refine ZR (λh=>?_) (λ_=>Zb (Zb ?_))
  ·have g:(!t.led&&!es.isEmpty)=true:=h;rw[u]at g;cases g
  ·rw[bl es.size (Zd _),r];exact c s o _ j f rfl (WA _ _) rfl
 |draw b J C M=>
  obtain⟨U,H,R,W,D⟩:=id ok;show af _ _ (seqItems? (.ref J) >>= _) _ _ s;refine Za (Wg H D ?_);have I:C.length=es.size:=by rw[M.length_eq,YK]
  have P:(C.map λ(i:Nat)=>Value.int i 0).toArray[((es.size:Nat):Int).toNat]?=none:=by rw[ZG,Ul];simp;exact kq I
  dsimp only;rw[P];show af _ _ (setField (.ref it) 0 (rawInt 0) >>= _) _ _ s;refine Za (XQ j f (by simp) ?_);exact c {s with heap:=s.heap.update it (Obj.mapFields (·.setIfInBounds 0 (rawInt 0)))} _ _ (Yh _ j (XS (Yz f _))) (Yz f _) (by simp) (Yi ..) rfl
end
end L2
namespace cm
open PySem
def fg(xs:Array Nat):Prop:=∀i j (b:i<xs.size) (a:j<xs.size),i<j->xs[i]<xs[j]
theorem Lb{xs:Array Nat}(i:fg xs)(j:Nat):∀(f b a:Nat),a-b<=f->b<=a->a<=xs.size->(∀k (h:k<xs.size),k<b->xs[k]<j)->(∀k (h:k<xs.size),a<=k->j<=xs[k]) ->
  SetTable.below.go xs j f b a<=xs.size/\(∀k (h:k<xs.size),k<SetTable.below.go xs j f b a->xs[k]<j)/\(∀k (h:k<xs.size),SetTable.below.go xs j f b a<=k->j<=xs[k])
 |0,b,a,q,p,m,h1,d=>by
  have e:b=a:=by lia
  subst e;exact⟨m,h1,d⟩
 |f+1,b,a,q,p,m,h1,d=>by
  unfold SetTable.below.go;by_cases n:b<a
  ·rw[Zk n];have l:(b+a)/2<xs.size:=by lia
   have r:xs.getD ((b+a)/2) j=xs[(b+a)/2]:=by simp[Array.getD,l]
   simp only;rw[r];by_cases c:xs[(b+a)/2]<j
   ·rw[Zk c];refine Lb i j f _ a 'a' 'a' m (λk h hk=>?_) d;by_cases g:k=(b+a)/2
    ·subst g;exact c
    ·exact V2 (i k _ h l (qN hk g)) c
   ·rw[Zi c];refine Lb i j f b _ 'a' 'a' (yV l) h1 (λk h hk=>?_);by_cases g:k=(b+a)/2
    ·subst g;lia
    ·have:=i _ k l h 'a';exact IU this c
  ·rw[Zi n];have e:b=a:=by exact oJ p n
   subst e;exact⟨m,h1,d⟩
theorem ig{xs:Array Nat}(a:fg xs)(j:Nat):SetTable.below xs j<=xs.size/\(∀k (h:k<xs.size),k<SetTable.below xs j->xs[k]<j)/\(∀k (h:k<xs.size),SetTable.below xs j<=k->j<=xs[k]):=
 Lb a j xs.size 0 xs.size 'a' (Zs _) (Zd _) (λk h hk=>absurd hk (YB _)) (λk h hk=>absurd h (fu hk))
theorem below_at{xs:Array Nat}(d:fg xs){i j:Nat}(h:xs[i]?=some j):SetTable.below xs j=i:=by
 obtain⟨c,e⟩:=Z8.mp h;obtain⟨g,h1,f⟩:=ig d j;rcases Vs (SetTable.below xs j) i with z|z|z
 ·have a:=f (SetTable.below xs j) (kr z c) (Zd _);have b:=d _ i (kr z c) c z;lia
 ·exact z
 ·have:=h1 i c z;lia
theorem xF3{t:aq}(a:fg t.place){i j:Nat}(h:t.place[i]?=some j):t.slot j=.live i:=by
 unfold SetTable.slot;simp only;rw[below_at a h,Zk (by rw[h];simp)]
theorem xF4{t:aq}(b:t.dummies=#[])(a:fg t.place)(j:Nat):t.slot j≠.empty<->∃i:Nat,t.place[i]?=some j:=by
 constructor
 ·intro h;rcases G_ b j with e|⟨i,_,e⟩
  ·exact absurd e h
  ·exact⟨i,e⟩
 ·rintro⟨i,e⟩;rw[xF3 a e];intro z;cases z
theorem qT2{α:Type}(xs:Array α)(p:Nat)(e:p<=xs.size)(x:α)(k:Nat):(SetTable.insertAt xs p x)[k]?=if k<p then xs[k]? else if k=p then some x else xs[k-1]?:=by
 unfold SetTable.insertAt;have b:(xs.extract 0 p).size=p:=by simp;lia
 have d:((xs.extract 0 p).push x).size=p+1:=by rw[Array.size_push,b]
 rw[Array.getElem?_append,d];by_cases h1:k<p
 ·rw[Zk (i_ h1),Zk h1,VY,b,Zi 'a',Array.getElem?_extract];simp only[Nat.zero_add];rw[Zk 'a']
 ·rw[Zi h1];by_cases a:k=p
  ·rw[Zk a,Zk 'a',VY,b,Zk a]
  ·rw[Zi a,Zi 'a',Array.getElem?_extract];have:p+(k-(p+1))=k-1:=by lia
   rw[this];by_cases c:k-1<xs.size
   ·rw[Zk 'a']
   ·rw[Zi 'a',Wr (gS c)]
theorem P0{xs:Array Nat}(h:∀i j x y:Nat,i<j->xs[i]?=some x->xs[j]?=some y->x<y):fg xs:=λi j a b c=>h i j _ _ c (Z4 a) (Z4 b)
theorem fg.at{xs:Array Nat}(h:fg xs){i j x y:Nat}(b:i<j)(c:xs[i]?=some x)(d:xs[j]?=some y):x<y:=by
 obtain⟨h1,rfl⟩:=Z8.mp c;obtain⟨a,rfl⟩:=Z8.mp d;exact h i j h1 a b
theorem xq0{xs:Array Nat}(f:fg xs){j:Nat}(r:∀i:Nat,xs[i]?≠some j):fg (SetTable.insertAt xs (SetTable.below xs j) j):=by
 obtain⟨s,h1,u⟩:=ig f j;have t:∀k x:Nat,k<SetTable.below xs j->xs[k]?=some x->x<j:=λk x hk e=>by
  obtain⟨h,rfl⟩:=Z8.mp e;exact h1 k h hk
 have q:∀k x:Nat,SetTable.below xs j<=k->xs[k]?=some x->j<x:=λk x hk e=>by
  obtain⟨h,v⟩:=Z8.mp e;have:=u k h hk;rw[v]at this;have A:x≠j:=λz=>r k (by rw[e,z]);lia
 generalize SetTable.below xs j=p at *;refine P0 λa b x y w d c=>?_;rw[qT2 _ _ s]at d c;by_cases g:a<p
 ·rw[Zk g]at d;by_cases m:b<p
  ·rw[Zk m]at c;exact f.at w d c
  ·rw[Zi m]at c;by_cases n:b=p
   ·rw[Zk n]at c;cases c;exact t a x g d
   ·rw[Zi n]at c;exact f.at 'a' d c
 ·rw[Zi g]at d;rw[Zi 'a',Zi 'a']at c;by_cases l:a=p
  ·rw[Zk l]at d;cases d;exact q _ y 'a' c
  ·rw[Zi l]at d;exact f.at 'a' d c
end cm
namespace L2
open PySem PySem.Spec PyProof.Rows PySem.W
theorem Inv.Dt{X:Cx}{a:List (ae×aw)}{σ:St}{H:Hp}{s:ab}{h':ao}{t':Nat}{d':Drawn}(I:Inv X a σ H s)(k:∀b u,s.heap.get? b=some u->h'.get? b=some u):Inv X a σ H {s with heap:=h',drawn:=d',toks:=t'}:=
 I.call (ch:=[]) (g':=s.gens) (Un.kept k) (I.aO.kept k) I.bare (λb hb=>nomatch hb)
section
variable{it a:ae}{es:Array (Int×aa)}{ep:Nat}{t:aq}{OK:ao->Prop}{fst:Nat->aa}{ord:List aa}
theorem q34(B:A.handled=none)(m:Md w a es ep t OK fst ord)(l:ord.length=es.size)(u:t.fits es.size=true)(C:a≠it)(f:List ae)(D:it∉f)(n:∀h d:ao,OK h->(∀b∈f,∀o,h.get? b=some o->d.get? b=some o)->OK d):
  Walks prog w A it (it::a::f) [it] es.size (λi v=>ord[i]?=some v) (λi h=>gv h it (fst i) i a es.size ep/\ff h a es ep t/\OK h) where
 sub:=λb hb=>by simp at hb;simp[hb]
 frame:=λ_ _ _ c k=>⟨(let ⟨o,ho,r⟩:=c.1;⟨o,k it (by simp) o ho,r⟩),c.2.1.de λo e=>k a (by simp) o e,n _ _ c.2.2 λb hb o e=>k b (by simp[hb]) o e⟩
 item:=λi s Q E j c q=>by
  have p:ord[i]?=some (ord[i]'(ki j l)):=Ze (ki j l);refine xh0 m c.1 c.2.1 u c.2.2 p λd y g=>q _ d s.toks p ⟨y,c.2.1.de λo e=>g.extBut a o C e,n _ _ c.2.2 λb hb o e=>g.extBut b o (λz=>D (by rw[<- z];exact hb)) e⟩ λb o hb e=>g.extBut b o (λh=>hb (by simp[h])) e
 done:=λs Q E c q=>xp9 B m c.1 c.2.1 u c.2.2 λd x=>q d s.toks λb o hb e=>x b o (λh=>hb (by simp[h])) e
 self:=λ_ _ _ _ c q=>by
  refine Uv c.1.ty Ru (Z2 Ru c.1.ty qA6 ?_ (qB5 _));show af _ _ (ret (.ref it)) _ _ _;exact Zb ⟨_,rfl,"set_iterator",_,c.1.ty,bZ.lookup,q⟩
theorem xq1{Q:Bool->ab->Prop}(c:s.TypeIs (.ref a) "set")(h:Q false s):af (ah prog w) A (Builtin.List.listLengthHint (.ref a)) Q E s:=by
 unfold Builtin.List.listLengthHint;refine Za (XE c iz.lookup ?_);generalize f:("set.__len__":String)=d
 wp_delta
 rw[show splitId d=some ("set","__len__")from by subst f;decide +kernel];subst f;refine Za (Wj (T:= "set") (b:=true) c (by rw[Uj];kernel_rfl) ?_);refine ZR (λe=>absurd e 'b') (λ_=>?_);refine ZR (λ_=>?_) (λe=>absurd (by decide +kernel) e);refine Za (WP c ?_);exact Zb h
structure Oz(prog:ag)(w:ai)(A:aj)(a:ae)(es:Array (Int×aa))(ep:Nat)(t:aq)(s s':ab)(it:ae)(vs:List aa):Prop where
 perm:vs.Perm (es.toList.map (·.2))
 new:s.heap.objs.size<=it
 keep:∀b o,s.heap.get? b=some o->s'.heap.get? b=some o
 same:∃d,s'={s with heap:=s'.heap,drawn:=d}
 wk:∃mX St,it∉mX/\(∀b∈mX,s.heap.objs.size<=b/\b<s'.heap.objs.size)/\it<s'.heap.objs.size/\Walks prog w A it (it::a::mX) [it] es.size (λi v=>vs[i]?=some v) St/\St 0 s'.heap
theorem pP{Q:aa->ab->Prop}{A':aj}(hh:A'.handled=none)(x:ff s.heap a es ep t)(y:t.fits es.size=true)(hn:es.size<=sizeLine)(hl:t.led=!w.params.followText "set-order")(hr:(!t.plain&&decide (es.size>1))=true\/cm.fg t.place)
  (q:∀it vs C,Oz prog w A' a es ep t s C it vs->Q (.ref it) C):af (ah prog w) A (pyIter (.ref a)) Q E s:=by
 obtain⟨o,p,hc,H⟩:=id x;have J:=x.lt;refine Uv x.ty PySem.F.slot_set_iter (Z2 PySem.F.slot_set_iter x.ty qB6 ?_ (PySem.F.args_set_iter_1 _));refine Za (Zb ?_);show af _ _ (Builtin.Frozenset.sizeOf a >>= _) _ _ _;unfold Builtin.Frozenset.sizeOf;refine Za (Za (V1 p H y (Zb ?_)));unfold setDrawn setsByText;refine Za (Za (Z5 p H y ?_));dsimp only;refine Za (Za (YT (Zb (Zb ?_))));have last:∀(c:ab)(first:aa)(OK:ao->Prop)(fst:Nat->aa)(ord:List aa)(n:List ae)(d:Drawn),c={s with heap:=c.heap,drawn:=d}->(∀b o,s.heap.get? b=some o->c.heap.get? b=some o)->s.heap.objs.size<=c.heap.objs.size->Md w a es ep t OK fst ord->fst 0=first->OK c.heap->ord.Perm (es.toList.map (·.2))->(∀b∈n,s.heap.objs.size<=b/\b<c.heap.objs.size)->(∀h f:ao,OK h->(∀b∈n,∀o,h.get? b=some o->f.get? b=some o)->OK f) ->
   af (ah prog w) A.in1 (setEpoch a >>= λe=>newFields "set_iterator" [first,rawInt 0,.ref a,rawInt es.size,rawInt e] >>= λv=>ret v) (λN C=>∃v,N=.done (.ret v)/\∃T u,C.TypeIs v T/\typeLookup (.type T) "__next__"=pure (some u)/\Q v C) E c:=λc first OK fst ord n d e1 S U m ef ok D G X=>by
  have P:=S _ _ p;refine Za (wpAny_setEpoch_of P H y ?_);refine Za (ZS (Zb ⟨_,rfl,"set_iterator",_,⟨_,Zj _ rfl,rfl⟩,bZ.lookup,?_⟩));have vW:ord.length=es.size:=by rw[D.length_eq,Zg,ZO]
  refine q c.heap.objs.size ord _ ⟨D,U,λb o e=>Zc _ (S b o e),⟨d,by rw[e1]⟩,n,_,λz=>YO _ (G _ z).2,λb hb=>⟨(G b hb).1,by rw[Z0];exact Z6 (G b hb).2⟩,by rw[Z0];exact ZN _,q34 hh m vW y (Zy (ZT J U)) n (λz=>YO _ (G _ z).2) X,?_⟩;exact⟨⟨_,Zj _ rfl,rfl,by rw[ef];simp[rawInt]⟩,⟨o,Zc _ P,hc,H⟩,X _ _ ok λb _ o e=>Zc _ e⟩
 by_cases hb:w.params.followText "set-order"=true
 ·refine ZR (λh=>?_) (λ_=>?_)
  ·have f:(!w.params.followText "set-order"&&(!t.plain&&decide (es.size>1)))=true:=h;rw[hb]at f;cases f
  ·refine Za (Zb ?_);exact last s (.int 0 0) _ _ _ [] s.drawn rfl (λ_ _ e=>e) (Zd _) (.text hb) rfl trivial ((Rt _ _).map _) (λb hb=>nomatch hb) (λ_ _ _ _=>trivial)
 ·have I:w.params.followText "set-order"=false:=YV.mpr hb;have L:t.led=true:=by rw[hl,I];rfl
  refine ZR (λh=>?_) (λh=>?_)
  ·refine Za (Sr es.size (List.range es.size) _ _ (by simp) λg d M=>Za ?_);have jR:g.length=es.size:=by rw[M.length_eq,YK]
   refine wpAny_newTuple ?_ (by rw[Zg];exact yQ jR hn);have hT:(s.heap.push (seqObj "tuple" (g.map λ(i:Nat)=>Value.int i 0).toArray 0)).get? s.heap.objs.size=some (seqObj "tuple" (g.map λ(i:Nat)=>Value.int i 0).toArray 0):=Zj _ rfl;have er:((List.range es.size).map λi=>(es.getD i (0,.none)).2)=es.toList.map (·.2):=by
    refine List.ext_getElem (by simp) λi h1 Z=>?_;have O:i<es.size:=by simpa using h1
    simp[Array.getD,O]
   have D:(g.map λi=>(es.getD i (0,.none)).2).Perm (es.toList.map (·.2)):=by rw[<- er];exact M.map _
   exact last {s with heap:=s.heap.push (seqObj "tuple" (g.map λ(i:Nat)=>Value.int i 0).toArray 0),drawn:=d} (.ref s.heap.objs.size) _ _ _ [s.heap.objs.size] d rfl (λb o e=>Zc _ e) (by rw[Z0];exact Xu _) (.draw I s.heap.objs.size g M) rfl ⟨_,hT,rfl,0,rfl⟩ D
    (λb hb=>by rw[Z1.mp hb,Z0];exact⟨Zd _,ZN _⟩) (λh f ⟨o,p,r⟩ k=>⟨o,k _ (by simp) o p,r⟩)
  ·refine Za (Zb ?_);have nd:(!t.plain&&decide (es.size>1))=false:=by
    have f:¬(!w.params.followText "set-order"&&(!t.plain&&decide (es.size>1)))=true:=h;rw[I]at f;simpa using f
   have Y:cm.fg t.place:=by
    rcases hr with z|z
    ·rw[nd]at z;cases z
    ·exact z
   have hps:t.place.size=es.size:=by
    have:=y;unfold SetTable.fits at this;simp at this;exact this.1
   refine last s (.int 0 0) _ _ _ [] s.drawn rfl (λ_ _ e=>e) (Zd _) (.plain I nd L (λi=>if i=0 then 0 else t.place.getD (i-1) 0+1) rfl (λi O=>?_) (λi j hj=>?_)) rfl trivial (List.Perm.refl _) (λb hb=>nomatch hb) (λ_ _ _ _=>trivial)
   ·obtain⟨R,l,F⟩:=cm.ig Y (if i=0 then 0 else t.place.getD (i-1) 0+1);generalize SetTable.below t.place (if i=0 then 0 else t.place.getD (i-1) 0+1)=B at R l F;by_cases W:i=0
    ·subst W;rw[Zk rfl]at l;by_cases hB:B=0
     ·exact hB
     ·exact absurd (l 0 'a' (qT hB)) (YB _)
    ·rw[Zi W]at l F;have K:i-1<t.place.size:=by lia
     have eg:t.place.getD (i-1) 0=t.place[i-1]:=by simp[Array.getD,K]
     rw[eg]at l F;rcases Vs B i with z|z|z
     ·have:=F (i-1) K (kl z);lia
     ·exact z
     ·have V:i<t.place.size:=by exact uk z R
      have q1:=l i V z;have q2:=Y (i-1) i K V 'a';lia
   ·show(if i+1=0 then 0 else t.place.getD (i+1-1) 0+1)=j+1;rw[Zi 'a',Xn];obtain⟨h1,Z⟩:=Z8.mp hj;simp[Array.getD,h1,Z]
theorem qT3{Q:List aa->ab->Prop}(Z:A.handled=none)(x:ff s.heap a es ep t)(hf:t.fits es.size=true)(J:es.size<=sizeLine)(hl:t.led=!w.params.followText "set-order")(V:(!t.plain&&decide (es.size>1))=true\/cm.fg t.place)
  (hQ:∀f K j d,f.Perm (es.toList.map (·.2))->(∀b o,s.heap.get? b=some o->K.get? b=some o)->Q f {s with heap:=K,drawn:=d,toks:=j}):af (ah prog w) A (collect (.ref a)) Q E s:=by
 have H:=x.lt;unfold collect;refine Za (Ud (Yp PySem.F.entry_proto_collect ?_));rw[Z9 PySem.F.plain_proto_collect _];show af _ A.in1 (newList [] >>= λl=>again (.builtin "list.__iadd__" ⟨[l,.ref a],[]⟩)) _ _ s;refine Za (ZS ?_);refine Zb ⟨Xd PySem.F.plain_list_iadd _,Yp PySem.F.entry_list_iadd ?_⟩;rw[Z9 PySem.F.plain_list_iadd _];have Y:(s.heap.push (seqObj "list" #[] 0)).get? s.heap.objs.size=some (seqObj "list" #[] 0):=Zj _ rfl;show af _ A.in1 (Builtin.List.listExtendWith (.ref s.heap.objs.size) (.ref a) (.ref s.heap.objs.size)) _ _ {s with heap:=s.heap.push (seqObj "list" #[] 0)};have y:ff (s.heap.push (seqObj "list" #[] 0)) a es ep t:=x.de λo e=>Zc _ e;unfold Builtin.List.listExtendWith;refine Za (WP (T:= "set") (s:={s with heap:=s.heap.push (seqObj "list" #[] 0)}) y.ty ?_);have h1:Builtin.List.listSameRef (.ref s.heap.objs.size) (.ref a)=false:=by simp[Builtin.List.listSameRef,Wm H]
 simp only[h1,show(Value.type "set"== Value.type "list")=false by decide,show(Value.type "set"== Value.type "tuple")=false by decide,UA,Zt,ZX];refine Za (pP (A':=A.in1) (s:={s with heap:=s.heap.push (seqObj "list" #[] 0)}) Z y hf J hl V λit f n I=>?_);obtain⟨N,U,p,⟨d,e1⟩,X,St,AO,r,vZ,W,P⟩:=I;have hz:(s.heap.push (seqObj "list" #[] 0)).objs.size=s.heap.objs.size+1:=Z0 ..;have O:s.heap.objs.size+1<=it:=by rw[<- hz];exact U
 have D:s.heap.objs.size∉it::a::X:=by
  intro z;rcases Zu.mp z with z|z
  ·exact absurd z (Zy O)
  ·rcases Zu.mp z with z|z
   ·exact absurd z (Wm H)
   ·have:=(r _ z).1;rw[hz]at this;exact absurd this (Nat.not_le.mpr (ZN _))
 have x2:ff n.heap a es ep t:=y.de λo e=>p _ _ e;have C:=p _ _ Y;have key:∀(h:ao)(c j:Nat),St 0 h->(∀b o,b≠s.heap.objs.size->n.heap.get? b=some o->h.get? b=some o)->h.get? s.heap.objs.size=some (seqObj "list" #[] c) ->
   codeAny (ah prog w) A (.builtin "list.extend.loop" ⟨[.ref s.heap.objs.size,.ref it,.ref s.heap.objs.size],[]⟩) (wants (λv m=>af (ah prog w) A (match v with|.ref a=>(do let ob <- load a;match ob.data with|.seq S _=>pure S.toList|_=>unsupported "internal:collect")|_=>unsupported "internal:collect") Q E m) E) {s with heap:=h,drawn:=d,toks:=j}:=by
  intro h c j R hk u;refine codeAny_extend_loopS W.toS J s.heap.objs.size D (.ref s.heap.objs.size) es.size 0 _ #[] c rfl (Zs _) R u (ItemsOf.nil _) λm k c' L Er M=>?_;rw[Moved.eq_with L];show af _ A (load s.heap.objs.size >>= _) _ _ _;refine Za (wpAny_load Er ?_);have ev:k.toList=f:=by
   have q:f.length=es.size:=by rw[N.length_eq,Zg,ZO]
   refine WB λi=>?_;rw[Yt];by_cases g:i<k.size
   ·have:=M.2 i k[i] (Z4 g);rw[Z4 g,this]
   ·rw[Wr (gS g),Xl (by rw[q,<- M.1];exact gS g)]
  refine Zb ?_;show Q k.toList _;rw[ev];refine hQ f m.heap m.toks d N λb o e=>?_;have hb:=Zn e;have e2:n.heap.get? b=some o:=p _ _ (Zc _ e);refine L.heap b o (λz=>?_) (hk b o (Zy hb) e2);rcases Zu.mp z with z|z
  ·exact Zy hb z
  ·exact Zy (ZT (Z6 hb) O) (Z1.mp z)
 rw[e1];refine Za (ZY (xq1 (s:={s with heap:=n.heap,drawn:=d}) x2.ty ?_));refine ZR (λ_=>?_) (λ_=>Zb ⟨Xd Uq _,key _ 0 _ P (λb o _ e=>e) C⟩);refine Za (Y8 ?_);refine Za ?_;show af _ _ (updateSeq s.heap.objs.size (·.push .none) >>= λ_=>updateSeq s.heap.objs.size (·.pop)) _ _ _;refine Za (wpAny_updateSeq C rfl ?_);have F:=Yh (Obj.mapSeq (·.push Value.none)) C rfl;refine wpAny_updateSeq (hz:=by seq_fits) F rfl ?_;have B:=Yh (Obj.mapSeq (·.pop)) F rfl;refine Zb ⟨Xd Uq _,key _ _ _ ?_ (λb o hb e=>?_) B⟩
 ·refine W.frame 0 _ _ P λb hb o e=>?_;have G:b≠s.heap.objs.size:=λh=>D (h▸hb);exact(Xe _ _ (YE G)).trans ((Xe _ _ (YE G)).trans e)
 ·exact(Xe _ _ (YE hb)).trans ((Xe _ _ (YE hb)).trans e)
end
end L2
namespace L2
open PySem PyProof.Rows
theorem Gq{α e:Type}{R:α->e->Prop}:∀{c d:List α},d.Perm c->∀{a:List e},Paired R c a->∃b,Paired R d b/\b.Perm a:=by
 intro c d p
 induction p with
 |nil=>intro a r;exact⟨a,r,.refl _⟩
 |cons u p w=>
  intro a r;cases r with
  |cons h r=>
   obtain⟨b,s,f⟩:=w r;exact⟨_::b,.cons h s,f.cons _⟩
 |swap u v l=>
  intro a r;cases r with
  |cons h r=>
   cases r with
   |cons t r=>exact⟨_::_::_,.cons t (.cons h r),List.Perm.swap _ _ _⟩
 |trans p q j x=>
  intro a r;obtain⟨y,m,i⟩:=x r;obtain⟨k,g,n⟩:=j m;exact⟨k,g,n.trans i⟩
theorem Lv{α c:Type}{R:α->c->Prop}:∀{b:List α}{a:List c},b.length=a.length->(∀(i:Nat) u x,b[i]?=some u->a[i]?=some x->R u x)->Paired R b a
 |[],[],_,_=>.nil
 |[],_::_,h,_=>by simp at h
 |_::_,[],h,_=>by simp at h
 |u::b,x::a,h,f=>.cons (f 0 u x rfl rfl) (Lv (by simpa using h) λi y v e d=>f (i+1) y v (by simpa using e) (by simpa using d))
theorem Cb{α c:Type}{R:α->c->Prop}:∀{b:List α}{a:List c},Paired R b a->∀(i:Nat) u,b[i]?=some u->∃x,a[i]?=some x/\R u x
 |_,_,.nil,i,u,h=>by simp at h
 |_,_,.cons h r,0,u,e=>by simp at e;subst e;exact⟨_,rfl,h⟩
 |_,_,.cons h r,i+1,u,e=>by
  obtain⟨x,h1,d⟩:=Cb r i u (by simpa using e);exact⟨x,by simpa using h1,d⟩
end L2
namespace L2
open PySem PySem.Spec PyProof.Rows PySem.W
theorem xF5(t:aq)(a:Array (Int×aa))(h:Int)(x:aa):(layNew t a h x).2.1.led=t.led:=by
 unfold layNew;split
 ·show(SetTable.orStandIn _ _).led=t.led;unfold SetTable.orStandIn;split<;>rfl
 ·rfl
theorem qT4(t:aq)(a:Array (Int×aa))(n:Nat):(relayAll t a n).2.1.led=t.led/\((relayAll t a n).2.1.plain=true->t.plain=true):=by
 unfold relayAll;split
 ·rename_i d b e;dsimp only;split
  ·have:d.led=t.led/\d.plain=t.plain:=by
    unfold SetTable.relaid SetTable.laid at e;cases ho:SetTable.layClean (SetTable.sizeAbove n-1) (a.map (·.1))with
    |none=>rw[ho]at e;cases e
    |some c=>
     rw[ho]at e;have e:=ZE e;injection e with e1 _
     rw[<- e1];exact⟨rfl,rfl⟩
   exact⟨this.1,λz=>by rw[<- this.2];exact z⟩
  ·exact⟨rfl,λz=>nomatch z⟩
 ·exact⟨rfl,λz=>nomatch z⟩
section
variable{K:Type}[DecidableEq K](knd:KeyKind prog w K)
def zS(e:Int×aa)(k:K):Prop:=knd.is k e.2=true/\e.1=knd.hash k/\e.2.scannable=true
variable{knd}
theorem xh2{l:List (Int×aa)}{f:List K}(p:Paired (zS knd) l f):ElemsOf knd l:=λe d=>by
 obtain⟨i,c,rfl⟩:=ZK.mp d;obtain⟨k,_,h1,b,a⟩:=Cb p i _ (Ze c);exact⟨⟨k,h1,b⟩,a⟩
theorem Tx{α b:Type}{R:α->b->Prop}{x:α}{y:b}(h:R x y):∀{l:List α}{m:List b},Paired R l m->Paired R (l++[x]) (m++[y])
 |_,_,.nil=>.cons h .nil
 |_,_,.cons a r=>.cons a (Tx h r)
end
end L2
namespace cm
open PySem
theorem PZ(owner:Array (Option Nat)):∀(n:Nat),(∀i j k:Nat,((List.range n).filterMap λj=>(owner.getD j none).map (λv=>(j,v)))[i]?=some (j,k)->j<n/\owner[j]?=some (some k)) /\
  (∀(i b:Nat)(p d:Nat×Nat),i<b->((List.range n).filterMap λj=>(owner.getD j none).map (λv=>(j,v)))[i]?=some p->((List.range n).filterMap λj=>(owner.getD j none).map (λv=>(j,v)))[b]?=some d->p.1<d.1) /\
  (∀j k:Nat,j<n->owner[j]?=some (some k)->∃i:Nat,((List.range n).filterMap λj=>(owner.getD j none).map (λv=>(j,v)))[i]?=some (j,k))
 |0=>⟨λi j k h=>by simp at h,λi b p d _ h=>by simp at h,λj k h=>absurd h (YB _)⟩
 |n+1=>by
  obtain⟨h1,s,q⟩:=PZ owner n;rw[YC,List.filterMap_append];generalize A:((List.range n).filterMap λj=>(owner.getD j none).map (λv=>(j,v)))=L at h1 s q;have w:∀v,owner.getD n none=some v->owner[n]?=some (some v):=λv r=>by
   by_cases c:n<owner.size
   ·have e:owner.getD n none=owner[n]:=by simp[Array.getD,c]
    rw[Z4 c,<- e,r]
   ·have e:owner.getD n none=none:=by simp[Array.getD,c]
    rw[e]at r;cases r
  cases ho:owner.getD n none with
  |none=>
   have e:[n].filterMap (λj=>(owner.getD j none).map (λv=>(j,v)))=[]:=by
    rw[YH,ho];rfl
   rw[e,XU];refine⟨λi j k h=>⟨Z6 (h1 i j k h).1,(h1 i j k h).2⟩,s,λj k l hk=>?_⟩;by_cases g:j=n
   ·subst g;have c:=(Z8.mp hk).1;have e:owner.getD j none=owner[j]:=by simp[Array.getD,c]
    rw[Z4 c]at hk;rw[e,ZE hk]at ho;cases ho
   ·exact q j k (qN l g) hk
  |some v=>
   have e:[n].filterMap (λj=>(owner.getD j none).map (λv=>(j,v)))=[(n,v)]:=by
    rw[YH,ho];rfl
   rw[e];have u:∀(i:Nat) p,L[i]?=some p->p.1<n:=λi p h=>(h1 i p.1 p.2 h).1;refine⟨λi j k h=>?_,λi b p d t h a=>?_,λj k l hk=>?_⟩
   ·by_cases f:i<L.length
    ·rw[Zr f]at h;exact⟨Z6 (h1 i j k h).1,(h1 i j k h).2⟩
    ·rw[Zq (gS f)]at h;have:i-L.length=0:=by
      have:=(cz h).1;simp at this;exact this
     rw[this]at h;have h:=ZE h;cases h;exact⟨ZN _,w v ho⟩
   ·have m:=(cz a).1;rw[Zw]at m;have m:b<L.length+1:=m;rw[Zr 'a']at h;by_cases x:b<L.length
    ·rw[Zr x]at a;exact s i b p d t h a
    ·rw[Zq (gS x)]at a;have y:b-L.length=0:=by lia
     rw[y]at a;have a:=ZE a;rw[<- a];exact u i p h
   ·by_cases g:j=n
    ·subst g;have:=w v ho;rw[this]at hk;cases hk;exact⟨L.length,by rw[Zq (Zd _),X1];rfl⟩
    ·obtain⟨i,f⟩:=q j k (qN l g) hk;exact⟨i,by rw[Zr (cz f).1];exact f⟩
def gu(t:aq):Prop:=fg t.place/\t.dummies=#[]
theorem mI(a b:Nat)(led:Bool):gu (.fresh a b led):=⟨λi j c=>absurd c (YB _),rfl⟩
theorem Gi(t:aq)(n:Nat):gu (t.standIn n):=by
 refine⟨λi j b c a=>?_,rfl⟩;have e:(t.standIn n).place=Array.range n:=rfl;simp only[e,Array.getElem_range];exact a
theorem qO2{t:aq}(h:gu t)(n:Nat):gu (t.orStandIn n):=by
 unfold SetTable.orStandIn;split
 ·exact h
 ·exact Gi _ _
theorem Th{t:aq}(b:t.dummies=#[])(f:Nat->Int)(h:Int):∀(n:Nat)(p:SetTable.Probe),p.dummy=none->∀{j:Nat}{d:Option Nat},SetTable.probe.go t f h n p=some (.empty j d)->t.slot j=.empty/\d=none
 |0,p,_,j,d,e=>by cases e
 |n+1,p,a,j,d,e=>by
  unfold SetTable.probe.go at e;have c:(t.advance p).dummy=none:=by
   unfold SetTable.advance;split
   ·exact a
   ·exact a
  rcases G_ b p.j with z|⟨i,z,_⟩
  ·rw[z]at e;cases e;exact⟨z,a⟩
  ·rw[z]at e;simp only at e;split at e
   ·cases e
   ·exact Th b f h n _ c e
theorem xh4{t:aq}(f:t.dummies=#[]){h:Int}{j:Nat}{b:Bool}(e:t.freeSlot h=some (j,b)):t.slot j=.empty:=by
 unfold SetTable.freeSlot at e;cases hp:t.probe (λ_=>h+1) h (t.probeStart h)with
 |none=>rw[hp]at e;cases e
 |some m=>
  rw[hp]at e;cases m with
  |empty k d=>
   obtain⟨h1,rfl⟩:=Th f _ h _ _ rfl hp;have e:=(Prod.mk.inj (ZE e)).1;rw[<- e];exact h1
  |candidate a b c=>cases e
theorem xq2{t:aq}(g:gu t){j:Nat}(h:t.slot j=.empty):gu (t.put j).1:=by
 obtain⟨b,a⟩:=g;have e:(t.put j).1={t with place:=SetTable.insertAt t.place (SetTable.below t.place j) j}:=by
  unfold SetTable.put;simp only;rw[a,Lr];simp[a]
 rw[e];exact⟨xq0 b λi c=>(xF4 a b j).mpr ⟨i,c⟩ h,a⟩
theorem qw{t:aq}(g:gu t)(a:Array (Int×aa))(h:Int)(x:aa):gu (layNew t a h x).2.1:=by
 unfold layNew;cases e:t.freeSlot h with
 |none=>exact Gi _ _
 |some p=>
  obtain⟨j,b⟩:=p;exact qO2 (xq2 g (xh4 g.2 e)) _
theorem xh5{mask finger moves:Nat}{led plain:Bool}{hs:Array Int}{t:aq}{d:Array Nat}(e:SetTable.laid mask finger moves led plain hs=some (t,d)):gu t:=by
 unfold SetTable.laid at e;cases hl:SetTable.layClean mask hs with
 |none=>rw[hl]at e;cases e
 |some c=>
  rw[hl]at e;have e:=ZE e;obtain⟨h1,g,n⟩:=PZ c (mask+1);have l:t={mask:=mask,place:=((((List.range (mask+1)).filterMap λj=>(c.getD j none).map (λv=>(j,v))).map (·.1)).toArray),dummies:=#[],finger:=finger,led:=led,moves:=moves,plain:=plain}:=(Prod.mk.inj e).1.symm;generalize ((List.range (mask+1)).filterMap λj=>(c.getD j none).map (λv=>(j,v)))=L at h1 g n l;subst l;refine⟨P0 λa b x y u s m=>?_,rfl⟩;have f:∀i j:Nat,((L.map (·.1)).toArray)[i]?=some j->∃k,L[i]?=some (j,k):=λi j h=>by
   rw[List.getElem?_toArray,Zh]at h;obtain⟨p,q,rfl⟩:=Zl.mp h;exact⟨p.2,q⟩
  obtain⟨k,hk⟩:=f a x s;obtain⟨w,r⟩:=f b y m;exact g a b _ _ u hk r
theorem mH{t:aq}(g:gu t)(b:Array (Int×aa))(n:Nat):gu (relayAll t b n).2.1:=by
 unfold relayAll;cases e:t.relaid (b.map (·.1)) n with
 |none=>exact Gi _ _
 |some p=>
  obtain⟨c,a⟩:=p;dsimp only;split
  ·exact xh5 e
  ·exact Gi _ _
end cm
namespace L2
open PySem PySem.Spec PyProof.Rows PySem.W
section
variable{K:Type}[DecidableEq K](knd:KeyKind prog w K)
def l_(h:ao)(a:ae)(d:List K):Prop:=∃b e t,ff h a b e t/\t.fits b.size=true/\t.led=(!w.params.followText "set-order")/\cm.gu t/\b.size<scanBound/\∃c,Paired (zS knd) b.toList c/\c.Nodup/\∀k,k∈c<->k∈d
variable{knd}
theorem l_.de{h h':ao}{a:ae}{c:List K}(x:l_ knd h a c)(k:∀o,h.get? a=some o->h'.get? a=some o):l_ knd h' a c:=by
 obtain⟨d,e,t,b,r⟩:=x;exact⟨d,e,t,b.de k,r⟩
theorem l_.congr{h:ao}{a:ae}{c d:List K}(x:l_ knd h a c)(e:∀k,k∈c<->k∈d):l_ knd h a d:=by
 obtain⟨i,m,t,b,h1,g,f,n,j,l,q,p⟩:=x;exact⟨i,m,t,b,h1,g,f,n,j,l,q,λk=>(p k).trans (e k)⟩
theorem xF6{h:ao}{a:ae}(e:h.get? a=some (cm.dk (!w.params.followText "set-order"))):l_ knd h a []:=
 ⟨#[],0,_,⟨_,e,⟨rfl,rfl,rfl⟩,rfl⟩,rfl,rfl,cm.mI _ _ _,by decide,[],.nil,Xv,λ_=>Iff.rfl⟩
theorem xF7{a:ae}{O:List K}{k:K}{x:aa}{Q:Bool->ab->Prop}(kS:knd.is k x=true)(X:x.scannable=true)(hS:l_ knd s.heap a O)(hroom:O.length+1<scanBound)
  (h:∀b Y,Heap.SameBut a s.heap Y->l_ knd Y a (k::O)->Q b {s with heap:=Y}):af (ah prog w) A (setAddHashed a x (knd.hash k)) Q E s:=by
 obtain⟨g,ep,t,⟨o,S,vE,G⟩,hf,kR,wY,hb,H,F,W,U⟩:=hS;have w5:=xh2 F;have j9:g.size=H.length:=by have:=Yx F;simpa using this
 have wF:H.length<=O.length:=by
  have:∀(l m:List K),l.Nodup->(∀k,k∈l->k∈m)->l.length<=m.length:=λl=>by
   induction l with
   |nil=>intro m _ _;exact Zs _
   |cons y l ih=>
    intro m nd M;obtain⟨n1,n2⟩:=Yu.mp nd;have hy:=M y (by simp);have:=ih (m.erase y) n2 λz hz=>(VM (λe=>n1 (by rw[<- e];exact hz))).mpr (M z (by simp[hz]));rw[WY hy]at this;have:=Vk hy;rw[ZM];lia
  exact this _ _ W λk hk=>(U k).mp hk
 have wK:g.size+1<scanBound:=by lia
 unfold setAddHashed setAddHashedIn;refine ZY (Za (Z5 S G hf ?_));dsimp only;rw[byScan_of X hb w5];simp only[↓reduceIte];unfold setAddByScan;refine Za ?_;refine Za (Y8 ?_);refine Za (wpAny_setScan_of kS S G hf w5 ?_);cases hr:List.findIdx? (λe=>knd.is k e.2) g.toList with
 |some j=>
  dsimp only;obtain⟨hj,hpj,_⟩:=List.findIdx?_eq_some_iff_getElem.mp hr;obtain⟨k1,V,e2,_⟩:=Cb F j _ (Ze hj);have ek:k1=k:=knd.inj _ _ _ e2 hpj;subst ek;have jS:k1∈H:=ZH V;refine Zb (Zb ?_);have e:s={s with heap:=s.heap}:=by cases s;rfl
  rw[e];exact h _ s.heap (WA a s.heap) ⟨g,ep,t,⟨o,S,vE,G⟩,hf,kR,wY,hb,H,F,W,λn=>⟨λz=>Zp _ ((U n).mp z),λz=>(Zu.mp z).elim (λe=>by rw[e];exact jS) (λz=>(U n).mpr z)⟩⟩
 |none=>
  dsimp only;have AO:k∉H:=λhk=>by
   obtain⟨i,hi,ei⟩:=ZK.mp hk;have AS:i<g.toList.length:=by rw[ZO,j9];exact hi
   obtain⟨k1,V,e2,_⟩:=Cb F i _ (Ze AS);rw[Ze hi,ei]at V;cases V;have:=List.findIdx?_eq_none_iff.mp hr _ (XN AS);rw[e2]at this;cases this
  have R:∀(b:Bool){aU:ab}{Q':Unit->ab->Prop},Q' () aU->af (ah prog w) A (match b with|true=>rule "set.scan.the-table-gave-way" | false=>pure ()) Q' E aU:=λb aU Q' p=>by cases b<;>first|exact Zb p|exact Y8 p
  have J:=layNew_perm t g (knd.hash k) x;have I:=layNew_fits t g (knd.hash k) x;have P:=xF5 t g (knd.hash k) x;have N:=cm.qw wY g (knd.hash k) x;generalize hL:layNew t g (knd.hash k) x=L at J I P N ⊢;obtain⟨c,t1,pz,gave⟩:=L;dsimp only at J I P N ⊢;rw[XB]at J;obtain⟨Z,p1,kp⟩:=Gq J (Tx (show zS knd (knd.hash k,x) k from⟨kS,rfl,X⟩) F);have UX:Z.Nodup:=kp.nodup_iff.mpr (Xz.mpr ⟨W,by simp,λu hu v hv e=>AO (by rw[Z1.mp hv]at e;rw[<- e];exact hu)⟩);have qA:∀n,n∈Z<->n∈k::O:=λn=>by
   rw[kp.mem_iff,ZW,Z1,Zu,U,or_comm]
  have T:c.size<scanBound:=by
   have:=J.length_eq;rw[ZO,Zw,ZO]at this;simp at this;exact yW wK this
  refine Za (R _ ?_);have f:∀(d:aq),d.fits c.size=true->d.led=t.led->cm.gu d->af (ah prog w) A (do
    storeSet a c d
    if(!pz&&d.tooFull)=true then do
      (match (relayAll d c (SetTable.grown c.size)).2.2 with|true=>rule "set.scan.the-table-gave-way" | false=>pure ())
      storeSet a (relayAll d c (SetTable.grown c.size)).1 (relayAll d c (SetTable.grown c.size)).2.1
      pure (some true)
     else pure (some true)) (λr s'=>af (ah prog w) A (match r with|some q=>pure q|none=>setAddHashedIn a x (knd.hash k) 99999) Q E s') E s:=λd Nn jI jO=>by
   refine Za (Vl S G ?_ (Uy T));have kG:(s.heap.update a (Obj.putSet c d)).get? a=some {o with data:=.set c (ep+1) d}:=by
    have:=Yh (Obj.putSet c d) S (by rw[UD c d G];rfl);rw[UD c d G]at this;exact this
   have DK:=Yi s.heap a (Obj.putSet c d);refine ZR (λ_=>?_) (λ_=>?_)
   ·have p:=relayAll_perm d c (SetTable.grown c.size);have B:=relayAll_fits d c (SetTable.grown c.size);obtain⟨g1,_⟩:=qT4 d c (SetTable.grown c.size);have g2:=cm.mH jO c (SetTable.grown c.size);generalize relayAll d c (SetTable.grown c.size)=Rl at p B g1 g2 ⊢;obtain⟨C,D,gave2⟩:=Rl;dsimp only at p B g1 g2 ⊢;obtain⟨Ho,p2,U_⟩:=Gq p p1;have zf:C.size=c.size:=by have:=p.length_eq;simpa using this
    refine Za (R _ ?_);refine Za (Vl kG rfl ?_ (Uy (yW T zf)));have kN:((s.heap.update a (Obj.putSet c d)).update a (Obj.putSet C D)).get? a=some {o with data:=.set C (ep+1+1) D}:=by
     have:=Yh (Obj.putSet C D) kG (by rw[UD C D rfl];rfl);rw[UD C D rfl]at this;exact this
    refine Zb (Zb (h _ _ (DK.trans (Yi _ a _)) ⟨C,_,D,⟨_,kN,vE,rfl⟩,B,(by rw[g1,jI];exact kR),g2,yW T zf,Ho,p2,U_.nodup_iff.mpr UX,λn=>U_.mem_iff.trans (qA n)⟩))
   ·exact Zb (Zb (h _ _ DK ⟨c,_,d,⟨_,kG,vE,rfl⟩,Nn,(by rw[jI];exact kR),jO,T,Z,p1,UX,qA⟩))
  cases hpl1:t1.plain with
  |true=>
   rw[Zk rfl];rw[hashByValue_scannable 8 X];refine Za (Zb ?_);cases plainKind x with
   |true=>
    rw[Zk rfl];exact f _ I P N
   |false=>
    rw[Zi Zv];exact f _ (SetTable.fits_plain_off I) P N
  |false=>
   rw[Zi Zv];refine Za (Zb ?_);rw[Zk rfl];exact f _ I P N
end
theorem xF8(a:aa){Q₁:aa->ab->Prop}(h:Q₁ (.ref s.heap.objs.size) {s with heap:=s.heap.push (cm.dk (!w.params.followText "set-order"))}):
  codeAny (ah prog w) A (.call (.builtin "set.__new__") ⟨[.type "set",a],[]⟩) (wants Q₁ E) s:=by
 refine VQ ?_;show af _ A.in1 (do checkBuiltinCall "set.__new__" ⟨[.type "set",a],[]⟩;again (.builtin "set.__new__" ⟨[.type "set",a],[]⟩)) _ _ s;refine Za (WG (PySem.F.newCall_set_1 a) (Zb ⟨Xd PySem.F.plain_set_new _,Yp PySem.F.entry_set_new ?_⟩));rw[Z9 PySem.F.plain_set_new _];unfold Builtin.«set.__new__» Builtin.Frozenset.newClass;have b:=sub_set_self;obtain⟨e,g,d,f,c⟩:=s;dsimp only
 wp_walk
 refine YT (Zb ?_);dsimp only;simp only[newObj];refine Za (wpAny_alloc (Zb ?_));exact Zb h
end L2
namespace PyProof.Rows
open PySem
def xF9:Bool->Keyed->Array Keyed->Nat->Nat->Nat->StateT au Sem (Option Nat):=sortPriv% PySem.Builtin.gallop
def pk(prog:ag)(w:ai)(A:aj)(s:ab)(κ:KeyKind)(kd:SortKind):Prop:=
 ∀(E:aa->ab->Prop)(x y:aa)(a b:κ.α)(Q:Bool->ab->Prop),κ.keyOf x=some a->κ.keyOf y=some b->Q (κ.blt a b) s->af (ah prog w) A (keyLt' kd x y) Q E s
section
variable{κ:KeyKind}
theorem CG{kd:SortKind}(d:pk prog w A s κ kd){st:au}{x y:Keyed}{a b:κ.α}{Q:Option Bool->au->Prop}(hk:kindOf st=kd)(c:κ.keyOf x.1=some a)(hb:κ.keyOf y.1=some b)(h:Q (some (κ.blt a b)) st):
  wpS (ah prog w) A E s (lt' x y) Q st:=by
 rw[lt'_eq];refine Zx (VJ ?_);rw[hk];refine Zx (UI (XJ (d _ _ _ a b _ c hb ⟨rfl,?_⟩)));exact ZC h
theorem hG{st:au}{a:Array Keyed}{i:Nat}{x:Keyed}{Q:Keyed->au->Prop}(b:a[i]?=some x)(h:Q x st):wpS (ah prog w) A E s (elem' a i) Q st:=by
 rw[elem'_eq,b];exact ZC h
def asks(left:Bool)(k x:κ.α):Bool:=if left then κ.blt x k else !κ.blt k x
theorem Ao{kd:SortKind}(T:pk prog w A s κ kd){left:Bool}{key:Keyed}{k:κ.α}{y:Array Keyed}{base n hint c:Nat}{st:au}{Q:Option Nat->au->Prop}(hk:kindOf st=kd)(P:κ.keyOf key.1=some k)
  (Y:∀i,i<n->∃x a,y[base+i]?=some x/\κ.keyOf x.1=some a/\asks left k a=decide (i<c)) (V:hint<n) (hc:c<=n) (h:Q (some c) st):wpS (ah prog w) A E s (xF9 left key y base n hint) Q st:=by
 have K:∀(i:Nat)(u:Option Bool->au->Prop),i<n->u (some (decide (i<c))) st->wpS (ah prog w) A E s (elem' y (base+i) >>= λx=>if left=true then lt' x key else lt' key x >>= λr=>pure (Option.map (λx=>!x) r)) u st:=λi u e B=>by
  obtain⟨x,a,e1,S,H⟩:=Y i e;refine Zx (hG e1 ?_);unfold asks at H;cases left with
  |true=>
   rw[Zk rfl]at H ⊢;refine CG T hk S P ?_;rw[H];exact B
  |false=>
   rw[Zi 'b']at H ⊢;refine Zx (CG T hk P S (ZC ?_));show u (some (!κ.blt k a)) st;rw[H];exact B
 refine Zx (K hint _ V ?_);have fin:∀d e,d<=c->c<=e->e<=n->∀(f:Nat->Option (Option Nat)×Nat×Nat->StateT au Sem (ForInStep (Option (Option Nat)×Nat×Nat)))(g:Option (Option Nat)×Nat×Nat->StateT au Sem (Option Nat)),
   (∀x d e,d<e->e<=n->∀u,(∀b,u (ForInStep.yield (none,if decide (d+(e-d)/2<c)=true then(d+(e-d)/2+1,e)else(d,d+(e-d)/2))) b\/b≠st)->wpS (ah prog w) A E s (f x (none,d,e)) u st) ->
   (∀x d e,d>=e->f x (none,d,e)=pure (ForInStep.done (none,d,e)))->(∀d e,g (none,d,e)=pure (some e))->wpS (ah prog w) A E s (forIn [:n] (none,d,e) f >>= g) Q st:=by
  intro d e h1 Z U f g hf X W;refine Zx (W1 (Xs (I:=λx m j=>j=st/\∃d e,m=(none,d,e)/\d<=c/\c<=e/\e<=n/\e-d<=n-x) (Q:=λm j=>j=st/\∃d,m=(none,d,c)) ?step ?fin ⟨rfl,d,e,rfl,h1,Z,U,by lia⟩) ?post)
  case post=>
   rintro m j ⟨rfl,d,rfl⟩;rw[W];exact ZC h
  case fin=>
   rintro m j ⟨rfl,d,e,rfl,D,t,v,L⟩;have:e=c:=by lia
   exact⟨rfl,d,by rw[this]⟩
  case step=>
   rintro x m j _ O ⟨rfl,d,e,rfl,D,t,v,L⟩;by_cases G:d>=e
   ·rw[X x d e G];have:e=c:=by lia
    exact ZC ⟨rfl,d,by rw[this]⟩
   ·refine hf x d e 'a' v _ λb=>?_;by_cases R:b=j
    ·left;subst R;by_cases p:d+(e-d)/2<c
     ·rw[Zo p];exact⟨rfl,_,_,rfl,km p,t,v,by lia⟩
     ·rw[Zm p];exact⟨rfl,_,_,rfl,D,gS p,by lia,by lia⟩
    ·exact .inr R
 have go:∀(x d e:Nat),d<e->e<=n->∀(u:ForInStep (Option (Option Nat)×Nat×Nat)->au->Prop),(∀b,u (ForInStep.yield (none,if decide (d+(e-d)/2<c)=true then(d+(e-d)/2+1,e)else(d,d+(e-d)/2))) b\/b≠st) ->
   ∀F:Option Bool->StateT au Sem (ForInStep (Option (Option Nat)×Nat×Nat)),(∀b:Bool,F (some b)=if b=true then pure (ForInStep.yield (none,d+(e-d)/2+1,e))else pure (ForInStep.yield (none,d,d+(e-d)/2))) ->
   wpS (ah prog w) A E s ((elem' y (base+(d+(e-d)/2)) >>= λx=>if left=true then lt' x key else lt' key x >>= λr=>pure (Option.map (λx=>!x) r)) >>= F) u st:=by
  intro x d e J hn u B F hF;refine Zx (K _ _ 'a' ?_);rw[hF];have q:=(B st).resolve_right (λz=>z rfl);by_cases p:d+(e-d)/2<c
  ·rw[Zo p]at q ⊢;exact ZC q
  ·rw[Zm p]at q ⊢;exact ZC q
 by_cases N:hint<c
 ·rw[Zo N];dsimp only;rw[Zk rfl];refine Zx (W1 (Xs (I:=λx m j=>j=st/\∃l o,m=(none,l,o)/\l<o/\hint+l<c/\x<o) (Q:=λm j=>j=st/\∃l o,m=(none,l,o)/\hint+l<c/\(n-hint<=o\/c<=hint+o)) ?step ?fin ⟨rfl,0,1,rfl,ud,by lia,ud⟩) ?post)
  case fin=>
   rintro m j ⟨rfl,l,o,rfl,D,t,v⟩;exact⟨rfl,l,o,rfl,t,.inl 'a'⟩
  case step=>
   rintro x m j _ O ⟨rfl,l,o,rfl,D,t,v⟩;dsimp only;by_cases C:o>=n-hint
   ·rw[Zk C];exact ZC ⟨rfl,l,o,rfl,t,.inl C⟩
   ·rw[Zi C];refine Zx (K (hint+o) _ 'a' ?_);by_cases p:hint+o<c
    ·rw[Zo p];exact ZC ⟨rfl,o,2*o+1,rfl,by lia,p,by lia⟩
    ·rw[Zm p];exact ZC ⟨rfl,l,o,rfl,t,.inr (gS p)⟩
  case post=>
   rintro m j ⟨rfl,l,o,rfl,t,v⟩;dsimp only;refine fin (hint+l+1) (hint+min o (n-hint)) (km t) 'a' 'a' _ _ (λx d e J M u B=>?_) (λx d e G=>?_) (λd e=>rfl)
   ·dsimp only;rw[Zi 'a'];exact go x d e J M u B _ (λb=>rfl)
   ·dsimp only;rw[Zk G]
 ·rw[Zm N];dsimp only;rw[Zi 'b'];refine Zx (W1 (Xs (I:=λx m j=>j=st/\∃l o,m=(none,l,o)/\l<o/\c<=hint-l/\l<=hint/\x<o) (Q:=λm j=>j=st/\∃l o,m=(none,l,o)/\c<=hint-l/\l<=hint/\(hint+1<=o\/(o<=hint/\hint-o<c))) ?step ?fin ⟨rfl,0,1,rfl,ud,by lia,qU,ud⟩) ?post)
  case fin=>
   rintro m j ⟨rfl,l,o,rfl,D,t,v,L⟩;exact⟨rfl,l,o,rfl,t,v,.inl 'a'⟩
  case step=>
   rintro x m j _ O ⟨rfl,l,o,rfl,D,t,v,L⟩;dsimp only;by_cases C:o>=hint+1
   ·rw[Zk C];exact ZC ⟨rfl,l,o,rfl,t,v,.inl C⟩
   ·rw[Zi C];refine Zx (K (hint-o) _ 'a' ?_);by_cases p:hint-o<c
    ·rw[Zo p];exact ZC ⟨rfl,l,o,rfl,t,v,.inr ⟨by lia,p⟩⟩
    ·rw[Zm p];exact ZC ⟨rfl,o,2*o+1,rfl,by lia,gS p,by lia,by lia⟩
  case post=>
   rintro m j ⟨rfl,l,o,rfl,t,v,g5⟩;dsimp only;refine fin (hint+1-min o (hint+1)) (hint-l) 'a' t 'a' _ _ (λx d e J M u B=>?_) (λx d e G=>?_) (λd e=>rfl)
   ·dsimp only;rw[Zi 'a'];exact go x d e J M u B _ (λb=>rfl)
   ·dsimp only;rw[Zk G]
end
def cN(κ:KeyKind)(xs:Array Keyed)(a b:Nat):Prop:=∀i j,a<=i->i<=j->j<b->κ.kle (KK κ xs i) (KK κ xs j)
structure Mv(st aJ:au)(lo hi:Nat):Prop where
 perm:(arrOf aJ).Perm (arrOf st)
 kind:kindOf aJ=kindOf st
 fail:failedOf aJ=failedOf st
 pend:pendingOf aJ=pendingOf st
 out:∀k:Nat,k<lo\/hi<=k->(arrOf aJ)[k]?=(arrOf st)[k]?
theorem Mv.refl(st:au)(a b:Nat):Mv st st a b:=⟨.refl _,rfl,rfl,rfl,λ_ _=>rfl⟩
theorem Mv.trans{a b c:au}{e d:Nat}(h:Mv a b e d)(k:Mv b c e d):Mv a c e d:=
 ⟨k.perm.trans h.perm,k.kind.trans h.kind,k.fail.trans h.fail,k.pend.trans h.pend,λi d=>(k.out i d).trans (h.out i d)⟩
theorem Mv.size{a b:au}{c d:Nat}(h:Mv a b c d):(arrOf b).size=(arrOf a).size:=h.perm.size_eq
theorem Am{κ:KeyKind}{xs ys:Array Keyed}(h:KeysOf κ ys)(p:xs.Perm ys):KeysOf κ xs:=λq a=>h q ((WL.mp p).mem_iff.mp a)
theorem O0{κ:KeyKind}{xs:Array Keyed}(h:KeysOf κ xs){i:Nat}(c:i<xs.size):∃x p a,xs[i]?=some (x,p)/\κ.keyOf x=some a/\KK κ xs i=a:=by
 obtain⟨a,b⟩:=h xs[i] (by simp);have e:xs[i]?=some xs[i]:=ZQ _ i c;refine⟨xs[i].1,xs[i].2,a,by rw[e],b,?_⟩;unfold KK;rw[e];simp[b]
section
variable{κ:KeyKind}
theorem zY{kd:SortKind}(n:pk prog w A s κ kd){st:au}{i j:Nat}{Q:Option Bool->au->Prop}(hk:kindOf st=kd)(h0:KeysOf κ (arrOf st))(d:i<(arrOf st).size)(e:j<(arrOf st).size)
  (h:Q (some (κ.blt (KK κ (arrOf st) i) (KK κ (arrOf st) j))) st):wpS (ah prog w) A E s (ltAt' i j) Q st:=by
 obtain⟨x,p,a,c,l,f⟩:=O0 h0 d;obtain⟨y,q,b,m,g,k⟩:=O0 h0 e;rw[f,k]at h;rw[ltAt'_eq];refine Zx (VJ ?_);exact Zx (hG c (Zx (hG m (CG n hk l g h))))
theorem xq3{kd:SortKind}(T:pk prog w A s κ kd){st:au}{d n ok:Nat}{Q:Bool->au->Prop}(hk:kindOf st=kd)(h0:KeysOf κ (arrOf st))(N:d+n<=(arrOf st).size)(U:ok<=n)(hs:cN κ (arrOf st) d (d+ok))
  (h:∀g,Mv st g d (d+n)->cN κ (arrOf g) d (d+n)->Q true g):wpS (ah prog w) A E s (binarySort' d n ok) Q st:=by
 refine Zx (W1 (Xs (I:=λk c g=>c=(none,())/\Mv st g d (d+n)/\cN κ (arrOf g) d (d+min k n)) (Q:=λc g=>c=(none,())/\Mv st g d (d+n)/\cN κ (arrOf g) d (d+n)) ?step ?fin ?init) ?post)
 case post=>
  rintro c g ⟨rfl,m,o⟩;exact ZC (h g m o)
 case init=>
  refine⟨rfl,Mv.refl _ _ _,λi j h1 p C=>?_⟩;by_cases z:ok=0
  ·have:i=j:=by lia
   rw[this];exact Y6 _
  ·exact hs i j h1 p 'a'
 case fin=>
  rintro c g ⟨rfl,m,o⟩;exact⟨rfl,m,λi j h1 p C=>o i j h1 p 'a'⟩
 case step=>
  rintro k c f X R ⟨rfl,y,P⟩;have q:d+k<(arrOf f).size:=by rw[y.size];exact dZ R N
  have S:kindOf f=kd:=y.kind.trans hk;have F:KeysOf κ (arrOf f):=Am h0 y.perm;have H:cN κ (arrOf f) d (d+k):=λi j h1 p C=>P i j h1 p 'a';refine Zx (W1 (Xs (I:=λx c e=>e=f/\∃l r,c=(none,l,r)/\l<=r/\r<=k/\r-l<=k-x/\(∀i,i<l->κ.kle (KK κ (arrOf f) (d+i)) (KK κ (arrOf f) (d+k)))/\(∀i,r<=i->i<k->κ.klt (KK κ (arrOf f) (d+k)) (KK κ (arrOf f) (d+i))))
   (Q:=λc e=>e=f/\∃l r,c=(none,l,r)/\l<=k/\(∀i,i<l->κ.kle (KK κ (arrOf f) (d+i)) (KK κ (arrOf f) (d+k)))/\(∀i,l<=i->i<k->κ.klt (KK κ (arrOf f) (d+k)) (KK κ (arrOf f) (d+i)))) ?Dw ?MB ⟨rfl,0,k,rfl,qU,uc,uc,λi J=>by lia,λi h1 p=>by lia⟩) ?Dx)
  case MB=>
   rintro c e ⟨rfl,l,r,rfl,G,B,O,u,t⟩;have:r=l:=by lia
   exact⟨rfl,l,r,rfl,wt this B,u,by rw[this]at t;exact t⟩
  case Dw=>
   rintro x c e _ V ⟨rfl,l,r,rfl,G,B,O,u,t⟩;dsimp only;by_cases L:l>=r
   ·rw[Zk L];have:r=l:=by lia
    exact ZC ⟨rfl,l,r,rfl,ko G B,u,by rw[this]at t;exact t⟩
   ·rw[Zi L];refine Zx (zY T S F q (show d+(l+r)/2<_ by lia) ?_);cases hb:κ.blt (KK κ (arrOf e) (d+k)) (KK κ (arrOf e) (d+(l+r)/2))
    ·refine ZC ⟨rfl,(l+r)/2+1,r,rfl,by lia,B,by lia,λi J=>?_,t⟩;exact ZV (H (d+i) (d+(l+r)/2) gT 'a' 'a') (show κ.kle _ _ from hb)
    ·refine ZC ⟨rfl,l,(l+r)/2,rfl,by lia,by lia,by lia,u,λi h1 p=>?_⟩;exact W2 hb (H (d+(l+r)/2) (d+i) gT (i9 h1) (ui p))
  case Dx=>
   rintro c e ⟨rfl,l,r,rfl,G,u,t⟩;dsimp only;have M:d+k-(d+l)=k-l:=by lia
   have K:d+k-(k-l)=d+l:=by lia
   refine Zx (m:=moveDown' (d+k) (d+l)) ?_;rw[moveDown'_eq];refine X8 (ZC ⟨rfl,y.trans ⟨bubble_perm _ _ _,rfl,rfl,rfl,λi J=>?_⟩,λi j h1 p C=>?_⟩)
   ·show(bubble (arrOf e) (d+k) (d+k-(d+l)))[i]?=_;rw[M,getElem?_bubble q _ I_,K,Zi 'a',Zi 'a']
   ·show κ.kle (KK κ (bubble (arrOf e) (d+k) (d+k-(d+l))) i) (KK κ (bubble (arrOf e) (d+k) (d+k-(d+l))) j);have W:j<d+(k+1):=by lia
    have D:∀i,d<=i->i<d+l->κ.kle (KK κ (arrOf e) i) (KK κ (arrOf e) (d+k)):=λi a b=>by
     have:=u (i-d) 'a'
     rwa [show d+(i-d)=i from t7 a]at this
    have v:∀i,d+l<=i->i<d+k->κ.kle (KK κ (arrOf e) (d+k)) (KK κ (arrOf e) i):=λi a b=>by
     have:=Ye (t (i-d) 'a' 'a')
     rwa [show d+(i-d)=i by lia]at this
    rw[M,KK_bubble q I_,KK_bubble q I_,K]
    repeat' split
    all_goals first
     |(exfalso;lia)
     |exact Y6 _
     |exact D _ 'a' 'a'
     |exact v _ 'a' 'a'
     |exact H _ _ 'a' 'a' 'a'
theorem RJ{kd:SortKind}(G:pk prog w A s κ kd){st:au}{b a d:Nat}{Q:Option (Option Nat)×Nat->au->Prop}(hk:kindOf st=kd)(h0:KeysOf κ (arrOf st))(B:b+d<=(arrOf st).size)(C:1<=a)(p:a<=d)(hs:cN κ (arrOf st) b (b+a))
  (h:∀n,a<=n->n<=d->cN κ (arrOf st) b (b+n)->(n=d\/κ.klt (KK κ (arrOf st) (b+n)) (KK κ (arrOf st) (b+n-1)))->Q (none,n) st)
  (f:Nat->Option (Option Nat)×Nat->StateT au Sem (ForInStep (Option (Option Nat)×Nat)))
  (F:∀x n (u:ForInStep (Option (Option Nat)×Nat)->au->Prop),b+n<(arrOf st).size->1<=n->u (if κ.blt (KK κ (arrOf st) (b+n)) (KK κ (arrOf st) (b+n-1))=true then .done (none,n)else .yield (none,n+1)) st->wpS (ah prog w) A E s (f x (none,n)) u st):
  wpS (ah prog w) A E s (forIn [a:d] (none,a) f) Q st:=by
 refine W1 (Xs (I:=λx c e=>e=st/\c=(none,x)/\a<=x/\x<=d/\cN κ (arrOf st) b (b+x)) (Q:=λc e=>e=st/\∃n,c=(none,n)/\a<=n/\n<=d/\cN κ (arrOf st) b (b+n)/\(n=d\/κ.klt (KK κ (arrOf st) (b+n)) (KK κ (arrOf st) (b+n-1)))) ?step ?fin ⟨rfl,rfl,Zd _,p,hs⟩) ?post
 case post=>
  rintro c e ⟨rfl,n,rfl,k,l,g,y⟩;exact h n k l g y
 case fin=>
  rintro c e ⟨rfl,rfl,k,l,g⟩;exact⟨rfl,_,rfl,k,l,g,.inl 'a'⟩
 case step=>
  rintro x c e h1 v ⟨rfl,rfl,k,l,g⟩;refine F x x _ (dZ v B) (ko C h1) ?_;cases hb:κ.blt (KK κ (arrOf e) (b+x)) (KK κ (arrOf e) (b+x-1))
  ·refine⟨rfl,rfl,nN h1,km v,λi j r t D=>?_⟩;by_cases m:j=b+x
   ·by_cases q:i=b+x
    ·rw[q,m];exact Y6 _
    ·rw[m];exact ZV (g i (b+x-1) r (IJ m t q) 'a') (show κ.kle _ _ from hb)
   ·exact g i j r t (qJ D m)
  ·exact⟨rfl,x,rfl,k,l,g,.inr hb⟩
end
def vt(κ:KeyKind)(xs:Array Keyed)(a m:Nat):Prop:=∀i j,a<=i->i<=j->j<a+m->κ.kle (KK κ xs j) (KK κ xs i)
def Il(κ:KeyKind)(xs:Array Keyed)(a m q:Nat):Prop:=∀i,a+m-(q+1)<=i->i<a+m->KK κ xs i=KK κ xs (a+m-1)
section
variable{κ:KeyKind}
theorem Fu{st:au}{i j:Nat}{Q:Unit->au->Prop}(h:Q () (setArr st (mirror (arrOf st) i j ((j-i)/2)))):wpS (ah prog w) A E s (reverseSlice' i j) Q st:=by
 rw[reverseSlice'_eq];exact X8 h
theorem Mv.rev{st a:au}{c b i j:Nat}(h:Mv st a c b)(e:c<=i)(d:j<=b)(hs:j<=(arrOf a).size):Mv st (setArr a (mirror (arrOf a) i j ((j-i)/2))) c b:=
 h.trans ⟨mirror_perm _ _ _ _,rfl,rfl,rfl,λk hk=>by
  show(mirror (arrOf a) i j ((j-i)/2))[k]?=_;rw[getElem?_mirror_all hs,Zi 'a']⟩
theorem xq4{st:au}{a m:Nat}(h:vt κ (arrOf st) a m)(hs:a+m<=(arrOf st).size):cN κ (arrOf (setArr st (mirror (arrOf st) a (a+m) ((a+m-a)/2)))) a (a+m):=λi j h1 c b=>by
 show κ.kle (KK κ (mirror (arrOf st) a (a+m) ((a+m-a)/2)) i) (KK κ (mirror (arrOf st) a (a+m) ((a+m-a)/2)) j);rw[KK_mirror hs,KK_mirror hs,Zk 'a',Zk 'a'];exact h _ _ 'a' 'a' 'a'
theorem OZ{st:au}{a m q:Nat}(h:Il κ (arrOf st) a m q)(hs:a+m<=(arrOf st).size)(k:Nat):KK κ (arrOf (setArr st (mirror (arrOf st) (a+m-(q+1)) (a+m) ((a+m-(a+m-(q+1)))/2)))) k=KK κ (arrOf st) k:=
 KK_mirror_equal (xs:=arrOf st) hs (λi h1 b=>h i h1 b) k
theorem xG0{c:Prop}{P G:au->Prop}(a:(∀m,P m->G m)->c)(b:∀m,P m->G m):c:=a b
theorem xq5{kd:SortKind}(H:pk prog w A s κ kd){st:au}{d l:Nat}{Q:Option Nat->au->Prop}(hk:kindOf st=kd)(h0:KeysOf κ (arrOf st))(O:d+l<=(arrOf st).size)(h1:1<=l)
  (h:∀m aJ,1<=m->m<=l->Mv st aJ d (d+l)->cN κ (arrOf aJ) d (d+m)->Q (some m) aJ):wpS (ah prog w) A E s (countRun' d l) Q st:=by
 refine Zx (RJ H hk h0 O (Zd 1) h1 ?_ (λn g1 L Y g4=>?_) _ (λx n Q' U B g=>?_))
 ·intro i j a b c;have:i=j:=by lia
  rw[this];exact Y6 _
 ·dsimp only;by_cases Z:n=l
  ·rw[Zk (by simp[Z])];exact ZC (h n st g1 L (Mv.refl _ _ _) Y)
  ·rw[Zi (by simp[Z])];have jA:κ.klt (KK κ (arrOf st) (d+n)) (KK κ (arrOf st) (d+n-1)):=g4.resolve_left Z;refine' xG0 (P:=λN=>Mv st N d (d+l)/\vt κ (arrOf N) d (n+1)) (G:=_) (λkey=>?ka) (λN hP=>?kb)
   case ka=>
    by_cases wQ:n>1
    case pos=>
     rw[Zk wQ];refine Zx (zY H hk h0 'a' 'a' ?_);cases hb:κ.blt (KK κ (arrOf st) d) (KK κ (arrOf st) (d+n-1))
     case true=>exact ZC (h n st g1 L (Mv.refl _ _ _) Y)
     dsimp only;rw[Zi 'b'];refine Zx (Fu ?_);have J:=(Mv.refl st d (d+l)).rev (i:=d) (j:=d+n) (Zd _) (i9 L) (qK L O);have W:∀i,d<=i->i<d+n->KK κ (arrOf st) i=KK κ (arrOf st) (d+n-1):=λi a b=>
      KeyOrd.kle_antisymm (Y i (d+n-1) a (kl b) 'a') (ZV (show κ.kle _ _ from hb) (Y d i (Zd _) a b))
     have C:∀k,KK κ (arrOf (setArr st (mirror (arrOf st) d (d+n) ((d+n-d)/2)))) k=KK κ (arrOf st) k:=KK_mirror_equal (xs:=arrOf st) (qK L O) W;have M:vt κ (arrOf (setArr st (mirror (arrOf st) d (d+n) ((d+n-d)/2)))) d (n+1):=λi j a b c=>by
      rw[C,C];by_cases p:j=d+n
      ·by_cases u:i=d+n
       ·rw[u,p];exact Y6 _
       ·rw[p,W i a 'a'];exact Ye jA
      ·rw[W i a 'a',W j (ko a b) (qJ c p)];exact Y6 _
     generalize setArr st (mirror (arrOf st) d (d+n) ((d+n-d)/2))=N at J M ⊢;exact key N ⟨J,M⟩
    case neg=>
     rw[Zi wQ];have M:vt κ (arrOf st) d (n+1):=λi j a b c=>by
      by_cases e:i=j
      ·rw[e];exact Y6 _
      ·have U:i=d+n-1:=by lia
       have B:j=d+n:=by lia
       rw[U,B];exact Ye jA
     have J:=Mv.refl st d (d+l);exact key st ⟨J,M⟩
   case kb=>
    obtain⟨J,M⟩:=hP;refine Zx (UI (Y8 ⟨rfl,?_⟩));refine Zx (W1 (Xs (I:=λx c f=>∃q,c=(none,x,q)/\Mv st f d (d+l)/\n+1<=x/\x<=l/\vt κ (arrOf f) d x/\Il κ (arrOf f) d x q/\q+1<=x) (Q:=λc f=>∃m q,c=(none,m,q)/\Mv st f d (d+l)/\n+1<=m/\m<=l/\vt κ (arrOf f) d m/\Il κ (arrOf f) d m q/\q+1<=m) ?step ?fin ?init) ?post)
    case init=>
     refine⟨0,rfl,J,Zd _,oI L Z,M,λi a b=>?_,Ja⟩;rw[show i=d+(n+1)-1 by lia]
    case fin=>
     rintro c f ⟨q,rfl,r1,r2,r3,r4,r5,r6⟩;exact⟨_,q,rfl,r1,r2,r3,r4,r5,r6⟩
    case step=>
     rintro x c f a b ⟨q,rfl,r,c1,F,D,B,c3⟩;dsimp only;have vY:=r.kind.trans hk;have V:=Am h0 r.perm;have sz2:=r.size;refine Zx (zY H vY V 'a' 'a' ?_);cases hb:κ.blt (KK κ (arrOf f) (d+x)) (KK κ (arrOf f) (d+x-1))
     ·dsimp only;rw[Zi 'b'];refine Zx (zY H vY V 'a' 'a' ?_);cases kK:κ.blt (KK κ (arrOf f) (d+x-1)) (KK κ (arrOf f) (d+x))
      ·dsimp only;rw[Zi 'b'];have R:KK κ (arrOf f) (d+x)=KK κ (arrOf f) (d+x-1):=κ.total _ _ hb kK;refine ZC ⟨q+1,rfl,r,nN a,km b,λi j y v S=>?_,λi y v=>?_,t6 c3⟩
       ·by_cases p:j=d+x
        ·by_cases u:i=d+x
         ·rw[u,p];exact Y6 _
         ·rw[p,R];exact D i (d+x-1) y (IJ p v u) 'a'
        ·exact D i j y v (qJ S p)
       ·rw[show d+(x+1)-1=d+x by lia];by_cases u:i=d+x
        ·rw[u]
        ·rw[R];exact B i 'a' (qJ v u)
      ·exact ZC ⟨x,q,rfl,r,c1,F,D,B,c3⟩
     ·dsimp only;rw[Zk rfl];have nf:∀t:au,(∀k,KK κ (arrOf t) k=KK κ (arrOf f) k)->vt κ (arrOf t) d (x+1):=λt C i j y v S=>by
       rw[C,C];by_cases p:j=d+x
       ·by_cases u:i=d+x
        ·rw[u,p];exact Y6 _
        ·rw[p];exact ZV (Ye hb) (D i (d+x-1) y (IJ p v u) 'a')
       ·exact D i j y v (qJ S p)
      have ne:∀t:au,Il κ (arrOf t) d (x+1) 0:=λt i y v=>by rw[show i=d+(x+1)-1 by lia]
      by_cases g:q>0
      ·rw[Zk g];exact Zx (Fu (ZC ⟨0,rfl,r.rev 'a' 'a' 'a',nN a,km b,nf _ (OZ B 'a'),ne _,Ja⟩))
      ·rw[Zi g];exact ZC ⟨0,rfl,r,nN a,km b,nf _ (λ_=>rfl),ne _,Ja⟩
    case post=>
     rintro c f ⟨m,q,rfl,r,c1,F,D,B,c3⟩;dsimp only;have sz2:=r.size;by_cases g:q>0
     case' neg=>
      rw[Zi g];have K:=r;have X:=D;generalize f=t at K X ⊢
     case' pos=>
      rw[Zk g];refine Zx (Fu ?_);have K:=r.rev (i:=d+m-(q+1)) (j:=d+m) 'a' (i9 F) 'a';have C:=OZ B 'a';have X:vt κ (arrOf (setArr f (mirror (arrOf f) (d+m-(q+1)) (d+m) ((d+m-(d+m-(q+1)))/2)))) d m:=λi j y v S=>by rw[C,C];exact D i j y v S
      generalize setArr f (mirror (arrOf f) (d+m-(q+1)) (d+m) ((d+m-(d+m-(q+1)))/2))=t at K X ⊢
     all_goals
      refine Zx (Fu ?_);have T:=K.rev (i:=d) (j:=d+m) (Zd _) (i9 F) (by rw[K.size];exact qK F O);have o4:=xq4 X (by rw[K.size];exact qK F O);have Ng:=T.kind.trans hk;have NQ:=Am h0 T.perm;have z4:=T.size;generalize setArr t (mirror (arrOf t) d (d+m) ((d+m-d)/2))=nu at T o4 Ng NQ z4 ⊢;refine Zx (RJ H Ng NQ 'a' (show 1<=m by lia) F o4 (λk k1 k2 k3 _=>?_) _ (λx k Q' U B g=>?_))
      ·exact ZC (h k nu 'a' k2 T k3)
      ·refine Zx (zY H Ng NQ U 'a' ?_);cases hb:κ.blt (KK κ (arrOf nu) (d+k)) (KK κ (arrOf nu) (d+k-1))
       ·rw[hb]at g;exact ZC g
       ·rw[hb]at g;exact ZC g
 ·refine Zx (zY H hk h0 U 'a' ?_);cases hb:κ.blt (KK κ (arrOf st) (d+n)) (KK κ (arrOf st) (d+n-1))
  ·rw[hb]at g;exact ZC g
  ·rw[hb]at g;exact ZC g
end
def kv(κ:KeyKind)(p:Keyed):κ.α:=(κ.keyOf p.1).getD κ.dflt
def eS(κ:KeyKind)(l:List Keyed):Prop:=l.Pairwise λx y=>κ.kle (kv κ x) (kv κ y)
structure Mg(κ:KeyKind)(all out a b:List Keyed):Prop where
 perm:(out++(a++b)).Perm all
 so:eS κ out
 sa:eS κ a
 sb:eS κ b
 la:∀x∈out,∀y∈a,κ.kle (kv κ x) (kv κ y)
 lb:∀x∈out,∀y∈b,κ.kle (kv κ x) (kv κ y)
theorem Mg.nq{κ:KeyKind}{all out a b:List Keyed}{x:Keyed}(m:Mg κ all out (x::a) b)(h:∀y∈b,κ.kle (kv κ x) (kv κ y)):Mg κ all (out++[x]) a b where
 perm:=by simpa using m.perm
 so:=WM.mpr ⟨m.so,by simp,λp c q e=>by
  have:q=x:=by simpa using e
  rw[this];exact m.la p c x (by simp)⟩
 sa:=(XR.mp m.sa).2
 sb:=m.sb
 la:=λp c y d=>by
  rcases ZW.mp c with z|z
  ·exact m.la p z y (Zp _ d)
  ·have:p=x:=by simpa using z
   rw[this];exact(XR.mp m.sa).1 y d
 lb:=λp c y d=>by
  rcases ZW.mp c with z|z
  ·exact m.lb p z y d
  ·have:p=x:=by simpa using z
   rw[this];exact h y d
theorem Mg.swap{κ:KeyKind}{all out a b:List Keyed}(m:Mg κ all out a b):Mg κ all out b a where
 perm:=(VF out List.perm_append_comm).trans m.perm
 so:=m.so
 sa:=m.sb
 sb:=m.sa
 la:=m.lb
 lb:=m.la
theorem Mg.uP{κ:KeyKind}{all out a b:List Keyed}{x:Keyed}(m:Mg κ all out a (x::b))(h:∀y∈a,κ.kle (kv κ x) (kv κ y)):Mg κ all (out++[x]) a b:=(m.swap.nq h).swap
theorem Mg.xh{κ:KeyKind}{all out a:List Keyed}(m:Mg κ all out a []):(out++a).Perm all/\eS κ (out++a):=
 ⟨by simpa using m.perm,WM.mpr ⟨m.so,m.sa,m.la⟩⟩
theorem Mg.rR{κ:KeyKind}{all out a b:List Keyed}(m:Mg κ all out a b)(h:∀y∈b,∀x∈a,κ.kle (kv κ y) (kv κ x)):(out++(b++a)).Perm all/\eS κ (out++(b++a)):=
 ⟨m.swap.perm,WM.mpr ⟨m.so,WM.mpr ⟨m.sb,m.sa,h⟩,λx c y d=>(ZW.mp d).elim (m.lb x c y) (m.la x c y)⟩⟩
def xq6:Array Keyed->Array Keyed->StateT au Sem (Array Keyed):=sortPriv% PySem.Builtin.mergeLo
abbrev tE(st:au)(g:Nat):au:=SortSt.mk' (kindOf st) (arrOf st) (pendingOf st) g (failedOf st)
theorem Mg.iU{κ:KeyKind}{all b:List Keyed}:∀{c l a:List Keyed},Mg κ all c (l++a) b->(∀x∈l,∀y∈b,κ.kle (kv κ x) (kv κ y))->Mg κ all (c++l) a b
 |c,[],a,m,_=>by rw[XU];exact m
 |c,x::l,a,m,h=>by
  have:=(m.nq (λy e=>h x (by simp) y e)).iU (λz d=>h z (by simp[d]))
  rwa [YW]at this
theorem Mg.pA{κ:KeyKind}{all out l a b:List Keyed}(m:Mg κ all out a (l++b))(h:∀x∈l,∀y∈a,κ.kle (kv κ x) (kv κ y)):Mg κ all (out++l) a b:=(m.swap.iU h).swap
theorem Ci{p:Nat->Bool}:∀n:Nat,(∀i j,i<=j->j<n->p j=true->p i=true)->∃c,c<=n/\∀i,i<n->p i=decide (i<c)
 |0,_=>⟨0,Zd _,λi d=>absurd d (YB _)⟩
 |n+1,h=>by
  obtain⟨c,g,k⟩:=Ci n (λi j a b e=>h i j a (i_ b) e);cases e:p n with
  |true=>
   exact⟨n+1,Zd _,λi d=>by rw[h i n (t_ d) um e,Zo d]⟩
  |false=>
   refine⟨c,nN g,λi d=>?_⟩;by_cases f:i=n
   ·rw[f,e,Zm (fu g)]
   ·exact k i (qN d f)
theorem PY{a:Array Keyed}{i:Nat}(h:i<a.size):a.toList.drop i=a[i]::a.toList.drop (i+1):=by
 rw[XT (by simpa using h)];simp
theorem nB{κ:KeyKind}{a:Array Keyed}(h:KeysOf κ a){i:Nat}(b:i<a.size):κ.keyOf a[i].1=some (kv κ a[i]):=by
 obtain⟨x,e⟩:=h a[i] (by simp);rw[e];unfold kv;rw[e];rfl
theorem n8{κ:KeyKind}{a:Array Keyed}(h:eS κ a.toList){i j:Nat}(c:i<=j)(b:j<a.size):κ.kle (kv κ a[i]) (kv κ a[j]):=by
 rcases Ui c with z|z
 ·have:=Yy.mp h i j (by simp;exact kr z b) (by simpa using b) z;simpa using this
 ·subst z;exact Y6 _
theorem Ag{a:Array Keyed}{i:Nat}{x:Keyed}(h:x∈a.toList.drop i):∃j,∃c:j<a.size,i<=j/\a[j]=x:=by
 obtain⟨k,hk,e⟩:=Wb h;have b:i+k<a.size:=by simp at hk;lia
 exact⟨i+k,b,gT,by rw[<- e];simp⟩
theorem Sq{κ:KeyKind}{a:Array Keyed}(ka:KeysOf κ a)(sa:eS κ a.toList)(k:κ.α){base n:Nat}(d:base+n<=a.size):
  ∃c,c<=n/\(∀i,i<n->∃x y,a[base+i]?=some x/\κ.keyOf x.1=some y/\asks false k y=decide (i<c))/\∀i,(h:base+i<a.size)->i<n->(i<c->κ.kle (kv κ a[base+i]) k)/\(c<=i->κ.klt k (kv κ a[base+i])):=by
 have key:∀i,(h:base+i<a.size)->KK κ a (base+i)=kv κ a[base+i]:=λi h=>by unfold KK kv;rw[ZQ a _ h]
 obtain⟨c,m,f⟩:=Ci (p:=λi=>!κ.blt k (KK κ a (base+i))) n (λi j q l e=>by
  simp only[Vv]at e ⊢;rw[key _ 'a']at e ⊢;exact ZV (n8 sa (i9 q) (dZ l d)) e)
 refine⟨c,m,λi b=>⟨_,_,ZQ a _ (dZ b d),nB ka (dZ b d),?_⟩,λi h b=>⟨λg=>?_,λg=>?_⟩⟩
 ·rw[<- f i b,key i (dZ b d)];rfl
 ·have e:=f i b;rw[key i h,Zo g]at e;exact(Vv _).mp e
 ·have e:=f i b;rw[key i h,Zm (fu g)]at e;exact(Bool.not_eq_false' _).mp e
theorem RI{κ:KeyKind}{a:Array Keyed}(ka:KeysOf κ a)(sa:eS κ a.toList)(k:κ.α){base n:Nat}(d:base+n<=a.size):
  ∃c,c<=n/\(∀i,i<n->∃x y,a[base+i]?=some x/\κ.keyOf x.1=some y/\asks true k y=decide (i<c))/\∀i,(h:base+i<a.size)->i<n->(i<c->κ.klt (kv κ a[base+i]) k)/\(c<=i->κ.kle k (kv κ a[base+i])):=by
 have key:∀i,(h:base+i<a.size)->KK κ a (base+i)=kv κ a[base+i]:=λi h=>by unfold KK kv;rw[ZQ a _ h]
 obtain⟨c,m,f⟩:=Ci (p:=λi=>κ.blt (KK κ a (base+i)) k) n (λi j q l e=>by
  rw[key _ 'a']at e ⊢;exact KeyOrd.klt_of_kle_of_klt (n8 sa (i9 q) (dZ l d)) e)
 refine⟨c,m,λi b=>⟨_,_,ZQ a _ (dZ b d),nB ka (dZ b d),?_⟩,λi h b=>⟨λg=>?_,λg=>?_⟩⟩
 ·rw[<- f i b,key i (dZ b d)];rfl
 ·have e:=f i b;rw[key i h,Zo g]at e;exact e
 ·have e:=f i b;rw[key i h,Zm (fu g)]at e;exact e
def Mp(κ:KeyKind)(a b out:Array Keyed)(ia ib:Nat):Prop:=Mg κ (a.toList++b.toList) out.toList (a.toList.drop ia) (b.toList.drop ib)
abbrev Rd(κ:KeyKind)(a b out:Array Keyed):Prop:=out.toList.Perm (a.toList++b.toList)/\eS κ out.toList
section
variable{κ:KeyKind}{a b out:Array Keyed}{ia ib:Nat}
theorem Mp.ta(sb:eS κ b.toList)(m:Mp κ a b out ia ib)(d:ia<a.size)(f:ib<b.size)(h:κ.kle (kv κ a[ia]) (kv κ b[ib])):Mp κ a b (out.push a[ia]) (ia+1) ib:=by
 unfold Mp at m ⊢;rw[PY d]at m;rw[XB];refine m.nq λy e=>?_;obtain⟨j,c,h1,rfl⟩:=Ag e;exact ZV h (n8 sb h1 c)
theorem Mp.tb(sa:eS κ a.toList)(m:Mp κ a b out ia ib)(f:ia<a.size)(c:ib<b.size)(h:κ.kle (kv κ b[ib]) (kv κ a[ia])):Mp κ a b (out.push b[ib]) ia (ib+1):=by
 unfold Mp at m ⊢;rw[PY c]at m;rw[XB];refine m.uP λy e=>?_;obtain⟨j,d,h1,rfl⟩:=Ag e;exact ZV h (n8 sa h1 d)
theorem RH{a:Array Keyed}{i k:Nat}(h:i+k<=a.size):a.toList.drop i=(a.extract i (i+k)).toList++a.toList.drop (i+k):=by
 rw[X4,List.extract_eq_drop_take,<- UT,show i+k-i=k from mM,Xi]
theorem PX{a:Array Keyed}{i k:Nat}(h:i+k<=a.size){x:Keyed}(f:x∈(a.extract i (i+k)).toList):∃j,∃c:i+j<a.size,j<k/\a[i+j]=x:=by
 obtain⟨j,c,e⟩:=Wb f;have d:j<k:=by simp at c;lia
 exact⟨j,dZ d h,d,by rw[<- e];simp⟩
theorem Mp.as(sb:eS κ b.toList)(m:Mp κ a b out ia ib){k:Nat}(hk:ia+k<=a.size)(l:ib<b.size)(h:∀i,(c:ia+i<a.size)->i<k->κ.kle (kv κ a[ia+i]) (kv κ b[ib])):Mp κ a b (out++a.extract ia (ia+k)) (ia+k) ib:=by
 unfold Mp at m ⊢;rw[RH hk]at m;rw[Yk];refine m.iU λx g y f=>?_;obtain⟨i,c,e,rfl⟩:=PX hk g;obtain⟨j,d,h1,rfl⟩:=Ag f;exact ZV (h i c e) (n8 sb h1 d)
theorem Mp.bs(sa:eS κ a.toList)(m:Mp κ a b out ia ib){k:Nat}(hk:ib+k<=b.size)(l:ia<a.size)(h:∀i,(c:ib+i<b.size)->i<k->κ.kle (kv κ b[ib+i]) (kv κ a[ia])):Mp κ a b (out++b.extract ib (ib+k)) ia (ib+k):=by
 unfold Mp at m ⊢;rw[RH hk]at m;rw[Yk];refine m.pA λx e y g=>?_;obtain⟨i,c,f,rfl⟩:=PX hk e;obtain⟨j,d,h1,rfl⟩:=Ag g;exact ZV (h i c f) (n8 sa h1 d)
theorem G2{a:Array Keyed}{i:Nat}:(a.extract i a.size).toList=a.toList.drop i:=by
 rw[X4,List.extract_eq_drop_take,XI (by simp)]
theorem Mp.done(m:Mp κ a b out ia ib)(h:ib=b.size):Rd κ a b (out++a.extract ia a.size++b.extract ib b.size):=by
 unfold Mp at m;have e:b.toList.drop ib=[]:=by rw[h];simp
 rw[e]at m;show(out++a.extract ia a.size++b.extract ib b.size).toList.Perm _/\eS κ (out++a.extract ia a.size++b.extract ib b.size).toList;rw[Yk,Yk,G2,G2,e,XU];exact m.xh
def ap1{α:Type}{c:Type _}(f:α->c)(x:α):c:=f x
def ap2{α d:Type}{c:Type _}(f:α->d->c)(x:α)(y:d):c:=f x y
theorem gG{M:Model}{A:aj}{E:aa->ab->Prop}{s:ab}{σ α:Type}{c:Prop}[Decidable c]{x y:StateT σ Sem α}{Q:α->σ->Prop}{st:σ}(h:c)(k:wpS M A E s x Q st):wpS M A E s (if c then x else y) Q st:=by rw[Zk h];exact k
theorem gb{M:Model}{A:aj}{E:aa->ab->Prop}{s:ab}{σ α:Type}{c:Prop}[Decidable c]{x y:StateT σ Sem α}{Q:α->σ->Prop}{st:σ}(h:¬c)(k:wpS M A E s y Q st):wpS M A E s (if c then x else y) Q st:=by rw[Zi h];exact k
theorem zX{M:Model}{A:aj}{E:aa->ab->Prop}{s:ab}{σ α:Type}{c:Prop}[Decidable c]{x y:StateT σ Sem α}{Q:α->σ->Prop}{st:σ}(h:c->wpS M A E s x Q st)(k:¬c->wpS M A E s y Q st):wpS M A E s (if c then x else y) Q st:=
 if e:c then gG e (h e)else gb e (k e)
theorem Af{M:Model}{A:aj}{E:aa->ab->Prop}{s:ab}{σ d h:Type}{a b:Nat}{f:Nat->d->StateT σ Sem (ForInStep d)}{k:d->StateT σ Sem h}{j:h->σ->Prop}(I:Nat->d->σ->Prop){Q:d->σ->Prop}
  (step:∀(i:Nat)(c:d)(st:σ),a<=i->i<b->I i c st->wpS M A E s (ap2 f i c) (λr g=>match r with|ForInStep.done e=>Q e g|ForInStep.yield e=>I (i+1) e g) st)
  (fin:∀(c:d)(st:σ),I (max a b) c st->Q c st){c:d}{st:σ}(init:I a c st) (post:∀e g,Q e g->wpS M A E s (ap1 k e) j g):wpS M A E s (forIn [a:b] c f >>= k) j st:=Zx (W1 (Xs I step fin init) post)
theorem OY{c:Prop}{P G:Nat->Prop}(a:(∀m,P m->G m)->c)(b:∀m,P m->G m):c:=a b
theorem xG1{c:Prop}{P G:Nat->Array Keyed->Prop}(a:(∀m o,P m o->G m o)->c)(b:∀m o,P m o->G m o):c:=a b
theorem Mp.last(m:Mp κ a b out ia ib)(na:0<a.size)(d:∀j,(c:j<b.size)->κ.klt (kv κ b[j]) (kv κ a[a.size-1]))(h:ia+1=a.size):Rd κ a b (out++b.extract ib b.size++a.extract ia a.size):=by
 show(out++b.extract ib b.size++a.extract ia a.size).toList.Perm _/\eS κ (out++b.extract ib b.size++a.extract ia a.size).toList;rw[Yk,Yk,G2,G2,YW];refine Mg.rR m λy e x f=>?_;obtain⟨i,k,g,rfl⟩:=Ag f;obtain⟨j,c,_,rfl⟩:=Ag e;have:i=a.size-1:=by lia
 subst this;exact Ye (d j c)
end
def md(κ:KeyKind)(a b:Array Keyed)(st:au)(x:Nat)(out:Array Keyed)(ia ib:Nat)(c:au):Prop:=(∃g,c=tE st g)/\Mp κ a b out ia ib/\ia+1<a.size/\ib<b.size/\x<=ia+ib
def A6(κ:KeyKind)(a b:Array Keyed)(st:au)(o:Option (Array Keyed))(c:au):Prop:=∃r,o=some r/\(∃g,c=tE st g)/\Rd κ a b r
theorem md.of{κ:KeyKind}{a b out:Array Keyed}{st:au}{x g ia ib:Nat}(m:Mp κ a b out ia ib)(h1:ia+1<a.size)(d:ib<b.size)(c:x<=ia+ib):md κ a b st x out ia ib (tE st g):=⟨⟨g,rfl⟩,m,h1,d,c⟩
theorem md.mono{κ:KeyKind}{a b out:Array Keyed}{st c:au}{x y ia ib:Nat}(j:md κ a b st x out ia ib c)(h:y<=x):md κ a b st y out ia ib c:=⟨j.1,j.2.1,j.2.2.1,j.2.2.2.1,ZF h j.2.2.2.2⟩
section
variable{κ:KeyKind}
theorem qT5{kd:SortKind}(hO:pk prog w A s κ kd){st:au}{a b:Array Keyed}{Q:Array Keyed->au->Prop}(AR:kindOf st=kd)(ka:KeysOf κ a)(kb:KeysOf κ b)(sa:eS κ a.toList)(sb:eS κ b.toList)
  (na:0<a.size) (nb:0<b.size) (h1:κ.klt (kv κ b[0]) (kv κ a[0])) (L:∀j,(hj:j<b.size)->κ.klt (kv κ b[j]) (kv κ a[a.size-1]))
  (h:∀out g,Rd κ a b out->Q out (tE st g)):wpS (ah prog w) A E s (xq6 a b) Q st:=by
 have hk:∀g,kindOf (tE st g)=kd:=λg=>AR;refine Zx (UI (Y8 ⟨rfl,?_⟩));refine Zx (hG (ZQ b 0 nb) ?_);have K:Mp κ a b #[b[0]] 0 1:=by
  refine Mp.tb (out:=#[]) (ib:=0) sa ⟨by simp,by simp[eS],by simpa using sa,by simpa using sb,by simp,by simp⟩ na nb (Ye h1)
 by_cases Y:1=b.size
 ·exact gG (by simp[<- Y]) (ZC (h _ (gallopOf st) (K.done Y)))
 refine gb (by simpa using Y) ?_;by_cases q:0+1=a.size
 ·exact gG (by simp[<- q]) (ZC (h _ (gallopOf st) (K.last na L q)))
 refine gb (by simpa using q) ?_;refine Zx (VJ ?_);refine Af (I:=λx c l=>md κ a b st x c.2.1 c.2.2.1 c.2.2.2.1 l) (Q:=λc l=>A6 κ a b st c.1 l) ?step ?fin (md.of (g:=gallopOf st) (ia:=0) (ib:=1) K (Fi na q) 'a' gT) ?post
 case post=>
  rintro⟨v,O⟩ l ⟨r,e,⟨g,rfl⟩,D⟩;cases(show v=some r from e);exact ZC (h r g D)
 case fin=>
  rintro c l ⟨_,m,p,f,u⟩;lia
 case step=>
  rintro x c l _ hx ⟨⟨g,rfl⟩,K,p,f,u⟩;refine Af (I:=λy c l=>md κ a b st (x+y) c.2.1 c.2.2.1 c.2.2.2.1 l) (Q:=λc l=>c.1=none/\md κ a b st (x+1) c.2.1 c.2.2.1 c.2.2.2.1 l\/A6 κ a b st c.1 l) ?step ?fin (md.of (g:=g) K p f 'a') ?post
  case fin=>
   rintro c l ⟨_,m,p,f,u⟩;lia
  case step=>
   rintro y c l _ hy ⟨⟨g,rfl⟩,m,p,f,u⟩;refine Zx (hG (ZQ b c.2.2.2.1 f) ?_);refine Zx (hG (ZQ a c.2.2.1 (eO p)) ?_);refine Zx (CG hO (hk g) (nB kb f) (nB ka (eO p)) ?_);by_cases hb:κ.blt (kv κ b[c.2.2.2.1]) (kv κ (a[c.2.2.1]'(eO p)))=true
   ·refine gG hb ?_;refine Zx (hG (ZQ b c.2.2.2.1 f) ?_);have C:=m.tb sa (eO p) f (Ye hb);by_cases q:c.2.2.2.1+1=b.size
    ·exact gG (by simp[q]) (ZC (.inr ⟨_,rfl,⟨_,rfl⟩,C.done q⟩))
    have j:=md.of (st:=st) (g:=g) (x:=x+(y+1)) C p (Fi f q) 'a';exact gb (by simp[q]) (zX (λ_=>ZC (.inl ⟨rfl,j.mono t8⟩)) λ_=>ZC j)
   ·refine gb hb ?_;refine Zx (hG (ZQ a c.2.2.1 (eO p)) ?_);have C:=m.ta sb (eO p) f (eq_false_of_ne_true hb);by_cases q:c.2.2.1+1+1=a.size
    ·exact gG (by simp[q]) (ZC (.inr ⟨_,rfl,⟨_,rfl⟩,C.last na L q⟩))
    have j:=md.of (st:=st) (g:=g) (x:=x+(y+1)) C (Fi p q) f 'a';exact gb (by simp[q]) (zX (λ_=>ZC (.inl ⟨rfl,j.mono t8⟩)) λ_=>ZC j)
  case post=>
   rintro⟨v,O⟩ l (⟨e,⟨g,rfl⟩,m,p,f,u⟩|⟨r,e,W,D⟩)
   ·cases(show v=none from e);refine Zx (UI (Y8 ⟨rfl,?_⟩));refine Af (I:=λy c l=>md κ a b st (x+1+y) c.2.1 c.2.2.1 c.2.2.2.1 l) (Q:=λc l=>c.1=none/\md κ a b st (x+1) c.2.1 c.2.2.1 c.2.2.2.1 l\/A6 κ a b st c.1 l) ?step ?fin (md.of (g:=g) m p f u) ?post
    case fin=>
     rintro c l ⟨_,m,p,f,u⟩;lia
    case post=>
     rintro⟨v,O⟩ l (⟨e,⟨g,rfl⟩,m,p,f,u⟩|⟨r,e,W,D⟩)
     ·cases(show v=none from e);exact Zx (X8 (ZC ⟨⟨_,rfl⟩,m,p,f,u⟩))
     ·cases(show v=some r from e);exact ZC ⟨r,rfl,W,D⟩
    case step=>
     rintro y c l _ hy ⟨⟨g,rfl⟩,C,p,f,u⟩;refine' OY (P:=λ_=>True) (G:=_) (λkey=>?ka) (λm _=>?kb)
     case ka=>
      by_cases H:c.2.2.2.2.1>1
      case neg=>
       refine gb H ?_;generalize c.2.2.2.2.1=mg;exact key mg trivial
      case pos=>exact gG H (key _ trivial)
     case kb=>
      refine Zx (X8 ?_);refine Zx (hG (ZQ b c.2.2.2.1 f) ?_);obtain⟨k,v,O,N⟩:=Sq ka sa (kv κ b[c.2.2.2.1]) (base:=c.2.2.1) (n:=a.size-c.2.2.1) 'a';refine Zx (Ao hO (hk m) (nB kb f) O 'a' v ?_);have V:k<a.size-c.2.2.1:=by
       rcases Nat.lt_or_ge k (a.size-c.2.2.1)with z|z
       ·exact z
       ·have:=(N (a.size-1-c.2.2.1) 'a' 'a').1 'a';have e:a[c.2.2.1+(a.size-1-c.2.2.1)]'(by lia)=a[a.size-1]:=by congr 1;lia
        rw[e]at this;exact absurd (L c.2.2.2.1 f) (VG this)
      refine' xG1 (P:=λt qo=>∃B:t+1<a.size,c.2.2.1<=t/\Mp κ a b qo t c.2.2.2.1/\κ.klt (kv κ (b[c.2.2.2.1]'f)) (kv κ (a[t]'(eO B)))) (G:=_) (λkey=>?kc) (λt qo hP=>?kd)
      case kc=>
       by_cases H:k>0
       case neg=>
        refine gb H ?_;have F:κ.klt (kv κ b[c.2.2.2.1]) (kv κ a[c.2.2.1]):=(N 0 'a' (ua V)).2 'a';have S:=key c.2.2.1 c.2.1 ⟨p,Zd _,C,F⟩;generalize c.2.2.1=ia at S ⊢;generalize c.2.1=out at S ⊢;exact S
       case pos=>
        refine gG H ?_;have R:=C.as sb (k:=k) 'a' f (λi T J=>(N i T (kr J V)).1 J);have F:κ.klt (kv κ b[c.2.2.2.1]) (kv κ a[c.2.2.1+k]):=(N k 'a' V).2 (Zd _);by_cases e2:c.2.2.1+k+1=a.size
        ·exact gG (by simp[e2]) (ZC (.inr ⟨_,rfl,⟨_,rfl⟩,R.last na L e2⟩))
        exact gb (by simp[e2]) (gb (by simp;lia) (key _ _ ⟨by lia,gT,R,F⟩))
      case kd=>
       obtain⟨B,wG,R,F⟩:=hP;refine Zx (hG (ZQ b c.2.2.2.1 f) ?_);have U:=R.tb sa (eO B) f (Ye F);by_cases e3:c.2.2.2.1+1=b.size
       ·exact gG (by simp[e3]) (ZC (.inr ⟨_,rfl,⟨_,rfl⟩,U.done e3⟩))
       refine gb (by simp[e3]) ?_;refine Zx (hG (ZQ a t (eO B)) ?_);obtain⟨d,d1,d2,Z⟩:=RI kb sb (kv κ a[t]) (base:=c.2.2.2.1+1) (n:=b.size-(c.2.2.2.1+1)) 'a';refine Zx (Ao hO (hk m) (nB ka (eO B)) d2 'a' d1 ?_);by_cases hd:d>0
       case' neg=>
        refine gb hd ?_;have m4:=U;have q4:κ.kle (kv κ a[t]) (kv κ b[c.2.2.2.1+1]):=(Z 0 'a' 'a').2 'a'
       case' pos=>
        refine gG hd ?_;have m4:=U.bs sa (k:=d) 'a' (eO B) (λi T Ea=>Ye ((Z i T (uk Ea d1)).1 Ea));by_cases X:c.2.2.2.1+1+d=b.size
        ·exact gG (by simp[X]) (ZC (.inr ⟨_,rfl,⟨_,rfl⟩,m4.done X⟩))
        refine gb (by simp[X]) ?_;have q4:κ.kle (kv κ a[t]) (kv κ b[c.2.2.2.1+1+d]):=(Z d 'a' 'a').2 (Zd _)
       all_goals
        refine Zx (hG (ZQ a t (eO B)) ?_);have m5:=m4.ta sb (eO B) 'a' q4;by_cases M:t+1+1=a.size
        ·exact gG (by simp[M]) (ZC (.inr ⟨_,rfl,⟨_,rfl⟩,m5.last na L M⟩))
        have j:=md.of (st:=st) (g:=m) (x:=x+1+(y+1)) m5 (Fi B M) 'a' 'a';exact gb (by simp[M]) (zX (λ_=>ZC (.inl ⟨rfl,j.mono gT⟩)) λ_=>ZC j)
   ·cases(show v=some r from e);exact ZC ⟨r,rfl,W,D⟩
end
def xq7:Array Keyed->Array Keyed->StateT au Sem (Array Keyed):=sortPriv% PySem.Builtin.mergeHi
def Jz(κ:KeyKind):KeyKind where
 α:=κ.α
 blt:=λa b=>κ.blt b a
 irrefl:=κ.irrefl
 trans:=λa b c h1 d=>κ.trans _ _ _ d h1
 negTrans:=λa b c h=>(κ.negTrans _ b _ h).symm
 total:=λa b h1 d=>κ.total _ _ d h1
 keyOf:=κ.keyOf
 dflt:=κ.dflt
theorem RG{κ:KeyKind}{l:List Keyed}(h:eS (Jz κ) l):eS κ l.reverse:=List.pairwise_reverse.mpr h
theorem So{κ:KeyKind}{l:List Keyed}(h:eS κ l):eS (Jz κ) l.reverse:=List.pairwise_reverse.mpr h
theorem PV{a:Array Keyed}{n:Nat}(h:n<a.size):(a.toList.take (n+1)).reverse=a[n]::(a.toList.take n).reverse:=by
 rw[YM (by simpa using h),Wc];simp
theorem Ae{a:Array Keyed}{n:Nat}{x:Keyed}(h:x∈(a.toList.take n).reverse):∃j,∃c:j<a.size,j<n/\a[j]=x:=by
 obtain⟨k,hk,e⟩:=Wb (List.mem_reverse.mp h);have b:k<n/\k<a.size:=by simp at hk;lia
 exact⟨k,b.2,b.1,by rw[<- e];simp⟩
theorem RF{a:Array Keyed}{i n:Nat}(h:i<=n)(b:n<=a.size):(a.toList.take n).reverse=(a.extract i n).reverse.toList++(a.toList.take i).reverse:=by
 rw[WN,X4,List.extract_eq_drop_take,<- Wc,<- List.take_add,show i+(n-i)=n from t7 h]
theorem RE{a:Array Keyed}{i n:Nat}(f:n<=a.size){x:Keyed}(d:x∈(a.extract i n).reverse.toList):∃j,∃b:j<a.size,i<=j/\j<n/\a[j]=x:=by
 rw[WN]at d;obtain⟨j,b,e⟩:=Wb (List.mem_reverse.mp d);have c:i+j<n:=by simp at b;lia
 exact⟨i+j,uk c f,gT,c,by rw[<- e];simp⟩
theorem GZ{a:Array Keyed}{n:Nat}:(a.extract 0 n).toList=a.toList.take n:=by
 rw[X4,List.extract_eq_drop_take];simp
def Hp(κ:KeyKind)(a b out:Array Keyed)(na nb:Nat):Prop:=Mg (Jz κ) (a.toList++b.toList) out.toList (a.toList.take na).reverse (b.toList.take nb).reverse
section
variable{κ:KeyKind}{a b out:Array Keyed}{na nb:Nat}
theorem Hp.ta(m:Hp κ a b out (na+1) nb)(d:na<a.size)(h:∀j,(c:j<b.size)->j<nb->κ.kle (kv κ b[j]) (kv κ a[na])):Hp κ a b (out.push a[na]) na nb:=by
 unfold Hp at m ⊢;rw[PV d]at m;rw[XB];refine m.nq λy e=>?_;obtain⟨j,c,h1,rfl⟩:=Ae e;exact h j c h1
theorem Hp.tb(m:Hp κ a b out na (nb+1))(d:nb<b.size)(h:∀j,(c:j<a.size)->j<na->κ.kle (kv κ a[j]) (kv κ b[nb])):Hp κ a b (out.push b[nb]) na nb:=by
 unfold Hp at m ⊢;rw[PV d]at m;rw[XB];refine m.uP λy e=>?_;obtain⟨j,c,h1,rfl⟩:=Ae e;exact h j c h1
theorem Hp.as(m:Hp κ a b out na nb){k:Nat}(hk:k<=na)(e:na<=a.size)(h:∀i j,(c:i<a.size)->(d:j<b.size)->k<=i->i<na->j<nb->κ.kle (kv κ b[j]) (kv κ a[i])):Hp κ a b (out++(a.extract k na).reverse) k nb:=by
 unfold Hp at m ⊢;rw[RF hk e]at m;rw[Yk];refine m.iU λx g y n=>?_;obtain⟨i,c,l,f,rfl⟩:=RE e g;obtain⟨j,d,h1,rfl⟩:=Ae n;exact h i j c d l f h1
theorem Hp.bs(m:Hp κ a b out na nb){k:Nat}(hk:k<=nb)(e:nb<=b.size)(h:∀i j,(c:i<b.size)->(d:j<a.size)->k<=i->i<nb->j<na->κ.kle (kv κ a[j]) (kv κ b[i])):Hp κ a b (out++(b.extract k nb).reverse) na k:=by
 unfold Hp at m ⊢;rw[RF hk e]at m;rw[Yk];refine m.pA λx g y n=>?_;obtain⟨i,c,l,f,rfl⟩:=RE e g;obtain⟨j,d,h1,rfl⟩:=Ae n;exact h i j c d l f h1
theorem Hp.done(m:Hp κ a b out na nb)(h:na=0):Rd κ a b (a.extract 0 na++b.extract 0 nb++out.reverse):=by
 unfold Hp at m;subst h;have e:=m.swap.xh;have z:(a.extract 0 0++b.extract 0 nb++out.reverse).toList=(out.toList++(b.toList.take nb).reverse).reverse:=by
  rw[Yk,Yk,GZ,GZ,WN,Wc];simp
 show(a.extract 0 0++b.extract 0 nb++out.reverse).toList.Perm _/\eS κ (a.extract 0 0++b.extract 0 nb++out.reverse).toList;rw[z];exact⟨(Vw _).trans e.1,RG e.2⟩
theorem Hp.first(m:Hp κ a b out na nb)(sa:eS κ a.toList)(l:0<a.size)(hb:0<b.size)(h1:κ.klt (kv κ b[0]) (kv κ a[0]))(h:nb=1):Rd κ a b (b.extract 0 nb++a.extract 0 na++out.reverse):=by
 unfold Hp at m;subst h;have e:=m.swap.rR λy f x g=>by
  obtain⟨i,d,_,rfl⟩:=Ae f;obtain⟨j,k,c,rfl⟩:=Ae g;have:j=0:=by exact Jd c
  subst this;have q:κ.kle (kv κ b[0]) (kv κ a[i]):=ZV (Ye h1) (n8 sa (Zs i) d);exact q
 have z:(b.extract 0 1++a.extract 0 na++out.reverse).toList=(out.toList++((a.toList.take na).reverse++(b.toList.take 1).reverse)).reverse:=by
  rw[Yk,Yk,GZ,GZ,WN,Wc,Wc];simp
 show(b.extract 0 1++a.extract 0 na++out.reverse).toList.Perm _/\eS κ (b.extract 0 1++a.extract 0 na++out.reverse).toList;rw[z];exact⟨(Vw _).trans e.1,RG e.2⟩
end
theorem Hp.JT{κ:KeyKind}{a b out:Array Keyed}{na nb:Nat}(sb:eS κ b.toList)(m:Hp κ a b out na nb)(h0:0<na)(c:na<=a.size)(h1:0<nb)(d:nb<=b.size)(h:κ.kle (kv κ (b[nb-1]'(fe h1 d))) (kv κ (a[na-1]'(fe h0 c)))):Hp κ a b (out.push (a[na-1]'(fe h0 c))) (na-1) nb:=by
 refine Hp.ta (na:=na-1) (by rw[show na-1+1=na from qP h0];exact m) (fe h0 c) λj f e=>?_;exact ZV (n8 sb (show j<=nb-1 from kl e) (fe h1 d)) h
theorem Hp.Q5{κ:KeyKind}{a b out:Array Keyed}{na nb:Nat}(sa:eS κ a.toList)(m:Hp κ a b out na nb)(h0:0<na)(d:na<=a.size)(h1:0<nb)(c:nb<=b.size)(h:κ.kle (kv κ (a[na-1]'(fe h0 d))) (kv κ (b[nb-1]'(fe h1 c)))):Hp κ a b (out.push (b[nb-1]'(fe h1 c))) na (nb-1):=by
 refine Hp.tb (nb:=nb-1) (by rw[show nb-1+1=nb from qP h1];exact m) (fe h1 c) λj f e=>?_;exact ZV (n8 sa (show j<=na-1 from kl e) (fe h0 d)) h
theorem xG3{d:Prop}{P:Nat->Array Keyed->Prop}{G:Nat->Array Keyed->Nat->Prop}(a:(∀m o c,P m o->G m o c)->d)(b:∀m o c,P m o->G m o c):d:=a b
def mi(κ:KeyKind)(a b:Array Keyed)(st:au)(x na nb:Nat)(out:Array Keyed)(c:au):Prop:=(∃g,c=tE st g)/\Hp κ a b out na nb/\0<na/\na<=a.size/\1<nb/\nb<=b.size/\x+na+nb<=a.size+b.size
theorem mi.of{κ:KeyKind}{a b out:Array Keyed}{st:au}{x g na nb:Nat}(m:Hp κ a b out na nb)(h1:0<na)(d:na<=a.size)(e:1<nb)(f:nb<=b.size)(c:x+na+nb<=a.size+b.size):mi κ a b st x na nb out (tE st g):=⟨⟨g,rfl⟩,m,h1,d,e,f,c⟩
theorem mi.mono{κ:KeyKind}{a b out:Array Keyed}{st c:au}{x y na nb:Nat}(j:mi κ a b st x na nb out c)(h:y<=x):mi κ a b st y na nb out c:=by
 obtain⟨i,k,d,g,f,e,l⟩:=j;exact⟨i,k,d,g,f,e,by lia⟩
section
variable{κ:KeyKind}
theorem qT6{kd:SortKind}(hO:pk prog w A s κ kd){st:au}{a b:Array Keyed}{Q:Array Keyed->au->Prop}(AR:kindOf st=kd)(ka:KeysOf κ a)(kb:KeysOf κ b)(sa:eS κ a.toList)(sb:eS κ b.toList)
  (pa:0<a.size) (pb:0<b.size) (h1:κ.klt (kv κ b[0]) (kv κ a[0])) (h2:∀j,(hj:j<b.size)->κ.klt (kv κ b[j]) (kv κ a[a.size-1]))
  (h:∀out g,Rd κ a b out->Q out (tE st g)):wpS (ah prog w) A E s (xq7 a b) Q st:=by
 have hk:∀g,kindOf (tE st g)=kd:=λg=>AR;have H:∀{i j:Nat},i=j->(i==j)=true:=λe=>XC.mpr e;have F:∀{i j:Nat},i≠j->¬(i==j)=true:=λe z=>e (XC.mp z);refine Zx (UI (Y8 ⟨rfl,?_⟩));refine Zx (hG (ZQ a (a.size-1) (gJ pa)) ?_);have S:Hp κ a b #[a[a.size-1]] (a.size-1) b.size:=by
  refine Hp.JT (out:=#[]) sb ⟨by simp only[Array.toList_empty,VS];rw[XI (by simp),XI (by simp)];exact(Vw _).append (Vw _),by simp[eS],?_,?_,by simp,by simp⟩ pa (Zd _) pb (Zd _) (Ye (h2 _ (gJ pb)))
  ·rw[XI (by simp)];exact So sa
  ·rw[XI (by simp)];exact So sb
 by_cases V:a.size-1=0
 ·exact gG (H V) (ZC (h _ (gallopOf st) (S.done V)))
 refine gb (F V) ?_;by_cases C:b.size=1
 ·exact gG (H C) (ZC (h _ (gallopOf st) (S.first sa pa pb h1 C)))
 refine gb (F C) ?_;refine Zx (VJ ?_);refine Af (I:=λx c t=>mi κ a b st x c.2.1 c.2.2.1 c.2.2.2.1 t) (Q:=λc t=>A6 κ a b st c.1 t) ?step ?fin (mi.of (g:=gallopOf st) (na:=a.size-1) (nb:=b.size) S (qT V) 'a' 'a' uc 'a') ?post
 case post=>
  rintro⟨v,L⟩ t ⟨r,e,⟨g,rfl⟩,M⟩;cases(show v=some r from e);exact ZC (h r g M)
 case fin=>
  rintro c t ⟨_,m,q,f,p,l,D⟩;lia
 case step=>
  rintro x c t _ hx ⟨⟨g,rfl⟩,S,q,f,p,l,D⟩;refine Af (I:=λy c t=>mi κ a b st (x+y) c.2.1 c.2.2.1 c.2.2.2.1 t) (Q:=λc t=>c.1=none/\mi κ a b st (x+1) c.2.1 c.2.2.1 c.2.2.2.1 t\/A6 κ a b st c.1 t) ?step ?fin (mi.of (g:=g) S q f p l 'a') ?post
  case fin=>
   rintro c t ⟨_,m,q,f,p,l,D⟩;lia
  case step=>
   rintro y c t _ hy ⟨⟨g,rfl⟩,m,q,f,p,l,D⟩;refine Zx (hG (ZQ b (c.2.2.1-1) (fe p l)) ?_);refine Zx (hG (ZQ a (c.2.1-1) (fe q f)) ?_);refine Zx (CG hO (hk g) (nB kb (fe p l)) (nB ka (fe q f)) ?_);by_cases hb:κ.blt (kv κ (b[c.2.2.1-1]'(fe p l))) (kv κ (a[c.2.1-1]'(fe q f)))=true
   ·refine gG hb ?_;refine Zx (hG (ZQ a (c.2.1-1) (fe q f)) ?_);have J:=m.JT sb q f (ua p) l (Ye hb);by_cases C:c.2.1-1=0
    ·exact gG (H C) (ZC (.inr ⟨_,rfl,⟨_,rfl⟩,J.done C⟩))
    have j:=mi.of (st:=st) (g:=g) (x:=x+(y+1)) J (qT C) (uf f) p l 'a';exact gb (F C) (zX (λ_=>ZC (.inl ⟨rfl,j.mono t8⟩)) λ_=>ZC j)
   ·refine gb hb ?_;refine Zx (hG (ZQ b (c.2.2.1-1) (fe p l)) ?_);have J:=m.Q5 sa q f (ua p) l (eq_false_of_ne_true hb);by_cases C:c.2.2.1-1=1
    ·exact gG (H C) (ZC (.inr ⟨_,rfl,⟨_,rfl⟩,J.first sa pa pb h1 C⟩))
    have j:=mi.of (st:=st) (g:=g) (x:=x+(y+1)) J q f 'a' (uf l) 'a';exact gb (F C) (zX (λ_=>ZC (.inl ⟨rfl,j.mono t8⟩)) λ_=>ZC j)
  case post=>
   rintro⟨v,L⟩ t (⟨e,⟨g,rfl⟩,m,q,f,p,l,D⟩|⟨r,e,hg,M⟩)
   ·cases(show v=none from e);refine Zx (UI (Y8 ⟨rfl,?_⟩));refine Af (I:=λy c t=>mi κ a b st (x+1+y) c.2.1 c.2.2.1 c.2.2.2.1 t) (Q:=λc t=>c.1=none/\mi κ a b st (x+1) c.2.1 c.2.2.1 c.2.2.2.1 t\/A6 κ a b st c.1 t) ?step ?fin (mi.of (g:=g) m q f p l D) ?post
    case fin=>
     rintro c t ⟨_,m,q,f,p,l,D⟩;lia
    case post=>
     rintro⟨v,L⟩ t (⟨e,⟨g,rfl⟩,m,q,f,p,l,D⟩|⟨r,e,hg,M⟩)
     ·cases(show v=none from e);exact Zx (X8 (ZC ⟨⟨_,rfl⟩,m,q,f,p,l,D⟩))
     ·cases(show v=some r from e);exact ZC ⟨r,rfl,hg,M⟩
    case step=>
     rintro y c t _ hy ⟨⟨g,rfl⟩,J,q,f,p,l,D⟩;refine' OY (P:=λ_=>True) (G:=_) (λkey=>?ka) (λm _=>?kb)
     case ka=>
      by_cases O:c.2.2.2.2.1>1
      case neg=>
       refine gb O ?_;generalize c.2.2.2.2.1=mg;exact key mg trivial
      case pos=>exact gG O (key _ trivial)
     case kb=>
      refine Zx (X8 ?_);refine Zx (hG (ZQ b (c.2.2.1-1) (fe p l)) ?_);obtain⟨k,v,L,c0⟩:=Sq ka sa (kv κ (b[c.2.2.1-1]'(fe p l))) (base:=0) (n:=c.2.1) 'a';have R:∀i,(K:i<a.size)->i<c.2.1->(i<k->κ.kle (kv κ a[i]) (kv κ (b[c.2.2.1-1]'(fe p l))))/\(k<=i->κ.klt (kv κ (b[c.2.2.1-1]'(fe p l))) (kv κ a[i])):=λi K Z=>by
       have:=c0 i 'a' Z;simp only[Nat.zero_add]at this;exact this
      refine Zx (Ao hO (hk m) (nB kb (fe p l)) L (gJ q) v ?_);refine' xG3 (P:=λu qo=>∃B:0<u/\u<=c.2.1,Hp κ a b qo u c.2.2.1/\κ.kle (kv κ (a[u-1]'(hZ f B))) (kv κ (b[c.2.2.1-1]'(fe p l)))) (G:=_) (λkey=>?kc) (λu qo cn hP=>?kd)
      case kc=>
       by_cases O:c.2.1-k>0
       case neg=>
        refine gb O ?_;have N:κ.kle (kv κ (a[c.2.1-1]'(fe q f))) (kv κ (b[c.2.2.1-1]'(fe p l))):=(R (c.2.1-1) (fe q f) (gJ q)).1 'a';have U:=key c.2.1 c.2.2.2.1 (c.2.1-k) ⟨⟨q,Zd _⟩,J,N⟩;generalize c.2.1-k=cn at U ⊢;generalize c.2.1=na at U ⊢;generalize c.2.2.2.1=out at U ⊢;exact U
       case pos=>
        refine gG O ?_;have Y:=J.as (k:=k) v f (λi j K hj z1 z2 z3=>ZV (n8 sb (show j<=c.2.2.1-1 from kl z3) (fe p l)) (Ye ((R i K z2).2 z1)));by_cases X:k=0
        ·exact gG (H X) (ZC (.inr ⟨_,rfl,⟨_,rfl⟩,Y.done X⟩))
        have N:κ.kle (kv κ (a[k-1]'(by lia))) (kv κ (b[c.2.2.1-1]'(fe p l))):=(R (k-1) 'a' 'a').1 'a';exact gb (F X) (key k _ (c.2.1-k) ⟨⟨qT X,v⟩,Y,N⟩)
      case kd=>
       obtain⟨B,Y,N⟩:=hP;refine Zx (hG (ZQ b (c.2.2.1-1) (fe p l)) ?_);have m3:=Y.Q5 sa 'a' 'a' (ua p) l N;by_cases e3:c.2.2.1-1=1
       ·exact gG (H e3) (ZC (.inr ⟨_,rfl,⟨_,rfl⟩,m3.first sa pa pb h1 e3⟩))
       refine gb (F e3) ?_;refine Zx (hG (ZQ a (u-1) (hZ f B)) ?_);obtain⟨d,d1,d2,d0⟩:=RI kb sb (kv κ (a[u-1]'(hZ f B))) (base:=0) (n:=c.2.2.1-1) 'a';have W:∀i,(K:i<b.size)->i<c.2.2.1-1->(i<d->κ.klt (kv κ b[i]) (kv κ (a[u-1]'(hZ f B))))/\(d<=i->κ.kle (kv κ (a[u-1]'(hZ f B))) (kv κ b[i])):=λi K Z=>by
        have:=d0 i 'a' Z;simp only[Nat.zero_add]at this;exact this
       refine Zx (Ao hO (hk m) (nB ka (hZ f B)) d2 'a' d1 ?_);have ld:0<d:=by
        rcases Nat.eq_zero_or_pos d with z|z
        ·have:=(W 0 pb (qR p)).2 (kq z);exact absurd (W2 h1 (n8 sa (Zs (u-1)) (hZ f B))) (VG this)
        ·exact z
       by_cases hd:c.2.2.1-1-d>0
       case' neg=>
        refine gb hd ?_;have m4:=m3;have q4:κ.klt (kv κ (b[c.2.2.1-1-1]'(by lia))) (kv κ (a[u-1]'(hZ f B))):=(W (c.2.2.1-1-1) 'a' 'a').1 'a'
       case' pos=>
        refine gG hd ?_;have m4:=m3.bs (k:=d) d1 (uf l) (λi j K hj v L R=>ZV (n8 sa (show j<=u-1 from kl R) (hZ f B)) ((W i K L).2 v));by_cases e4:d=1
        ·exact gG (H e4) (ZC (.inr ⟨_,rfl,⟨_,rfl⟩,m4.first sa pa pb h1 e4⟩))
        refine gb (F e4) (gb (F (show d≠0 by lia)) ?_);have q4:κ.klt (kv κ (b[d-1]'(by lia))) (kv κ (a[u-1]'(hZ f B))):=(W (d-1) 'a' (fe ld d1)).1 (gJ ld)
       all_goals
        refine Zx (hG (ZQ a (u-1) (hZ f B)) ?_);have m5:=m4.JT sb 'a' 'a' 'a' 'a' (Ye q4);by_cases T:u-1=0
        ·exact gG (H T) (ZC (.inr ⟨_,rfl,⟨_,rfl⟩,m5.done T⟩))
        have j:=mi.of (st:=st) (g:=m) (x:=x+1+(y+1)) m5 (qT T) 'a' 'a' 'a' 'a';exact gb (F T) (zX (λ_=>ZC (.inl ⟨rfl,j.mono gT⟩)) λ_=>ZC j)
   ·cases(show v=some r from e);exact ZC ⟨r,rfl,hg,M⟩
end
theorem sL{κ:KeyKind}{a:Array Keyed}{i:Nat}(h:i<a.size):KK κ a i=kv κ a[i]:=by unfold KK kv;rw[ZQ a _ h]
theorem q35{κ:KeyKind}{a:Array Keyed}(ka:KeysOf κ a){base n:Nat}(sa:cN κ a base (base+n))(k:κ.α)(g:base+n<=a.size):
  ∃c,c<=n/\(∀i,i<n->∃x y,a[base+i]?=some x/\κ.keyOf x.1=some y/\asks false k y=decide (i<c))/\∀i,i<n->(i<c->κ.kle (KK κ a (base+i)) k)/\(c<=i->κ.klt k (KK κ a (base+i))):=by
 obtain⟨c,l,d⟩:=Ci (p:=λi=>!κ.blt k (KK κ a (base+i))) n (λi j m h e=>by
  simp only[Vv]at e ⊢;exact ZV (sa (base+i) (base+j) gT (i9 m) (ui h)) e)
 refine⟨c,l,λi b=>⟨_,_,ZQ a _ (dZ b g),nB ka (dZ b g),?_⟩,λi b=>⟨λf=>?_,λf=>?_⟩⟩
 ·rw[<- d i b,sL (dZ b g)];rfl
 ·have e:=d i b;rw[Zo f]at e;exact(Vv _).mp e
 ·have e:=d i b;rw[Zm (fu f)]at e;exact(Bool.not_eq_false' _).mp e
theorem xh9{κ:KeyKind}{a:Array Keyed}(ka:KeysOf κ a){base n:Nat}(sa:cN κ a base (base+n))(k:κ.α)(g:base+n<=a.size):
  ∃c,c<=n/\(∀i,i<n->∃x y,a[base+i]?=some x/\κ.keyOf x.1=some y/\asks true k y=decide (i<c))/\∀i,i<n->(i<c->κ.klt (KK κ a (base+i)) k)/\(c<=i->κ.kle k (KK κ a (base+i))):=by
 obtain⟨c,l,d⟩:=Ci (p:=λi=>κ.blt (KK κ a (base+i)) k) n (λi j m h e=>KeyOrd.klt_of_kle_of_klt (sa (base+i) (base+j) gT (i9 m) (ui h)) e);refine⟨c,l,λi b=>⟨_,_,ZQ a _ (dZ b g),nB ka (dZ b g),?_⟩,λi b=>⟨λf=>?_,λf=>?_⟩⟩
 ·rw[<- d i b,sL (dZ b g)];rfl
 ·have e:=d i b;rw[Zo f]at e;exact e
 ·have e:=d i b;rw[Zm (fu f)]at e;exact e
def nG(xs:Array Keyed)(b:Nat)(l:List (Keyed×Nat)):Array Keyed:=l.foldl (λa x=>a.setIfInBounds (b+x.2) x.1) xs
theorem KG(a k:Nat):∀(l:List Keyed)(o:Nat)(b:Array Keyed),a+o+l.length<=b.size->(nG b a (l.zipIdx o)).size=b.size/\(nG b a (l.zipIdx o))[k]?=if a+o<=k/\k<a+o+l.length then l[k-(a+o)]? else b[k]?
 |[],o,b,_=>⟨rfl,by rw[Zi (by simp)];rfl⟩
 |p::l,o,b,h=>by
  have d:a+(o+1)+l.length<=(b.setIfInBounds (a+o) p).size:=by simp at h ⊢;lia
  obtain⟨g,i⟩:=KG a k l (o+1) (b.setIfInBounds (a+o) p) d;have e:nG b a ((p::l).zipIdx o)=nG (b.setIfInBounds (a+o) p) a (l.zipIdx (o+1)):=rfl;rw[e];refine⟨by rw[g];simp,?_⟩;rw[i];simp only[ZM]at h ⊢;by_cases f:k=a+o
  ·subst f;rw[Zi 'a',Zk 'a',X1];rw[VW];simp;lia
  ·by_cases c:a+o<=k/\k<a+o+(l.length+1)
   ·rw[Zk 'a',Zk c];rw[show k-(a+o)=(k-(a+(o+1)))+1 by lia];simp
   ·rw[Zi 'a',Zi c,VW,Zi 'a']
theorem qO7{xs m:Array Keyed}{a:Nat}(h:a+m.size<=xs.size):(nG xs a m.toList.zipIdx).toList=xs.toList.take a++(m.toList++xs.toList.drop (a+m.size)):=by
 apply WB;intro k;have g:=(KG a k m.toList 0 xs (by simpa using h)).2;rw[Yt,g];simp only[Y3,ZO];by_cases b:k<a
 ·rw[Zi 'a',Zr (by simp;lia),List.getElem?_take_of_lt b];simp
 ·have c:(xs.toList.take a).length=a:=by simp;lia
  rw[Zq (yS c b),c];by_cases d:k<a+m.size
  ·rw[Zk 'a',Zr (by simp;lia)]
  ·rw[Zi 'a',Zq (by simp;lia),List.getElem?_drop];simp only[ZO];rw[show a+m.size+(k-a-m.size)=k by lia];simp
theorem La{a:Array Keyed}{i j:Nat}:(a.extract i j).toList=(a.toList.drop i).take (j-i):=by
 rw[X4,List.extract_eq_drop_take]
theorem PU{κ:KeyKind}{a:Array Keyed}{b c:Nat}(h:cN κ a b c)(hs:c<=a.size):eS κ (a.extract b c).toList:=by
 refine Yy.mpr λi j e d f=>?_;simp at e d;have:=h (b+i) (b+j) gT 'a' 'a';rw[sL (IL e),sL (IL d)]at this;simpa using this
theorem Ft{κ:KeyKind}{a:Array Keyed}(h:KeysOf κ a)(c d:Nat):KeysOf κ (a.extract c d):=λp b=>by
 rw[La]at b;exact h p (List.mem_of_mem_drop (List.mem_of_mem_take b))
section
variable{κ:KeyKind}
theorem xG4{Q:PUnit->au->Prop}{st a:au}(h:Q ⟨⟩ a):wpS (ah prog w) A E s (set a:StateT au Sem PUnit) Q st:=by
 unfold wpS;rw[StateT.run_set];exact Zb ⟨rfl,h⟩
structure Mrg(κ:KeyKind)(st aJ:au)(i sa na pw nb:Nat):Prop where
 perm:(arrOf aJ).Perm (arrOf st)
 kind:kindOf aJ=kindOf st
 fail:failedOf aJ=failedOf st
 out:∀k:Nat,k<sa\/sa+na+nb<=k->(arrOf aJ)[k]?=(arrOf st)[k]?
 srt:cN κ (arrOf aJ) sa (sa+na+nb)
 pend:pendingOf aJ=((pendingOf st).setIfInBounds i (sa,na+nb,pw)).eraseIdxIfInBounds (i+1)
theorem xi1{a m:Array Keyed}{sa na nb k d:Nat}(C:cN κ a sa (sa+na))(u:cN κ a (sa+na) (sa+na+nb))(hsz:sa+na+nb<=a.size)(hk:k<na)(M:d<=nb)(N:0<nb)
  (J:∀i,i<na->i<k->κ.kle (KK κ a (sa+i)) (KK κ a (sa+na))) (K:∀i,i<nb->d<=i->κ.kle (KK κ a (sa+na-1)) (KK κ a (sa+na+i)))
  (r:Rd κ (a.extract (sa+k) (sa+na)) (a.extract (sa+na) (sa+na+d)) m):
  (nG a (sa+k) m.toList.zipIdx).Perm a/\(∀j:Nat,j<sa\/sa+na+nb<=j->(nG a (sa+k) m.toList.zipIdx)[j]?=a[j]?)/\cN κ (nG a (sa+k) m.toList.zipIdx) sa (sa+na+nb):=by
 have n:m.size=na-k+d:=by
  have:=r.1.length_eq;simp at this;lia
 have h:(a.extract (sa+k) (sa+na)).toList++(a.extract (sa+na) (sa+na+d)).toList=(a.toList.drop (sa+k)).take (na-k+d):=by
  rw[La,La,show sa+na-(sa+k)=na-k by lia,show sa+na+d-(sa+na)=d from mM,List.take_add,UT,show sa+k+(na-k)=sa+na by lia]
 have get:=λj=>(KG (sa+k) j m.toList 0 a (by simp;lia)).2;simp only[Y3,ZO]at get;have p:(nG a (sa+k) m.toList.zipIdx).Perm a:=by
  refine WL.mpr ?_;rw[qO7 'a'];have e:a.toList=a.toList.take (sa+k)++((a.toList.drop (sa+k)).take (na-k+d)++a.toList.drop (sa+k+m.size)):=by
   rw[n,<- UT (i:=na-k+d) (j:=sa+k),Xi,Xi]
  conv=>rhs;rw[e]
  refine VF _ (List.Perm.append_right _ ?_);rw[<- h];exact r.1
 refine⟨p,λj v=>?_,?_⟩
 ·rw[get j,Zi 'a']
 ·have b:∀j,j<sa+k\/sa+na+d<=j->KK κ (nG a (sa+k) m.toList.zipIdx) j=KK κ a j:=λj v=>KK_congr (by rw[get j,Zi 'a']);have g:∀j,sa+k<=j->(v:j<sa+na+d)->KK κ (nG a (sa+k) m.toList.zipIdx) j=kv κ (m[j-(sa+k)]'(Fd hk v n)):=λj h1 f=>by
   unfold KK kv;rw[get j,Zk 'a',Yt,ZQ m _ (Fd hk f n)]
  have l:∀j,sa+k<=j->j<sa+na+d->∃i,sa+k<=i/\i<sa+na+d/\KK κ (nG a (sa+k) m.toList.zipIdx) j=KK κ a i:=λj h1 f=>by
   rw[g j h1 f];have L:m[j-(sa+k)]'(Fd hk f n)∈(a.toList.drop (sa+k)).take (na-k+d):=by
    rw[<- h];exact r.1.mem_iff.mp (by simp)
   obtain⟨i,F,e⟩:=Wb L;simp at F;refine⟨sa+k+i,gT,by lia,?_⟩;rw[sL (IL F),<- e];simp
  have last:∀i,sa<=i->i<sa+na->κ.kle (KK κ a i) (KK κ a (sa+na-1)):=λi h1 f=>C i (sa+na-1) h1 (kl f) 'a';intro i j h1 f x;by_cases B:i<sa+k
  ·rw[b i (.inl B)];have G:κ.kle (KK κ a i) (KK κ a (sa+na)):=by
    have:=J (i-sa) 'a' 'a'
    rwa [show sa+(i-sa)=i from t7 h1]at this
   by_cases t:j<sa+k\/sa+na+d<=j
   ·rw[b j t];by_cases c:j<sa+na
    ·exact C i j h1 f c
    ·exact ZV G (u (sa+na) j (Zd _) (gS c) x)
   ·obtain⟨q,H,I,y⟩:=l j 'a' 'a';rw[y];by_cases c:q<sa+na
    ·exact C i q h1 'a' c
    ·exact ZV G (u (sa+na) q (Zd _) (gS c) 'a')
  ·by_cases D:i<sa+na+d
   ·by_cases t:j<sa+na+d
    ·rw[g i (gS B) D,g j 'a' t];exact n8 r.2 'a' (Fd hk t n)
    ·obtain⟨q,H,I,y⟩:=l i (gS B) D;rw[y,b j (.inr (gS t))];by_cases c:q<sa+na
     ·have:=K (j-(sa+na)) 'a' 'a';rw[show sa+na+(j-(sa+na))=j by lia]at this;exact ZV (last q (h_ H) c) this
     ·exact u q j (gS c) 'a' x
   ·rw[b i (.inr (gS D)),b j (.inr 'a')];exact u i j 'a' f x
theorem qT7{kd:SortKind}(q:pk prog w A s κ kd){st:au}{i sa na pw nb B:Nat}{Q:Bool->au->Prop}(hk:kindOf st=kd)(h0:KeysOf κ (arrOf st))(hf:failedOf st=none)
  (Z:(pendingOf st)[i]?=some (sa,na,pw)) (p2:(pendingOf st)[i+1]?=some (sa+na,nb,B)) (v:0<na) (b:0<nb) (hsz:sa+na+nb<=(arrOf st).size)
  (m:cN κ (arrOf st) sa (sa+na)) (n:cN κ (arrOf st) (sa+na) (sa+na+nb)) (h:∀L,Mrg κ st L i sa na pw nb->Q true L):wpS (ah prog w) A E s (mergeAt' i) Q st:=by
 refine Zx (VJ ?_);dsimp only;rw[Z,p2];refine Zx (xG4 ?_);refine Zx (hG (ZQ (arrOf st) (sa+na) (yR b hsz)) ?_);obtain⟨k,k1,T,G⟩:=q35 h0 m (KK κ (arrOf st) (sa+na)) (h_ hsz);refine Zx (Ao (st:=SortSt.mk' (kindOf st) (arrOf st) (((pendingOf st).setIfInBounds i (sa,na+nb,pw)).eraseIdxIfInBounds (i+1)) (gallopOf st) (failedOf st)) q hk (nB h0 (yR b hsz)) (by rw[sL (yR b hsz)]at T;exact T) v k1 ?_);dsimp only;by_cases H:na-k=0
 ·rw[Zk (by simp only[XC];exact H)];refine ZC (h _ ⟨.refl _,rfl,rfl,λ_ _=>rfl,λx y f p l=>?_,rfl⟩);show κ.kle (KK κ (arrOf st) x) (KK κ (arrOf st) y);by_cases cx:x<sa+na
  ·by_cases O:y<sa+na
   ·exact m x y f p O
   ·have:=(G (x-sa) 'a').1 'a';rw[show sa+(x-sa)=x from t7 f]at this;exact ZV this (n (sa+na) y (Zd _) (gS O) l)
  ·exact n x y (gS cx) p l
 ·rw[Zi (by simp only[XC];exact H)];rw[show sa+k+(na-k)-1=sa+na-1 by lia];refine Zx (hG (ZQ (arrOf st) (sa+na-1) (IK b hsz)) ?_);obtain⟨d,f,p,l⟩:=xh9 h0 n (KK κ (arrOf st) (sa+na-1)) hsz;refine Zx (Ao (st:=SortSt.mk' (kindOf st) (arrOf st) (((pendingOf st).setIfInBounds i (sa,na+nb,pw)).eraseIdxIfInBounds (i+1)) (gallopOf st) (failedOf st)) q hk (nB h0 (IK b hsz)) (by rw[sL (IK b hsz)]at p;exact p) (gJ b) f ?_);dsimp only;have R:κ.klt (KK κ (arrOf st) (sa+na)) (KK κ (arrOf st) (sa+k)):=(G k 'a').2 (Zd _);have ld:d≠0:=λz=>by
   have:=(l 0 b).2 (kq z);exact absurd (W2 R (m (sa+k) (sa+na-1) gT 'a' 'a')) (VG this)
  rw[Zi (by simp only[XC];exact ld)];have sx:((arrOf st).extract (sa+k) (sa+na)).size=na-k:=by simp;lia
  have sy:((arrOf st).extract (sa+na) (sa+na+d)).size=d:=by simp;lia
  have N:0<((arrOf st).extract (sa+k) (sa+na)).size:=by lia
  have W:0<((arrOf st).extract (sa+na) (sa+na+d)).size:=by lia
  have S:∀j,(c:j<((arrOf st).extract (sa+k) (sa+na)).size)->kv κ ((arrOf st).extract (sa+k) (sa+na))[j]=KK κ (arrOf st) (sa+k+j):=λj c=>by rw[sL 'a'];simp
  have X:∀j,(c:j<((arrOf st).extract (sa+na) (sa+na+d)).size)->kv κ ((arrOf st).extract (sa+na) (sa+na+d))[j]=KK κ (arrOf st) (sa+na+j):=λj c=>by rw[sL 'a'];simp
  have U:κ.klt (kv κ (((arrOf st).extract (sa+na) (sa+na+d))[0]'(by lia))) (kv κ (((arrOf st).extract (sa+k) (sa+na))[0]'(by lia))):=by
   rw[S,X];exact R
  have J:∀j,(c:j<((arrOf st).extract (sa+na) (sa+na+d)).size)->κ.klt (kv κ ((arrOf st).extract (sa+na) (sa+na+d))[j]) (kv κ (((arrOf st).extract (sa+k) (sa+na))[((arrOf st).extract (sa+k) (sa+na)).size-1]'(by lia))):=λj c=>by
   rw[S,X,show sa+k+(((arrOf st).extract (sa+k) (sa+na)).size-1)=sa+na-1 by lia];exact(l j 'a').1 (oz c sy)
  have C:∀a g,Rd κ ((arrOf st).extract (sa+k) (sa+na)) ((arrOf st).extract (sa+na) (sa+na+d)) a->Q true (SortSt.mk' (kindOf st) (nG (arrOf st) (sa+k) a.toList.zipIdx) (((pendingOf st).setIfInBounds i (sa,na+nb,pw)).eraseIdxIfInBounds (i+1)) g (failedOf st)):=λa g r=>by
   obtain⟨r1,Y,r3⟩:=xi1 m n hsz 'a' f b (λj t u=>(G j t).1 u) (λj t u=>(l j t).2 u) r;exact h _ ⟨r1,rfl,rfl,Y,r3,rfl⟩
  have M:∀a g,Rd κ ((arrOf st).extract (sa+k) (sa+na)) ((arrOf st).extract (sa+na) (sa+na+d)) a->Q (failedOf st).isNone (SortSt.mk' (kindOf st) (nG (arrOf st) (sa+k) a.toList.zipIdx) (((pendingOf st).setIfInBounds i (sa,na+nb,pw)).eraseIdxIfInBounds (i+1)) g (failedOf st)):=λa g r=>by
   have e:(failedOf st).isNone=true:=by rw[hf];rfl
   rw[e];exact C a g r
  have K:eS κ ((arrOf st).extract (sa+k) (sa+na)).toList:=PU (λx y F D V=>m x y (h_ F) D V) (h_ hsz);have I:eS κ ((arrOf st).extract (sa+na) (sa+na+d)).toList:=PU (λx y F D V=>n x y F D 'a') (qK f hsz);by_cases P:na-k<=d
  ·rw[Zk P];refine Zx (qT5 (st:=SortSt.mk' (kindOf st) (arrOf st) (((pendingOf st).setIfInBounds i (sa,na+nb,pw)).eraseIdxIfInBounds (i+1)) (gallopOf st) (failedOf st)) q hk (Ft h0 _ _) (Ft h0 _ _) K I N W U J λa g r=>?_);exact Zx (X8 (Zx (VJ (ZC (M a g r)))))
  ·rw[Zi P];refine Zx (qT6 (st:=SortSt.mk' (kindOf st) (arrOf st) (((pendingOf st).setIfInBounds i (sa,na+nb,pw)).eraseIdxIfInBounds (i+1)) (gallopOf st) (failedOf st)) q hk (Ft h0 _ _) (Ft h0 _ _) K I N W U J λa g r=>?_);exact Zx (X8 (Zx (VJ (ZC (M a g r)))))
end
def Runs(κ:KeyKind)(a:Array Keyed):List (Nat×Nat×Nat)->Nat->Nat->Prop
 |[],b,c=>b=c
 |r::d,b,c=>r.1=b/\0<r.2.1/\cN κ a b (b+r.2.1)/\Runs κ a d (b+r.2.1) c
section
variable{κ:KeyKind}{a a':Array Keyed}
theorem Runs.app:∀{p q:List (Nat×Nat×Nat)}{b c:Nat},Runs κ a (p++q) b c<->∃m,Runs κ a p b m/\Runs κ a q m c
 |[],q,b,c=>⟨λh=>⟨b,rfl,h⟩,λ⟨m,e,h⟩=>by cases e;exact h⟩
 |r::p,q,b,c=>⟨λ⟨h1,f,d,j⟩=>by
   obtain⟨m,g,i⟩:=Runs.app.mp j;exact⟨m,⟨h1,f,d,g⟩,i⟩,λ⟨m,⟨h1,f,d,g⟩,i⟩=>⟨h1,f,d,Runs.app.mpr ⟨m,g,i⟩⟩⟩
theorem Runs.le:∀{p:List (Nat×Nat×Nat)}{c b:Nat},Runs κ a p c b->c+p.length<=b
 |[],c,b,h=>by cases h;simp
 |r::p,c,b,⟨h1,f,e,d⟩=>by
  have:=d.le;simp only[ZM];lia
theorem cN.congr{c b:Nat}(h:cN κ a c b)(e:∀k:Nat,c<=k->k<b->a'[k]?=a[k]?):cN κ a' c b:=λi j h1 f d=>by
 rw[KK_congr (e i h1 'a'),KK_congr (e j (ko h1 f) d)];exact h i j h1 f d
theorem Runs.congr:∀{p:List (Nat×Nat×Nat)}{c b:Nat},Runs κ a p c b->(∀k:Nat,c<=k->k<b->a'[k]?=a[k]?)->Runs κ a' p c b
 |[],c,b,h,_=>h
 |r::p,c,b,⟨h1,j,i,f⟩,e=>⟨h1,j,i.congr (λk d g=>e k d (by have:=f.le;lia)),f.congr (λk d g=>e k (h_ d) g)⟩
theorem Runs.mod{f:Nat×Nat×Nat->Nat×Nat×Nat}(d:∀x,(f x).1=x.1/\(f x).2.1=x.2.1):∀{p:List (Nat×Nat×Nat)}{i c b:Nat},Runs κ a p c b->Runs κ a (p.modify i f) c b
 |[],i,c,b,h=>by cases i<;>exact h
 |r::p,0,c,b,⟨h1,g,e,j⟩=>by
  refine⟨by rw[(d r).1];exact h1,by rw[(d r).2];exact g,by rw[(d r).2];exact e,by rw[(d r).2];exact j⟩
 |r::p,i+1,c,b,⟨h1,g,e,j⟩=>⟨h1,g,e,j.mod d⟩
theorem Runs.one{b n w:Nat}(h:0<n)(hs:cN κ a b (b+n)):Runs κ a [(b,n,w)] b (b+n):=⟨rfl,h,hs,rfl⟩
end
theorem xP0{α:Type}{l:List α}{i:Nat}(h:i+1<l.length):∃a x y post,l=a++x::y::post/\a.length=i:=by
 refine⟨l.take i,l[i],l[i+1],l.drop (i+2),?_,by simp;lia⟩;rw[<- XT,<- XT,Xi]
theorem Qy{p:Array (Nat×Nat×Nat)}{a post:List (Nat×Nat×Nat)}{x y v:Nat×Nat×Nat}{i:Nat}(h:p.toList=a++x::y::post)(c:a.length=i):((p.setIfInBounds i v).eraseIdxIfInBounds (i+1)).toList=a++v::post:=by
 have d:p.size=i+(post.length+2):=by
  have:=ZZ List.length h;simp at this;lia
 rw[Array.eraseIdxIfInBounds,dif_pos (by simp;lia),Array.toList_eraseIdx,WE,h];subst c;have b:(a++x::y::post).set a.length v=a++v::y::post:=by
  rw[List.set_append_right _ _ (Zd _)];simp
 rw[b,List.eraseIdx_append_of_length_le gT];simp
structure cT(κ:KeyKind)(kd:SortKind)(a₀:Array Keyed)(st:au)(lo:Nat):Prop where
 perm:(arrOf st).Perm a₀
 kind:kindOf st=kd
 fail:failedOf st=none
 runs:Runs κ (arrOf st) (pendingOf st).toList 0 lo
section
variable{κ:KeyKind}
theorem cT.merge{kd:SortKind}{a₀:Array Keyed}(O:pk prog w A s κ kd)(h0:KeysOf κ a₀){st:au}{j i:Nat}{Q:Bool->au->Prop}(d:cT κ kd a₀ st j)(I:j<=a₀.size)(F:i+1<(pendingOf st).size)
  (h:∀a,cT κ kd a₀ a j->(pendingOf a).size+1=(pendingOf st).size->(∀k:Nat,j<=k->(arrOf a)[k]?=(arrOf st)[k]?)->Q true a):wpS (ah prog w) A E s (mergeAt' i) Q st:=by
 obtain⟨G,⟨c,f,x⟩,⟨R,q,N⟩,post,e,b⟩:=xP0 (l:=(pendingOf st).toList) (by simpa using F);have r:=d.runs;rw[e]at r;obtain⟨m,K,t,n,C,y,u,B,p⟩:=Runs.app.mp r;simp only at t n C y u B p;subst t y;have P:=p.le;have sz:(arrOf st).size=a₀.size:=d.perm.size_eq;have D:(pendingOf st)[i]?=some (c,f,x):=by
  rw[<- Yt,e,Zq (kq b),b,X1];rfl
 have L:(pendingOf st)[i+1]?=some (c+f,q,N):=by
  rw[<- Yt,e,Zq 'a',b,Vd];rfl
 refine qT7 O d.kind (Am h0 d.perm) d.fail D L n u 'a' C B λa g=>h a ⟨g.perm.trans d.perm,g.kind.trans d.kind,g.fail.trans d.fail,?_⟩ ?_ λk hk=>g.out k (.inr 'a')
 ·rw[g.pend,Qy e b];refine Runs.app.mpr ⟨c,K.congr λk _ M=>g.out k (.inl M),rfl,by show 0<f+q;exact i_ n,?_,?_⟩
  ·have:=g.srt
   rwa [W0]at this
  ·have:=p.congr (a':=arrOf a) λk H _=>g.out k (.inr H)
   rwa [W0]at this
 ·have:=ZZ List.length (Qy (v:=(c,f+q,x)) e b);rw[<- g.pend]at this;have J:=ZZ List.length e;simp at this J;lia
theorem qH3{kd:SortKind}{a₀:Array Keyed}(M:pk prog w A s κ kd)(h0:KeysOf κ a₀){st:au}{Q:Unit->au->Prop}(d:cT κ kd a₀ st 0)
  (h:∀b,(arrOf b).Perm a₀->failedOf b=none->SortedToK κ (arrOf b) a₀.size->Q () b):wpS (ah prog w) A E s sortRuns' Q st:=by
 rw[sortRuns'_eq];refine Zx (VJ ?_);dsimp only;have sz:(arrOf st).size=a₀.size:=d.perm.size_eq;simp only[sz];generalize minRun' a₀.size a₀.size 0=K;refine Zx (W1 (Xs (I:=λx c b=>∃a,c=(none,a)/\cT κ kd a₀ b a/\x<=a/\a<=a₀.size)
  (Q:=λc b=>c=(none,a₀.size)/\cT κ kd a₀ b a₀.size) ?step ?fin ⟨0,rfl,d,Zd _,Zs _⟩) ?post)
 case fin=>
  rintro c b ⟨a,rfl,d,h1,V⟩;have:a=a₀.size:=by lia
  subst this;exact⟨rfl,d⟩
 case post=>
  rintro c b ⟨rfl,d⟩;dsimp only;refine Zx (W1 (Xs (I:=λx c b=>c=(none,())/\cT κ kd a₀ b a₀.size/\(pendingOf b).size+x<=a₀.size)
   (Q:=λc b=>c=(none,())/\cT κ kd a₀ b a₀.size/\(pendingOf b).size<=1) ?Bm ?fin2 ⟨rfl,d,?Dy⟩) ?CO)
  case Dy=>
   have:=d.runs.le;simp at this;lia
  case fin2=>
   rintro c b ⟨rfl,d,h1⟩;exact⟨rfl,d,by lia⟩
  case CO=>
   rintro c b ⟨rfl,d,h1⟩;refine ZC (h b d.perm d.fail λi j Z Y=>?_);have r:=d.runs;cases e:(pendingOf b).toList with
   |nil=>
    rw[e]at r;have r':0=a₀.size:=r;lia
   |cons p ps=>
    rw[e]at r;obtain⟨r1,r2,S,r4⟩:=r;have:ps=[]:=by
     have:=ZZ List.length e;simp at this;exact Vf.mp 'a'
    subst this;have O:0+p.2.1=a₀.size:=r4;rw[O]at S;exact S i j (Zs _) Z Y
  case Bm=>
   rintro x c b _ hx ⟨rfl,d,h1⟩;refine Zx (VJ ?_);by_cases v:(pendingOf b).size<=1
   ·rw[Zk v];exact ZC ⟨rfl,d,v⟩
   ·rw[Zi v];refine Zx (d.merge M h0 (Zd _) ?_ λf G e2 _=>?_)
    ·have key:∀c:Bool,(if c=true then(pendingOf b).size-2-1 else(pendingOf b).size-2)+1<(pendingOf b).size:=λc=>by cases c<;>simp<;>lia
     exact key _
    ·simp only[Y0,Zt,ZX];exact ZC ⟨rfl,G,by lia⟩
 case step=>
  rintro x c b _ hx ⟨a,rfl,d,h1,V⟩;dsimp only;by_cases v:a>=a₀.size
  ·rw[Zk v];have:a=a₀.size:=by lia
   subst this;exact ZC ⟨rfl,d⟩
  ·rw[Zi v];have sz':(arrOf b).size=a₀.size:=d.perm.size_eq;have q:∀(n:Nat)(f:au),1<=n->a+n<=a₀.size->Mv b f a a₀.size->cN κ (arrOf f) a (a+n)->cT κ kd a₀ f a:=λn f B H D _=>
    ⟨D.perm.trans d.perm,D.kind.trans d.kind,D.fail.trans d.fail,by rw[D.pend];exact d.runs.congr λk _ k2=>D.out k (.inl k2)⟩
   have push:∀(n:Nat)(f:au),1<=n->cT κ kd a₀ f a->cN κ (arrOf f) a (a+n)->cT κ kd a₀ (setPending f ((pendingOf f).push (a,n,0))) (a+n):=λn f B G C=>
    ⟨G.perm,G.kind,G.fail,by
     rw[XB];exact Runs.app.mpr ⟨a,G.runs,Runs.one 'a' C⟩⟩
   refine Zx (xq5 M d.kind (Am h0 d.perm) 'a' 'a' λm f U D J C=>?_);have T:Mv b f a a₀.size:=by rwa [show a+(a₀.size-a)=a₀.size by lia]at J
   dsimp only;by_cases W:m<K
   case' neg=>
    rw[Zi W];have F:=C;have N:=q _ f U 'a' T C;have B:1<=m:=U;have H:a+m<=a₀.size:=by lia
    clear C;obtain⟨n,L⟩:∃n,n=m:=⟨_,rfl⟩;simp only[<- L]at F B H ⊢
   case' pos=>
    rw[Zk W];refine Zx (UI (Y8 ⟨rfl,?_⟩));have X:a+min (a₀.size-a) K<=(arrOf f).size:=by rw[J.size];lia
    refine Zx (xq3 M (J.kind.trans d.kind) (Am h0 (J.perm.trans d.perm)) X 'a' C λR u F=>?_);simp only[Y0,Zt,ZX];have L5:Mv b R a a₀.size:=T.trans ⟨u.perm,u.kind,u.fail,u.pend,λk hk=>u.out k 'a'⟩;have N:=q _ R (show 1<=min (a₀.size-a) K by lia) 'a' L5 F;obtain⟨n,L⟩:∃n,n=min (a₀.size-a) K:=⟨_,rfl⟩;have B:1<=n:=by lia
    have H:a+n<=a₀.size:=by lia
    simp only[<- L]at F ⊢;clear L X u
   all_goals
    refine Zx (VJ ?_);split
    ·refine Zx (W1 (Xs (I:=λx c g=>c=(none,())/\cT κ kd a₀ g a/\cN κ (arrOf g) a (a+n)) (Q:=λc g=>c=(none,())/\cT κ kd a₀ g a/\cN κ (arrOf g) a (a+n)) ?_ ?_ ⟨rfl,N,F⟩) ?_)
     ·rintro y c g _ _ ⟨rfl,l,t⟩;refine Zx (VJ ?_);split
      ·rename_i P;split
       ·exact ZC ⟨rfl,l,t⟩
       ·have zf:(pendingOf g).size>1:=by
         by_cases z:(pendingOf g).size>1
         ·exact z
         ·rw[Zi z]at P;cases P
        refine Zx (l.merge M h0 V 'a' λuR d5 _ o5=>?_);simp only[Y0,Zt,ZX];exact ZC ⟨rfl,d5,t.congr λk k1 _=>o5 k k1⟩
      ·exact ZC ⟨rfl,l,t⟩
     ·rintro c g ⟨rfl,l,t⟩;exact⟨rfl,l,t⟩
     ·rintro c g ⟨rfl,l,t⟩;refine Zx (X8 (Zx (X8 (ZC ⟨_,rfl,push _ _ B ⟨l.perm,l.kind,l.fail,?_⟩ t,by lia,H⟩))));rw[Array.toList_modify];refine Runs.mod ?_ l.runs;exact λ_=>⟨rfl,rfl⟩
    ·exact Zx (X8 (ZC ⟨_,rfl,push _ _ B N F,by lia,H⟩))
end
inductive mj:Bool->aa->List Int->Prop
 |int (i:Int) (t:Tok):mj false (.int i t) [i]
 |str (x:ar) (t:Tok):mj true (.str x t) (x.cps.toList.map Int.ofNat)
theorem mj.uniq{k:Bool}{v:aa}{l m:List Int}(h:mj k v l)(g:mj k v m):l=m:=by
 cases h<;>cases g<;>rfl
theorem Ji:∀{l m:List Nat},l.map Int.ofNat<m.map Int.ofNat<->l<m
 |[],[]=>by simp
 |[],_::_=>by simp
 |_::_,[]=>by simp
 |x::l,y::m=>by
  rw[ZB,ZB,YZ,YZ,Ji];simp only[Int.ofNat_eq_natCast,Int.ofNat_lt,Int.ofNat_inj]
theorem PR:∀{l m:List Nat},l.map Int.ofNat=m.map Int.ofNat->l=m
 |[],[],_=>rfl
 |[],_::_,h=>by simp at h
 |_::_,[],h=>by simp at h
 |x::l,y::m,h=>by
  rw[ZB,ZB]at h;obtain⟨h1,a⟩:=Xr h;rw[Int.ofNat.inj h1,PR a]
section
variable{pat:Nat->Bool}
theorem xP2{k:Bool}{x y:aa}{a b:List Int}{Q:Bool->ab->Prop}(d:mj k x a)(c:mj k y b)(h:Q (decide (a=b)) s):af (ah prog w) A (eqBool x y) Q E s:=by
 cases d with
 |int i t=>
  cases c with
  |int j u=>
   refine wpAny_eqBool_int ?_;have e:decide ([i]=[j])=(i==j):=by simp;rfl
   rw[e]at h;exact h
 |str x t=>
  cases c with
  |str y u=>
   refine PySem.wpAny_eqBool_str ?_;have e:decide (x.cps.toList.map Int.ofNat=y.cps.toList.map Int.ofNat)=decide (x=y):=by
    rw[YG];constructor
    ·intro z;have:=PR z;cases x;cases y;simp at this ⊢;exact this
    ·rintro rfl;rfl
   rw[e]at h;exact h
theorem xq8{k c:Bool}{x y:aa}{a b:List Int}{Q:Bool->ab->Prop}(f:mj k x a)(d:mj k y b)(h:Q (decide (a<b)) s):af (ah prog w) A (oneLt' c x y) Q E s:=by
 cases f with
 |int i t=>
  cases d with
  |int j u=>
   have e:decide ([i]<[j])=decide (i<j):=by rw[YG,YZ];simp
   rw[e]at h;cases c with
   |true=>exact oneLt_int h
   |false=>
    rw[oneLt'_eq];simp only[Zt,ZX,V5];exact Za (wpAny_lt_int (Yc h))
 |str x t=>
  cases d with
  |str y u=>
   have e:decide (x.cps.toList.map Int.ofNat<y.cps.toList.map Int.ofNat)=decide (x.cps.toList<y.cps.toList):=by rw[YG];exact Ji
   rw[e]at h;cases c with
   |true=>exact oneLt_str h
   |false=>
    rw[oneLt'_eq];simp only[Zt,ZX,V5];exact Za (PySem.P.lt_str (Yc h))
end
structure gF(prog:ag)(w:ai) where
 is:ao->aa->List (List Int)->Prop
 lvl:Nat
 keep:∀{h h':ao}{v:aa}{l:List (List Int)},(∀b o,h.get? b=some o->o.cls=.type "tuple"->h'.get? b=some o)->is h v l->is h' v l
 len:∀{h h':ao}{u v:aa}{l m:List (List Int)},is h u l->is h' v m->l.length=m.length
 uniq:∀{h:ao}{v:aa}{l m:List (List Int)},is h v l->is h v m->l=m
 eqB:∀{A:aj}{E:aa->ab->Prop}{s:ab}{u v:aa}{l m:List (List Int)}{Q:Bool->ab->Prop},A.units+lvl<cLine->is s.heap u l->is s.heap v m->Q (decide (l=m)) s->af (ah prog w) A (eqBool u v) Q E s
 lt:∀{A:aj}{E:aa->ab->Prop}{s:ab}{u v:aa}{l m:List (List Int)}{Q:aa->ab->Prop},A.units+lvl<cLine->is s.heap u l->is s.heap v m->Q (.bool (decide (l<m))) s->af (ah prog w) A (richCompare .Lt u v) Q E s
theorem Oc(a b:List Int):decide ([a]=[b])=decide (a=b):=by simp
theorem EM(a b:List Int):decide ([a]<[b])=decide (a<b):=by rw[YG,YZ];simp
def ET(k:Bool):gF prog w where
 is _ v l:=∃x,l=[x]/\mj k v x
 lvl:=0
 keep:=λ_ h=>h
 len:=λ⟨_,e,_⟩ ⟨_,a,_⟩=>by rw[e,a];rfl
 uniq:=λ⟨_,e,h⟩ ⟨_,a,b⟩=>by rw[e,a,h.uniq b]
 eqB:=λ_ ⟨_,e,h⟩ ⟨_,a,b⟩ q=>by
  subst e a;rw[Oc]at q;exact xP2 h b q
 lt:=λ_ ⟨_,e,h⟩ ⟨_,a,b⟩ q=>by
  subst e a;rw[EM]at q;cases h with
  |int i t=>
   cases b with
   |int j u=>
    have e:decide ([i]<[j])=decide (i<j):=by rw[YG,YZ];simp
    rw[e]at q;exact wpAny_lt_int q
  |str x t=>
   cases b with
   |str y u=>
    have e:decide (x.cps.toList.map Int.ofNat<y.cps.toList.map Int.ofNat)=decide (x.cps.toList<y.cps.toList):=by rw[YG];exact Ji
    rw[e]at q;exact PySem.P.lt_str q
open Classical in
noncomputable def tS{prog:ag}{w:ai}(κ:gF prog w)(h:ao):KeyKind where
 α:=List (List Int)
 blt a b:=decide (a<b)
 irrefl a:=by simpa using List.lt_irrefl a
 trans a b c h1 h2:=by simp only[Uu]at *;exact List.lt_trans h1 h2
 negTrans a b c h:=by
  simp only[Uu]at *;by_cases d:a<b
  ·exact .inl d
  ·exact .inr (List.lt_of_le_of_lt (List.not_lt.mp d) h)
 total a b h1 h2:=by simp only[Ve]at *;exact List.le_antisymm (List.not_lt.mp h2) (List.not_lt.mp h1)
 keyOf v:=if e:∃l,κ.is h v l then some e.choose else none
 dflt:=[]
section
variable{κ:gF prog w}
open Classical in
theorem Jy{h:ao}{v:aa}{l:List (List Int)}(x:κ.is h v l):(tS κ h).keyOf v=some l:=by
 have e:∃l,κ.is h v l:=⟨l,x⟩;show(if e:∃l,κ.is h v l then some e.choose else none)=some l;rw[dif_pos e,κ.uniq e.choose_spec x]
open Classical in
theorem Qx{h:ao}{v:aa}{l:List (List Int)}(x:(tS κ h).keyOf v=some l):κ.is h v l:=by
 by_cases e:∃l,κ.is h v l
 ·have:=Jy e.choose_spec;rw[this]at x;cases x;exact e.choose_spec
 ·have:(tS κ h).keyOf v=none:=by
   show(if e:∃l,κ.is h v l then some e.choose else none)=none;rw[dif_neg e]
  rw[this]at x;cases x
structure Ox(κ:gF prog w)(kd:SortKind):Prop where
 kind:∀{A:aj}{E:aa->ab->Prop}{s:ab}{vs:List aa}{Q:SortKind->ab->Prop},vs≠[]->(∀v∈vs,∃l,κ.is s.heap v l)->Q kd s->af (ah prog w) A (keyKind' vs.toArray) Q E s
 klt:∀{A:aj}{s:ab},A.units+κ.lvl<cLine->pk prog w A s (tS κ s.heap) kd
def xr(k:Bool):aa:=if k then .type "str"else .type "int"
theorem xG6{k:Bool}{u:aa}{l:List Int}(h:mj k u l):typeOf u=pure (xr k):=by cases h<;>rfl
theorem Sn{k:Bool}:∀{us:List aa},(∀u∈us,∃l,mj k u l)->us.mapM typeOf=pure (us.map λ_=>xr k)
 |[],_=>by simp
 |u::us,h=>by
  rw[List.mapM_cons,Sn (us:=us) λq a=>h q (by simp[a])];obtain⟨l,b⟩:=h u (by simp);rw[xG6 b];simp
theorem xq9{k:Bool}{us:List aa}(h0:us≠[])(h:∀u∈us,∃l,mj k u l):oneTypeOnly' us.toArray=pure (some (xr k)):=by
 rw[oneTypeOnly'_eq,List.mapM_toArray,Sn h];simp only[map_pure,V5];cases us with
 |nil=>exact absurd rfl h0
 |cons u us=>
  have b:((u::us).map λ_=>xr k).toArray[0]?=some (xr k):=by simp
  have a:(((u::us).map λ_=>xr k).toArray.all λx=>x==xr k)=true:=by
   simp only[List.all_toArray,List.all_map,Xm];intro _ _;cases k<;>rfl
  rw[b];simp only[a,Xh]
theorem xr0{k:Bool}{u:aa}{l:List Int}(h:mj k u l):firstOfTuple' u=pure none:=by cases h<;>rfl
theorem Sm{k:Bool}:∀{us:List aa},(∀u∈us,∃l,mj k u l)->us.mapM firstOfTuple'=pure (us.map λ_=>none)
 |[],_=>by simp
 |u::us,h=>by
  rw[List.mapM_cons,Sm (us:=us) λq a=>h q (by simp[a])];obtain⟨l,b⟩:=h u (by simp);rw[xr0 b];simp
theorem xU7(k:Bool):Ox (prog:=prog) (w:=w) (ET k) oneType' where
 kind:=λ{A E s d Q} g r h=>by
  have f:∀u∈d,∃l,mj k u l:=λu B=>let ⟨_,x,_,e⟩:=r u B;⟨x,e⟩;have e:keyKind' d.toArray=pure oneType':=by
   rw[keyKind'_eq,List.mapM_toArray,Sm f];simp only[map_pure,V5];cases d with
   |nil=>exact absurd rfl g
   |cons v d=>
    rw[Zi (by simp),Zi (by simp),xq9 g f];simp
  rw[e];exact Zb h
 klt:=λ{A s} _ E x y a b Q p hb n=>by
  obtain⟨q,rfl,j⟩:=Qx p;obtain⟨m,rfl,t⟩:=Qx hb;have i:Q (decide ([q]<[m])) s:=n;rw[EM]at i;exact xq8 (c:=true) j t i
def sv(κ:gF prog w)(h:ao)(vs:List aa):Prop:=vs.Pairwise λu v=>∀l m,κ.is h u l->κ.is h v m->¬m<l
theorem xU8{vs:List aa}{h:ao}{xs:Array Keyed}(u:∀v∈vs,∃l,κ.is h v l)(g:xs.Perm (pairsOf vs))(hs:SortedToK (tS κ h) xs (pairsOf vs).size):
  (xs.map (·.2)).toList.Perm vs/\sv κ h (xs.map (·.2)).toList:=by
 have c:xs.toList.Perm (vs.zip vs):=by rw[<- pairsOf_toList];exact WL.mp g
 have e:∀p,p∈xs.toList->p.1=p.2/\p.1∈vs:=λp q=>mem_zip_self (c.mem_iff.mp q);constructor
 ·rw[Array.toList_map];have z:=c.map Prod.snd
  rwa [List.map_snd_zip (Zd _)]at z
 ·refine Yy.mpr λi j n r s l m c t=>?_;have d:i<xs.size:=by simpa using n
  have f:j<xs.size:=by simpa using r
  have z:=hs i j (XX s) (by rw[<- g.size_eq];exact f);have k:∀(i:Nat)(d:i<xs.size) l,κ.is h xs[i].2 l->KK (tS κ h) xs i=l:=λi d l c=>by
   have a:=(e xs[i] (by simp)).1;have b:κ.is h xs[i].1 l:=by rw[a];exact c
   rw[sL d];unfold kv;rw[Jy b];rfl
  rw[k i d l (by simpa using c),k j f m (by simpa using t)]at z;exact YN z
theorem xG7{kd:SortKind}(H:Ox κ kd)(S:A.units+κ.lvl<cLine){p:ae}{vs:List aa}{n:Nat}{P:Fin->ab->Prop}(g:s.heap.get? p=some (seqObj "list" vs.toArray n))(R:∀v∈vs,∃l,κ.is s.heap v l)(hz:vs.length<=sizeLine)
  (h:∀f:Array aa,f.toList.Perm vs->sv κ s.heap f.toList->P (.done (.ret .none)) {s with heap:=sortedHeap s.heap p vs f}):
  af (ah prog w) A (Builtin.«list.sort» ⟨[.ref p],[]⟩) P E s:=by
 have lt:=Zn g;obtain⟨K,D⟩:∃c,(s.heap.update p (Obj.mapSeq λ_=>#[])).get? p=some (seqObj "list" #[] c):=⟨_,get?_update_seq g (λ_=>#[])⟩;have J:∀b o,b≠p->s.heap.get? b=some o->(((s.heap.update p (Obj.mapSeq λ_=>#[])).push (seqObj "tuple" vs.toArray 0)).push (seqObj "list" #[] 0)).get? b=some o:=λb o hb q=>by
  have C:=Zn q;rw[Vx _ _ _ (by rw[size_push',VI];exact Zy (Z6 C)),Vx _ _ _ (by rw[VI];exact Zy C),Heap.get?_update_ne _ _ _ _ hb];exact q
 have j:(((s.heap.update p (Obj.mapSeq λ_=>#[])).push (seqObj "tuple" vs.toArray 0)).push (seqObj "list" #[] 0)).get? p=some (seqObj "list" #[] K):=by
  rw[Vx _ _ _ (by rw[size_push',VI];exact Zy (Z6 lt)),Vx _ _ _ (by rw[VI];exact Zy lt)];exact D
 have I:∀b o,s.heap.get? b=some o->o.cls=.type "tuple"->(((s.heap.update p (Obj.mapSeq λ_=>#[])).push (seqObj "tuple" vs.toArray 0)).push (seqObj "list" #[] 0)).get? b=some o:=λb o q c=>J b o (by rintro rfl;rw[g]at q;cases q;simp at c) q;rw[list_sort_plain];refine Za (listItems_at g rfl (Za (listUpdate_at g rfl (Za (seqEpoch_at D rfl (Za (wpAny_newTuple (Za (wpAny_newList (ZY ?_) (Zs _))) (by simpa using hz))))) (by simpa using hz) (Zs _))));have t:∀r f,(∀b o,s.heap.get? b=some o->o.cls=.type "tuple"->r.get? b=some o)->f.toList.Perm vs->sv κ r f.toList->P (.done (.ret .none)) {s with heap:=sortedHeap s.heap p vs f}:=λr f F k B=>h f k (List.Pairwise.imp (λz l m x y=>z l m (κ.keep F x) (κ.keep F y)) B);have u:∀v∈vs,∃l,κ.is (((s.heap.update p (Obj.mapSeq λ_=>#[])).push (seqObj "tuple" vs.toArray 0)).push (seqObj "list" #[] 0)) v l:=λv q=>by
  obtain⟨l,x⟩:=R v q;exact⟨l,κ.keep I x⟩
 dsimp only;by_cases d:vs.toArray.size<2
 ·rw[Zk d,Zk d];refine Za (Zb ?_);rw[StateT.run_pure];refine Za (Zb ?_);dsimp only;have e:(vs.toArray.zip vs.toArray).map (·.2)=vs.toArray:=by
   apply Array.toList_inj.mp;simp[List.map_snd_zip]
  refine Za (seqEpoch_at j rfl (Za (listUpdate_at j rfl ?_ (Zs _) (by show((vs.toArray.zip vs.toArray).map (·.2)).size<=_;rw[e];simp;exact nN hz))));simp only[bne_self_eq_false,Zt,ZX];refine Zb ?_;rw[e];refine h _ (by simp) ?_;have:vs.length<2:=by simpa using d
  match vs,this with
  |[],_=>exact List.Pairwise.nil
  |[x],_=>exact List.pairwise_singleton _ _
  |_::_::_,z=>simp at z;lia
 ·rw[Zi d,Zi d];refine Za (H.kind (λz=>d (by rw[z];decide)) u ?_);generalize N:((s.heap.update p (Obj.mapSeq λ_=>#[])).push (seqObj "tuple" vs.toArray 0)).push (seqObj "list" #[] 0)=h1 at *;have M:KeysOf (tS κ h1) (pairsOf vs):=λq G=>by
   rw[pairsOf_toList]at G;obtain⟨l,x⟩:=u _ (mem_zip_self G).2;exact⟨l,Jy x⟩
  refine Za (Y7 (qH3 (κ:=tS κ h1) (kd:=kd) (a₀:=pairsOf vs) (st:=SortSt.mk' kd (vs.toArray.zip vs.toArray) #[] 7 none)
   (Q:=λ_ i=>(arrOf i).Perm (pairsOf vs)/\failedOf i=none/\SortedToK (tS κ h1) (arrOf i) (pairsOf vs).size)
   (H.klt (s:={s with heap:=h1}) S) M ⟨Array.Perm.refl _,rfl,rfl,rfl⟩ λi a b c=>⟨a,b,c⟩) ?_ λ_ _ e=>e)
  rintro⟨⟨⟩,i⟩ U ⟨rfl,L,T,O⟩;dsimp only;obtain⟨k,B⟩:=xU8 u L O;refine Za (seqEpoch_at j rfl (Za (listUpdate_at j rfl ?_ (Zs _) ?_)))
  ·rw[T];simp only[bne_self_eq_false,Zt,ZX];refine Zb ?_;subst N;exact t _ _ I k B
  ·refine ZF (Vg ?_) (Ut hz);have:=k.length_eq;rw[ZO]at this;exact this
theorem xr1{kd:SortKind}(C:Ox κ kd)(D:A.units+3+κ.lvl<cLine){x:aa}{Pv:List aa->Prop}{Q:aa->ab->Prop}(g:∀a,Pv a->(∀v∈a,∃l,κ.is s.heap v l)/\a.length<=sizeLine)
  (hc:∀r:List aa->ab->Prop,(∀(a:List aa)(p:ao)(f:Nat)(d:Drawn),Pv a->(∀b o,s.heap.get? b=some o->p.get? b=some o)->r a {s with heap:=p,drawn:=d,toks:=f})->af (ah prog w) A.in1 (collect x) r E s)
  (h:∀(a:List aa)(out:Array aa)(h1 k:ao)(f:Nat)(d:Drawn)(c:Nat),Pv a->(∀b o,s.heap.get? b=some o->h1.get? b=some o)->(∀b o,h1.get? b=some o->k.get? b=some o)->k.get? h1.objs.size=some (seqObj "list" out c)->out.toList.Perm a->sv κ s.heap out.toList->Q (.ref h1.objs.size) {s with heap:=k,drawn:=d,toks:=f}):
  af (ah prog w) A (call (.builtin "sorted") [x]) Q E s:=by
 refine Calls.call_function_entry kind_sorted plain_sorted entry_sorted (args_sorted1 _) ?_;unfold Builtin.«sorted»;refine Za (m:=checkCount "sorted" 1 1 _) (Zb (Za (hc _ λa h1 f d pv n=>Za (wpAny_newList ?_ (g a pv).2))));obtain⟨g,u⟩:=g a pv;have i:(h1.push (seqObj "list" a.toArray 0)).get? h1.objs.size=some (seqObj "list" a.toArray 0):=Zj _ rfl;have j:∀b o,s.heap.get? b=some o->(h1.push (seqObj "list" a.toArray 0)).get? b=some o:=λb o e=>Zc _ (n b o e);refine Za (ZY (Z2 (s:={s with heap:=h1.push (seqObj "list" a.toArray 0),drawn:=d,toks:=f}) slot_list_sort ⟨_,i,rfl⟩ entry_list_sort (xG7 C ?_ i (λv q=>(g v q).imp λ_ z=>κ.keep (λb o e _=>j b o e) z) u λout t B=>⟨_,rfl,Zb ⟨_,rfl,?_⟩⟩) (args_list_sort _)))
 ·show A.units+1+1+κ.lvl<cLine;lia
 ·obtain⟨c,hc⟩:=sortedHeap_at (out:=out) i;refine h a out h1 _ f d c pv n (λb o e=>?_) hc t (List.Pairwise.imp (λz l m x y=>z l m (κ.keep (λb o e _=>j b o e) x) (κ.keep (λb o e _=>j b o e) y)) B);have lt:=Zn e;rw[sortedHeap_old (Zy lt) (by rw[size_push'];exact Z6 lt)];exact Zc _ e
end
end PyProof.Rows
namespace L2
open PySem PySem.Spec PyProof.Rows
theorem xi4:∀{c d:List aa},d.Perm c->∀{a:List V},Vals a c->∃b,Vals b d/\b.Perm a:=by
 intro c d p
 induction p with
 |nil=>intro a r;exact⟨a,r,.refl _⟩
 |cons u p t=>
  intro a r;cases r with
  |cons h r=>
   obtain⟨b,n,e⟩:=t r;exact⟨_::b,.cons h n,e.cons _⟩
 |swap u v l=>
  intro a r;cases r with
  |cons h r=>
   cases r with
   |cons s r=>exact⟨_::_::_,.cons s (.cons h r),List.Perm.swap _ _ _⟩
 |trans p q i w=>
  intro a r;obtain⟨x,k,g⟩:=w r;obtain⟨j,f,m⟩:=i k;exact⟨j,f,m.trans g⟩
theorem RD:∀{a:List V}{b:List aa}{u:aa},Vals a b->u∈b->∃x,x∈a/\RelV x u
 |_,_,u,.nil,h=>by simp at h
 |_,_,u,.cons r d,h=>by
  rcases Zu.mp h with rfl|z
  ·exact⟨_,by simp,r⟩
  ·obtain⟨x,h1,c⟩:=RD d z;exact⟨x,by simp[h1],c⟩
end L2
namespace L2
open PySem PySem.Spec PyProof.Rows PySem.W
section
variable{H:Hp}
def Ms(κ:gF P w)(H:Hp)(v:V)(l:List (List Int)):Prop:=∀(h:ao)(u:aa),dJ P w H h->RelV v u->κ.is h u l
theorem KQ(i:Int):Ms (P:=P) (w:=w) (ET false) H (.int i) [[i]]:=λh u _ r=>by
 obtain⟨t,rfl⟩:=r;exact⟨_,rfl,.int i t⟩
def sC(κ:gF P w)(H:Hp)(vs:List V):Prop:=vs.Pairwise λu v=>∀l m,Ms κ H u l->Ms κ H v m->¬m<l
theorem RC:∀{a:List V}{b:List aa}{x:V},Vals a b->x∈a->∃u,u∈b/\RelV x u
 |_,_,u,.nil,h=>by simp at h
 |_,_,u,.cons r d,h=>by
  rcases Zu.mp h with rfl|z
  ·exact⟨_,by simp,r⟩
  ·obtain⟨x,h1,c⟩:=RC d z;exact⟨x,by simp[h1],c⟩
theorem PQ{κ:gF P w}{h:ao}(ok:dJ P w H h):∀{b:List V}{c:List aa},Vals b c->sv κ h c->sC κ H b
 |_,_,.nil,_=>.nil
 |x::b,u::c,.cons r d,a=>by
  obtain⟨e,g⟩:=XR.mp a;refine XR.mpr ⟨λy k l m i f=>?_,PQ ok d g⟩;obtain⟨v,j,n⟩:=RC d k;exact e v j l m (i _ _ ok r) (f _ _ ok n)
end
theorem xP4{prog:ag}{w:ai}{k:Int}{v:aa}(h:(intKind prog w).is k v=true):∃t,v=.int k t:=by
 have h:Value.isInt k v=true:=h;unfold Value.isInt at h;cases v<;>simp at h;exact⟨_,by rw[h]⟩
section
variable{R:Result->ab->Prop}{I:ae}{fp wr:List ae}{G:Array GenState->Array GenState->Prop}{n:Nat}{P:Nat->aa->Prop}{St:Nat->ab->Prop}
theorem xG8(W:WalksS prog w A.in1 I fp wr G n P St)(S:ae)(l:S∉fp)(val:Nat->Int)(H:∀i v,P i v->∃t,v=.int (val i) t)(hb:n+1<scanBound):
  ∀(k i:Nat)(s:ab),n-i=k->i<=n->St i s->l_ (intKind prog w) s.heap S ((List.range i).map val) ->
   (∀a,Moved (S::wr) G s a->l_ (intKind prog w) a.heap S ((List.range n).map val)->R (.ok (.ret .none)) a)->codeAny (ah prog w) A (.builtin "set.update.loop" ⟨[.ref S,.ref I],[]⟩) R s:=by
 have q:S∉wr:=λh=>l (W.sub _ h);have r:∀b∈wr,b∈S::wr:=λb hb=>Zp _ hb;intro k
 induction k with
 |zero=>
  intro i s hk B d f g;have y:i=n:=by lia
  subst y;refine Yp YU ?_;rw[Z9 Yj _];show af _ A.in1 (pyNext (.ref I) >>= _) _ _ s;refine Za (W.done s _ _ d λa c=>?_);show af _ A.in1 (ret Value.none) _ _ a;exact Zb (g a (c.mono r) (f.de λo e=>c.heap S _ q e))
 |succ k M=>
  intro i s hk B d f g;have p:i<n:=by exact yT hk
  refine Yp YU ?_;rw[Z9 Yj _];show af _ A.in1 (pyNext (.ref I) >>= _) _ _ s;refine Za (W.item i s _ _ p d λv a F L c=>?_);obtain⟨t,rfl⟩:=H i v F;have J:=f.de λo e=>c.heap S _ q e;show af _ A.in1 (holding [Value.int (val i) t] (setAdd S (.int (val i) t)) >>= _) _ _ a;refine Za (ZY ?_);unfold setAdd;refine ZY ?_;have hk:(intKind prog w).is (val i) (.int (val i) t)=true:=intKind_is _ _ _ _;refine Za ((intKind prog w).pyHash (k:=val i) hk ?_);refine xF7 (s:={a with toks:=a.toks+1}) hk rfl J (by rw[Zg,YK];lia) λb E m C=>?_;have j:l_ (intKind prog w) E S ((List.range (i+1)).map val):=C.congr λx=>by
   rw[YC,ZL,ZW,Zu];show _<->_\/x∈[val i];rw[Z1,or_comm]
  refine Zb ⟨Xd Yj _,M (i+1) _ 'a' p (W.frame _ a _ _ L (Xu _) λb hb o e=>?_) j λK D u=>?_⟩
  ·rw[m.2 b (λh:b=S=>l (by rw[<- h];exact hb))];exact e
  ·refine g K (Moved.trans W.gtrans ((c.mono r).then_heap (Xu _) λb o hb e=>?_) D) u;rw[m.2 b (λh:b=S=>hb (by rw[h];exact Zz))];exact e
end
theorem xr2{l:ae}{items:Array aa}{val:Nat->Int}{Q:aa->ab->Prop}(P:A.handled=none)(Y:s.heap.IsList l items)
  (J:∀(i:Nat)(v:aa),items[i]?=some v->∃t,v=.int (val i) t) (hb:items.size+1<scanBound)
  (h:∀(d:ao)(n:Nat),l_ (intKind prog w) d s.heap.objs.size ((List.range items.size).map val)->(∀b o,b<s.heap.objs.size->s.heap.get? b=some o->d.get? b=some o)->Q (.ref s.heap.objs.size) {s with heap:=d,toks:=n}):
  af (ah prog w) A (call (.type "set") [.ref l]) Q E s:=by
 obtain⟨c,tl,M8⟩:=PySem.F.called_set.mro;have Dl:=PySem.F.called_set.made;have J8:=PySem.F.called_set.sub;refine wpAny_call (VQ ?_);show af _ _ (callAny (.type "set") _) _ _ _;refine Zb ⟨Uc _ (by decide +kernel),Yp PySem.F.entry_type_call ?_⟩;rw[Around.under_plain (weight_type_call_type "set" [.ref l] []) rfl];have f1:=PySem.F.called_set.notType;have f2:=PySem.F.called_set.canCreate;have f3:=PySem.F.typeCall_set_1 (.ref l)
 repeat (any_goals first|assumption|wp_step)
 refine Wo (xF8 (.ref l) (E:=E) (Q₁:=λj x=>j=.ref s.heap.objs.size/\x={s with heap:=s.heap.push (cm.dk (!w.params.followText "set-order"))}) ⟨rfl,rfl⟩) λr x k=>?_;generalize K:(!w.params.followText "set-order")=a at k;cases r with
 |error e=>exact k
 |ok U=>
  cases U with
  |ret j=>
   obtain⟨rfl,rfl⟩:=k;have y:(s.heap.push (cm.dk a)).get? s.heap.objs.size=some (cm.dk a):=Zj _ rfl;have O:Shared.TypeIs {s with heap:=s.heap.push (cm.dk a)} (.ref s.heap.objs.size) "set":=⟨_,y,rfl⟩;have i1:=PySem.F.called_set.init.lookup;have i2:=PySem.F.called_set.init.bind (.ref s.heap.objs.size)
   repeat (any_goals first|assumption|wp_step)
   refine Wo (WF (R:=wants (λr G=>r=.none/\∃d n,G={s with heap:=d,toks:=n}/\l_ (intKind prog w) d s.heap.objs.size ((List.range items.size).map val) /\
     (∀b o,b<s.heap.objs.size->s.heap.get? b=some o->d.get? b=some o)) E) PySem.F.called_set.init.plain PySem.F.entry_set_init (check_set_init_1 O ?_)) λZ G p=>?_
   ·obtain⟨ol,F,B,D,H⟩:=id Y;obtain⟨LO,T,CQ,X⟩:=ol;simp only at B H;subst B;subst H;have zh:(s.heap.push (cm.dk a)).get? l=some {cls:=.type "list",dict:=T,data:=.seq items D,slots:=X}:=Zc _ F;have fK:=PySem.F.sub_list_set;have cg:=PySem.F.sub_list_frozenset;have ned:(Value.type "list"== Value.type "dict")=false:=by decide
    have C:(s.heap.push (cm.dk a)).IsList l items:=⟨_,zh,rfl,D,rfl⟩;unfold Builtin.«set.__init__» noKeywords Builtin.Frozenset.updateFrom;generalize NI:pyIter=PI
    wp_walk
    subst NI;refine Xy C ?_;refine Za (Ud ?_);have q:l<s.heap.objs.size:=Zn F;have g:(s.heap.push (cm.dk a)).objs.size=s.heap.objs.size+1:=Z0 _ _;have L:l≠(s.heap.push (cm.dk a)).objs.size:=by rw[g];exact Zy (Z6 q)
    have I:s.heap.objs.size∉[(s.heap.push (cm.dk a)).objs.size,l]:=by
     rw[g];simp only[Zu,Yd,Wi,not_or];exact⟨Zy (ZN _),Wm q⟩
    refine xG8 ((UK (by simp[P]) _ l L items).toS) s.heap.objs.size I val J hb (items.size-0) 0 _ 'a' (Zs _)
     ⟨⟨_,Zj _ rfl,rfl,rfl⟩,C.push _⟩ (xF6 (by rw[K];exact Zc _ y)) λs' m f=>?_
    obtain⟨d,S,W,zV,V⟩:=s';have N:S=s.gens:=m.gens;have ed:W=s.drawn:=m.drawn;have eo:V=s.os:=m.os;subst N;subst ed;subst eo;show af _ _ _ _ _ _;refine Zb ?_;show af _ _ (ret Value.none) _ _ _;refine Zb ⟨rfl,d,zV,rfl,f,λb o u e=>?_⟩;exact m.heap b o (by rw[g];simp only[Zu,Yd,Wi,not_or];exact⟨Zy u,Zy (Z6 u)⟩) (Zc _ (Zc _ e))
   ·cases Z with
    |error e=>exact p
    |ok rN=>
     cases rN with
     |ret r=>
      obtain⟨rfl,d,n,rfl,f,M⟩:=p
      repeat (any_goals first|assumption|wp_step)
      exact h _ _ f M
     |_=>exact p.elim
  |_=>exact k.elim
section
variable{X:Cx}
def EW(P:ag)(w:ai)(r:ae)(L:List Int):HO:=.ext λh=>l_ (intKind P w) h r L
inductive lH(X:Cx)(xs:List V)(H:Hp)(Q:VK):Prop
 |mk(p:ae)(L:List Int)(aT:xs=[.ref p])(cV:H p=some (.lst (L.map V.int)))(cw:L.length+1<scanBound)(aR:∀r,H r=none->Q (.ref r) (upd H r (EW X.prog X.w r L)))
theorem Sl(hc:X.calm=true):f_ X (.type "set") (lH X):=by
 intro W s N H M O Q I B h;obtain⟨p,L,rfl,D,g,q⟩:=h;obtain⟨u,rfl,ru⟩:=iq B;cases ru;obtain⟨P,d,n,l,J⟩:=I.aO p _ D;have j:d.length=L.length:=by have:=l.length;simpa using this.symm
 refine xr2 (items:=d.toArray) (val:=λi=>L.getD i 0) (I.ok.hd hc) ⟨_,J,rfl,n,rfl⟩ (λi v F=>?_) (by rw[ZI,j];exact g) λT E c A=>?_
 ·have r:d[i]?=some v:=by simpa using F
  have m:i<L.length:=by rw[<- j];exact(cz r).1
  obtain⟨R,y,t,G⟩:=l.get (i:=i) (x:=V.int L[i]) (by simp[m]);rw[r]at y;cases y;exact⟨t,by rw[G];simp[List.getD,m]⟩
 ·have K:(List.range d.toArray.size).map (λi=>L.getD i 0)=L:=by
   refine List.ext_getElem (by simp[j]) λi h1 w=>?_;simp[List.getD,w]
  rw[K]at c;obtain⟨S,U,t,⟨o,f,_⟩,_⟩:=id c;exact⟨.ref s.heap.objs.size,_,I.laid (a:=s.heap.objs.size) (o:=EW X.prog X.w s.heap.objs.size L) (t':=E) (λb o e=>A b o (Zn e) e) (Zd _) ⟨c,⟨o,f⟩,λh1 w C k=>C.de k⟩,rfl,q _ (I.aO.fresh (Zd _))⟩
theorem qP1(hc:X.calm=true){k:Nat}(hr:bh k X.A):f_ X (.builtin "sorted") (λS H Q=>∃(r:ae)(L:List Int),S=[.ref r]/\H r=some (EW X.prog X.w r L) /\
  ∀q p (f:List Int),H q=none->p=f.map V.int->f.Nodup->(∀x,x∈f<->x∈L)->sC (P:=X.prog) (w:=X.w) (ET false) H p->Q (.ref q) (upd H q (.lst p))):=by
 intro j8 s σ H S p Q I l h;obtain⟨r,L,rfl,kZ,q⟩:=h;obtain⟨u,rfl,ru⟩:=iq l;cases ru;obtain⟨M,_,_⟩:=(show bo X.prog X.w H s.heap r (EW X.prog X.w r L)from I.aO r _ kZ);obtain⟨J,ep,t,b,hf,kR,wY,wO,K,A,wZ,k5⟩:=(show l_ (intKind X.prog X.w) s.heap r L from M);have un:=hr.units;have hz:=Uy wO;have DM:(!t.plain&&decide (J.size>1))=true\/cm.fg t.place:=.inr wY.1;have key:∀g:List aa,g.Perm (J.toList.map (·.2))->∃f:List Int,Vals (f.map V.int) g/\f.Perm K:=λg m=>by
  have pr:Paired (λ(v:aa) (x:Int)=>∃t,v=.int x t) (J.toList.map (·.2)) K:=by
   refine Lv (by rw[Zg];exact Yx A) λi v x h1 j=>?_;rw[Zh]at h1;obtain⟨e,D,rfl⟩:=Zl.mp h1;obtain⟨T,Z,e2,_⟩:=Cb A i e D;rw[j]at Z;cases Z;exact xP4 e2
  obtain⟨f,p1,Y⟩:=Gq m pr;refine⟨f,?_,Y⟩;clear m Y
  induction p1 with
  |nil=>exact .nil
  |cons h _ O=>exact .cons h O
 refine xr1 (xU7 false) (by show _+3+0<cLine;lia) (Pv:=λg=>∃f:List Int,Vals (f.map V.int) g/\f.Perm K) (λg ⟨f,l,n⟩=>⟨λv m=>?_,?_⟩) (λQ' k'=>qT3 (I.ok.hd hc) b hf hz kR DM λg h' B d m kp=>k' g h' B d (key g m) kp) λg R h1 j B d c ⟨f,l,n⟩ T k2 D o1 o2=>?_
 ·obtain⟨x,hx,rx⟩:=RD l m;obtain⟨y,_,rfl⟩:=ZU.mp hx;exact⟨_,KQ (P:=X.prog) (w:=X.w) y _ _ I.aO rx⟩
 ·have h1:=l.length;rw[Zg,n.length_eq]at h1;have j:=Yx A;simp at j;lia
 ·obtain⟨F,N,C⟩:=xi4 o1 l;have G:Paired (λ(v:V) (x:Int)=>v=.int x) (f.map V.int) f:=Lv (by rw[Zg]) λi v x h1 j=>by
   rw[Zh,j]at h1;exact(ZE h1).symm
  obtain⟨U,q1,E⟩:=Gq C G;have ex:F=U.map V.int:=by
   clear N C E
   induction q1 with
   |nil=>rfl
   |cons h _ O=>rw[h,O];rfl
  have W:=I.Dt (t':=B) (d':=d) T;refine⟨.ref _,_,W.laid (a:=h1.objs.size) (o:=.lst F) (t':=B) (λb o z=>k2 b o z) (Zd _) ⟨?_,R.toList,c,N,by simpa using D⟩,rfl,q _ F U (W.aO.fresh (Zd _)) ex ((E.trans n).nodup_iff.mpr wZ) (λx=>(E.trans n).mem_iff.trans (k5 x)) (PQ I.aO N o2)⟩;have h3:=C.length_eq;rw[Zg,n.length_eq]at h3;have j:=Yx A;simp at j;lia
end
end L2
namespace L2
open PySem PySem.Spec PyProof.Rows
theorem q36{e it t:ae}{i:Nat}{items:Array aa}{x c:aa}{Q:Option aa->ab->Prop}(g:IsEnum s.heap e it i c)(k:e≠it)(st:s.heap.IsListIter it t i)(u:s.heap.IsList t items)(m:items[i]?=some x)
  (q:∀h1 a,Heap.SameBut it s.heap h1->IsEnumOut a e it ((i:Int)+1) x s.heap.objs.size->a.IsListIter it t (i+1)->a.get? s.heap.objs.size=some {cls:=.type "tuple",data:=.seq #[.int i s.toks,x]} ->
   (∀b o,b≠e->h1.get? b=some o->a.get? b=some o)->Q (some (.ref s.heap.objs.size)) {s with heap:=a,toks:=s.toks+1}):af (ah prog w) A (pyNext (.ref e)) Q E s:=by
 have j:s.TypeIs (.ref e) "enumerate":=⟨_,g,rfl⟩;unfold pyNext;refine Za (XJ (Z3 (name:=Str.ofString "__next__") j Xj (Z2 Xj j Vn
  (lT.iM (St:=λh=>h.IsListIter it t (i+1)) g k (λC B=>wpAny_nextOf_list_item st u m λa n d=>B a d n) λh1 a d l v y f=>Zb (q h1 a d v ?_ y f)) (Vc _))))
 obtain⟨o,r,p⟩:=l;exact⟨o,f it o (YE k) r,p⟩
def sf(K:PySem.W.Frag)(a:ae):It:=
 ⟨λi H=>∃b x,cq K H a b/\b[i]?=some x,λi H y c=>∃p x,H p=none/\(∀b,cq K H a b->b[i]?=some x)/\c=upd H p (.tup [.int i,x])/\y=.ref p,λi H=>∃b,cq K H a b/\b.length<=i⟩
theorem q37{P:ag}{w:ai}{K:PySem.W.Frag}{t:List av}{x1:Nat}{eZ:aC}(a e it:ae)(jH:e≠it):
  Turn P w K (.Tuple t x1 eZ) (sf K a) [e,it] e (λi h=>(∃c,IsEnum h e it i c)/\h.IsListIter it a i) where
 mem:=by simp
 obj:=λi h f b hb=>by
  rcases Zu.mp hb with rfl|hb
  ·obtain⟨⟨c,z⟩,_⟩:=f;exact⟨_,z,λv q=>by
    have y:Data.fields _=Data.cell v:=q;cases y⟩
  ·have:b=it:=by simpa using hb
   subst this;obtain⟨_,o,z,_,d⟩:=f;exact⟨o,z,λv q=>by rw[d]at q;cases q⟩
 keep:=λi h h' f k=>by
  obtain⟨⟨c,z⟩,l⟩:=f;exact⟨⟨c,k e (by simp) _ z⟩,l.at λo q=>k it (by simp) o q⟩
 item:=by
  intro X M O T hc i j8 s Y H E I D f Q;subst M O T;obtain⟨⟨c,j⟩,l⟩:=f;obtain⟨xs,x,B,A⟩:=Q;obtain⟨S,G,p,hz⟩:=I.list B;obtain⟨u,hu,ru⟩:=G.get A;obtain⟨e0,e1,e2,e3,e4,W⟩:=D e (by simp);obtain⟨F,J,f2,N,R,L⟩:=D it (by simp);refine q36 j jH l (show s.heap.IsList a S.toArray from p.isList) (x:=u) (by simpa using hu) λh1 h' sb ho g8 ht kp=>?_;refine⟨_,rfl,wpAny_letOwnedTupleGo_enum ho λh2 kW Z=>?_⟩;have V:e<s.heap.objs.size:=Zn j;have Mx:it<s.heap.objs.size:=by obtain⟨o,z,_⟩:=l;exact Zn z
  have fresh:H s.heap.objs.size=none:=I.aO.fresh (Zd _);have C:h1.objs.size=s.heap.objs.size:=sb.1;have J0:Inv X j8 Y (upd H s.heap.objs.size (.tup [.int i,x])) {s with heap:=s.heap.push {cls:=.type "tuple",data:=.seq #[.int i s.toks,u]},toks:=s.toks+1}:=
   I.laid (λb o q=>Zc _ q) (Zd _) ⟨by show 2<=sizeLine;decide,[.int i s.toks,u],.cons ⟨_,rfl⟩ (.cons ru .nil),_,Zj _ rfl,rfl,⟨_,rfl⟩,rfl⟩
  have r:(upd H s.heap.objs.size (.tup [.int i,x])) it=none:=by rw[bV (Zy Mx)];exact F
  have g:(upd H s.heap.objs.size (.tup [.int i,x])) e=none:=by rw[bV (Zy V)];exact e0
  have J1:=J0.turned (it:=it) (h':=h1.push {cls:=.type "tuple",data:=.seq #[.int i s.toks,u]}) (t':=s.toks+1) (λb o hb q=>by
    have q:(s.heap.push {cls:=.type "tuple",data:=.seq #[.int i s.toks,u]}).get? b=some o:=q;by_cases n:b<s.heap.objs.size
    ·have y:s.heap.get? b=some o:=G9 q n;exact Zc _ ((sb.2 b hb).trans y)
    ·have U:b<s.heap.objs.size+1:=by have:=Zn q;rw[Z0]at this;exact this
     have m:b=s.heap.objs.size:=VR (Vo U) (Wf n);subst m;rw[Zj _ rfl]at q;cases q;have:=Zj h1 (o:={cls:=.type "tuple",data:=.seq #[.int i s.toks,u]}) rfl;rw[C]at this;exact this) r J N R L
  have J2:=J1.turned (it:=e) (h':=h') (t':=s.toks+1) (λb o hb q=>by
    have q:(h1.push {cls:=.type "tuple",data:=.seq #[.int i s.toks,u]}).get? b=some o:=q;by_cases n:b<s.heap.objs.size
    ·have y:h1.get? b=some o:=G9 q (by rw[C];exact n);exact kp b o hb y
    ·have U:b<s.heap.objs.size+1:=by have:=Zn q;rw[Z0,C]at this;exact this
     have m:b=s.heap.objs.size:=VR (Vo U) (Wf n);subst m;have:=Zj h1 (o:={cls:=.type "tuple",data:=.seq #[.int i s.toks,u]}) rfl;rw[C]at this;rw[this]at q;cases q;exact ht) g e1 e3 e4 W
  have J3:=J2.turned (it:=e) (h':=h2) (t':=s.toks+1) (λb o hb q=>(Z.2 b hb).trans q) g e1 e3 e4 W;refine⟨.ref s.heap.objs.size,_,J3,rfl,⟨_,x,fresh,λys hy=>by rw[I.ku hy B];exact A,rfl,rfl⟩,⟨⟨u,by
   have:(((i+1:Nat)):Int)=(i:Int)+1:=by lia
   rw[this];exact kW⟩,g8.at λo q=>(Z.2 it (YE jH)).trans q⟩,λb hb=>?_⟩
  rcases Zu.mp hb with rfl|hb
  ·exact g
  ·have:b=it:=by simpa using hb
   subst this;exact r
 done:=by
  intro X M O T hc i j8 s Y H E I D f Q;subst M O T;obtain⟨⟨c,j⟩,l⟩:=f;obtain⟨xs,B,A⟩:=Q;obtain⟨S,G,p,hz⟩:=I.list B;obtain⟨F,J,f2,N,R,L⟩:=D it (by simp);have hl:=G.length;exact wpAny_pyNext_enum_end (I.ok.hd hc) j l (show s.heap.IsList a S.toArray from p.isList) (by simp;exact wt hl A) λh' m=>⟨rfl,I.turned (t':=s.toks) (λb o hb e=>m b o hb e) F J N R L⟩
 self:=λ_ _ _ _ _ f h=>by
  obtain⟨⟨c,j⟩,_⟩:=f;exact Vp j h
section
variable{X:Cx}{elts:List av}{x1:Nat}{eZ:aC}
def xP5(K:PySem.W.Frag)(ta:TA):TI:=λc H R=>ta c H λe b=>∃a,e=[.ref a]/\(∃d,cq K b a d)/\R (sf K a) b
theorem RB{e:av}{ta:TA}{p f:aC}(v:Gl X "enumerate")(r:X.mg "enumerate"=none)(t:PA X [e] ta)(hs:starEach [e] X.env=[(false,eval e X.env)]:=by rfl):PI X (.Tuple elts x1 eZ) (.Call (.Name "enumerate" p) [e] [] f) (xP5 X.K ta):=by
 intro k s i H R I h;refine Call_ (yd I v r V4 (Xb (bz (t f k s i H _ I h) λE c ⟨F,j,d,x,y⟩=>?_) hs rfl));obtain⟨a,rfl,⟨B,m⟩,q⟩:=y;obtain⟨u,rfl,ru⟩:=iq x;cases ru;obtain⟨w,C,pt,D⟩:=d.list m;refine call_enumerate_list (show c.heap.IsList a w.toArray from pt.isList) λn g A _ l=>?_;refine Vp g ?_;have J:Inv X k i j {c with heap:=n}:=d.kept (t':=c.toks) l;refine⟨c.heap.objs.size+1,[c.heap.objs.size+1,c.heap.objs.size],_,_,j,rfl,J,q37 a _ _ (Nat.succ_ne_self _),⟨⟨.none,g⟩,A⟩,λb hb=>?_,q⟩;rcases Zu.mp hb with rfl|hb
 ·exact d.iG (Xu _) (d.aO.fresh (Xu _))
 ·have:b=c.heap.objs.size:=by simpa using hb
  subst this;exact d.iG (Zd _) (d.aO.fresh (Zd _))
end
end L2
namespace L2
open PySem PySem.Spec
theorem Sk{K:PySem.W.Frag}{a:ae}{xs:List V}{g:TG}{tb:TS}{D:Ends}{σ:St}{H:Hp}(Pv:Nat->St->Hp->Prop)(hk:∀i σ h,Pv i σ h->h a=some (.lst xs))(h0:Pv 0 σ H)
  (hs:∀i x σ H p,xs[i]?=some x->Pv i σ H->H p=none->g (.ref p) σ (upd H p (.tup [.int i,x])) λl h=>tb {D with nx:=Pv (i+1),ct:=Pv (i+1),bk:=D.nx} l h) (u:∀σ H,Pv xs.length σ H->D.nx σ H):
  ∃W:Nat->Nat->St->Hp->Prop,(∃m,W 0 m σ H)/\∀i m σ H,W i m σ H ->
   ((sf K a).stop i H/\D.nx σ H)\/((sf K a).go i H/\∃N:St->Hp->Prop,(∀d f,N d f->∃n,n<m/\W (i+1) n d f)/\∀x f,(sf K a).lV i H x f->g x σ f λl h=>tb {D with nx:=N,ct:=N,bk:=D.nx} l h):=by
 refine⟨λi m σ H=>m=xs.length-i/\i<=xs.length/\Pv i σ H,⟨xs.length,by simp,Zs _,h0⟩,?_⟩;rintro i m σ H ⟨rfl,r,p⟩;have k:cq K H a xs:=cq.of (hk i σ H p);by_cases j:i<xs.length
 ·refine .inr ⟨⟨xs,xs[i],k,by simp[j]⟩,Pv (i+1),λd f q=>⟨xs.length-(i+1),q9 j,rfl,j,q⟩,λx f y=>?_⟩;obtain⟨b,c,s,v,t,w⟩:=y;subst t w;exact hs i c σ _ b (v xs k) p s
 ·have e:i=xs.length:=by exact oJ r j
  subst e;exact .inl ⟨⟨xs,k,Zd _⟩,u σ H p⟩
end L2
namespace L2
open PySem PySem.Spec PyProof.Rows
theorem Rm{X:Cx}(hc:X.calm=true){k:Nat}(j:bh k X.A):f_ X (.builtin "sorted") (λi H Q=>∃(r:ae)(L:List Int),i=[.ref r]/\H r=some (EW X.prog X.w r L) /\
  ∀q H' f (g:List Int),aG H H'->H' q=some (.lst f)->f=g.map V.int->g.Nodup->(∀x,x∈g<->x∈L)->sC (P:=X.prog) (w:=X.w) (ET false) H f->Q (.ref q) H'):=by
 intro t s m H i f Q I l h;obtain⟨r,L,e,h1,q⟩:=h;exact qP1 hc j t s m H i f Q I l ⟨r,L,e,h1,λp f g n a b c d=>q p _ f g (bw n) aX a b c d⟩
end L2
namespace Qf
open PySem L2
theorem Qw{α:Type}[DecidableEq α]:∀{l m:List α},l.Nodup->(∀k,k∈l->k∈m)->l.length<=m.length
 |[],m,_,_=>Zs _
 |y::l,m,nd,a=>by
  obtain⟨f,d⟩:=Yu.mp nd;have c:=a y (by simp);have:=Qw (m:=m.erase y) d λz b=>(VM (λe=>f (by rw[<- e];exact b))).mpr (a z (by simp[b]));rw[WY c]at this;have:=Vk c;rw[ZM];lia
def uL(B:List Row)(u:Nat):List Int:=B.map λb=>((b.getD u 0:Nat):Int)
def wL(B:List Row)(u v:Nat):List Int:=B.map λb=>((b.getD u 0:Nat):Int)+((b.getD v 0:Nat):Int)
theorem RA{P:ag}{w:ai}{H:Hp}{us:List V}{f:List Int}{B:List Row}{u v:Nat}(e:us=f.map V.int)(nd:f.Nodup)(i:∀x,x∈f<->x∈uL B u++wL B u v)(as:sC (P:=P) (w:=w) (PyProof.Rows.ET false) H us):
  ∃E,us=Pr.vN E/\dO B u v E/\E.length<=2*B.length:=by
 have c:∀x,x∈f<->∃b∈B,x=((b.getD u 0:Nat):Int)\/x=((b.getD u 0+b.getD v 0:Nat):Int):=λx=>by
  rw[i,ZW];unfold uL wL;simp only[ZU];constructor
  ·rintro(⟨b,hb,rfl⟩|⟨b,hb,rfl⟩)
   ·exact⟨b,hb,.inl rfl⟩
   ·exact⟨b,hb,.inr rfl⟩
  ·rintro⟨b,hb,rfl|rfl⟩
   ·exact .inl ⟨b,hb,rfl⟩
   ·exact .inr ⟨b,hb,rfl⟩
 have d:∀x∈f,((x.toNat:Nat):Int)=x:=λx g=>by
  obtain⟨b,_,rfl|rfl⟩:=(c x).mp g<;>exact ZZ _ (ZG _)
 refine⟨f.map Int.toNat,?_,⟨?_,λx=>?_⟩,?_⟩
 ·rw[e];unfold Pr.vN;rw[YL];exact YI λx g=>by
   show V.int x=V.int ((x.toNat:Nat):Int);rw[d x g]
 ·rw[e]at as;unfold sC at as;rw[Vt]at as ⊢;have m:=List.Pairwise.and as (Yb.mp nd);refine List.Pairwise.imp_of_mem (λ{a b} k hb h=>?_) m;have j:=h.1 _ _ (KQ _) (KQ _);have q:¬b<a:=λz=>j (by
   rw[YZ,YZ];exact .inl (.inl z))
  have r:=h.2;have n:=d a k;have p:=d b hb;lia
 ·rw[ZU];constructor
  ·rintro⟨y,l,rfl⟩;obtain⟨b,hb,rfl|rfl⟩:=(c y).mp l
   ·exact⟨b,hb,.inl (ZG _)⟩
   ·exact⟨b,hb,.inr (ZG _)⟩
  ·rintro⟨b,hb,rfl|rfl⟩
   ·exact⟨_,(c _).mpr ⟨b,hb,.inl rfl⟩,ZG _⟩
   ·exact⟨_,(c _).mpr ⟨b,hb,.inr rfl⟩,ZG _⟩
 ·rw[Zg];have:=Qw nd λx g=>(i x).mp g;rw[Zw]at this;unfold uL wL at this;rw[Zg,Zg]at this;lia
structure eQ(B:List Row)(E D:List Nat)(i j:Nat)(S:List (Nat×Nat)):Prop where
 nd:S.Nodup
 mem:∀x,x∈S<->(x.1<i\/x.1=i/\x.2<j)/\x.2<D.length/\B.any (jc (E.getD x.1 0) (D.getD x.2 0))=true
theorem eQ.start(B:List Row)(E D:List Nat):eQ B E D 0 0 []:=⟨Xv,λx=>⟨λh=>(nomatch h),λh=>by have:=h.1;lia⟩⟩
theorem eQ.yes{B:List Row}{E D:List Nat}{i j:Nat}{S:List (Nat×Nat)}(p:eQ B E D i j S)(g:j<D.length)(h:B.any (jc (E.getD i 0) (D.getD j 0))=true):eQ B E D i (j+1) (S++[(i,j)]):=by
 refine⟨Xz.mpr ⟨p.nd,by simp,λa k b hb e=>?_⟩,λx=>?_⟩
 ·have:b=(i,j):=by simpa using hb
  subst this;subst e;have:=(p.mem _).mp k;simp only at this;lia
 ·rw[ZW,p.mem,Z1];constructor
  ·rintro(⟨h1,f,d⟩|rfl)
   ·exact⟨by lia,f,d⟩
   ·exact⟨.inr ⟨rfl,ZN _⟩,g,h⟩
  ·rintro⟨h1,f,d⟩;by_cases c:x.1=i/\x.2=j
   ·exact .inr (XG c.1 c.2)
   ·exact .inl ⟨by lia,f,d⟩
theorem eQ.no{B:List Row}{E D:List Nat}{i j:Nat}{S:List (Nat×Nat)}(p:eQ B E D i j S)(h:B.any (jc (E.getD i 0) (D.getD j 0))=false):eQ B E D i (j+1) S:=by
 refine⟨p.nd,λx=>?_⟩;rw[p.mem];constructor
 ·rintro⟨h1,b,a⟩;exact⟨by lia,b,a⟩
 ·rintro⟨h1,b,a⟩;by_cases c:x.1=i/\x.2=j
  ·rw[c.1,c.2,h]at a;cases a
  ·exact⟨by lia,b,a⟩
theorem eQ.row{B:List Row}{E D:List Nat}{i:Nat}{S:List (Nat×Nat)}(p:eQ B E D i D.length S):eQ B E D (i+1) 0 S:=by
 refine⟨p.nd,λx=>?_⟩;rw[p.mem];exact⟨λ⟨h1,b,a⟩=>⟨by lia,b,a⟩,λ⟨h1,b,a⟩=>⟨by lia,b,a⟩⟩
end Qf
namespace Pr
open PySem L2 Qf
theorem CF{H:Hp}{B:List Row}{bs:List ae}{x:V}{j:Nat}(e:bs.length=B.length)(f:∀(i:Nat) b r,bs[i]?=some b->B[i]?=some r->H b=some (.tup (vN r)))(c:(bs.map V.ref)[j]?=some x):∃b,x=.ref b/\B.getD j []∈B/\H b=some (.tup (vN (B.getD j []))):=by
 rw[Zh]at c;obtain⟨b,hb,rfl⟩:=Zl.mp c;have d:j<B.length:=by rw[<- e];exact(cz hb).1
 have a:B[j]?=some (B.getD j []):=by rw[ZD,Ze d];rfl
 exact⟨b,rfl,ZH a,f j b _ hb a⟩
theorem BV{ys:List V}{B:List Row}{bs:List ae}(f:Row->V)(c:bs.length=B.length)(b:ys.length=(bs.map V.ref).length)(h:∀(i:Nat) y,ys[i]?=some y->y=f (B.getD i [])):ys=B.map f:=by
 refine vq (by rw[b,Zg,Zg,c]) λj x d=>?_;have a:j<B.length:=by
  have:=(cz d).1;rw[b,Zg,c]at this;exact this
 rw[h j x d,Zh,Ze a,ZD,Ze a]
 rfl
abbrev ou:List ar:=["_law_boxes_here","_law_rows","_law_columns","_law_found","_law_r","_law_row","_law_c","_law_column"]
theorem dF:aI ou ["_law_boxes_here"] (ck tL):=dz
inductive xI(vs:List V)(H:Hp)(Q:VK):Prop
 |mk(bp:ae)(B:List Row)(e0:vs=[.ref bp])(e1:br H bp B)(e2:∀b∈B,b.length=4)(e3:B.length<=64)
  (e4:∀H' l S E D,aG H H'->br H' l (S.map pr)->dO B 0 2 E->dO B 1 3 D->eQ B E D E.length 0 S->S.length<=20000->Q (.ref l) H')
def Qv:Sp:=λa H Q _=>xI a H Q
theorem xP8{f fH:ae}{fd l9:ak}(F:bj K "_law_parted" "_law_parted" tL f fd)(B:eR mg)(Hv:mg "sorted"=none)(hH:mg "_law_has"=some (.ref fH))(FH:bj K "_law_has" "_law_has" kx fH l9)(bH:Binds K l9 jl []):aE P w K mg base aW 2 f fd ["_law_boxes_here"] Qv:=by
 have GH:aE P w K mg base aW 1 fH l9 jl (CI hasB):=O1 FH;refine F.ok dF (λvs H Q E h=>?_) (λcA A outer s H vs Q E hr h=>?_)
 ·obtain⟨G,c,rfl,_⟩:=h
  rfl
 ·obtain⟨G,c,rfl,hB,h4,W,q⟩:=h;have jF:bh 1 _:=hr.mono uc;refine aZ ⟨_,⟨cR 1 dF.nd (dH (Rm rfl hr) (by rfl) Hv PyProof.Rows.boot_sorted (bJ.go (.cons ⟨hV (Sl rfl) (by rfl) B.set VD (bJ.go (.cons ⟨a_ Pz
   (nH ou (ck tL) rfl rfl rfl dF.nd (sH (pv 0)) (λcl C fp aM aN=>bU.go ⟨cW (uu K rfl) (pv 0) aV⟩))
   (nH ou (ck tL) rfl rfl rfl dF.nd (sH (pv 0)) (λcl C fp aM aN=>bU.go ⟨a_ df (cW (uu K rfl) (pv 0) aV) (cW (uu K rfl) (pv 0) aV)⟩))⟩ .nil rfl))⟩ .nil rfl)))⟩,?_⟩
  refine aZ ⟨_,⟨cR 2 dF.nd (dH (Rm rfl hr) (by rfl) Hv PyProof.Rows.boot_sorted (bJ.go (.cons ⟨hV (Sl rfl) (by rfl) B.set VD (bJ.go (.cons ⟨a_ Pz
   (nH ou (ck tL) rfl rfl rfl dF.nd (sH (pv 0)) (λcl C fp aM aN=>bU.go ⟨cW (uu K rfl) (pv 0) aV⟩))
   (nH ou (ck tL) rfl rfl rfl dF.nd (sH (pv 0)) (λcl C fp aM aN=>bU.go ⟨a_ df (cW (uu K rfl) (pv 0) aV) (cW (uu K rfl) (pv 0) aV)⟩))⟩ .nil rfl))⟩ .nil rfl)))⟩,?_⟩
  refine aZ ⟨_,⟨cR 3 dF.nd (n_ aQ)⟩,?_⟩;refine aZ ⟨_,⟨og Yv rfl (RB (by rfl) B.enum (aF (pv 1) aQ)) (qg rfl (gc (eD 4 dF.nd) (gc (eD 5 dF.nd) qh)))
   (gZ.go (.one ⟨og Yv rfl (RB (by rfl) B.enum (aF (pv 2) aQ)) (qg rfl (gc (eD 6 dF.nd) (gc (eD 7 dF.nd) qh)))
    (gZ.go (.one ⟨fb (l4 (dH (Kq rfl) (by rfl) B.any VC (bJ.go (.cons ⟨nH ou (ck tL) rfl rfl rfl dF.nd (sH (pv 0))
      (λcl C fp aM aN=>bU.go ⟨cF GH jF hH FH.kp bH (bJ.go (.cons ⟨pv 0⟩ (.cons ⟨pv 6⟩ (.cons ⟨pv 8⟩ (.cons gH .nil rfl) rfl) rfl) rfl))⟩)⟩ .nil rfl))))
     (gZ.go (.one ⟨tN (bU.go (Pl XA Xp Xq An ⟨pv 3⟩ (.cons ⟨eM (aF (pv 4) (aF (pv 6) aQ))⟩ .nil rfl)))⟩)) fU⟩))⟩))⟩,?_⟩
  refine fZ ⟨_,⟨cQ (pv 3)⟩,?_⟩;obtain⟨bs0,yD,Z,wy⟩:=id hB;refine⟨_,rfl,G,rfl,⟨_,cq.of yD⟩,λD1 Ew=>oo Ew (λi y _=>y=.int (((c.getD i []).getD 0 0:Nat):Int)) (tP (K:=K) yD) (by rw[Zg];exact i5 (qM Z W)) (λ_ _ _ _ _ _ h=>h) ?_ ?_⟩
  ·intro j x R Y m g Q' n;obtain⟨b,rfl,N,hb⟩:=CF Z wy m;obtain⟨x0,x1,x2,x3,ex⟩:=tJ (h4 _ N);have u:=g _ _ hb;rw[ex]at u n;exact⟨_,rfl,b,_,0,.int (x0:Nat),rfl,rfl,bg.of u,rfl,n _ _ (aG.refl _) rfl⟩
  intro IA R g jM jI k8;have e1:IA=(uL c 0).map V.int:=(BV (λb=>.int ((b.getD 0 0:Nat):Int)) Z jI k8).trans (YL ..).symm;subst e1;refine⟨_,rfl,G,rfl,⟨_,cq.of (g _ _ yD)⟩,λD2 kD=>oo kD (λi y _=>y=.int ((((c.getD i []).getD 0 0:Nat):Int)+(((c.getD i []).getD 2 0:Nat):Int))) (tP (K:=K) (g _ _ yD)) (by rw[Zg];exact i5 (qM Z W)) (λ_ _ _ _ _ _ h=>h) ?_ ?_⟩
  ·intro j x J Y m l Q' n;obtain⟨b,rfl,N,hb⟩:=CF Z wy m;obtain⟨x0,x1,x2,x3,ex⟩:=tJ (h4 _ N);have u:=l _ _ (g _ _ hb);rw[ex]at u n;exact⟨_,rfl,b,_,0,.int (x0:Nat),rfl,rfl,bg.of u,rfl,_,rfl,b,_,2,.int (x2:Nat),rfl,rfl,bg.of u,rfl,_,_,rfl,rfl,n _ _ (aG.refl _) rfl⟩
  intro Iz J l kJ Nc vV;have e2:Iz=(wL c 0 2).map V.int:=(BV (λb=>.int (((b.getD 0 0:Nat):Int)+((b.getD 2 0:Nat):Int))) Z Nc vV).trans (YL ..).symm;subst e2;have lu:(uL c 0).length=c.length:=Zg ..;have lw:(wL c 0 2).length=c.length:=Zg ..;refine⟨D1,D2,_,_,rfl,rfl,l _ _ jM,kJ,by rw[Zg,Zg,lu,lw];exact XX (i5 'a'),λp U=>?_⟩;refine⟨p,uL c 0++wL c 0 2,rfl,by rw[aX,ZL],by rw[Zw,lu,lw];unfold scanBound;lia,λr kZ=>?_⟩;refine⟨r,_,rfl,aX,λq0 HA us ls sn Eu e nd hm as=>?_⟩;obtain⟨E0,rfl,hE0,lE0⟩:=RA e nd hm as;have S0:=g.trans (l.trans ((bw U).trans ((bw kZ).trans sn)));clear k8 vV jM kJ g l Ew kD U kZ sn e nd hm as;have hB1:=hB.same S0;obtain⟨bs1,wK,iO,wx⟩:=id hB1;refine⟨_,rfl,G,rfl,⟨_,cq.of wK⟩,λD1 Ew=>oo Ew (λi y _=>y=.int (((c.getD i []).getD 1 0:Nat):Int)) (tP (K:=K) wK) (by rw[Zg];exact i5 (qM iO W)) (λ_ _ _ _ _ _ h=>h) ?_ ?_⟩
  ·intro j x R Y m g Q' n;obtain⟨b,rfl,N,hb⟩:=CF iO wx m;obtain⟨x0,x1,x2,x3,ex⟩:=tJ (h4 _ N);have u:=g _ _ hb;rw[ex]at u n;exact⟨_,rfl,b,_,1,.int (x1:Nat),rfl,rfl,bg.of u,rfl,n _ _ (aG.refl _) rfl⟩
  intro IA R g jM jI k8;have e1:IA=(uL c 1).map V.int:=(BV (λb=>.int ((b.getD 1 0:Nat):Int)) iO jI k8).trans (YL ..).symm;subst e1;refine⟨_,rfl,G,rfl,⟨_,cq.of (g _ _ wK)⟩,λD2 kD=>oo kD (λi y _=>y=.int ((((c.getD i []).getD 1 0:Nat):Int)+(((c.getD i []).getD 3 0:Nat):Int))) (tP (K:=K) (g _ _ wK)) (by rw[Zg];exact i5 (qM iO W)) (λ_ _ _ _ _ _ h=>h) ?_ ?_⟩
  ·intro j x J Y m l Q' n;obtain⟨b,rfl,N,hb⟩:=CF iO wx m;obtain⟨x0,x1,x2,x3,ex⟩:=tJ (h4 _ N);have u:=l _ _ (g _ _ hb);rw[ex]at u n;exact⟨_,rfl,b,_,1,.int (x1:Nat),rfl,rfl,bg.of u,rfl,_,rfl,b,_,3,.int (x3:Nat),rfl,rfl,bg.of u,rfl,_,_,rfl,rfl,n _ _ (aG.refl _) rfl⟩
  intro Iz J l kJ Nc vV;have e2:Iz=(wL c 1 3).map V.int:=(BV (λb=>.int (((b.getD 1 0:Nat):Int)+((b.getD 3 0:Nat):Int))) iO Nc vV).trans (YL ..).symm;subst e2;have lu:(uL c 1).length=c.length:=Zg ..;have lw:(wL c 1 3).length=c.length:=Zg ..;refine⟨D1,D2,_,_,rfl,rfl,l _ _ jM,kJ,by rw[Zg,Zg,lu,lw];exact XX (i5 'a'),λp U=>?_⟩;refine⟨p,uL c 1++wL c 1 3,rfl,by rw[aX,ZL],by rw[Zw,lu,lw];unfold scanBound;lia,λr kZ=>?_⟩;refine⟨r,_,rfl,aX,λq1 HB us ls sn Et e nd hm as=>?_⟩;obtain⟨d,rfl,hE1,U9⟩:=RA e nd hm as;have S1:=g.trans (l.trans ((bw U).trans ((bw kZ).trans sn)));clear k8 vV jM kJ g l Ew kD U kZ sn e nd hm as;refine⟨(by show 0<=sizeLine;decide),λM vQ=>?_⟩;have S01:=S0.trans S1;refine⟨_,rfl,q0,rfl,⟨_,cq.of (aH (S1 _ _ Eu) vQ)⟩,Sk (K:=K) (a:=q0) (xs:=vN E0) (λi L R=>aG HB R/\(∃S,br R M (S.map pr)/\eQ c E0 d i 0 S/\S.length<=i*d.length)/\∃v4 v5 T O,L=[some (.ref G),some (.ref q0),some (.ref q1),some (.ref M),v4,v5,T,O])
   (λi L R h=>h.1 _ _ (S1 _ _ Eu)) ⟨bw vQ,⟨[],⟨[],aX,rfl,λi b r e=>by cases e⟩,eQ.start c E0 d,Zs _⟩,none,none,none,none,rfl⟩ ?_ ?_⟩
  ·rintro i x L R p m ⟨g,⟨S,v,I,X⟩,v4,v5,T,O,rfl⟩ U;have hi:i<E0.length:=by
    have:=(cz m).1;rw[jn]at this;exact this
   have ex:x=.int ((E0.getD i 0:Nat):Int):=by
    unfold vN at m;rw[Zh,Ze hi]at m;rw[ZD,Ze hi];exact(ZE m).symm
   subst ex;refine⟨p,_,rfl,bg.of aX,rfl,_,_,rfl,_,_,rfl,rfl,?_⟩;refine As (σ':=[some (.ref G),some (.ref q0),some (.ref q1),some (.ref M),some (.int (i:Nat)),some (.int ((E0.getD i 0:Nat):Int)),T,O]) rfl ?_;have l:=g.trans (bw (o:=.tup [.int (i:Nat),.int ((E0.getD i 0:Nat):Int)]) U);refine⟨_,rfl,q1,rfl,⟨_,cq.of (l _ _ Et)⟩,Sk (K:=K) (a:=q1) (xs:=vN d) (λj L J=>aG HB J/\(∃S,br J M (S.map pr)/\eQ c E0 d i j S/\S.length<=i*d.length+j)/\∃T O,L=[some (.ref G),some (.ref q0),some (.ref q1),some (.ref M),some (.int (i:Nat)),some (.int ((E0.getD i 0:Nat):Int)),T,O])
    (λj L J h=>h.1 _ _ Et) ⟨l,⟨S,v.same (bw U),I,X⟩,T,O,rfl⟩ ?_ ?_⟩
   ·rintro j y L J p2 hy ⟨s4,⟨S,v,I,X⟩,T,O,rfl⟩ jO;have Y:j<d.length:=by
     have:=(cz hy).1;rw[jn]at this;exact this
    have ey:y=.int ((d.getD j 0:Nat):Int):=by
     unfold vN at hy;rw[Zh,Ze Y]at hy;rw[ZD,Ze Y];exact(ZE hy).symm
    subst ey;refine⟨p2,_,rfl,bg.of aX,rfl,_,_,rfl,_,_,rfl,rfl,?_⟩;refine As (σ':=[some (.ref G),some (.ref q0),some (.ref q1),some (.ref M),some (.int (i:Nat)),some (.int ((E0.getD i 0:Nat):Int)),some (.int (j:Nat)),some (.int ((d.getD j 0:Nat):Int))]) rfl ?_;have s5:=s4.trans (bw (o:=.tup [.int (j:Nat),.int ((d.getD j 0:Nat):Int)]) jO)
    replace v:=v.same (bw (o:=.tup [.int (j:Nat),.int ((d.getD j 0:Nat):Int)]) jO)
    generalize upd J p2 (.tup [.int (j:Nat),.int ((d.getD j 0:Nat):Int)])=H4 at s5 v ⊢;obtain⟨bs,hb,j9,jC⟩:=(hB.same S01).same s5;refine⟨_,rfl,G,rfl,⟨_,cq.of hb⟩,λD hD=>oo hD (λk y _=>y=.bl (hasB (E0.getD i 0) (d.getD j 0) 1 (c.getD k []))) (tP (K:=K) hb) (by rw[Zg];exact i5 (qM j9 W)) (λ_ _ _ _ _ _ h=>h) ?_ ?_⟩
    ·intro k x H5 hk m s6 Q' n;obtain⟨b,rfl,N,hb⟩:=CF j9 jC m;exact⟨_,rfl,_,rfl,_,rfl,b,_,E0.getD i 0,d.getD j 0,1,rfl,s6 _ _ hb,h4 _ N,n _ _ (aG.refl _) rfl⟩
    intro ys H5 s6 kE jW jV;have eY:ys=(c.map (hasB (E0.getD i 0) (d.getD j 0) 1)).map V.bl:=(BV (λb=>.bl (hasB (E0.getD i 0) (d.getD j 0) 1 b)) j9 jW jV).trans (YL ..).symm;subst eY;refine⟨D,_,rfl,kE,_,rfl,?_⟩;have uH:((c.map (hasB (E0.getD i 0) (d.getD j 0) 1))).any id=c.any (jc (E0.getD i 0) (d.getD j 0)):=by rw[List.any_map];rfl
    rw[uH];have s7:=s5.trans s6
    replace v:=v.same s6
    cases hh:c.any (jc (E0.getD i 0) (d.getD j 0))with
    |false=>exact cJ ⟨s7,⟨S,v,I.no hh,by lia⟩,_,_,rfl⟩
    |true=>
     refine cM ?_;obtain⟨fs,f0,f1,f2⟩:=id v;have lj:i*d.length+d.length<=128*128:=by
      rw[<- Y5];exact WJ 'a' (IS U9 W)
     refine⟨_,rfl,.inl ⟨rfl,_,cq.of f0⟩,_,rfl,_,rfl,(by show 2<=sizeLine;decide),λt ht=>?_⟩;refine⟨M,_,_,rfl,rfl,aH f0 ht,by rw[Zg,f1,Zg];exact i5 'a',?_⟩;have push:=br.push (r:=pr (i,j)) f0 f1 f2 ht;refine⟨?_,⟨S++[(i,j)],by rw[ZL];exact push,I.yes Y hh,by rw[Zw];show S.length+1<=_;lia⟩,_,_,rfl⟩;intro b o e;have nb:b≠M:=cI e vQ;rw[bV nb];exact aH (s7 _ _ e) ht
   ·rintro L J ⟨s4,⟨S,v,I,X⟩,T,O,rfl⟩;rw[jn]at I X;exact⟨s4,⟨S,v,I.row,by rw[Y5];exact X⟩,_,_,_,_,rfl⟩
  ·rintro L R ⟨g,⟨S,v,I,X⟩,v4,v5,T,O,rfl⟩;rw[jn]at I X;exact⟨_,rfl,q _ M S E0 d (S01.trans g) v hE0 hE1 I (by have:=WJ (show E0.length<=128 from IS lE0 W) (show d.length<=128 from IS U9 W);lia)⟩
def zK(n:Nat)(a:List Row):Nat:=Tr.name (Tr.post (bt n a 0 0) []) (bt n a 0 0)
def sJ(n:Nat)(a:List Row):List Row:=Tr.rowsOf (Tr.post (bt n a 0 0) [])
theorem xG9{n:Nat}{a:List Row}(b:n<=12):Canon n (zK n a) (sJ n a):=To b (Au n a 0 0) (x5 n a 0 0)
theorem xU9{n:Nat}{a:List Row}(c:n<=12)(h:E6 n a):(sJ n a).length<=485:=by
 unfold sJ;rw[Tr.bc];have h1:=yg (bt n a 0 0) [];have b:=xc5 c h;simp at h1;exact ko h1 b
theorem b_T{n:Nat}{a:List Row}:T (sJ n a) (zK n a)=bt n a 0 0:=by
 obtain⟨b,c⟩:=Tr.bK (bt n a 0 0) [] Tr.c6;exact tG b _ c
abbrev LZ:List ar:=["_law_n","_law_boxes_here","_law_rows","_law_top"]
theorem pW:aI LZ ["_law_n","_law_boxes_here"] (ck Gy):=dz
inductive xR(vs:List V)(H:Hp)(Q:VK):Prop
 |mk(bp:ae)(n:Nat)(aD:List Row)(e0:vs=[.int (n:Nat),.ref bp])(e1:br H bp aD)(e2:E6 n aD)(e3:n<=12)(e4:∀(H':Hp)(t:ae),aG H H'->vn H' t n (zK n aD) (sJ n aD)->Q (.ref t) H')
def Qu:Sp:=λa H Q _=>xR a H Q
theorem xQ0{f u T U:ae}{Y J M l9:ak}(F:bj K "_law_shape" "_law_shape" Gy f Y)(B:eR mg)(N:mg "_law_number"=some (.ref u))(S:bj K "_law_number" "_law_number" tM u J)(bN:Binds K J sM [])
  (hM:mg "_law_meets"=some (.ref T)) (FM:bj K "_law_meets" "_law_meets" x9 T M) (bM:Binds K M jl [])
  (hH:mg "_law_has"=some (.ref U)) (FH:bj K "_law_has" "_law_has" kx U l9) (bH:Binds K l9 jl []):aE P w K mg base aW 15 f Y ["_law_n","_law_boxes_here"] Qu:=by
 have GN:∀k,k<=12->aE P w K mg base aW (k+2) u J sM (Ba k):=Jm S B N bN hM FM bM hH FH bH;refine F.ok pW (λvs H Q E h=>?_) (λcA A y s H vs Q E hr h=>?_)
 ·obtain⟨d,n,a,rfl,_⟩:=h
  rfl
 ·obtain⟨d,n,a,rfl,W,C,j,q⟩:=h;have MW:bh (n+2) _:=hr.mono 'a';refine aZ ⟨_,⟨cR 2 pW.nd F_⟩,?_⟩;refine aZ ⟨_,⟨cR 3 pW.nd (K7 (GN n j) MW (by rfl) N S.kp bN .nil mD (bJ.go (.cons ⟨pv 2⟩ (.cons ⟨pv 1⟩ (.cons gH (.cons gH (.cons ⟨a_ nF aV (pv 0)⟩ .nil rfl) rfl) rfl) rfl) rfl)))⟩,?_⟩;refine fZ ⟨_,⟨cQ (eM (bJ.go (.cons ⟨pv 0⟩ (.cons ⟨pv 3⟩ (.cons ⟨hV (Ri rfl) (by rfl) B.tuple ZP (aF (pv 2) aQ)⟩ .nil rfl) rfl) rfl)))⟩,?_⟩;intro e g;have LW:d≠e:=by obtain⟨bs,hb,_⟩:=W;exact cI hb g
  have h4:∀b∈a,b.length=4:=λb hb=>by
   obtain⟨r,c,h,w',rfl,_⟩:=C.1 b hb
   rfl
  have vG:a.length<=900:=by
   rcases C.2 with⟨_,h⟩|⟨h,_⟩<;>lia
  have L:sz n<=6000000:=ZF (JA j) 'b';have Bd:[V.ref e,V.ref d,V.int 0,V.int 0,V.int (1*2^((n:Int)).toNat)]=[V.ref e,V.ref d,V.int ((0:Nat):Int),V.int ((0:Nat):Int),V.int ((2^n:Nat):Int)]:=by rw[vg];rfl
  refine⟨_,rfl,_,rfl,_,rfl,_,_,rfl,rfl,⟨nO,by lia,by decide⟩,e,d,a,0,0,[],Bd,W.same (bw g),h4,vG,LW,Tr.c6,aX,by simpa using L,λH1 b1 G=>?_⟩;have S1:aG H H1:=λb o z=>b1 _ _ (aH z g) (cI z g);refine⟨_,rfl,_,rfl,_,rfl,e,_,rfl,G,λl bs X zr x=>⟨(by show 3<=sizeLine;decide),λt I=>?_⟩⟩;refine q _ t ((S1.trans (bw X)).trans (bw I)) ⟨⟨l,aX,bs,aH aX I,?_,?_⟩,xG9 j,?_⟩
  ·rw[zr];unfold tK;rw[Aj]
   rfl
  ·intro i b r e1 Z;have m:=(cz Z).1;have v:(tK (sJ n a)).length=(sJ n a).length:=by unfold tK;rw[Aj]
   have vD:(tK (sJ n a))[i]?=some ((tK (sJ n a))[i]'(ki m v)):=Ze (ki m v);have vO:((tK (sJ n a))[i]'(ki m v)).1=dQ r:=by
    have D:=vD;unfold tK e_ at D;rw[Zh]at D;obtain⟨p,R,ep⟩:=Zl.mp D;rw[List.getElem?_zipIdx]at R;obtain⟨r',O,rfl⟩:=Zl.mp R;rw[Z]at O;cases O;exact(ZZ Prod.fst ep).symm
   have:=x i b _ e1 vD;rw[vO,p_]at this;exact aH (aH this X) I
  ·exact ZF (xU9 j C) 'b'
end Pr
namespace Qf
open Tr L2
theorem qT9{sd:Bool}{n:Nat}{B:List Row}{E D:List Nat}{S:List (Nat×Nat)}(F:∀b∈B,yp n b)(l:dO B 0 2 E)(s:dO B 1 3 D)(p:eQ B E D E.length 0 S):(if sd then cX (bt n B 0 0)else 1-cX (sR (bt n B 0 0)))=A4 sd S:=by
 by_cases u:B=[]
 ·subst u;have v:S=[]:=by
   cases S with
   |nil=>rfl
   |cons x S=>
    have:=(p.mem x).mp Zz;have a:=this.2.2;cases a
  subst v;have:bt n [] 0 0=.z:=by cases n<;>rfl
  rw[this];cases sd<;>rfl
 ·have q:∀b∈B,(0<b.getD 2 0/\b.getD 0 0+b.getD 2 0<=2^n)/\(0<b.getD 3 0/\b.getD 1 0+b.getD 3 0<=2^n):=λb hb=>by
   obtain⟨r,c,h,w,rfl,h1,t,a,A⟩:=F b hb;exact⟨⟨h1,a⟩,t,A⟩
  rw[SD (x5 n B 0 0)];obtain⟨C,y,e⟩:=qT1 (sd:=sd) (g:=aK n (bt n B 0 0)) l s q (fj n) u λi j f k=>by
   have:=Qg n B 0 0 i j (Yl f) (Yl k);rw[UL]at this;exact this
  rw[e];have d:∀x,x∈S->i7 B E D x.1 x.2=true:=λx m=>by
   obtain⟨h1,t,a⟩:=(p.mem x).mp m;rw[Lc l s 'a' t];exact a
  refine(RO (qR C) (qR y) p.nd (λx m=>?_) λi j f k=>?_).symm
  ·have h:=d x m;unfold i7 at h;simp only[We,YA]at h;lia
  ·constructor
   ·intro h;rw[Lc l s (qQ f) (qQ k)]at h;exact(p.mem (i,j)).mpr ⟨.inl (by show i<E.length;exact qQ f),by show j<D.length;exact qQ k,h⟩
   ·exact λh=>d (i,j) h
end Qf
namespace Pr
open PySem L2 Qf
abbrev LX:List ar:=["_law_script","_law_k","_law_pot_here","_law_n","_law_boxes_here","_law_shape_here","_law_cells_here"]
theorem eU:aI LX ["_law_script"] (ck ja):=dz
inductive xM(K:PySem.W.Frag)(vs:List V)(H:Hp)(Q:VK):Prop
 |mk(a:ae)(ns:List Int)(e0:vs=[.ref a])(e1:cq K H a (ns.map V.int))(e2:ns.length<=63)(e3:∀H',Q (.bl true) H')
def E2(K:PySem.W.Frag):Sp:=λa H Q _=>xM K a H Q
theorem xQ1{f fP fD fB fS fT fM fL fA fR:ae}{fd zB gj zD mY nT gh N6 js rP:ak}(F:bj K "law" "law" ja f fd)(B:eR mg)(C:zT mg)
  (hP:mg "_law_pot"=some (.ref fP)) (FP:bj K "_law_pot" "_law_pot" uq fP zB) (bP:Binds K zB ["_law_script","_law_k"] [])
  (hD:mg "_law_digit"=some (.ref fD)) (FD:bj K "_law_digit" "_law_digit" tH fD gj) (bD:Binds K gj ["_law_pot_here","_law_many"] [])
  (hB:mg "_law_boxes"=some (.ref fB)) (FB:bj K "_law_boxes" "_law_boxes" Cu fB zD) (bB:Binds K zD ["_law_pot_here","_law_n"] []) (GB:aE P w K mg base aW 3 fB zD ["_law_pot_here","_law_n"] P9)
  (hS:mg "_law_shape"=some (.ref fS)) (FS:bj K "_law_shape" "_law_shape" Gy fS mY) (bS:Binds K mY ["_law_n","_law_boxes_here"] []) (GS:aE P w K mg base aW 15 fS mY ["_law_n","_law_boxes_here"] Qu)
  (hT:mg "_law_parted"=some (.ref fT)) (FT:bj K "_law_parted" "_law_parted" tL fT nT) (bT:Binds K nT ["_law_boxes_here"] []) (GT:aE P w K mg base aW 2 fT nT ["_law_boxes_here"] Qv)
  (hM:mg "_law_small"=some (.ref fM)) (FM:bj K "_law_small" "_law_small" Ct fM gh) (bM:Binds K gh ["_law_pot_here","_law_sizes"] []) (GM:aE P w K mg base aW 2 fM gh ["_law_pot_here","_law_sizes"] Bq)
  (hL:mg "_law_place"=some (.ref fL)) (FL:bj K "_law_place" "_law_place" Gx fL N6) (bL:Binds K N6 ["_law_pot_here","_law_n"] []) (GL:aE P w K mg base aW 2 fL N6 ["_law_pot_here","_law_n"] Bs)
  (hA:mg "_law_put_at"=some (.ref fA)) (FA:bj K "_law_put_at" "_law_put_at" Cs fA js) (bA:Binds K js tV []) (GA:aE P w K mg base aW 7 fA js tV Bu)
  (hR:mg "_law_right"=some (.ref fR)) (FR:bj K "_law_right" "_law_right" Cr fR rP) (bR:Binds K rP E3 []) (GR:aE P w K mg base aW 36 fR rP E3 Qz):
  aE P w K mg base aW 37 f fd ["_law_script"] (E2 K):=by
 have GP:aE P w K mg base aW 1 fP zB ["_law_script","_law_k"] (QK K):=xL3 FP B C;have GD:aE P w K mg base aW 1 fD gj ["_law_pot_here","_law_many"] vh:=Ai FD;refine F.ok eU (λvs H Q E h=>?_) (λcA A outer s H vs Q E k h=>?_)
 ·obtain⟨a,ns,rfl,_⟩:=h
  rfl
 ·obtain⟨a,ns,rfl,O,j9,q⟩:=h;have jF:bh 1 _:=k.mono 'b';have k8:bh 2 _:=k.mono 'b';have vV:bh 3 _:=k.mono 'b';have hr7:bh 7 _:=k.mono 'b';have MY:bh 15 _:=k.mono 'b';refine aZ ⟨_,⟨og Yv rfl (ym (by rfl) B.range (aF (dH (Tg rfl) (by rfl) B.max VA (aF aV (aF (dH (Kw rfl) (by rfl) B.min Wu (aF aV (aF (dH tR (by rfl) B.len Yq (aF (pv 0) aQ)) aQ))) aQ))) aQ)) (eD 1 eU.nd)
    (gZ.go (.cons ⟨cR 2 eU.nd (cF GP jF hP FP.kp bP (aF (pv 0) (aF (pv 1) aQ)))⟩
    (.cons ⟨z_ (fb (gB p7 (cF GD jF hD FD.kp bD (aF (pv 2) (aF aV aQ))) aV (dA _))
     (gZ.go (.cons ⟨cR 3 eU.nd (cF GD jF hD FD.kp bD (aF (pv 2) (aF aV aQ)))⟩
      (.cons ⟨cR 4 eU.nd (cF GB vV hB FB.kp bB (aF (pv 2) (aF (pv 3) aQ)))⟩
      (.cons ⟨cR 5 eU.nd (cF GS MY hS FS.kp bS (aF (pv 3) (aF (pv 4) aQ)))⟩
      (.one ⟨cR 6 eU.nd (cF GT k8 hT FT.kp bT (aF (pv 4) aQ))⟩)))))
     (gZ.go (.cons ⟨sE (bU.go ⟨cF GM k8 hM FM.kp bM (bJ.go (.cons ⟨pv 2⟩ (.cons ⟨n_ (bJ.go (.cons gH (.cons gH (.cons gH (.cons gH (.cons gH (.cons gH .nil rfl) rfl) rfl) rfl) rfl) rfl))⟩ .nil rfl) rfl))⟩) (qg rfl (gc (eD 3 eU.nd) (gc (eD 6 eU.nd) qh)))⟩
      (.one ⟨cR 5 eU.nd (bU.go ⟨cF GA hr7 hA FA.kp bA (bJ.go (.cons ⟨cF GL k8 hL FL.kp bL (aF (pv 2) (aF (pv 3) aQ))⟩ (.cons ⟨pv 3⟩ (.cons ⟨pv 6⟩ .nil rfl) rfl) rfl))⟩)⟩))))⟩
    (.one ⟨fb (tI (l4 (bU.go ⟨cF GR k hR FR.kp bR (aF (pv 5) (aF (pv 6) aQ))⟩))) Gh fU⟩))))⟩,?_⟩
  refine fZ ⟨_,⟨cQ lY⟩,?_⟩;refine⟨_,rfl,a,_,rfl,.inl O,_,_,rfl,_,_,rfl,_,rfl,?_,?_,Gg (λi g H2=>(i:Int)<=4/\aG H H2/\∃v1 v2 L G v5 v6,g=[some (.ref a),v1,v2,L,G,v5,v6]) ⟨by decide,aG.refl _,none,none,none,none,none,none,rfl⟩ ?_ ?_⟩
  ·split<;>(try split)<;>lia
  ·split<;>(try split)<;>lia
  ·rintro i g H2 hi ⟨i1,s2,v1,v2,L,G,v5,v6,rfl⟩;have gW:(i:Int)<4:=by
    revert hi;split<;>(try split)<;>lia
   refine⟨_,rfl,_,rfl,a,_,ns,rfl,s2.seq O,j9,by lia,by lia,λH3 p s3 wY kF=>?_⟩;have j:H p=none:=by
    cases e:H p with
    |none=>rfl
    |some o=>rw[s2 _ _ e]at wY;cases wY
   have S3:aG H H3:=s2.trans s3;refine⟨λg I=>aG H I/\∃(t l:ae)(n tp:Nat)(rows:List Row)(S:List (Nat×Nat))(L G:Option V),g=[some (.ref a),some (.int (0+(i:Int))),some (.ref p),L,G,some (.ref t),some (.ref l)]/\vn I t n tp rows/\br I l (S.map pr)/\S.Nodup/\S.length<=20000/\∀sd,rT sd (T rows tp)=A4 sd S,?_,?_⟩
   ·refine⟨_,rfl,p,2,rfl,kF,by decide,by decide,λd I hd b4 k9=>⟨rfl,_,rfl,?_⟩⟩;refine c7 (λ_=>?_) (λ_=>?_)
    ·refine⟨_,rfl,p,13,rfl,k9,by decide,by decide,λn H5 Z b5 v=>?_⟩;refine⟨_,rfl,_,rfl,p,n,rfl,v,by lia,λW l0 bs b6 MZ hl0 U X=>?_⟩;have S6:aG H W:=λx o e=>b6 _ _ (b5 _ _ (b4 _ _ (S3 _ _ e) (cI e j)) (cI e j)) (cI e j);refine⟨_,rfl,_,rfl,l0,n,bs,rfl,U,X,by lia,λH7 t N sh=>?_⟩;have h4:∀b∈bs,b.length=4:=λb hb=>by
      obtain⟨r,c,h,w',rfl,_⟩:=X.1 b hb
      rfl
     have vG:bs.length<=64:=by
      rcases X.2 with⟨_,h⟩|⟨h,_⟩<;>lia
     refine⟨_,rfl,l0,bs,rfl,U.same N,h4,vG,λH8 l S E D s8 hl8 hE hD DQ wF=>?_⟩;refine⟨S6.trans (N.trans s8),t,l,n,_,_,S,_,_,rfl,⟨sh.1.mono s8.c_,sh.2⟩,hl8,DQ.nd,wF,λsd=>?_⟩;rw[b_T];exact qT9 X.1 hE hD DQ
    ·refine⟨_,rfl,(by show 6<=sizeLine;decide),λsz M=>?_⟩;refine⟨p,sz,rfl,k9.same (bw M),aX,λH5 t l n S b5 v ht Z Y NN nd hS=>?_⟩;refine⟨t,_,rfl,bg.of ht,rfl,_,_,rfl,_,_,rfl,rfl,?_⟩;have S5:aG H H5:=λx o e=>b5 _ _ (aH (b4 _ _ (S3 _ _ e) (cI e j)) M) (cI e j);have LV:l≠p:=λz=>by
      obtain⟨bs,e,_⟩:=Y;obtain⟨x,y,e2,_⟩:=v;rw[z,e2]at e;cases bs<;>cases e
     refine⟨_,rfl,_,rfl,p,n,rfl,v,Z,λW t2 s J R C b6 MZ Ht hm hR hC=>?_⟩;have m:br W l (S.map pr):=by
      obtain⟨x,y,ex,_⟩:=v;exact Y.but b6 LV ex (λu z=>by cases z)
     refine⟨_,rfl,_,rfl,t2,l,n,s,J,R,C,S,rfl,Ht,m,⟨Z,hm⟩,NN,λH7 t3 N ta=>?_⟩;have S6:aG H W:=λx o e=>b6 _ _ (S5 _ _ e) (cI e j);have cn:Canon (n+s+J) (Tr.name (nI n S R C J) (l6 (jk n S) R C J)) (Tr.rowsOf (nI n S R C J)):=To hm (Qa (Au n _ 0 0) R C J) (KR (ZF (Jo n S) (YF n s)) R C J);refine⟨S6.trans N,t3,l,n+s+J,_,_,S,_,_,rfl,⟨ta,cn,by rw[Tr.bc];have:=Jj Z S R C J;lia⟩,m.same N,nd,by lia,λsd=>?_⟩;rw[tG (Jk n S R C J).1 _ (Jk n S R C J).2];exact xp1 (s:=s) nd hS hR hC
   ·rintro g I ⟨s4,t,l,n,tp,rows,S,L,G,rfl,sh,Y,nd,wF,val⟩;refine⟨_,rfl,_,rfl,t,l,n,tp,rows,S,rfl,sh,Y,nd,wF,val,λH5 s5=>⟨_,rfl,?_⟩⟩;exact cJ ⟨by lia,s4.trans s5,_,_,_,_,_,_,rfl⟩
  ·rintro g H2 _;exact q _
def dR(K:PySem.W.Frag)(x:ar)(st:aA):Prop:=∃(f:ae)(a:ak),PySem.W.nsIn K mainGlobals x=some (some (.ref f))/\bj K x x st f a
theorem Od{K:PySem.W.Frag}{x:ar}{st:aA}{f:ae}{i e:Option ae}{g:Array (Option aa)}{j kV h d b ct:aa}(a:PySem.W.nsIn K mainGlobals x=some (some (.ref f)))
  (l:K.lookup f=some ⟨j,i,.func (PySem.W.fnOf x x (qj st) (oZ st) (ck st) .none kV h d e b ct),g⟩) (c:PySem.W.codeIn K b x=true) (k:PySem.W.keepIn K (.ref f)=true):dR K x st:=⟨f,_,a,LD l c k⟩
def dI(K:PySem.W.Frag)(x:ar):Prop:=PySem.W.nsIn K mainGlobals x=some none
def yw(K:PySem.W.Frag)(C:ae)(m a:ar)(st:aA):Prop:=∃(f:ae)(b:ak),PySem.W.findIn K (.ref C) m=some (some (.ref f))/\PySem.W.isFn K (.ref f)=true/\bj K m a st f b
theorem oy{K:PySem.W.Frag}{C:ae}{m b:ar}{st:aA}{f:ae}{n g:Option ae}{h:Array (Option aa)}{p kV j e d ct:aa}(a:PySem.W.findIn K (.ref C) m=some (some (.ref f)))(i:PySem.W.isFn K (.ref f)=true)
  (l:K.lookup f=some ⟨p,n,.func (PySem.W.fnOf m b (qj st) (oZ st) (ck st) .none kV j e g d ct),h⟩) (c:PySem.W.codeIn K d b=true) (k:PySem.W.keepIn K (.ref f)=true):yw K C m b st:=⟨f,_,a,i,LD l c k⟩
theorem lW{α:Type}{P:List α->Prop}(h:∀a:α,P [a]):∀b:List α,b.length=1->P b
 |[a],_=>h a
theorem jt{α:Type}{P:List α->Prop}(h:∀a b:α,P [a,b]):∀c:List α,c.length=2->P c
 |[a,b],_=>h a b
theorem Fj{α:Type}{P:List α->Prop}(h:∀a b c:α,P [a,b,c]):∀d:List α,d.length=3->P d
 |[a,b,c],_=>h a b c
theorem JN{α:Type}{P:List α->Prop}(h:∀a b c d:α,P [a,b,c,d]):∀e:List α,e.length=4->P e
 |[a,b,c,d],_=>h a b c d
theorem us5{α:Type}{P:List α->Prop}(h:∀a b c d e:α,P [a,b,c,d,e]):∀f:List α,f.length=5->P f
 |[a,b,c,d,e],_=>h a b c d e
theorem xQ2{l:PySem.W.OpenLaw}{w:ai}{K:PySem.W.Frag}{h:ao}{mg:ar->Option aa}{fa fL a:ae}(X:K.In h)(G:h.Ns mainGlobals mg)(hfa:mg "law"=some (.ref fa)){W m:Option ae}{U:Array (Option aa)}{ocL V_ q T4 Oj F:aa}{t0 t1 t2 t3 t4 t5:Tok}
  (aL:PySem.W.nsIn K mainGlobals "law"=some (some (.ref fL))) (lL:K.lookup fL=some ⟨ocL,W,.func (PySem.W.fnOf "law" "law" (qj ja) (oZ ja) (ck ja) .none V_ q T4 m Oj F),U⟩) (cL:PySem.W.codeIn K Oj "law"=true) (kL:PySem.W.keepIn K (.ref fL)=true)
  (g0:PySem.W.nsIn K mainGlobals "FIRST"=some (some (.int 2 t0))) (g1:PySem.W.nsIn K mainGlobals "FULL"=some (some (.int 1 t1))) (g2:PySem.W.nsIn K mainGlobals "GREATEST_SIZE"=some (some (.int 12 t2))) (g3:PySem.W.nsIn K mainGlobals "EMPTY"=some (some (.int 0 t3))) (g4:PySem.W.nsIn K mainGlobals "SIDES"=some (some (.str "sides" t4))) (g5:PySem.W.nsIn K mainGlobals "CORNERS"=some (some (.str "corners" t5)))
  (d0:dR K "is_whole" CA) (d1:dR K "is_plain" GJ) (d2:dR K "quarters_of" Cz) (d3:dR K "depths_of" CN) (d4:dR K "end_rows" tq) (d5:dR K "places_as_ended" G6) (d6:dR K "is_size" E8) (d7:dR K "is_number" BP) (d8:dR K "is_row" pX) (d9:dR K "are_rows" CM) (d10:dR K "is_telling" FU) (d11:dR K "is_shape" Cy) (d12:dR K "want_shape" GF) (d13:dR K "exchanged" CL) (d14:dR K "exchanged_rows" Cw) (d15:dR K "want_way" FK) (d16:dR K "corners_of" B9) (d17:dR K "turned_about" Cd) (d18:dR K "balance" FJ) (d19:dR K "_law_pot" uq) (d20:dR K "_law_digit" tH) (d21:dR K "_law_cells" Cv) (d22:dR K "_law_box" ur) (d23:dR K "_law_boxes" Cu) (d24:dR K "_law_meets" x9) (d25:dR K "_law_has" kx) (d26:dR K "_law_number" tM) (d27:dR K "_law_shape" Gy) (d28:dR K "_law_small" Ct) (d29:dR K "_law_place" Gx) (d30:dR K "_law_put_at" Cs) (d31:dR K "_law_by_sides" FI) (d32:dR K "_law_by_corners" Gm) (d33:dR K "_law_parted" tL) (d34:dR K "_law_right" Cr)
  (z0:dI K "isinstance") (z1:dI K "int") (z2:dI K "bool") (z3:dI K "tuple") (z4:dI K "list") (z5:dI K "set") (z6:dI K "len") (z7:dI K "all") (z8:dI K "any") (z9:dI K "enumerate") (Iy:dI K "range") (Iw:dI K "max") (Iu:dI K "min") (Ir:dI K "abs") (Iq:dI K "repr") (EZ:dI K "str") (Ip:dI K "sum") (Io:dI K "sorted") (Im:dI K "dict")
  (Oq:PySem.W.nsIn K mainGlobals "Account"=some (some (.ref a))) (Og:sj K a) (L7:PySem.W.makesIn K a=true) (Mq:PySem.W.keepIn K (.ref a)=true) (qz:cG K a "rows") (qy:cG K a "corners") (qx:cG K a "known") (qG:yw K a "__init__" "Account.__init__" K3) (qF:yw K a "in_the_middle" "Account.in_the_middle" x_) (qE:yw K a "across" "Account.across" Gz) (qD:yw K a "over_both" "Account.over_both" G5) (qC:yw K a "together" "Account.together" Ly) (qB:yw K a "of_number" "Account.of_number" E7):
  ∃fd:ak,(∀(s:ab)(v:aa),BindsTo s fd ⟨[v],[]⟩ [("_law_script",v)])/\∀base:ao,K.In base->base.Ns mainGlobals mg->aE l.prog w K mg base aW 37 fa fd ["_law_script"] (E2 K):=by
 have e:=hfa.symm.trans (ZA X G aL);cases e;have b:∀{x:ar},dI K x->mg x=none:=λz=>PySem.W.mg_none_of X G z;have B:eR mg:=⟨b z0,b z1,b z2,b z3,b z4,b z5,b z6,b z7,b z8,b z9,b Iy,b Iw,b Iu⟩;have C:zT mg:=⟨b Ir,b Iq,b EZ⟩;have T:oS mg:=⟨⟨t0,ZA X G g0⟩,⟨t1,ZA X G g1⟩,⟨t2,ZA X G g2⟩⟩;have Wy:zN mg:=⟨⟨t4,ZA X G g4⟩,⟨t5,ZA X G g5⟩⟩;have FL:=LD (st:=ja) lL cL kL;obtain⟨f0,fd0,a0,F0⟩:=d0;have h0:=ZA X G a0;have b0:=F0.binds (ps:=["thing"]) λ_ _ _ _ _ _=>lW λ_=>rfl;obtain⟨f1,fd1,a1,F1⟩:=d1;have h1:=ZA X G a1;have b1:=F1.binds (ps:=["row"]) λ_ _ _ _ _ _=>lW λ_=>rfl;obtain⟨f2,fd2,a2,F2⟩:=d2;have h2:=ZA X G a2;have b2:=F2.binds (ps:=["rows","number"]) λ_ _ _ _ _ _=>jt λ_ _=>rfl;obtain⟨f3,fd3,a3,F3⟩:=d3;have h3:=ZA X G a3;have b3:=F3.binds (ps:=["rows"]) λ_ _ _ _ _ _=>lW λ_=>rfl;obtain⟨f4,fd4,a4,F4⟩:=d4;have h4:=ZA X G a4;have b4:=F4.binds (ps:=["rows","number","ended"]) λ_ _ _ _ _ _=>Fj λ_ _ _=>rfl;obtain⟨f5,fd5,a5,F5⟩:=d5;have h5:=ZA X G a5;have b5:=F5.binds (ps:=["rows","top"]) λ_ _ _ _ _ _=>jt λ_ _=>rfl;obtain⟨f6,fd6,a6,F6⟩:=d6;have h6:=ZA X G a6;have b6:=F6.binds (ps:=["thing"]) λ_ _ _ _ _ _=>lW λ_=>rfl;obtain⟨f7,fd7,a7,M⟩:=d7;have h7:=ZA X G a7;have b7:=M.binds (ps:=["thing","many"]) λ_ _ _ _ _ _=>jt λ_ _=>rfl;obtain⟨f8,fd8,a8,F8⟩:=d8;have h8:=ZA X G a8;have b8:=F8.binds (ps:=["thing","before"]) λ_ _ _ _ _ _=>jt λ_ _=>rfl;obtain⟨f9,fd9,a9,F9⟩:=d9;have h9:=ZA X G a9;have b9:=F9.binds (ps:=["thing"]) λ_ _ _ _ _ _=>lW λ_=>rfl;obtain⟨f10,fd10,a10,OT⟩:=d10;have h10:=ZA X G a10;have b10:=OT.binds (ps:=["thing"]) λ_ _ _ _ _ _=>lW λ_=>rfl;obtain⟨f11,fd11,a11,OS⟩:=d11;have NP:=ZA X G a11;have N:=OS.binds (ps:=["thing"]) λ_ _ _ _ _ _=>lW λ_=>rfl;obtain⟨f12,fd12,a12,OR⟩:=d12;have h12:=ZA X G a12;have b12:=OR.binds (ps:=["shape"]) λ_ _ _ _ _ _=>lW λ_=>rfl;obtain⟨f13,fd13,a13,OQ⟩:=d13;have E:=ZA X G a13;have y:=OQ.binds (ps:=["number"]) λ_ _ _ _ _ _=>lW λ_=>rfl;obtain⟨f14,fd14,a14,OP⟩:=d14;have h14:=ZA X G a14;have b14:=OP.binds (ps:=["rows"]) λ_ _ _ _ _ _=>lW λ_=>rfl;obtain⟨f15,fd15,a15,OO⟩:=d15;have h15:=ZA X G a15;have b15:=OO.binds (ps:=["by"]) λ_ _ _ _ _ _=>lW λ_=>rfl;obtain⟨f16,fd16,a16,r⟩:=d16;have Q:=ZA X G a16;have b16:=r.binds (ps:=["rows"]) λ_ _ _ _ _ _=>lW λ_=>rfl;obtain⟨f17,fd17,a17,u⟩:=d17;have h17:=ZA X G a17;have b17:=u.binds (ps:=["four"]) λ_ _ _ _ _ _=>lW λ_=>rfl;obtain⟨f18,fd18,a18,ON⟩:=d18;have h18:=ZA X G a18;have b18:=ON.binds (ps:=["shape","by"]) λ_ _ _ _ _ _=>jt λ_ _=>rfl;obtain⟨f19,fd19,a19,p⟩:=d19;have h19:=ZA X G a19;have b19:=p.binds (ps:=["_law_script","_law_k"]) λ_ _ _ _ _ _=>jt λ_ _=>rfl;obtain⟨f20,fd20,a20,c⟩:=d20;have L:=ZA X G a20;have J:=c.binds (ps:=["_law_pot_here","_law_many"]) λ_ _ _ _ _ _=>jt λ_ _=>rfl;obtain⟨f21,fd21,a21,i⟩:=d21;have h21:=ZA X G a21;have b21:=i.binds (ps:=["_law_pot_here","_law_n"]) λ_ _ _ _ _ _=>jt λ_ _=>rfl;obtain⟨f22,fd22,a22,f⟩:=d22;have R:=ZA X G a22;have b22:=f.binds (ps:=["_law_pot_here","_law_n","_law_most"]) λ_ _ _ _ _ _=>Fj λ_ _ _=>rfl;obtain⟨f23,fd23,a23,OM⟩:=d23;have h23:=ZA X G a23;have b23:=OM.binds (ps:=["_law_pot_here","_law_n"]) λ_ _ _ _ _ _=>jt λ_ _=>rfl;obtain⟨f24,fd24,a24,OL⟩:=d24;have n:=ZA X G a24;have A:=OL.binds (ps:=["_law_box_here","_law_row","_law_column","_law_side"]) λ_ _ _ _ _ _=>JN λ_ _ _ _=>rfl;obtain⟨f25,fd25,a25,H⟩:=d25;have NO:=ZA X G a25;have Oo:=H.binds (ps:=["_law_box_here","_law_row","_law_column","_law_side"]) λ_ _ _ _ _ _=>JN λ_ _ _ _=>rfl;obtain⟨f26,fd26,a26,OJ⟩:=d26;have j:=ZA X G a26;have g:=OJ.binds (ps:=["_law_rows","_law_boxes_here","_law_row","_law_column","_law_side"]) λ_ _ _ _ _ _=>us5 λ_ _ _ _ _=>rfl;obtain⟨f27,fd27,a27,OI⟩:=d27;have h27:=ZA X G a27;have b27:=OI.binds (ps:=["_law_n","_law_boxes_here"]) λ_ _ _ _ _ _=>jt λ_ _=>rfl;obtain⟨f28,fd28,a28,OH⟩:=d28;have h28:=ZA X G a28;have b28:=OH.binds (ps:=["_law_pot_here","_law_sizes"]) λ_ _ _ _ _ _=>jt λ_ _=>rfl;obtain⟨f29,fd29,a29,OG⟩:=d29;have h29:=ZA X G a29;have b29:=OG.binds (ps:=["_law_pot_here","_law_n"]) λ_ _ _ _ _ _=>jt λ_ _=>rfl;obtain⟨f30,fd30,a30,O⟩:=d30;have h30:=ZA X G a30;have b30:=O.binds (ps:=["_law_place_here","_law_n","_law_cells_here"]) λ_ _ _ _ _ _=>Fj λ_ _ _=>rfl;obtain⟨f31,fd31,a31,OE⟩:=d31;have h31:=ZA X G a31;have b31:=OE.binds (ps:=["_law_there"]) λ_ _ _ _ _ _=>lW λ_=>rfl;obtain⟨f32,fd32,a32,OD⟩:=d32;have h32:=ZA X G a32;have b32:=OD.binds (ps:=["_law_there"]) λ_ _ _ _ _ _=>lW λ_=>rfl;obtain⟨f33,fd33,a33,OC⟩:=d33;have h33:=ZA X G a33;have b33:=OC.binds (ps:=["_law_boxes_here"]) λ_ _ _ _ _ _=>lW λ_=>rfl;obtain⟨f34,fd34,V,OB⟩:=d34;have Y:=ZA X G V;have Z:=OB.binds (ps:=["_law_shape_here","_law_cells_here"]) λ_ _ _ _ _ _=>jt λ_ _=>rfl;obtain⟨we,Mc,wq,wd,se⟩:=qG;have U6:Meth K a "__init__" we:=⟨wq,wd,se.kp⟩;have Dk:=se.binds (ps:=["self","rows"]) λ_ _ _ _ _ _=>jt λ_ _=>rfl;obtain⟨Dd,Mb,Dr,C7,I⟩:=qF;have wj:Meth K a "in_the_middle" Dd:=⟨Dr,C7,I.kp⟩;have wo:=I.binds (ps:=["self","four"]) λ_ _ _ _ _ _=>jt λ_ _=>rfl;obtain⟨Dc,Ma,Dq,C6,r_⟩:=qE;have Dg:Meth K a "across" Dc:=⟨Dq,C6,r_.kp⟩;have Dj:=r_.binds (ps:=["self","one","other","is_upright"]) λ_ _ _ _ _ _=>JN λ_ _ _ _=>rfl;obtain⟨C_,L_,Dp,C5,r9⟩:=qD;have wg:Meth K a "over_both" C_:=⟨Dp,C5,r9.kp⟩;have wm:=r9.binds (ps:=["self","four","is_upright"]) λ_ _ _ _ _ _=>Fj λ_ _ _=>rfl;obtain⟨C9,L9,Dn,C4,rZ⟩:=qC;have Df:Meth K a "together" C9:=⟨Dn,C4,rZ.kp⟩;have Di:=rZ.binds (ps:=["self","four"]) λ_ _ _ _ _ _=>jt λ_ _=>rfl;obtain⟨C8,L8,Dm,C3,rY⟩:=qB;have De:Meth K a "of_number" C8:=⟨Dm,C3,rY.kp⟩;have Dh:=rY.binds (ps:=["self","top"]) λ_ _ _ _ _ _=>jt λ_ _=>rfl;have mm0:Mk K a we:=⟨L7,wq,wd,Mq⟩;refine⟨PySem.W.fnOf "law" "law" (qj ja) (oZ ja) (ck ja) .none V_ q T4 m Oj F,λs v=>.of_eq rfl,λbase _ _=>?_⟩;have EA:aE l.prog w K mg base aW 2 _ _ _ _:=xA2 F6 B T h0 F0 b0;have EC:aE l.prog w K mg base aW 2 _ _ _ _:=xa0 M B T h0 F0 b0;have gPl:∀d,aE l.prog w K mg base aW (d+2) _ _ _ (Ll d):=λd=>xa5 F5 B T h4 F4 b4 d;have NS:aE l.prog w K mg base aW 3 _ _ _ _:=xL1 F8 B h7 M b7 EC;have EB:aE l.prog w K mg base aW 4 _ _ _ _:=xA7 F9 B h8 F8 b8 NS;have Ez:aE l.prog w K mg base aW 5 _ _ _ _:=q18 OT B h6 F6 b6 EA h9 F9 b9 EB h7 M b7 EC h3 F3 b3;have zt:aE l.prog w K mg base aW 15 _ _ _ _:=xm1 OS B T h10 OT b10 Ez h1 F1 b1 h5 F5 b5 gPl;have Ex:aE l.prog w K mg base aW 16 _ _ _ _:=xm2 OR NP OS N zt;have Np:∃t,mg "EMPTY"=some (.int 0 t):=⟨t3,ZA X G g3⟩;have kP:mg "str"=none:=b EZ;have MU:mg "sum"=none:=b Ip;have Hv:mg "sorted"=none:=b Io;have Nt:mg "dict"=none:=b Im;have NU:aE l.prog w K mg base aW 2 _ _ _ _:=xp5 OP B T E OQ y;have gWy:aE l.prog w K mg base aW 1 _ _ _ _:=xO1 OO B kP Wy;have D:uO K a:=⟨Og,qz,qy,qx⟩;have gAc:=RX (P:=l.prog) (w:=w) (base:=base) r_ D B T Np h2 F2 b2 r9 wg wm wj I wo h17 u b17 Dg Dj 14;have gTg:aE l.prog w K mg base aW 33 _ _ _ _:=xM7 (k:=31) rZ D B wg wm gAc.2 wj I wo;have gOf:aE l.prog w K mg base aW 34 _ _ _ _:=xT4 (k:=32) rY D MU Df Di gTg;have gAI:aE l.prog w K mg base aW 2 _ _ _ (xT l.prog w a):=xU2 se D B Q r b16;have NV:aE l.prog w K mg base aW 35 _ _ _ _:=xO3 ON B T Wy D (ZA X G Oq) h12 OR b12 Ex h15 OO b15 gWy h14 OP b14 NU E OQ y mm0 Dk gAI De Dh gOf;have gBs:aE l.prog w K mg base aW 1 _ _ _ _:=xT6 OE B;have gBc:aE l.prog w K mg base aW 1 _ _ _ _:=xU4 OD B;have S:aE l.prog w K mg base aW 3 _ _ _ _:=xp3 OM B L c J h21 i b21 R f b22;have gSh:aE l.prog w K mg base aW 15 _ _ _ _:=xQ0 OI B j OJ g n OL A NO H Oo;have gPr:aE l.prog w K mg base aW 2 _ _ _ _:=xP8 OC B Hv NO H Oo;have gSm:aE l.prog w K mg base aW 2 _ _ _ _:=xU6 OH B L c J;have NT:aE l.prog w K mg base aW 2 _ _ _ _:=xT8 OG L c J;have gPA:aE l.prog w K mg base aW 7 _ _ _ _:=xU5 O B j OJ g n OL A NO H Oo;have gRg:aE l.prog w K mg base aW 36 _ _ _ _:=xO9 OB B Nt h18 ON b18 NV h31 OE b31 gBs h32 OD b32 gBc;exact xQ1 FL B C h19 p b19 L c J h23 OM b23 S h27 OI b27 gSh h33 OC b33 gPr h28 OH b28 gSm h29 OG b29 NT h30 O b30 gPA Y OB Z gRg
theorem walk{l:PySem.W.OpenLaw}{q:ag}{loose:List ar}{XP:(ar->Option aa)->ao->Prop}{YP:ai->ao->Prop}{d:DefRec}{K:Params->PySem.W.Frag}(i:l.most=some 63)(m:d.params.defaults=[])
  (p:∀(w:ai)(h:ao),YP w h->(K w.params).In h)
  (F:∀(w:ai)(c:ar->Option aa)(g:ae)(h:ao),(K w.params).In h->h.Ns mainGlobals c->c d.name=some (.ref g) ->
   ∃e:ak,(∀(s:ab)(u:aa),BindsTo s e ⟨[u],[]⟩ [("_law_script",u)])/\∀b:ao,(K w.params).In b->b.Ns mainGlobals c->aE l.prog w (K w.params) c b aW 37 g e ["_law_script"] (E2 (K w.params))):
  PySem.W.WalkO q loose XP YP l.row.toRowW d [] (λf t=>PySem.call f t):=
 L2.xy6 (n:=63) (k:=37) (x:= "_law_script") (CX:=λ_=>aW) (sp:=λw=>E2 (K w.params)) i 'b' m ⟨rfl,by decide,by decide,rfl⟩ p F (λ_ _ a v r _ j=>⟨a,v,rfl,j,r,λ_=>rfl⟩) λ_ _ _ _ _ z=>z
end Pr
open PySem PySem.W PyProof.Rows
set_option maxRecDepth 100000 in
set_option maxHeartbeats 0 in
theorem PySem.Challenge.cw_quarterfold_k66_whole_balance_holds : PySem.Challenge.rw_quarterfold_k66_whole_balance.Holds := by
 w_on;o_law
 refine holds_open (q:=Hd.q0) (loose:=[]) (Xt:=Hd.X0) (XP:=XL Hd.q0 []) (YP:=Hook.says (kHook Hd.K0 Hd.xn Hd.m8)) (N:=Hd.N0) Hd.xQ3
  (Hook.of (kHook Hd.K0 Hd.xn Hd.m8)) (Hook.keeps (kHook Hd.K0 Hd.xn Hd.m8)) (λs e=>xl_of s (WK.mp e).1) XL.keeps
  (by rfl) (by rfl) (by rfl) (λs e=>recFacts_of (WK.mp e).2)
  (by rfl) (by first|assumption|decide +kernel) (by decide +kernel) ⟨rfl,rfl,rfl,rfl,rfl,by decide +kernel⟩ ?hw ?hc
 case hw=>w_witness2
 k_fill
 refine Pr.walk (l:=PySem.Challenge.rw_quarterfold_k66_whole_balance) rfl rfl (λw h Y=>PySem.W.kIn_of Y) ?F
 case F=>
  intro w mg fa h KX G D0;refine' Pr.xQ2 KX G D0 ?aL ?lL ?cL ?kL ?gc0 ?gc1 ?gc2 ?gc3 ?gc4 ?gc5 ?d0 ?d1 ?d2 ?d3 ?d4 ?d5 ?d6 ?d7 ?d8 ?d9 ?d10 ?d11 ?d12 ?d13 ?d14 ?d15 ?d16 ?d17 ?d18 ?d19 ?d20 ?d21 ?d22 ?d23 ?d24 ?d25 ?d26 ?d27 ?d28 ?d29 ?d30 ?d31 ?d32 ?d33 ?d34 ?z0 ?z1 ?z2 ?z3 ?z4 ?z5 ?z6 ?z7 ?z8 ?z9 ?Iy ?Iw ?Iu ?Ir ?Iq ?EZ ?Ip ?Io ?Im ?Oq ?Og ?L7 ?Mq ?qz ?qy ?qx ?qG ?qF ?qE ?qD ?qC ?qB
  (case aL=>k_is);(case lL=>k_is);(case cL=>k_is);(case kL=>k_is)
  (case gc0=>k_is)
  (case gc1=>k_is)
  (case gc2=>k_is)
  (case gc3=>k_is)
  (case gc4=>k_is)
  (case gc5=>k_is)
  (case z0=>unfold Pr.dI;k_is)
  (case z1=>unfold Pr.dI;k_is)
  (case z2=>unfold Pr.dI;k_is)
  (case z3=>unfold Pr.dI;k_is)
  (case z4=>unfold Pr.dI;k_is)
  (case z5=>unfold Pr.dI;k_is)
  (case z6=>unfold Pr.dI;k_is)
  (case z7=>unfold Pr.dI;k_is)
  (case z8=>unfold Pr.dI;k_is)
  (case z9=>unfold Pr.dI;k_is)
  (case Iy=>unfold Pr.dI;k_is)
  (case Iw=>unfold Pr.dI;k_is)
  (case Iu=>unfold Pr.dI;k_is)
  (case Ir=>unfold Pr.dI;k_is)
  (case Iq=>unfold Pr.dI;k_is)
  (case EZ=>unfold Pr.dI;k_is)
  (case Ip=>unfold Pr.dI;k_is)
  (case Io=>unfold Pr.dI;k_is)
  (case Im=>unfold Pr.dI;k_is)
  (case Oq=>k_is)
  (case Og=>refine' ⟨?pa,?pb,?pc,?pd⟩;(case pa=>k_is);(case pb=>k_is);(case pc=>k_is);(case pd=>k_is))
  (case L7=>k_is);(case Mq=>k_is)
  (case qz=>unfold L2.cG;k_is)
  (case qy=>unfold L2.cG;k_is)
  (case qx=>unfold L2.cG;k_is)
  (case qG=>refine' Pr.oy ?qa ?qi ?ql ?qc ?qk;(case qa=>k_is);(case qi=>k_is);(case ql=>k_is);(case qc=>k_is);(case qk=>k_is))
  (case qF=>refine' Pr.oy ?qa ?qi ?ql ?qc ?qk;(case qa=>k_is);(case qi=>k_is);(case ql=>k_is);(case qc=>k_is);(case qk=>k_is))
  (case qE=>refine' Pr.oy ?qa ?qi ?ql ?qc ?qk;(case qa=>k_is);(case qi=>k_is);(case ql=>k_is);(case qc=>k_is);(case qk=>k_is))
  (case qD=>refine' Pr.oy ?qa ?qi ?ql ?qc ?qk;(case qa=>k_is);(case qi=>k_is);(case ql=>k_is);(case qc=>k_is);(case qk=>k_is))
  (case qC=>refine' Pr.oy ?qa ?qi ?ql ?qc ?qk;(case qa=>k_is);(case qi=>k_is);(case ql=>k_is);(case qc=>k_is);(case qk=>k_is))
  (case qB=>refine' Pr.oy ?qa ?qi ?ql ?qc ?qk;(case qa=>k_is);(case qi=>k_is);(case ql=>k_is);(case qc=>k_is);(case qk=>k_is))
  all_goals (refine' Pr.Od ?qa ?ql ?qc ?qk;(case qa=>k_is);(case ql=>k_is);(case qc=>k_is);(case qk=>k_is))