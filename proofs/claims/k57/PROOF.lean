import PyProof.Rows.All
import Wide.All
import OpenK.AllK
import Wide.FinOn
import Lean
import PyProof.EqAt
import PyProof.EqKinds
import PyProof.TupleCall
import Open.Row
import PySem.SetOps
import PyProof.SetRoads
import PyProof.Rows.SetFrom
import PyProof.FactsAll.subtypes_4
import PyProof.WalksMore
import OpenK.KOwn
import PyProof.NeData
import PyProof.ReprRoads
import PyProof.WalksEnum
import PyProof.EnumMake
import PyProof.Rows.EnumRows
import KE.KTryMore
import KE.KIntText
import KE.KDictList
import PyProof.ConsumeS
import PyProof.ListRange
import PyProof.ListMulRoad
import PyProof.CompUse
import PyProof.CompFree
import PyProof.DictUpdate
import PyProof.Rows.TupDisplay
import PyProof.DictWalks
import PyProof.TupleOfGen
import PyProof.SetKind
import PyProof.Rows.SortRunsK
import PyProof.Rows.SortShellK
import PyProof.Rows.SortWalk
import PyProof.P3Eq
import PyProof.DictKinds
import PyProof.TupleKey
import KE.BitLaws
import PyProof.Draws
import PyProof.StrLawsChain
import KE.KxText
import PyProof.MaxThree
import PyProof.Rows.SortKeyStr
import PyProof.Rows.StrInSeq
import PyProof.StrOps
import PyProof.FString
import PySem.Challenge.RW_quarterfold_k57_grown_and_shrunk_by_cell
set_option Elab.async false
set_option linter.all false
set_option maxRecDepth 100000
set_option maxHeartbeats 8000000
open PyProof.Rows renaming SortSt→aw
open PySem renaming Value→aa,Shared→ae,Addr→af,Program→ag,wpAny→ah,model→ai,World→aj,FuncData→ak,Heap→ao,Around→aq,Str→ar,Expr→au,SetTable→av,Scope→ax,Obj→ay,Pos→az,Stmt→aA
local macro_rules|`('a')=>`(by lia)|`('b')=>`(by decide)|`('c')=>`(by simp)
variable{P prog:ag}{w:aj}{A:aq}{E:aa->ae->Prop}{s:ae}{K:PySem.W.Frag}{mg:ar->Option aa}{base:ao}
def Za:=@PySem.wpAny_bind
def Zb:=@PySem.wpAny_pure
def Zc:=@List.getElem?_eq_getElem
def Zd:=@PySem.Heap.get?_push_of_some
def Ze:=@List.length_map
def Zf:=@List.getElem?_map
def Zg:=@Nat.le_refl
def Zh:=@Option.map_eq_some_iff
def Zi:=@PySem.Heap.get?_push_size
def Zj:=@if_neg
def Zk:=@PySem.W.mg_of
def Zl:=@List.length_append
def Zm:=@List.mem_of_getElem?
def Zn:=@if_pos
def Zo:=@PySem.Heap.lt_size
def Zp:=@List.getElem?_append_left
def Zq:=@List.mem_cons_of_mem
def Zr:=@PyProof.Rows.wpS_bind
def Zs:=@Nat.zero_le
def Zt:=@List.getD_eq_getElem?_getD
def Zu:=@Nat.ne_of_lt
def Zv:=@decide_eq_true
def Zw:=@List.map_cons
def Zx:=@List.getElem?_append_right
def Zy:=@Bool.false_eq_true
def Zz:=@List.mem_cons
def ZA:=@Bool.false_ne_true
def ZB:=@PyProof.Rows.wpS_pure
def ZC:=@List.mem_cons_self
def ZD:=@Nat.le_trans
def ZE:=@of_decide_eq_true
def ZF:=@List.mem_map
def ZG:=@List.append_assoc
def ZH:=@Array.getElem?_eq_some_iff
def ZI:=@Int.toNat_natCast
def ZJ:=@PySem.Heap.get?_update_other
def ZK:=@Option.some.inj
def ZL:=@List.mem_iff_getElem
def ZM:=@decide_eq_false
def ZN:=@List.size_toArray
def ZO:=@PyProof.Rows.boot_tuple
def ZP:=@PySem.wpAny_newObj_type
def ZQ:=@Nat.lt_of_lt_of_le
def ZR:=@List.mem_range
def ZS:=@List.Perm.append_left
def ZT:=@Array.getElem?_eq_getElem
def ZU:=@PySem.wpAny_ite_split
def ZV:=@List.mem_append_right
def ZW:=@List.any_eq_true
def ZX:=@Bool.eq_false_iff
def ZY:=@PySem.lookup_relabel_local
def ZZ:=@List.map_append
def Z0:=@PySem.wpAny_call_entry
def Z1:=@PySem.Obj.data_mapFields
def Z2:=@List.mem_filter
def Z3:=@List.nodup_cons
def Z4:=@PySem.Heap.size_push
def Z5:=@List.length_cons
def Z6:=@if_false
def Z7:=@PySem.wpAny_callSpecial?_slot
def Z8:=@PySem.Heap.get?_update_self
def Z9:=@PySem.wpAny_mono
def Yb:=@Nat.lt_succ_self
def Yc:=@List.length_take
def Yd:=@PySem.wpAny_truthy_bool
def Ye:=@Bool.eq_iff_iff
def Yg:=@PySem.wpAny_setState_of
def Yh:=@Array.toList_append
def Yi:=@congrArg
def Yj:=@Array.size_map
def Yk:=@List.length_range
def Yl:=@Nat.lt_succ_of_lt
def Ym:=@List.map_map
def Yn:=@Nat.lt_irrefl
def Yo:=@PySem.wpAny_holding
def Yp:=@PySem.F.slot_list_append
def Yq:=@PySem.F.type_list_append
def Yr:=@List.length_filter_le
def Ys:=@Array.length_toList
def Yt:=@PySem.Heap.SameBut.update
def Yu:=@List.getD_cons_zero
def Yv:=@List.getD_cons_succ
def Yw:=@Nat.div_eq_of_lt
def Yx:=@List.getElem_mem
def Yy:=@PySem.F.plainAttrs_list
def Yz:=@Nat.mul_comm
def YA:=@PyProof.Rows.boot_isinstance
def YB:=@PySem.wpAny_askSetting
def YC:=@beq_eq_false_iff_ne
def YD:=@List.filterMap_cons
def YE:=@PySem.wpAny_field
def YF:=@List.map_congr_left
def YG:=@List.take_append_drop
def YH:=@Nat.mod_lt
def YI:=@List.getElem?_eq_none
def YJ:=@PyProof.Rows.boot_min
def YK:=@Ne.symm
def YL:=@Nat.pow_succ
def YM:=@List.length_eq_zero_iff
def YN:=@PySem.boot_len
def YO:=@Bool.and_eq_true_iff
def YQ:=@List.mem_append
def YR:=@PySem.W.kia_one
def YS:=@List.lookup_cons
def YT:=@beq_iff_eq
def YU:=@List.getElem?_range
def YV:=@Nat.pow_pos
def YW:=@PySem.Obj.isFreed_of_fields
def YX:=@Array.getElem?_toList
def YY:=@Bool.not_true
def YZ:=@PySem.wpAny_setField
def Y0:=@Nat.not_lt_zero
def Y1:=@PySem.F.slot_dict_keyiterator_next
def Y2:=@PySem.PassesOwn.never
def Y3:=@Nat.mod_eq_of_lt
def Y4:=@PySem.Around.under_plainId
def Y5:=@Nat.mul_assoc
def Y6:=@decide_eq_true_eq
def Y7:=@PySem.codeAny_builtin
def Y8:=@List.range_succ
def Y9:=@PyProof.Rows.boot_max
def Xa:=@of_decide_eq_false
def Xb:=@Nat.le_add_right
def Xc:=@List.all_eq_true
def Xd:=@forall_congr'
def Xe:=@PyProof.Rows.wpS_forRange
def Xf:=@List.mem_append_left
def Xg:=@PySem.wpAny_typeNameOfWhole_keyiter
def Xh:=@Nat.mul_le_mul_right
def Xi:=@List.exists_cons_of_length_eq_add_one
def Xj:=@List.append_nil
def Xk:=@List.foldl_cons
def Xl:=@List.length_nil
def Xm:=@List.find?_cons
def Xn:=@PySem.wpAny_rule
def Xo:=@List.cons.injEq
def Xp:=@Int.natCast_mul
def Xq:=@PyProof.Rows.F.plain_set_update_loop
def Xr:=@PyProof.Rows.callWith_type1
def Xs:=@List.take_of_length_le
def Xu:=@PySem.sizeLine_eq
def Xv:=@Nat.lt_of_le_of_lt
def Xw:=@Array.getElem?_map
def Xx:=@PySem.F.slot_tuple_iterator_next
def Xy:=@List.filter_append
def Xz:=@List.perm_append_comm
def XA:=@Nat.lt_trichotomy
def XB:=@List.nodup_append
def XC:=@List.any_map
def XD:=@Option.isSome_iff_exists
def XE:=@PySem.wpAny_attempt
def XF:=@List.take_append_getElem
def XG:=@PySem.wpAny_typeNameOf_keyiter
def XH:=@PyProof.Rows.wpS_modify
def XI:=@PyProof.Rows.slot_tuple_getitem
def XJ:=@PySem.mem_of_lookup
def XM:=@if_true
def XN:=@List.replicate_succ
def XO:=@PySem.wpAny_forIn_list
def XQ:=@List.nodup_nil
def XR:=@PySem.wpAny_isInstance
def XS:=@List.take_length
def XT:=@List.filter_cons
def XU:=@Nat.ne_of_gt
def XV:=@PySem.wpAny_pyIter_tuple
def XW:=@List.map_nil
def XX:=@Array.getElem?_eq_none
def XY:=@PySem.wpAny_setField_rec
def XZ:=@bind_congr
def X1:=@Nat.succ_mul
def X4:=@Nat.div_add_mod
def X5:=@PySem.wpAny_specialOf
def X6:=@Nat.mul_add_div
def X7:=@Int.natCast_add
def X8:=@PySem.Paired.length
def X9:=@List.any_cons
def Wa:=@PySem.plainId_quiet
def Wb:=@List.getElem?_toArray
def Wc:=@PySem.F.slot_enumerate_next
def Wd:=@PyProof.Rows.boot_int
def We:=@PyProof.Rows.boot_abs
def Wf:=@Nat.div_lt_iff_lt_mul
def Wg:=@PySem.wpAny_pyIter_list
def Wh:=@PySem.F.slot_tuple_hash
def Wj:=@Nat.le_of_lt_succ
def Wk:=@Option.isSome_map
def Wl:=@PySem.Obj.cls_mapFields
def Wm:=@Bool.not_eq_true'
def Wn:=@List.idxOf_lt_length_of_mem
def Wo:=@Array.toList_push
def Wp:=@List.ext_getElem?
def Wq:=@Nat.le_succ
def Wr:=@PySem.wpAny_seqItems
def Ws:=@PySem.wpAny_fieldsOf
def Wt:=@Array.perm_iff_toList_perm
def Wu:=@Array.toList_reverse
def Wv:=@Nat.pow_le_pow_right
def Ww:=@List.not_mem_nil
def Wx:=@List.drop_eq_getElem_cons
def Wy:=@PyProof.Rows.F.entry_set_update_loop
def Wz:=@Nat.div_mul_le_self
def WA:=@Int.toNat_of_nonneg
def WB:=@PySem.wpAny_standAt
def WC:=@PySem.AutoSeq1.wpAny_loadPart'
def WD:=@PyProof.Rows.wpS_mono
def WE:=@PySem.wpAny_passesOwn
def WF:=@Nat.two_pow_pos
def WG:=@List.forIn_cons
def WH:=@and_congr_right
def WI:=@PySem.W.of_hideAll
def WJ:=@List.mem_filterMap
def WK:=@PySem.wpAny_Call_Name_kw
def WL:=@Int.emod_lt_of_pos
def WM:=@Array.forIn_toList
def WN:=@List.mem_singleton
def WO:=@PySem.tupleKind_room_in1
def WP:=@Nat.add_sub_cancel
def WQ:=@List.zip_cons_cons
def WR:=@List.map_inj_right
def WS:=@List.getElem?_replicate
def WT:=@Nat.le_of_lt
def WU:=@Nat.le_of_eq
def WV:=@PySem.codeAny_mono
def WW:=@PySem.wpAny_typeOf
def WX:=@PyProof.Rows.subscriptTail_builtinR
def WY:=@Nat.div_div_eq_div_mul
def WZ:=@Nat.lt_trans
def W0:=@PySem.Heap.SameBut.refl
def W1:=@PySem.wpAny_dictEntries
def W2:=@List.Perm.append_right
def W3:=@List.drop_drop
def W4:=@List.take_succ_eq_append_getElem
def W5:=@List.reverse_perm
def W6:=@PySem.Heap.get?_push_ne
def W7:=@List.length_replicate
def W8:=@List.length_singleton
def W9:=@PySem.wpAny_isOneOf_keyiter
def Va:=@PySem.builtinLookup_eq_fast
def Vb:=@PyProof.Rows.boot_all
def Vc:=@PyProof.Rows.boot_any
def Vd:=@Bool.and_eq_true
def Ve:=@PySem.Heap.size_update
def Vf:=@decide_eq_decide
def Vg:=@PyProof.Rows.wpS_get
def Vh:=@Nat.mul_add
def Vi:=@PySem.codeAny_call_builtin
def Vj:=@PySem.wpAny_execs_nil
def Vk:=@List.of_mem_zip
def Vl:=@Array.getElem?_setIfInBounds
def Vm:=@Option.map_some
def Vn:=@Bool.or_eq_true
def Vo:=@PySem.W.hideAll_get
def Vp:=@PySem.W.plainGet_of
def Vq:=@Array.getElem?_push
def Vr:=@List.IsPrefix.trans
def Vs:=@PySem.wpAny_setEntries_of
def Vt:=@Nat.mul_le_mul_left
def Vu:=@Nat.zero_add
def Vv:=@Nat.sub_self
def Vw:=@Int.zero_add
def Vx:=@LawfulMonad.pure_bind
def Vy:=@PySem.Calls.Constant_str
def Vz:=@Int.natCast_nonneg
def VA:=@Int.fdiv_eq_ediv_of_nonneg
def VB:=@Bool.not_false
def VC:=@List.forIn_nil
def VD:=@List.prefix_append
def VE:=@PySem.isSubtype_type
def VF:=@List.length_eraseIdx_of_lt
def VG:=@Array.getElem?_eq_none_iff
def VH:=@Array.toList_setIfInBounds
def VI:=@Array.size_extract
def VJ:=@PySem.wpAny_tupleItemsOf
def VL:=@List.take_succ
def VM:=@List.pairwise_iff_getElem
def VN:=@PySem.F.slot_dict_getitem
def VO:=@PySem.F.plain_extend_loop
def VP:=@Sum.inl.inj
def VQ:=@List.any_eq_false
def VR:=@Nat.mul_left_comm
def VS:=@PySem.wpAny_of_eq
def VT:=@Nat.le_succ_of_le
def VU:=@List.idxOf_append
def VW:=@PySem.wpAny_pyIter_slot
def VX:=@Nat.add_assoc
def VY:=@Nat.le_of_not_lt
def VZ:=@beq_self_eq_true
def V0:=@PyProof.Rows.wpS_lift
def V1:=@and_true
def V2:=@Int.natCast_ediv
def V3:=@Int.natCast_emod
def V4:=@Nat.add_zero
def V5:=@Nat.succ_pos
def V6:=@Nat.succ.inj
def V7:=@Nat.le_antisymm
def V8:=@Int.emod_nonneg
def V9:=@Nat.mul_add_mod
def Ua:=@Bool.false_and
def Ub:=@List.map_id
def Uc:=@Nat.pow_add
def Ud:=@or_false
theorem cf{b:Type}{l:List b}{i:Nat}{a:b}(h:l[i]?=some a):∃h:i<l.length,l[i]=a:=List.getElem?_eq_some_iff.mp h
namespace L2
open PySem
def pV(s:aA)(j:Nat):aA:=match s with
 |.ClassDef _ _ _ a _ _ _ _ _ _ _=>a.getD j (.Pass ⟨0,0,0,0⟩)
 |_=>.Pass ⟨0,0,0,0⟩
def pU(s:aA):Arguments:=match s with
 |.FunctionDef _ a _ _ _ _ _ _ _ _=>a
 |_=>{posonlyargs:=[],args:=[],vararg:=none,kwonlyargs:=[],kw_defaults:=[],kwarg:=none,defaults:=[]}
def nR(s:aA):List aA:=match s with
 |.FunctionDef _ _ b _ _ _ _ _ _ _=>b
 |_=>[]
def bq(s:aA):ax:=match s with
 |.FunctionDef _ _ _ _ _ _ a _ _ _=>a
 |_=>{kind:=.function,names:=[],isGenerator:=false,isCoroutine:=false}
end L2
namespace Pr
open PySem
def top(i:Nat):aA:=PySem.Challenge.pw_quarterfold_k57_grown_and_shrunk_by_cell.main.body.getD i (.Pass ⟨0,0,0,0⟩)
end Pr
namespace Hd
open PySem PySem.W
abbrev pw:ag:=PySem.Challenge.pw_quarterfold_k57_grown_and_shrunk_by_cell
abbrev iN:aa:=.str "quarterfold.rows" 294
abbrev j_:aa:=.str "law_quarterfold_k57_grown_and_shrunk_by_cell" 651
abbrev mX:aa:=.str "quarterfold.floors" 404
abbrev oo:aa:=.str "quarterfold.tellings" 463
abbrev zh:aa:=.str "quarterfold.grown" 600
abbrev AG:aa:=.str "quarterfold.deeds" 508
abbrev AF:aa:=.str "quarterfold.leaves" 533
def kh(P:Params)(x:ar):Int:=PySem.PyData.keyHash P x
def oM(n q:ar)(st:aA)(m:aa)(c:Nat):ay:=⟨.type "function",none,.func (fnOf n q (L2.pU st) (L2.nR st) (L2.bq st) .none .none .none m none (.ref c) .none),#[]⟩
def oF(n:ar)(st:aA)(m:aa)(c:Nat):ay:=⟨.type "function",none,.func (fnOf n n (L2.pU st) (L2.nR st) (L2.bq st) .none .none .none m none (.ref c) .none),#[]⟩
def oT(n q:ar)(st:aA):ay:=⟨.none,none,.func {fnOf n q (L2.pU st) (L2.nR st) (L2.bq st) .none .none .none .none none .none .none with globals:=0},#[]⟩
def oC(n q:ar)(g e d l a c h:Nat)(y z:aa)(f k b:Nat):ay:=⟨.type "code",none,.fields #[.str n g,.str q e,.str "/claim/cut.py" d,.int l 0,.int a 0,.int 0 0,.int 0 0,.int 3 0,.ref c,.bool true,.int 181 0,.ref h,.none,y,z,.ref f,.int k 0,.int l 0,.str "/claim/cut.py" b],#[]⟩
abbrev aT:PySem.Obj:=⟨.type "tuple",none,(.seq #[] 0),#[]⟩
abbrev eR:PySem.Obj:=⟨.none,none,(.fields #[]),#[]⟩
abbrev dX(a:Array PySem.Value):PySem.Obj:=⟨.type "tuple",none,(.seq a 0),#[]⟩
abbrev aR(P:Params)(x:ar)(n:Tok)(v:aa):DictEntry:=⟨kh P x,.str x n,v⟩
def bv_:List ar->Tok->List aa|[],_=>[]|x::r,t=>.str x t::bv_ r (t+1)
abbrev dB(v:List ar)(t:Nat):ay:=dX (bv_ v t).toArray
def iL(n:ar)(t l k a:Nat):ay:=oC n n t (t+1) (t+2) l k a (a+1) .none .none (a+2) (t+3) (t+4)
def eS(n:ar)(t l k a z:Nat):ay:=oC n n t (t+1) (t+2) l k a (a+1) (.ref (a+2)) (.ref (a+3)) (a+4) (t+z+3) (t+z+4)
def yw(n:ar)(i t l k a:Nat)(M:aa)(r:List ay):List ay:=aT::eR::oT n n (Pr.top i)::iL n t l k a::oF n (Pr.top i) M (a+3)::r
def me(n:ar)(v:List ar)(i t l k a:Nat)(M:aa)(r:List ay):List ay:=aT::eR::dB v (t+3)::aT::oT n n (Pr.top i)::eS n t l k a v.length::oF n (Pr.top i) M (a+5)::r
def LR(P:Params)(x:ar)(t:Tok):List DictEntry:=[aR P "__name__" 165 (.str x t),aR P "__doc__" 166 .none,aR P "__package__" 167 .none,aR P "__loader__" 168 (.builtin "__main__.__loader__#opaque"),aR P "__spec__" 169 .none,aR P "__annotations__" 170 (.ref 6),aR P "__builtins__" 171 (.ref 4),aR P "__file__" 173 (.str "/claim/cut.py" 172),aR P "__cached__" 174 .none,aR P "_wall" 193 (.ref 21),aR P "FloorError" 213 (.ref 31),aR P "NoFloor" 229 (.ref 44),aR P "NoAddress" 245 (.ref 56),aR P "NoShape" 261 (.ref 68),aR P "TooMany" 277 (.ref 80),aR P "NoNumber" 293 (.ref 92),aR P "EMPTY" 297 (.int 0 296),aR P "FULL" 299 (.int 1 298),aR P "FIRST" 301 (.int 2 300),aR P "is_whole" 308 (.ref 101),aR P "is_plain" 315 (.ref 108),aR P "depths_of" 321 (.ref 113),aR P "end_rows" 331 (.ref 120),aR P "places_as_ended" 340 (.ref 127),aR P "renumbered" 346 (.ref 132),aR P "shape_of" 358 (.ref 139),aR P "Book" 403 (.ref 170),aR P "GREATEST_SIZE" 407 (.int 12 406),aR P "is_size" 414 (.ref 181),aR P "is_address" 420 (.ref 186),aR P "want_floor" 427 (.ref 193),aR P "want_address" 435 (.ref 200),aR P "side_of" 442 (.ref 207),aR P "box_at" 454 (.ref 214),aR P "box_of" 462 (.ref 221),aR P "is_number" 472 (.ref 228),aR P "is_row" 478 (.ref 233),aR P "are_rows" 484 (.ref 238),aR P "is_telling" 494 (.ref 245),aR P "is_shape" 500 (.ref 250),aR P "want_shape" 507 (.ref 257),aR P "exchanged" 516 (.ref 264),aR P "exchanged_rows" 522 (.ref 269),aR P "left_out" 532 (.ref 276),aR P "MOST_LEAVES" 536 (.int 2000 535),aR P "count_leaves" 542 (.ref 281),aR P "gather_leaves" 554 (.ref 288),aR P "want_leaves" 562 (.ref 295),aR P "want_coarse" 569 (.ref 302),aR P "leaves_of" 579 (.ref 309),aR P "within" 587 (.ref 314),aR P "framed_number" 593 (.ref 319),aR P "shape_of_boxes" 599 (.ref 324),aR P "MOST_FAR" 603 (.int 4096 602),aR P "MOST_LEAVES_GROWN" 605 (.int 200 604),aR P "want_growth" 613 (.ref 331),aR P "boxes_where" 619 (.ref 336),aR P "boxes_around" 627 (.ref 343),aR P "spread" 633 (.ref 348),aR P "grown" 641 (.ref 355),aR P "shrunk" 650 (.ref 362),aR P "_law_pot" 661 (.ref 369),aR P "_law_digit" 670 (.ref 376),aR P "_law_cells" 676 (.ref 381),aR P "_law_box" 691 (.ref 388),aR P "_law_boxes" 697 (.ref 393),aR P "_law_meets" 707 (.ref 400),aR P "_law_has" 717 (.ref 407),aR P "_law_number" 723 (.ref 412),aR P "_law_shape" 733 (.ref 419),aR P "_law_exchanged" 739 (.ref 424),aR P "_law_is_full" 752 (.ref 431),aR P "_law_places" 758 (.ref 436),aR P "_law_near" 764 (.ref 441),aR P "_law_grown_due" 770 (.ref 446),aR P "_law_shrunk_due" 784 (.ref 453),aR P "_law_many" 790 (.ref 458),aR P "_law_asked" 799 (.ref 465),aR P "law" 812 (.ref 472)]
def K0(P:Params):Frag:=
(nat_lit 2,⟨.none,none,(.dict #[] 0),#[]⟩)::
 (nat_lit 3,⟨.type "dict",none,(.dict (LR P "law_quarterfold_k57_grown_and_shrunk_by_cell" 651).toArray 79),#[]⟩)::
 (nat_lit 15,aT)::
 (nat_lit 17,dB ["k"] 190)::
 (nat_lit 18,aT)::
 (nat_lit 20,eS "_wall" 187 1 1 15 1)::
 (nat_lit 21,oF "_wall" (Pr.top 0) (.str "__main__" 164) 20)::
 (nat_lit 22,(dX #[.type "ValueError"]))::
 (nat_lit 29,aT)::
 (nat_lit 30,⟨.type "dict",none,(.dict #[aR P "__module__" 203 (.str "quarterfold.errors" 194),aR P "__firstlineno__" 207 (.int 5 206),aR P "__static_attributes__" 208 (.ref 29),aR P "__weakref__" 210 (.ref 32),aR P "__doc__" 211 .none] 3),#[]⟩)::
 (nat_lit 31,⟨.type "type",none,(.cls ⟨"FloorError",[.type "ValueError"],[.ref 31,.type "ValueError",.type "Exception",.type "BaseException",.type "object"],30,"FloorError",true,[],[.ref 44,.ref 56,.ref 68,.ref 80,.ref 92],false,none,false⟩),#[some (.ref 22),none,some (.str "FloorError" 196),some (.str "FloorError" 204),some (.builtin "ValueError.__new__"),some (.bool true)]⟩)::
 (nat_lit 32,⟨.type "getset_descriptor",none,(.fields #[.str "__weakref__" 209,.ref 31,.builtin "ExceptionGroup.__weakref__",.none]),#[]⟩)::
 (nat_lit 35,(dX #[.ref 31]))::
 (nat_lit 42,aT)::
 (nat_lit 43,⟨.type "dict",none,(.dict #[aR P "__module__" 221 (.str "quarterfold.errors" 194),aR P "__firstlineno__" 225 (.int 7 224),aR P "__static_attributes__" 226 (.ref 42),aR P "__doc__" 227 .none] 2),#[]⟩)::
 (nat_lit 44,⟨.type "type",none,(.cls ⟨"NoFloor",[.ref 31],[.ref 44,.ref 31,.type "ValueError",.type "Exception",.type "BaseException",.type "object"],43,"NoFloor",true,[],[],false,none,false⟩),#[some (.ref 35),none,some (.str "NoFloor" 214),some (.str "NoFloor" 222),some (.builtin "ValueError.__new__"),some (.bool true)]⟩)::
 (nat_lit 47,(dX #[.ref 31]))::
 (nat_lit 54,aT)::
 (nat_lit 55,⟨.type "dict",none,(.dict #[aR P "__module__" 237 (.str "quarterfold.errors" 194),aR P "__firstlineno__" 241 (.int 9 240),aR P "__static_attributes__" 242 (.ref 54),aR P "__doc__" 243 .none] 2),#[]⟩)::
 (nat_lit 56,⟨.type "type",none,(.cls ⟨"NoAddress",[.ref 31],[.ref 56,.ref 31,.type "ValueError",.type "Exception",.type "BaseException",.type "object"],55,"NoAddress",true,[],[],false,none,false⟩),#[some (.ref 47),none,some (.str "NoAddress" 230),some (.str "NoAddress" 238),some (.builtin "ValueError.__new__"),some (.bool true)]⟩)::
 (nat_lit 59,(dX #[.ref 31]))::
 (nat_lit 66,aT)::
 (nat_lit 67,⟨.type "dict",none,(.dict #[aR P "__module__" 253 (.str "quarterfold.errors" 194),aR P "__firstlineno__" 257 (.int 11 256),aR P "__static_attributes__" 258 (.ref 66),aR P "__doc__" 259 .none] 2),#[]⟩)::
 (nat_lit 68,⟨.type "type",none,(.cls ⟨"NoShape",[.ref 31],[.ref 68,.ref 31,.type "ValueError",.type "Exception",.type "BaseException",.type "object"],67,"NoShape",true,[],[],false,none,false⟩),#[some (.ref 59),none,some (.str "NoShape" 246),some (.str "NoShape" 254),some (.builtin "ValueError.__new__"),some (.bool true)]⟩)::
 (nat_lit 71,(dX #[.ref 31]))::
 (nat_lit 78,aT)::
 (nat_lit 79,⟨.type "dict",none,(.dict #[aR P "__module__" 269 (.str "quarterfold.errors" 194),aR P "__firstlineno__" 273 (.int 13 272),aR P "__static_attributes__" 274 (.ref 78),aR P "__doc__" 275 .none] 2),#[]⟩)::
 (nat_lit 80,⟨.type "type",none,(.cls ⟨"TooMany",[.ref 31],[.ref 80,.ref 31,.type "ValueError",.type "Exception",.type "BaseException",.type "object"],79,"TooMany",true,[],[],false,none,false⟩),#[some (.ref 71),none,some (.str "TooMany" 262),some (.str "TooMany" 270),some (.builtin "ValueError.__new__"),some (.bool true)]⟩)::
 (nat_lit 83,(dX #[.ref 31]))::
 (nat_lit 90,aT)::
 (nat_lit 91,⟨.type "dict",none,(.dict #[aR P "__module__" 285 (.str "quarterfold.errors" 194),aR P "__firstlineno__" 289 (.int 15 288),aR P "__static_attributes__" 290 (.ref 90),aR P "__doc__" 291 .none] 2),#[]⟩)::
 (nat_lit 92,⟨.type "type",none,(.cls ⟨"NoNumber",[.ref 31],[.ref 92,.ref 31,.type "ValueError",.type "Exception",.type "BaseException",.type "object"],91,"NoNumber",true,[],[],false,none,false⟩),#[some (.ref 83),none,some (.str "NoNumber" 278),some (.str "NoNumber" 286),some (.builtin "ValueError.__new__"),some (.bool true)]⟩)::
 (nat_lit 95,aT)::
 (nat_lit 97,dB ["thing"] 305)::
 (nat_lit 98,aT)::
 (nat_lit 100,eS "is_whole" 302 21 1 95 1)::
 (nat_lit 101,oF "is_whole" (Pr.top 12) iN 100)::
 (nat_lit 102,aT)::
 (nat_lit 104,dB ["row"] 312)::
 (nat_lit 105,aT)::
 (nat_lit 107,eS "is_plain" 309 23 1 102 1)::
 (nat_lit 108,oF "is_plain" (Pr.top 13) iN 107)::
 (nat_lit 109,aT)::
 (nat_lit 112,iL "depths_of" 316 25 1 109)::
 (nat_lit 113,oF "depths_of" (Pr.top 14) iN 112)::
 (nat_lit 114,aT)::
 (nat_lit 116,dB ["rows","number","ended","quarter"] 325)::
 (nat_lit 117,aT)::
 (nat_lit 119,eS "end_rows" 322 30 3 114 4)::
 (nat_lit 120,oF "end_rows" (Pr.top 15) iN 119)::
 (nat_lit 121,aT)::
 (nat_lit 123,dB ["rows","top","ended"] 335)::
 (nat_lit 124,aT)::
 (nat_lit 126,eS "places_as_ended" 332 36 2 121 3)::
 (nat_lit 127,oF "places_as_ended" (Pr.top 16) iN 126)::
 (nat_lit 128,aT)::
 (nat_lit 131,iL "renumbered" 341 40 2 128)::
 (nat_lit 132,oF "renumbered" (Pr.top 17) iN 131)::
 (nat_lit 133,aT)::
 (nat_lit 135,dB ["n","top","rows","numbers","told","place"] 350)::
 (nat_lit 136,aT)::
 (nat_lit 138,eS "shape_of" 347 42 3 133 6)::
 (nat_lit 139,oF "shape_of" (Pr.top 18) iN 138)::
 (nat_lit 147,aT)::
 (nat_lit 149,(dX #[.str "self" 374]))::
 (nat_lit 150,aT)::
 (nat_lit 152,oC "__init__" "Book.__init__" 371 372 373 51 1 147 148 (.ref 149) (.ref 150) 151 375 376)::
 (nat_lit 153,oM "__init__" "Book.__init__" (L2.pV (Pr.top 19) 0) iN 152)::
 (nat_lit 154,aT)::
 (nat_lit 156,(dX #[.str "self" 381,.str "row" 382]))::
 (nat_lit 157,aT)::
 (nat_lit 159,oC "number_for" "Book.number_for" 378 379 380 55 2 154 155 (.ref 156) (.ref 157) 158 383 384)::
 (nat_lit 160,oM "number_for" "Book.number_for" (L2.pV (Pr.top 19) 1) iN 159)::
 (nat_lit 161,aT)::
 (nat_lit 163,(dX #[.str "self" 389,.str "rows" 390]))::
 (nat_lit 164,aT)::
 (nat_lit 166,oC "numbers_for" "Book.numbers_for" 386 387 388 63 2 161 162 (.ref 163) (.ref 164) 165 391 392)::
 (nat_lit 167,oM "numbers_for" "Book.numbers_for" (L2.pV (Pr.top 19) 2) iN 166)::
 (nat_lit 168,(dX #[.str "kept" 394,.str "numbers" 395]))::
 (nat_lit 169,⟨.type "dict",none,(.dict #[aR P "__module__" 366 (.str "quarterfold.rows" 294),aR P "__firstlineno__" 370 (.int 49 369),aR P "__init__" 377 (.ref 153),aR P "number_for" 385 (.ref 160),aR P "numbers_for" 393 (.ref 167),aR P "__static_attributes__" 396 (.ref 168),aR P "__dict__" 398 (.ref 171),aR P "__weakref__" 400 (.ref 172),aR P "__doc__" 401 .none] 4),#[]⟩)::
 (nat_lit 170,⟨.type "type",none,(.cls ⟨"Book",[.type "object"],[.ref 170,.type "object"],169,"Book",true,[],[],false,none,false⟩),#[none,none,some (.str "Book" 359),some (.str "Book" 367),some (.builtin "object.__new__"),some (.bool true)]⟩)::
 (nat_lit 171,⟨.type "getset_descriptor",none,(.fields #[.str "__dict__" 397,.ref 170,.builtin "function.__dict__",.builtin "function.__dict__#set"]),#[]⟩)::
 (nat_lit 172,⟨.type "getset_descriptor",none,(.fields #[.str "__weakref__" 399,.ref 170,.builtin "ExceptionGroup.__weakref__",.none]),#[]⟩)::
 (nat_lit 175,aT)::
 (nat_lit 177,dB ["thing"] 411)::
 (nat_lit 178,aT)::
 (nat_lit 180,eS "is_size" 408 67 1 175 1)::
 (nat_lit 181,oF "is_size" (Pr.top 22) mX 180)::
 (nat_lit 182,aT)::
 (nat_lit 185,iL "is_address" 415 69 2 182)::
 (nat_lit 186,oF "is_address" (Pr.top 23) mX 185)::
 (nat_lit 187,aT)::
 (nat_lit 189,dB ["n"] 424)::
 (nat_lit 190,aT)::
 (nat_lit 192,eS "want_floor" 421 71 1 187 1)::
 (nat_lit 193,oF "want_floor" (Pr.top 24) mX 192)::
 (nat_lit 194,aT)::
 (nat_lit 196,dB ["n","address"] 431)::
 (nat_lit 197,aT)::
 (nat_lit 199,eS "want_address" 428 74 2 194 2)::
 (nat_lit 200,oF "want_address" (Pr.top 25) mX 199)::
 (nat_lit 201,aT)::
 (nat_lit 203,dB ["n"] 439)::
 (nat_lit 204,aT)::
 (nat_lit 206,eS "side_of" 436 77 1 201 1)::
 (nat_lit 207,oF "side_of" (Pr.top 26) mX 206)::
 (nat_lit 208,aT)::
 (nat_lit 210,dB ["n","address","row","column","side","figure"] 446)::
 (nat_lit 211,aT)::
 (nat_lit 213,eS "box_at" 443 79 2 208 6)::
 (nat_lit 214,oF "box_at" (Pr.top 27) mX 213)::
 (nat_lit 215,aT)::
 (nat_lit 217,dB ["n","address"] 458)::
 (nat_lit 218,aT)::
 (nat_lit 220,eS "box_of" 455 87 2 215 2)::
 (nat_lit 221,oF "box_of" (Pr.top 28) mX 220)::
 (nat_lit 222,aT)::
 (nat_lit 224,dB ["thing","many"] 468)::
 (nat_lit 225,aT)::
 (nat_lit 227,eS "is_number" 465 92 2 222 2)::
 (nat_lit 228,oF "is_number" (Pr.top 30) oo 227)::
 (nat_lit 229,aT)::
 (nat_lit 232,iL "is_row" 473 94 2 229)::
 (nat_lit 233,oF "is_row" (Pr.top 31) oo 232)::
 (nat_lit 234,aT)::
 (nat_lit 237,iL "are_rows" 479 98 1 234)::
 (nat_lit 238,oF "are_rows" (Pr.top 32) oo 237)::
 (nat_lit 239,aT)::
 (nat_lit 241,dB ["thing","n","top","rows"] 488)::
 (nat_lit 242,aT)::
 (nat_lit 244,eS "is_telling" 485 100 1 239 4)::
 (nat_lit 245,oF "is_telling" (Pr.top 33) oo 244)::
 (nat_lit 246,aT)::
 (nat_lit 249,iL "is_shape" 495 107 1 246)::
 (nat_lit 250,oF "is_shape" (Pr.top 34) oo 249)::
 (nat_lit 251,aT)::
 (nat_lit 253,dB ["shape"] 504)::
 (nat_lit 254,aT)::
 (nat_lit 256,eS "want_shape" 501 114 1 251 1)::
 (nat_lit 257,oF "want_shape" (Pr.top 35) oo 256)::
 (nat_lit 258,aT)::
 (nat_lit 260,dB ["number"] 513)::
 (nat_lit 261,aT)::
 (nat_lit 263,eS "exchanged" 510 118 1 258 1)::
 (nat_lit 264,oF "exchanged" (Pr.top 37) AG 263)::
 (nat_lit 265,aT)::
 (nat_lit 268,iL "exchanged_rows" 517 122 1 265)::
 (nat_lit 269,oF "exchanged_rows" (Pr.top 38) AG 268)::
 (nat_lit 270,aT)::
 (nat_lit 272,dB ["shape","n","top","rows"] 526)::
 (nat_lit 273,aT)::
 (nat_lit 275,eS "left_out" 523 124 1 270 4)::
 (nat_lit 276,oF "left_out" (Pr.top 39) AG 275)::
 (nat_lit 277,aT)::
 (nat_lit 280,iL "count_leaves" 537 130 2 277)::
 (nat_lit 281,oF "count_leaves" (Pr.top 42) AF 280)::
 (nat_lit 282,aT)::
 (nat_lit 284,dB ["rows","number","address","leaves","at","quarter"] 546)::
 (nat_lit 285,aT)::
 (nat_lit 287,eS "gather_leaves" 543 135 4 282 6)::
 (nat_lit 288,oF "gather_leaves" (Pr.top 43) AF 287)::
 (nat_lit 289,aT)::
 (nat_lit 291,dB ["shape","most"] 558)::
 (nat_lit 292,aT)::
 (nat_lit 294,eS "want_leaves" 555 141 2 289 2)::
 (nat_lit 295,oF "want_leaves" (Pr.top 44) AF 294)::
 (nat_lit 296,aT)::
 (nat_lit 298,dB ["shape"] 566)::
 (nat_lit 299,aT)::
 (nat_lit 301,eS "want_coarse" 563 144 1 296 1)::
 (nat_lit 302,oF "want_coarse" (Pr.top 45) AF 301)::
 (nat_lit 303,aT)::
 (nat_lit 305,dB ["shape","top","rows","leaves"] 573)::
 (nat_lit 306,aT)::
 (nat_lit 308,eS "leaves_of" 570 146 1 303 4)::
 (nat_lit 309,oF "leaves_of" (Pr.top 46) AF 308)::
 (nat_lit 310,aT)::
 (nat_lit 313,iL "within" 582 154 4 310)::
 (nat_lit 314,oF "within" (Pr.top 48) (.str "quarterfold.made" 580) 313)::
 (nat_lit 315,aT)::
 (nat_lit 318,iL "framed_number" 588 157 4 315)::
 (nat_lit 319,oF "framed_number" (Pr.top 49) (.str "quarterfold.made" 580) 318)::
 (nat_lit 320,aT)::
 (nat_lit 323,iL "shape_of_boxes" 594 168 2 320)::
 (nat_lit 324,oF "shape_of_boxes" (Pr.top 50) (.str "quarterfold.made" 580) 323)::
 (nat_lit 325,aT)::
 (nat_lit 327,dB ["shape","far"] 609)::
 (nat_lit 328,aT)::
 (nat_lit 330,eS "want_growth" 606 177 2 325 2)::
 (nat_lit 331,oF "want_growth" (Pr.top 54) zh 330)::
 (nat_lit 332,aT)::
 (nat_lit 335,iL "boxes_where" 614 182 2 332)::
 (nat_lit 336,oF "boxes_where" (Pr.top 55) zh 335)::
 (nat_lit 337,aT)::
 (nat_lit 339,dB ["n","side"] 623)::
 (nat_lit 340,aT)::
 (nat_lit 342,eS "boxes_around" 620 185 1 337 2)::
 (nat_lit 343,oF "boxes_around" (Pr.top 56) zh 342)::
 (nat_lit 344,aT)::
 (nat_lit 347,iL "spread" 628 188 3 344)::
 (nat_lit 348,oF "spread" (Pr.top 57) zh 347)::
 (nat_lit 349,aT)::
 (nat_lit 351,dB ["shape","far"] 637)::
 (nat_lit 352,aT)::
 (nat_lit 354,eS "grown" 634 190 2 349 2)::
 (nat_lit 355,oF "grown" (Pr.top 58) zh 354)::
 (nat_lit 356,aT)::
 (nat_lit 358,dB ["shape","far","n"] 645)::
 (nat_lit 359,aT)::
 (nat_lit 361,eS "shrunk" 642 193 2 356 3)::
 (nat_lit 362,oF "shrunk" (Pr.top 59) zh 361)::
 (nat_lit 363,aT)::
 (nat_lit 365,dB ["_law_script","_law_k","_law_cell"] 656)::
 (nat_lit 366,aT)::
 (nat_lit 368,eS "_law_pot" 653 198 2 363 3)::
 (nat_lit 369,oF "_law_pot" (Pr.top 61) j_ 368)::
 (nat_lit 370,aT)::
 (nat_lit 372,dB ["_law_pot_here","_law_many_here","_law_digit_here"] 665)::
 (nat_lit 373,aT)::
 (nat_lit 375,eS "_law_digit" 662 203 2 370 3)::
 (nat_lit 376,oF "_law_digit" (Pr.top 62) j_ 375)::
 (nat_lit 377,aT)::
 (nat_lit 380,iL "_law_cells" 671 210 2 377)::
 (nat_lit 381,oF "_law_cells" (Pr.top 63) j_ 380)::
 (nat_lit 382,aT)::
 (nat_lit 384,dB ["_law_pot_here","_law_n","_law_most","_law_side","_law_size","_law_row","_law_column","_law_high","_law_wide"] 680)::
 (nat_lit 385,aT)::
 (nat_lit 387,eS "_law_box" 677 213 3 382 9)::
 (nat_lit 388,oF "_law_box" (Pr.top 64) j_ 387)::
 (nat_lit 389,aT)::
 (nat_lit 392,iL "_law_boxes" 692 225 2 389)::
 (nat_lit 393,oF "_law_boxes" (Pr.top 65) j_ 392)::
 (nat_lit 394,aT)::
 (nat_lit 396,dB ["_law_box_here","_law_row","_law_column","_law_side"] 701)::
 (nat_lit 397,aT)::
 (nat_lit 399,eS "_law_meets" 698 229 4 394 4)::
 (nat_lit 400,oF "_law_meets" (Pr.top 66) j_ 399)::
 (nat_lit 401,aT)::
 (nat_lit 403,dB ["_law_box_here","_law_row","_law_column","_law_side"] 711)::
 (nat_lit 404,aT)::
 (nat_lit 406,eS "_law_has" 708 233 4 401 4)::
 (nat_lit 407,oF "_law_has" (Pr.top 67) j_ 406)::
 (nat_lit 408,aT)::
 (nat_lit 411,iL "_law_number" 718 237 5 408)::
 (nat_lit 412,oF "_law_number" (Pr.top 68) j_ 411)::
 (nat_lit 413,aT)::
 (nat_lit 415,dB ["_law_n","_law_boxes_here","_law_rows","_law_top"] 727)::
 (nat_lit 416,aT)::
 (nat_lit 418,eS "_law_shape" 724 248 2 413 4)::
 (nat_lit 419,oF "_law_shape" (Pr.top 69) j_ 418)::
 (nat_lit 420,aT)::
 (nat_lit 423,iL "_law_exchanged" 734 252 1 420)::
 (nat_lit 424,oF "_law_exchanged" (Pr.top 70) j_ 423)::
 (nat_lit 425,aT)::
 (nat_lit 427,dB ["_law_told","_law_row","_law_column","_law_n","_law_number_here","_law_rows","_law_k"] 743)::
 (nat_lit 428,aT)::
 (nat_lit 430,eS "_law_is_full" 740 256 3 425 7)::
 (nat_lit 431,oF "_law_is_full" (Pr.top 71) j_ 430)::
 (nat_lit 432,aT)::
 (nat_lit 435,iL "_law_places" 753 262 2 432)::
 (nat_lit 436,oF "_law_places" (Pr.top 72) j_ 435)::
 (nat_lit 437,aT)::
 (nat_lit 440,iL "_law_near" 759 266 4 437)::
 (nat_lit 441,oF "_law_near" (Pr.top 73) j_ 440)::
 (nat_lit 442,aT)::
 (nat_lit 445,iL "_law_grown_due" 765 268 2 442)::
 (nat_lit 446,oF "_law_grown_due" (Pr.top 74) j_ 445)::
 (nat_lit 447,aT)::
 (nat_lit 449,dB ["_law_told","_law_far","_law_side","_law_blank","_law_found","_law_row","_law_column","_law_edge"] 774)::
 (nat_lit 450,aT)::
 (nat_lit 452,eS "_law_shrunk_due" 771 273 2 447 8)::
 (nat_lit 453,oF "_law_shrunk_due" (Pr.top 75) j_ 452)::
 (nat_lit 454,aT)::
 (nat_lit 457,iL "_law_many" 785 282 1 454)::
 (nat_lit 458,oF "_law_many" (Pr.top 76) j_ 457)::
 (nat_lit 459,aT)::
 (nat_lit 461,dB ["_law_told","_law_far","_law_wider"] 794)::
 (nat_lit 462,aT)::
 (nat_lit 464,eS "_law_asked" 791 287 3 459 3)::
 (nat_lit 465,oF "_law_asked" (Pr.top 77) j_ 464)::
 (nat_lit 466,aT)::
 (nat_lit 468,dB ["_law_script","_law_k","_law_pot_here","_law_n","_law_told","_law_far","_law_due"] 803)::
 (nat_lit 469,aT)::
 (nat_lit 471,eS "law" 800 294 1 466 7)::
 (nat_lit 472,oF "law" (Pr.top 78) j_ 471)::
 []
def vm:List af:=[2,3,15,17,18,20,21,22,29,30,31,32,35,42,43,44,47,54,55,56,59,66,67,68,71,78,79,80,83,90,91,92,95,97,98,100,101,102,104,105,107,108,109,112,113,114,116,117,119,120,121,123,124,126,127,128,131,132,133,135,136,138,139,147,149,150,152,153,154,156,157,159,160,161,163,164,166,167,168,169,170,171,172,175,177,178,180,181,182,185,186,187,189,190,192,193,194,196,197,199,200,201,203,204,206,207,208,210,211,213,214,215,217,218,220,221,222,224,225,227,228,229,232,233,234,237,238,239,241,242,244,245,246,249,250,251,253,254,256,257,258,260,261,263,264,265,268,269,270,272,273,275,276,277,280,281,282,284,285,287,288,289,291,292,294,295,296,298,299,301,302,303,305,306,308,309,310,313,314,315,318,319,320,323,324,325,327,328,330,331,332,335,336,337,339,340,342,343,344,347,348,349,351,352,354,355,356,358,359,361,362,363,365,366,368,369,370,372,373,375,376,377,380,381,382,384,385,387,388,389,392,393,394,396,397,399,400,401,403,404,406,407,408,411,412,413,415,416,418,419,420,423,424,425,427,428,430,431,432,435,436,437,440,441,442,445,446,447,449,450,452,453,454,457,458,459,461,462,464,465,466,468,469,471,472]
def Dn:List Nat:=[0,2,3,4,5,6,7,9,10,11,12,13,14,15,16,17,18,19,21,22,23,24,25,26,27,28,30,31,32,33,34,35,37,38,39,41,42,43,44,45,46,48,49,50,52,53,54,55,56,57,58,59,61,62,63,64,65,66,67,68,69,70,71,72,73,74,75,76,77,78]
def N0:Nat:=6770
noncomputable def bx(P:Params)(a t l:Nat)(x:ar):List ay:=[(dX #[.ref 31]),
⟨.type "builtin_function_or_method",none,(.fields #[.builtin "type.__prepare__",.type "type"]),#[]⟩,
⟨.type "dict",none,(.dict #[⟨kh P "__module__",.str "__module__" (t+7),.str "quarterfold.errors" 194⟩,⟨kh P "__qualname__",.str "__qualname__" (t+9),.str x (t+8)⟩,⟨kh P "__firstlineno__",.str "__firstlineno__" (t+11),.int l (t+10)⟩,⟨kh P "__static_attributes__",.str "__static_attributes__" (t+12),.ref (a+7)⟩] 4),#[]⟩,
aT,
eR,
⟨.type "code",none,(.fields #[.str x (t+2),.str x (t+3),.str "/claim/cut.py" (t+4),.int l 0,.int 0 0,.int 0 0,.int 0 0,.int 0 0,.ref (a+3),.bool false,.int 181 0,.ref (a+4),.none,.none,.none,.none,.int (t+5) 0,.int l 0,.str "/claim/cut.py" (t+6)]),#[]⟩,
⟨.type "frame",none,.plain,#[some (.ref (a+5)),some (.ref 3),some (.ref (a+2)),none,some (.str "quarterfold.errors" 194),none,some (.ref 0)]⟩,
aT,
⟨.type "dict",none,(.dict #[⟨kh P "__module__",.str "__module__" (t+7),.str "quarterfold.errors" 194⟩,⟨kh P "__firstlineno__",.str "__firstlineno__" (t+11),.int l (t+10)⟩,⟨kh P "__static_attributes__",.str "__static_attributes__" (t+12),.ref (a+7)⟩,⟨kh P "__doc__",.str "__doc__" (t+13),.none⟩] 2),#[]⟩,
⟨.type "type",none,(.cls ⟨x,[.ref 31],[.ref (a+9),.ref 31,.type "ValueError",.type "Exception",.type "BaseException",.type "object"],(a+8),x,true,[],[],false,none,false⟩),#[some (.ref a),none,some (.str x t),some (.str x (t+8)),some (.builtin "ValueError.__new__"),some (.bool true)]⟩,
⟨.type "super",none,(.fields #[.ref (a+9),.ref (a+9),.ref (a+9)]),#[]⟩,
⟨.type "builtin_function_or_method",none,(.fields #[.builtin "object.__init_subclass__",.ref (a+9)]),#[]⟩]
noncomputable def ob(P:Params):List ay:=([boot_o_0 P,boot_o_1 P,boot_o_2 P,⟨.type "dict",none,(.dict ((LR P "quarterfold.deeds" 508).take 43).toArray 43),#[]⟩,boot_o_4 P,boot_o_5 P,boot_o_6 P,boot_o_7 P,boot_o_8 P,boot_o_9 P,boot_o_10 P,aT,⟨.none,none,(.fields #[.int 1 0,.int 0 0,.ref 20,.int 5 0,.int 0 0,.ref 27,.int 7 0,.int 0 0,.ref 40,.int 9 0,.int 0 0,.ref 52,.int 11 0,.int 0 0,.ref 64,.int 13 0,.int 0 0,.ref 76,.int 15 0,.int 0 0,.ref 88,.int 21 0,.int 0 0,.ref 100,.int 23 0,.int 0 0,.ref 107,.int 25 0,.int 0 0,.ref 112,.int 30 0,.int 0 0,.ref 119,.int 36 0,.int 0 0,.ref 126,.int 40 0,.int 0 0,.ref 131,.int 42 0,.int 0 0,.ref 138,.int 49 0,.int 0 0,.ref 145,.int 67 0,.int 0 0,.ref 180,.int 69 0,.int 0 0,.ref 185,.int 71 0,.int 0 0,.ref 192,.int 74 0,.int 0 0,.ref 199,.int 77 0,.int 0 0,.ref 206,.int 79 0,.int 0 0,.ref 213,.int 87 0,.int 0 0,.ref 220,.int 92 0,.int 0 0,.ref 227,.int 94 0,.int 0 0,.ref 232,.int 98 0,.int 0 0,.ref 237,.int 100 0,.int 0 0,.ref 244,.int 107 0,.int 0 0,.ref 249,.int 114 0,.int 0 0,.ref 256,.int 118 0,.int 0 0,.ref 263,.int 122 0,.int 0 0,.ref 268]),#[]⟩,⟨.type "code",none,(.fields #[.str "<module>" 182,.str "<module>" 183,.str "/claim/cut.py" 184,.int 1 0,.int 0 0,.int 0 0,.int 0 0,.int 0 0,.ref 11,.bool false,.int 181 0,.ref 12,.none,.none,.none,.none,.int 185 0,.int 1 0,.str "/claim/cut.py" 186]),#[]⟩,⟨.type "frame",none,.plain,#[some (.ref 13),some (.ref 3),some (.ref 3),none,some (.str "__main__" 164),none,some (.ref 0)]⟩]++(me "_wall" ["k"] 0 187 1 1 15 (.str "__main__" 164) ([(dX #[.type "ValueError"]),⟨.type "builtin_function_or_method",none,(.fields #[.builtin "type.__prepare__",.type "type"]),#[]⟩,⟨.type "dict",none,(.dict #[aR P "__module__" 203 (.str "quarterfold.errors" 194),aR P "__qualname__" 205 (.str "FloorError" 204),aR P "__firstlineno__" 207 (.int 5 206),aR P "__static_attributes__" 208 (.ref 29)] 4),#[]⟩,aT,eR,⟨.type "code",none,(.fields #[.str "FloorError" 198,.str "FloorError" 199,.str "/claim/cut.py" 200,.int 5 0,.int 0 0,.int 0 0,.int 0 0,.int 0 0,.ref 25,.bool false,.int 181 0,.ref 26,.none,.none,.none,.none,.int 201 0,.int 5 0,.str "/claim/cut.py" 202]),#[]⟩,⟨.type "frame",none,.plain,#[some (.ref 27),some (.ref 3),some (.ref 24),none,some (.str "quarterfold.errors" 194),none,some (.ref 0)]⟩,aT,⟨.type "dict",none,(.dict #[aR P "__module__" 203 (.str "quarterfold.errors" 194),aR P "__firstlineno__" 207 (.int 5 206),aR P "__static_attributes__" 208 (.ref 29),aR P "__weakref__" 210 (.ref 32),aR P "__doc__" 211 .none] 3),#[]⟩,⟨.type "type",none,(.cls ⟨"FloorError",[.type "ValueError"],[.ref 31,.type "ValueError",.type "Exception",.type "BaseException",.type "object"],30,"FloorError",true,[],[.ref 44,.ref 56,.ref 68,.ref 80,.ref 92],false,none,false⟩),#[some (.ref 22),none,some (.str "FloorError" 196),some (.str "FloorError" 204),some (.builtin "ValueError.__new__"),some (.bool true)]⟩,⟨.type "getset_descriptor",none,(.fields #[.str "__weakref__" 209,.ref 31,.builtin "ExceptionGroup.__weakref__",.none]),#[]⟩,⟨.type "super",none,(.fields #[.ref 31,.ref 31,.ref 31]),#[]⟩,⟨.type "builtin_function_or_method",none,(.fields #[.builtin "object.__init_subclass__",.ref 31]),#[]⟩])))++(bx P 35 214 7 "NoFloor"++(bx P 47 230 9 "NoAddress"++(bx P 59 246 11 "NoShape"++(bx P 71 262 13 "TooMany"++(bx P 83 278 15 "NoNumber"++((me "is_whole" ["thing"] 12 302 21 1 95 iN (me "is_plain" ["row"] 13 309 23 1 102 iN (yw "depths_of" 14 316 25 1 109 iN (me "end_rows" ["rows","number","ended","quarter"] 15 322 30 3 114 iN (me "places_as_ended" ["rows","top","ended"] 16 332 36 2 121 iN (yw "renumbered" 17 341 40 2 128 iN (me "shape_of" ["n","top","rows","numbers","told","place"] 18 347 42 3 133 iN ([aT,⟨.type "builtin_function_or_method",none,(.fields #[.builtin "type.__prepare__",.type "type"]),#[]⟩,⟨.type "dict",none,(.dict #[aR P "__module__" 366 (.str "quarterfold.rows" 294),aR P "__qualname__" 368 (.str "Book" 367),aR P "__firstlineno__" 370 (.int 49 369),aR P "__init__" 377 (.ref 153),aR P "number_for" 385 (.ref 160),aR P "numbers_for" 393 (.ref 167),aR P "__static_attributes__" 396 (.ref 168)] 7),#[]⟩,aT,⟨.none,none,(.fields #[.int 51 0,.int 4 0,.ref 152,.int 55 0,.int 4 0,.ref 159,.int 63 0,.int 4 0,.ref 166]),#[]⟩,⟨.type "code",none,(.fields #[.str "Book" 361,.str "Book" 362,.str "/claim/cut.py" 363,.int 49 0,.int 0 0,.int 0 0,.int 0 0,.int 0 0,.ref 143,.bool false,.int 181 0,.ref 144,.none,.none,.none,.none,.int 364 0,.int 49 0,.str "/claim/cut.py" 365]),#[]⟩,⟨.type "frame",none,.plain,#[some (.ref 145),some (.ref 3),some (.ref 142),none,some iN,none,some (.ref 0)]⟩,aT,eR,(dX #[.str "self" 374]),aT,oT "__init__" "Book.__init__" (L2.pV (Pr.top 19) 0),oC "__init__" "Book.__init__" 371 372 373 51 1 147 148 (.ref 149) (.ref 150) 151 375 376,oM "__init__" "Book.__init__" (L2.pV (Pr.top 19) 0) iN 152,aT,eR,(dX #[.str "self" 381,.str "row" 382]),aT,oT "number_for" "Book.number_for" (L2.pV (Pr.top 19) 1),oC "number_for" "Book.number_for" 378 379 380 55 2 154 155 (.ref 156) (.ref 157) 158 383 384,oM "number_for" "Book.number_for" (L2.pV (Pr.top 19) 1) iN 159,aT,eR,(dX #[.str "self" 389,.str "rows" 390]),aT,oT "numbers_for" "Book.numbers_for" (L2.pV (Pr.top 19) 2),oC "numbers_for" "Book.numbers_for" 386 387 388 63 2 161 162 (.ref 163) (.ref 164) 165 391 392,oM "numbers_for" "Book.numbers_for" (L2.pV (Pr.top 19) 2) iN 166,(dX #[.str "kept" 394,.str "numbers" 395]),⟨.type "dict",none,(.dict #[aR P "__module__" 366 (.str "quarterfold.rows" 294),aR P "__firstlineno__" 370 (.int 49 369),aR P "__init__" 377 (.ref 153),aR P "number_for" 385 (.ref 160),aR P "numbers_for" 393 (.ref 167),aR P "__static_attributes__" 396 (.ref 168),aR P "__dict__" 398 (.ref 171),aR P "__weakref__" 400 (.ref 172),aR P "__doc__" 401 .none] 4),#[]⟩,⟨.type "type",none,(.cls ⟨"Book",[.type "object"],[.ref 170,.type "object"],169,"Book",true,[],[],false,none,false⟩),#[none,none,some (.str "Book" 359),some (.str "Book" 367),some (.builtin "object.__new__"),some (.bool true)]⟩,⟨.type "getset_descriptor",none,(.fields #[.str "__dict__" 397,.ref 170,.builtin "function.__dict__",.builtin "function.__dict__#set"]),#[]⟩,⟨.type "getset_descriptor",none,(.fields #[.str "__weakref__" 399,.ref 170,.builtin "ExceptionGroup.__weakref__",.none]),#[]⟩,⟨.type "super",none,(.fields #[.ref 170,.ref 170,.ref 170]),#[]⟩,⟨.type "builtin_function_or_method",none,(.fields #[.builtin "object.__init_subclass__",.ref 170]),#[]⟩]++(me "is_size" ["thing"] 22 408 67 1 175 mX (yw "is_address" 23 415 69 2 182 mX (me "want_floor" ["n"] 24 421 71 1 187 mX (me "want_address" ["n","address"] 25 428 74 2 194 mX (me "side_of" ["n"] 26 436 77 1 201 mX (me "box_at" ["n","address","row","column","side","figure"] 27 443 79 2 208 mX (me "box_of" ["n","address"] 28 455 87 2 215 mX (me "is_number" ["thing","many"] 30 465 92 2 222 oo (yw "is_row" 31 473 94 2 229 oo (yw "are_rows" 32 479 98 1 234 oo (me "is_telling" ["thing","n","top","rows"] 33 485 100 1 239 oo (yw "is_shape" 34 495 107 1 246 oo (me "want_shape" ["shape"] 35 501 114 1 251 oo (me "exchanged" ["number"] 37 510 118 1 258 AG (yw "exchanged_rows" 38 517 122 1 265 AG [])))))))))))))))))))))))))))))
noncomputable def hA(P:Params):ao:=⟨⟨((((ob P).take 15).set 3 (boot_o_3 P)).set 12 (eR))⟩,(boot_heap P).life⟩
noncomputable def h1(P:Params):ao:=⟨⟨((((ob P).take 102).set 3 (⟨.type "dict",none,(.dict ((LR P "quarterfold.rows" 294).take 20).toArray 20),#[]⟩)).set 12 (⟨.none,none,(.fields #[.int 1 0,.int 0 0,.ref 20,.int 5 0,.int 0 0,.ref 27,.int 7 0,.int 0 0,.ref 40,.int 9 0,.int 0 0,.ref 52,.int 11 0,.int 0 0,.ref 64,.int 13 0,.int 0 0,.ref 76,.int 15 0,.int 0 0,.ref 88,.int 21 0,.int 0 0,.ref 100]),#[]⟩))⟩,(boot_heap P).life⟩
noncomputable def h2(P:Params):ao:=⟨⟨(ob P)⟩,(boot_heap P).life⟩
noncomputable def bd:List aA:=behindTheImports pw
noncomputable def ev:Env:={scope:=pw.main.scope,locals:=mainNs,globals:=mainNs,cells:=[],code:=.ref 13,frame:=some 14}
noncomputable def cE:Code:=.body bd ev
noncomputable abbrev sh (h:Params->ao) (k:Nat) (w:aj) (a:OsState):ae:=⟨h w.params,Array.mk [],boot_drawn,k,a⟩
noncomputable abbrev fr:List Frame:=[topFrame ⟨0,0,0,0⟩]
theorem Lv(w:aj)(a:OsState):topGo treeTable pw w 11 (some (.ref 6)) 12 (sh boot_heap boot_toks w a) (topStub pw)=some (sh hA 187 w a,⟨denote treeTable cE,cE,⟨0,0,0,0⟩,fr⟩):=by kernel_rfl
theorem N_(w:aj)(a:OsState):segRun treeTable pw w 11 (some (.ref 6)) 1 1 (sh hA 187 w a) (blockOf bd ev cE ⟨0,0,0,0⟩ fr)=some (.next,sh hA 187 w a,cE,⟨0,0,0,0⟩):=by kernel_rfl
theorem Rv{tb:String->Option Builtin}{p:ag}{w:aj}{d:Nat}{a:Option aa}{env:Env}{q:az}{n N j:Nat}{s s' r:ae}{l:List aA}{c:Code}{b e:az}(h:segRun tb p w d a 1 n s (piecesOf (l.take j) env c b [topFrame q])=some (.next,s',c,e))
  (k:topRun tb p w d a N s' (restOf (l.drop j) env c e [topFrame q])=some r):topRun tb p w d a (n+N) s (restOf l env c b [topFrame q])=some r:=by
 have:=piece_app (l:=l.take j) (rest:=l.drop j) h k
 rwa [YG]at this
theorem xe4{p q:ag}{loose:List ar}{Xt:ae->Bool}{y:Type}{u:ae->y}{m:aj->y}{N:Nat}{x:Bool}{aD:Params->ao}{f:Array GenState}{l:Drawn}{g c M n:Nat}{b:Option aa}{Z:aj->OsState->ae}{T:Thread}
  (I:∀w:aj,(fencedOpening treeTable p w N).map (λs=>(s.heap,s.gens,s.drawn,s.toks))=some (aD w.params,f,l,g))
  (size:∀w:aj,((aD w.params).isNs mainGlobals&&f.size==0,(aD w.params).objs.size,(aD w.params).nsMap mainGlobals "__annotations__")=(true,c,b))
  (i:∀(w:aj)(a:OsState)(r:ae),topRun treeTable p w c b n (Z w a) T=some r->topRun treeTable p w c b M ⟨aD w.params,f,l,g,a⟩ (topStub p)=some r) (le:Nat.ble M N=true)
  (fin:∀(w:aj)(a:OsState),(topRun treeTable p w c b n (Z w a) T).map (λs=>(staticsOk (importedModules p.main.body) (aD w.params) s.heap&&namesBound p s.heap&&gensDone s&&laidKept (aD w.params) s.heap,openSeen q loose (importedModules p.main.body) Xt x s,u s))=some (true,openGood q loose,m w)):LeftO p q loose Xt u m N x:=λw=>by
 obtain⟨⟨h,j,d,k,a⟩,e,A⟩:=Zh.mp (I w);obtain⟨rfl,rfl,rfl,rfl⟩:h=aD w.params/\j=f/\d=l/\k=g:=by simpa using A
 obtain⟨G,B,H⟩:_/\_/\_:=by simpa only[Prod.mk.injEq]using size w
 obtain⟨r,J,C⟩:=Zh.mp (fin w a);obtain⟨E,D,F⟩:_/\_/\_:=by simpa only[Prod.mk.injEq]using C
 have v:=topRun_mono (N-M) _ _ _ _ (i w a r J);rw[show M+(N-M)=N by have:=Nat.le_of_ble_eq_true le;lia]at v;have t:topFrom treeTable p w N ⟨aD w.params,j,d,k,a⟩=some r:=by
  unfold topFrom;dsimp only;rw[G,B,H,v];show(match staticsOk (importedModules p.main.body) (aD w.params) r.heap&&namesBound p r.heap&&gensDone r&&laidKept (aD w.params) r.heap with|true=>_|false=>_)=_;rw[E]
 unfold openEnds;rw[e];show(topFrom treeTable p w N ⟨aD w.params,j,d,k,a⟩).map _=_;rw[t];show some (_,_)=some (_,_);rw[D,F]
theorem JW(w:aj)(a:OsState):segRun treeTable pw w 11 (some (.ref 6)) 1 1404 (sh hA 187 w a) (piecesOf (bd.take 13) ev cE ⟨0,0,0,0⟩ fr)=some (.next,sh h1 309 w a,cE,⟨21,0,22,67⟩):=by kernel_rfl
theorem JV(w:aj)(a:OsState):segRun treeTable pw w 11 (some (.ref 6)) 1 981 (sh h1 309 w a) (piecesOf ((bd.drop 13).take 26) ev cE ⟨21,0,22,67⟩ fr)=some (.next,sh h2 523 w a,cE,⟨122,0,123,80⟩):=by kernel_rfl
theorem Ka(w:aj)(a:OsState)(r:ae)(h:topRun treeTable pw w 11 (some (.ref 6)) 1098 (sh h2 523 w a) (restOf ((bd.drop 13).drop 26) ev cE ⟨122,0,123,80⟩ fr)=some r):topRun treeTable pw w 11 (some (.ref 6)) (12+(1+(1404+(981+1098)))) (sh boot_heap boot_toks w a) (topStub pw)=some r:=go_top (Lv w a) (piece_block (N_ w a) (Rv (JW w a) (Rv (JV w a) h)))
theorem LA:opening pw=plainProg pw.main.scope.names:=by kernel_rfl
theorem NT(s:ae):fenceModules? pw s=some s:=by kernel_rfl
def q0:ag:={pw with main:={pw.main with body:=Dn.map Pr.top}}
theorem mM:∀P,vm=(K0 P).map (·.1):=λ_=>by kernel_rfl
abbrev X0:ae->Bool:=λs=>xlAt q0 [] s&&recOk (RowW.records (OpenRow.toRowW (OpenLaw.row PySem.Challenge.rw_quarterfold_k57_grown_and_shrunk_by_cell))) s
set_option maxHeartbeats 0 in
theorem NS(w:aj)(os:OsState):(topRun treeTable pw w 11 (some (.ref 6)) 1098 (sh h2 523 w os) (restOf ((bd.drop 13).drop 26) ev cE ⟨122,0,123,80⟩ fr)).map (λs=>(staticsOk (importedModules pw.main.body) (boot_heap w.params) s.heap&&namesBound pw s.heap&&gensDone s&&laidKept (boot_heap w.params) s.heap,openSeen q0 [] (importedModules pw.main.body) X0 true s,Hook.obs (kHook Hd.K0 Hd.vm Hd.mM) s))=some (true,openGood q0 [],Hook.val (kHook Hd.K0 Hd.vm Hd.mM) w):=by kernel_rfl
theorem xN0:LeftO pw q0 [] X0 (Hook.obs (kHook Hd.K0 Hd.vm Hd.mM)) (Hook.val (kHook Hd.K0 Hd.vm Hd.mM)) N0:=xe4 (boot_open LA rfl NT) (λw=>by kernel_rfl) Ka (by rfl) NS
end Hd
section
variable{a b c d e f g h i j k l m n o p:Nat}{z y x w v u t s r:Int}
theorem md(H:a<b)(J:b<c):a<c:=by lia
theorem u9:0<=((a:Nat):Int):=by lia
theorem LW(H:a<b)(J:c=b):a<c:=by lia
theorem Ab:a<=(a+b):=by lia
theorem u7(H:¬(a<b)):b<=a:=by lia
theorem qm(H:a<b)(J:b=c):a<c:=by lia
theorem Aa(H:a=b)(J:a<=c):b<=c:=by lia
theorem UH(H:a<=b):a<=(b+c):=by lia
theorem Dh(H:a<b):a<(b+c):=by lia
theorem Dg(H:(a+b)<=c):a<=c:=by lia
theorem x_(H:(a+b)<c):a<c:=by lia
theorem mB(H:a<=b)(J:¬(a=b)):a<b:=by lia
theorem Df(H:a=b):a<=b:=by lia
theorem nY(H:a<=b)(J:¬(a<b)):a=b:=by lia
theorem x9(H:a=b)(J:(c+d)<(b+d)):c<a:=by lia
theorem qz(H:a<=b)(J:¬(a=b)):(a+1)<=b:=by lia
theorem qy(H:a<b):(b-(a+1))<(b-a):=by lia
theorem qx(H:a<=b)(J:¬(a=b)):(b-(a+1))<(b-a):=by lia
theorem De:((2*(a%2))+(b%2))<4:=by lia
theorem qw(H:(a+b)<(c+b)):a<c:=by lia
theorem nX(H:¬(a<b)):((a-b)+b)=a:=by lia
theorem tN(H:a<=4096):a<1000000:=by lia
theorem Dd(H:z<y):y≠z:=by lia
theorem Dc(H:z<y):z<=y:=by lia
theorem qv(H:a<b):(a+c)<(b+c):=by lia
theorem qu:((a+b)+c)=(a+(c+b)):=by lia
theorem qq(H:¬(z<=y)):y<z:=by lia
theorem x8:¬(((a:Nat):Int)<0):=by lia
theorem qp(H:a<b)(J:c<(a+d)):c<(b+d):=by lia
theorem nW(H:a<((b-c)+c))(J:¬(b<c)):a<b:=by lia
theorem tM(H:a<(b+c))(J:¬(a<c)):(a-c)<b:=by lia
theorem C_:0<=a:=by lia
theorem x6(H:a<b):a<=b:=by lia
theorem x5(H:a<=900):a<=1000:=by lia
theorem qo:((a%2)=0)\/((a%2)=1):=by lia
theorem x4(H:a<b):((b-1)+1)=b:=by lia
theorem C9(H:a<(b+1))(J:¬(a=b)):a<b:=by lia
theorem qj(H:a<(b+2))(J:c=b)(K:(((a:Nat):Int)-2)=((d:Nat):Int)):d<c:=by lia
theorem C8:a<=(b+a):=by lia
theorem tL(H:a=(b+0)):a=b:=by lia
theorem xZ(H:a=b)(J:b<=c):a<=c:=by lia
theorem xY(H:a<=b):(a+c)<=(b+c):=by lia
theorem xX(H:¬(a<b)):a=((a-b)+b):=by lia
theorem xW(H:a<b)(J:c<=(a+1)):c<=b:=by lia
theorem xV(H:a<(b+1))(J:¬(a<b)):a=b:=by lia
theorem xU(H:a<b)(J:c<=a)(K:d<=c):d<b:=by lia
theorem Ra(H:0<=z):(((Int.toNat z):Nat):Int)=z:=by lia
theorem Q_(H:a<=b):(((a:Nat):Int)-((b:Nat):Int))<=0:=by lia
theorem Fo(H:a<(b+1))(J:b<=12):((a:Nat):Int)<=1000000:=by lia
theorem Jp:(1-a)<2:=by lia
theorem Q9:((a+b)-b)=a:=by lia
theorem Jo(H:a<b):a<(c+b):=by lia
theorem Jn(H:a<b):(min a b)=a:=by lia
theorem Jm(H:a=b)(J:¬(c<a)):b<=c:=by lia
theorem Jl:((((a*2):Nat):Int)/2)=((a:Nat):Int):=by lia
theorem Jk(H:a=(b+c))(J:d<=c)(K:a<=(e+b)):d<=e:=by lia
theorem Q8(H:((a+(3*(b+c)))+d)<e):(((a+c)+(3*b))+d)<e:=by lia
theorem Q7:¬((a-a)>b):=by lia
theorem Q6:(min 9 a)<1000000:=by lia
theorem Q5(H:(a+b)<b):False:=by lia
theorem Q4(H:(a+b)=(c+b)):a=c:=by lia
theorem Q3(H:a<2):((a:Nat):Int)<2:=by lia
theorem QZ(H:a<b):((b:Nat):Int)≠0:=by lia
theorem QY(H:a<b):0<(min 9 (b-a)):=by lia
theorem QX(H:a<(min b c)):(1+a)<=b:=by lia
theorem QW(H:a<b)(J:(c+b)=a):d=a:=by lia
theorem QV(H:(a+b)<=100000):a<=1191000:=by lia
theorem QU(H:a<b)(J:b<=900):(a+2)<=1000:=by lia
theorem QT(H:(a/2)=b):a=((2*b)+(a%2)):=by lia
theorem QS(H:a<(min b (c-d))):(d+(1+a))<=c:=by lia
theorem QR(H:a<b)(J:z=((b:Nat):Int)):0<z:=by lia
theorem QP(H:a<=60)(J:(b+64)<c):(b+(min a d))<c:=by lia
theorem QO(H:a<(b+1)):0<=(((b:Nat):Int)-((a:Nat):Int)):=by lia
theorem QN(H:a<=12):(((a:Nat):Int)-((b:Nat):Int))<=1000000:=by lia
end
theorem zH{p A B:Prop}[Decidable p](h:p)(a:A):if decide p=true then A else B:=by rw[Zn (Zv h)];exact a
theorem QM{p A B:Prop}[Decidable p](h:¬p)(b:B):if decide p=true then A else B:=by rw[Zj (λz=>h (ZE z))];exact b
namespace L2
open PySem PySem.Spec PyProof.Rows
abbrev Key:=Sum Int ar
def xJ:Key->aa->Bool
 |.inl k,v=>Value.isInt k v
 |.inr x,v=>Value.isStrOf x v
def Ma(w:aj):Key->Int
 |.inl k=>hashInt k
 |.inr x=>hashStr w x
theorem rP:∀{k:Key}{v:aa},xJ k v=true->(∃i t,k=Sum.inl i/\v=Value.int i t)\/(∃x t,k=Sum.inr x/\v=Value.str x t)
 |.inl i,v,h=>by
  obtain⟨t,e⟩:=Value.isInt_shape (k:=i) (v:=v) h;exact .inl ⟨i,t,rfl,e⟩
 |.inr x,v,h=>by
  obtain⟨t,e⟩:=Value.isStrOf_shape (x:=x) (v:=v) h;exact .inr ⟨x,t,rfl,e⟩
theorem q02(i:Int)(t:Tok):xJ (.inl i) (.int i t)=true:=by simp[xJ,Value.isInt]
theorem q03(x:ar)(t:Tok):xJ (.inr x) (.str x t)=true:=by simp[xJ,Value.isStrOf]
theorem xC7(a b:Int):decide ((Sum.inl a:Key)=Sum.inl b)=(a==b):=by
 by_cases e:a=b
 ·subst e;simp
 ·have h:¬(Sum.inl a:Key)=Sum.inl b:=λq=>e (VP q);rw[ZM h];exact(YC.mpr e).symm
theorem xC8(a b:ar):decide ((Sum.inr a:Key)=Sum.inr b)=decide (a=b):=by
 by_cases e:a=b
 ·subst e;simp
 ·have h:¬(Sum.inr a:Key)=Sum.inr b:=λq=>e (Sum.inr.inj q);rw[ZM h,ZM e]
theorem xC9(a:Int)(b:ar):decide ((Sum.inl a:Key)=Sum.inr b)=false:=ZM (λq=>nomatch q)
theorem xD0(a:ar)(b:Int):decide ((Sum.inr a:Key)=Sum.inl b)=false:=ZM (λq=>nomatch q)
def gy(prog:ag)(w:aj):PySem.KeyKind prog w Key where
 is:=xJ
 hash:=Ma w
 inj:=λv a b f hb=>by
  rcases rP f with⟨i,t,rfl,rfl⟩|⟨x,t,rfl,rfl⟩
  ·rcases rP hb with⟨j,u,rfl,e⟩|⟨y,u,rfl,e⟩
   ·injection e with e1 _;rw[e1]
   ·exact nomatch e
  ·rcases rP hb with⟨j,u,rfl,e⟩|⟨y,u,rfl,e⟩
   ·exact nomatch e
   ·injection e with e1 _;rw[e1]
 byValue:=λk v h=>by
  rcases rP h with⟨i,t,rfl,rfl⟩|⟨x,t,rfl,rfl⟩<;>rfl
 pyHash:=λc h=>by
  rcases rP c with⟨i,t,rfl,rfl⟩|⟨x,t,rfl,rfl⟩
  ·exact wpAny_pyHash_int h
  ·exact wpAny_pyHash_str h
 eqBool:=λd c h=>by
  rcases rP d with⟨i,t,rfl,rfl⟩|⟨x,t,rfl,rfl⟩
  ·rcases rP c with⟨j,u,rfl,rfl⟩|⟨y,u,rfl,rfl⟩
   ·rw[xC7]at h;exact wpAny_eqBool_int h
   ·rw[xC9]at h;exact SeqAt.EqAt.int_str i t y u _ _ _ _ h
  ·rcases rP c with⟨j,u,rfl,rfl⟩|⟨y,u,rfl,rfl⟩
   ·rw[xD0]at h;exact SeqAt.EqAt.str_int x t j u _ _ _ _ h
   ·rw[xC8]at h;exact wpAny_eqBool_str h
 «strs»:=λk x t v h=>by
  rcases rP h with⟨i,u,rfl,e⟩|⟨y,u,rfl,e⟩
  ·exact nomatch e
  ·injection e with e1 _
   subst e1;cases v<;>rfl
theorem qL6(prog:ag)(w:aj)(i:Int)(t:Tok):(gy prog w).is (.inl i) (.int i t)=true:=q02 i t
theorem qL7(prog:ag)(w:aj)(x:ar)(t:Tok):(gy prog w).is (.inr x) (.str x t)=true:=q03 x t
inductive V where
 |ck|bl (b:Bool)|int (i:Int)|str (x:ar)|nB (b:Array UInt8)|yy (b:UInt64)|ref (a:af)|ty (n:String)
 deriving DecidableEq
def RelV:V->aa->Prop
 |.ck,u=>u=Value.none
 |.bl b,u=>u=Value.bool b
 |.int i,u=>∃t,u=Value.int i t
 |.str x,u=>∃t,u=Value.str x t
 |.nB b,u=>∃t,u=Value.bytes b t
 |.yy b,u=>∃t,u=Value.float b t
 |.ref a,u=>u=Value.ref a
 |.ty n,u=>u=Value.type n
abbrev Vals:List V->List aa->Prop:=Paired RelV
theorem Vals.length{xs:List V}{us:List aa}(r:Vals xs us):xs.length=us.length:=X8 r
theorem Vals.get:∀{b:List V}{a:List aa}{i:Nat}{x:V},Vals b a->b[i]?=some x->∃u,a[i]?=some u/\RelV x u
 |_,_,_,_,.nil,e=>by simp at e
 |_,_,0,_,.cons r _,e=>by simp at e;subst e;exact⟨_,rfl,r⟩
 |_,_,i+1,x,.cons _ t,e=>by
  obtain⟨u,h1,h2⟩:=Vals.get (i:=i) (x:=x) t (by simpa using e);exact⟨u,by simpa using h1,h2⟩
theorem Vals.set{x:V}{u:aa}(r:RelV x u):∀{a:List V}{b:List aa}(i:Nat),Vals a b->Vals (a.set i x) (b.set i u)
 |_,_,_,.nil=>.nil
 |_,_,0,.cons _ t=>.cons r t
 |_,_,i+1,.cons q t=>.cons q (Vals.set r i t)
theorem Vals.append:∀{d c:List V}{a b:List aa},Vals d a->Vals c b->Vals (d++c) (a++b)
 |_,_,_,_,.nil,s=>s
 |_,_,_,_,.cons r t,s=>.cons r (Vals.append t s)
theorem Vals.take:∀{a:List V}{b:List aa}(n:Nat),Vals a b->Vals (a.take n) (b.take n)
 |_,_,0,_=>.nil
 |_,_,_+1,.nil=>.nil
 |_,_,n+1,.cons r t=>.cons r (Vals.take n t)
theorem Vals.drop:∀{a:List V}{b:List aa}(n:Nat),Vals a b->Vals (a.drop n) (b.drop n)
 |_,_,0,r=>r
 |_,_,_+1,.nil=>.nil
 |_,_,n+1,.cons _ t=>Vals.drop n t
def eB:Option V->Option aa->Prop
 |some v,some u=>RelV v u
 |none,none=>True
 |_,_=>False
def KV{a:Type}:List (a×V)->List (a×aa)->Prop:=Paired λ(p:a×V) (q:a×aa)=>p.1=q.1/\RelV p.2 q.2
def kV:Key->V
 |.inl i=>.int i
 |.inr x=>.str x
inductive HO where
 |lst (xs:List V)
 |tup (xs:List V)
 |dK (kvs:List (Key×V))|dT (kvs:List (List Key×V))
 |set (S:Int->Bool) (n:Nat)
 |ins (C dx:af) (fs:List (ar×V))
 |own (x:af)
 |xd (fs:List (ar×V))
 |met (f x:af)
 |uz (lo hi:Int)
 |mF (o:ay) (u:HO)
 |uu (ps:Array aa)
 |ext (φ:ao->Prop)
abbrev Hp:=af->Option HO
def upd(H:Hp)(a:af)(o:HO):Hp:=λb=>if b=a then some o else H b
theorem aZ{H:Hp}{a:af}{o:HO}:upd H a o a=some o:=by unfold upd;rw[Zn rfl]
theorem bj{H:Hp}{a b:af}{o:HO}(h:b≠a):upd H a o b=H b:=by unfold upd;rw[Zj h]
theorem xr9{H:Hp}{a:af}{o u:HO}:upd (upd H a o) a u=upd H a u:=by
 funext b;unfold upd;split<;>rfl
theorem i5{H:Hp}{a b:af}{o u:HO}(h:H a=some o)(h':H b=some u)(d:o≠u):a≠b:=by
 intro e;subst e;rw[h]at h';exact d (ZK h')
theorem cK{H:Hp}{a b:af}{o:HO}(h:H a=some o)(h':H b=none):a≠b:=by
 intro e;subst e;rw[h]at h';cases h'
def cV(h:ao)(a:af)(items:Array aa):Prop:=∃o,h.get? a=some o/\o.cls=.type "tuple" /\ ∃n:{n:Nat // o.dict=none},o.data=.seq items n.1
theorem cV.is{h:ao}{a:af}{items:Array aa}(x:cV h a items):IsTup h a items:=let ⟨o,h1,h2,n,h3⟩:=x;⟨o,h1,h2,n.1,h3⟩
theorem cV.new(h:ao)(items:Array aa):cV (h.push {cls:=.type "tuple",data:=.seq items}) h.objs.size items:=⟨_,Zi _ rfl,rfl,⟨_,rfl⟩,rfl⟩
instance{h:ao}{a:af}{items:Array aa}:Coe (cV h a items) (IsTup h a items):=⟨cV.is⟩
instance{h:ao}{a:af}{items:Array aa}:Coe (cV h a items) (h.IsTuple a items):=⟨cV.is⟩
section
variable(P:ag)(w:aj)
def a_(H:Hp)(h:ao)(a:af):HO->Prop
 |.lst c=>c.length<=sizeLine/\∃(e:List aa)(n:Nat),Vals c e/\h.get? a=some {cls:=.type "list",data:=.seq e.toArray n}
 |.tup c=>c.length<=sizeLine/\∃e:List aa,Vals c e/\cV h a e.toArray
 |.dK b=>b.length<=sizeLine/\(a==sysModules)=false/\∃k,KV b k/\h.DictOf (gy P w) a k
 |.dT b=>b.length<=sizeLine/\(a==sysModules)=false/\∃c:List (List Key×af×aa),
   Paired (λ(p:List Key×V) (q:List Key×af×aa)=>p.1=q.1/\H q.2.1=some (.tup (p.1.map kV))/\RelV p.2 q.2.2) b c /\
   ∃o j l,h.get? a=some o/\o.ExactDict/\o.data=.dict j l/\j.toList=c.map (entryOfKey (tupleKind (gy P w)))/\(c.map (·.1)).Nodup
 |.set S n=>h.SetOf (intKind P w) a S n
 |.ins C g fs=>H g=some (.own a)/\fs.length<=1000/\g≠a/\h.get? a=some (PySem.W.instObj C g) /\
   ∃d,h.Ns1 g d/\(∀f,eB (fs.lookup f) (d f))/\PySem.Within d (fs.map (·.1))
 |.own _=>∃o,h.get? a=some o
 |.xd fs=>∃d,h.Ns1 a d/\∀f,eB (fs.lookup f) (d f)
 |.uz r m=>∃t u v,h.get? a=some {cls:=.type "range",data:=.fields #[.int r t,.int m u,.int 1 v]}
 |.mF o u=>h.get? a=some o/\a_ H h a u
 |.uu s=>h.get? a=some {cls:=.none,data:=.fields s}
 |.met f x=>h.get? a=some (PySem.W.methodObj (.ref f) (.ref x))
 |.ext i=>i h/\(∃o,h.get? a=some o)/\∀h1 h2:ao,i h1->(∀o,h1.get? a=some o->h2.get? a=some o)->i h2
def dQ(H:Hp)(h:ao):Prop:=∀a o,H a=some o->a_ P w H h a o
end
section
variable{H H':Hp}{h h':ao}{a:af}{o:HO}
theorem a_.lt(x:a_ P w H h a o):a<h.objs.size:=by
 cases o with
 |lst c=>obtain⟨_,_,_,_,e⟩:=x;exact Zo e
 |tup c=>obtain⟨_,_,_,p⟩:=x;exact(cV.is p).lt
 |dK b=>obtain⟨_,_,_,_,o,_,_,e,_⟩:=x;exact Zo e
 |dT b=>obtain⟨_,_,_,_,o,_,_,e,_⟩:=x;exact Zo e
 |set S n=>obtain⟨o,_,_,_,e,_⟩:=x;exact Zo e
 |ins C d fs=>obtain⟨_,_,_,e,_⟩:=x;exact Zo e
 |own y=>obtain⟨_,e⟩:=x;exact Zo e
 |xd fs=>obtain⟨_,⟨_,_,_,e,_⟩,_⟩:=x;exact Zo e
 |uz j k=>obtain⟨_,_,_,e⟩:=x;exact Zo e
 |mF ob u=>obtain⟨e,_⟩:=x;exact Zo e
 |uu g=>exact Zo (show h.get? a=some _ from x)
 |met f y=>exact Zo (show h.get? a=some _ from x)
 |ext i=>obtain⟨_,⟨_,e⟩,_⟩:=x;exact Zo e
theorem Paired.qh{g e:Type}{F G:g->e->Prop}:∀{d:List g}{c:List e},Paired F d c->(∀a b,F a b->G a b)->Paired G d c
 |_,_,.nil,_=>.nil
 |_,_,.cons r t,f=>.cons (f _ _ r) (Paired.qh t f)
theorem a_.dv(x:a_ P w H h a o)(k:∀b u,(b=a\/H b=some (.own a))->h.get? b=some u->h'.get? b=some u)
  (J:∀b,H b=some (.own a)->H' b=some (.own a)) (E:∀b j,H b=some (.tup j)->H' b=some (.tup j)):a_ P w H' h' a o:=by
 induction o with
 |lst j=>obtain⟨z,m,n,r,e⟩:=x;exact⟨z,m,n,r,k _ _ (.inl rfl) e⟩
 |tup j=>obtain⟨z,m,r,ob,e,c⟩:=x;exact⟨z,m,r,ob,k _ _ (.inl rfl) e,c⟩
 |dK l=>obtain⟨z,y,I,r,ob,i,g,e,c⟩:=x;exact⟨z,y,I,r,ob,i,g,k _ _ (.inl rfl) e,c⟩
 |dT l=>
  obtain⟨z,y,j,r,ob,i,g,e,c⟩:=x;exact⟨z,y,j,Paired.qh r λp q z=>⟨z.1,E _ _ z.2.1,z.2.2⟩,ob,i,g,k _ _ (.inl rfl) e,c⟩
 |set S n=>obtain⟨ob,i,g,t,e,c⟩:=x;exact⟨ob,i,g,t,k _ _ (.inl rfl) e,c⟩
 |ins C N fs=>
  obtain⟨d,z,F,e,A,⟨s,i,g,G,c⟩,r⟩:=x;exact⟨J _ d,z,F,k _ _ (.inl rfl) e,A,⟨s,i,g,k _ _ (.inr d) G,c⟩,r⟩
 |own y=>obtain⟨ob,e⟩:=x;exact⟨ob,k _ _ (.inl rfl) e⟩
 |xd fs=>obtain⟨A,⟨s,i,g,e,c⟩,r⟩:=x;exact⟨A,⟨s,i,g,k _ _ (.inl rfl) e,c⟩,r⟩
 |uz M L=>obtain⟨t,u,v,e⟩:=x;exact⟨t,u,v,k _ _ (.inl rfl) e⟩
 |mF ob u K=>obtain⟨e,q⟩:=x;exact⟨k _ _ (.inl rfl) e,K q⟩
 |uu B=>
  have e:h.get? a=some {cls:=.none,data:=.fields B}:=x;show h'.get? a=some {cls:=.none,data:=.fields B};exact k a _ (.inl rfl) e
 |met f y=>
  have e:h.get? a=some (PySem.W.methodObj (.ref f) (.ref y)):=x;show h'.get? a=some (PySem.W.methodObj (.ref f) (.ref y));exact k a _ (.inl rfl) e
 |ext O=>obtain⟨p,⟨o,e⟩,D⟩:=x;exact⟨D _ _ p λo q=>k _ _ (.inl rfl) q,⟨o,k _ _ (.inl rfl) e⟩,D⟩
theorem dQ.lt(x:dQ P w H h)(e:H a=some o):a<h.objs.size:=(x a o e).lt
theorem dQ.fresh(x:dQ P w H h)(e:h.objs.size<=a):H a=none:=by
 cases q:H a with
 |none=>rfl
 |some u=>exact absurd (ZQ (x.lt q) e) (Yn _)
theorem dQ.kept(x:dQ P w H h)(k:∀b u,h.get? b=some u->h'.get? b=some u):dQ P w H h':=λa o e=>
 (x a o e).dv (λb u _ q=>k b u q) (λ_ q=>q) λ_ _ q=>q
theorem dQ.laid(x:dQ P w H h)(k:∀b u,h.get? b=some u->h'.get? b=some u)(f:h.objs.size<=a)(new:a_ P w (upd H a o) h' a o):dQ P w (upd H a o) h':=λb u e=>by
 have d:=x.fresh f;by_cases hb:b=a
 ·subst hb;rw[aZ]at e;cases e;exact new
 ·rw[bj hb]at e;exact(x b u e).dv (λc v _ q=>k c v q) (λc q=>by rw[bj (cK q d)];exact q) λc g q=>by rw[bj (cK q d)];exact q
end
def Rd(H:Hp)(a:af)(u:HO):Prop:=H a=some u\/∃o,H a=some (.mF o u)
theorem Rd.ok{P:ag}{w:aj}{H:Hp}{h:ao}{a:af}{u:HO}(r:Rd H a u)(x:dQ P w H h):a_ P w H h a u:=by
 rcases r with r|⟨o,r⟩
 ·exact x a u r
 ·obtain⟨_,q⟩:=x a _ r;exact q
def EW:Option HO->Prop
 |some (.lst _)=>True
 |some (.dK _)=>True
 |some (.dT _)=>True
 |some (.set _ _)=>True
 |some (.ins _ _ _)=>True
 |some (.ext _)=>True
 |_=>False
section
variable{H:Hp}{h h':ao}{x e:af}{o':HO}
theorem dQ.write(ok:dQ P w H h)(d:EW (H x))(j:e=x\/H e=some (.own x))(k:∀b u,b≠e->h.get? b=some u->h'.get? b=some u)(p:∃u,h'.get? e=some u)
  (new:a_ P w (upd H x o') h' x o'):dQ P w (upd H x o') h':=λb u q=>by
 have i:∀c y,H c=some (.own y)->c≠x:=λc y r z=>by subst z;rw[r]at d;exact d
 have n:∀c g,H c=some (.tup g)->c≠x:=λc g r z=>by subst z;rw[r]at d;exact d
 by_cases hb:b=x
 ·subst hb;rw[aZ]at q;cases q;exact new
 ·rw[bj hb]at q;by_cases a:b=e
  ·have l:H b=some (.own x):=by
    rcases j with z|z
    ·exact absurd (a.trans z) hb
    ·rw[a];exact z
   rw[q]at l;cases l;obtain⟨v,m⟩:=p;exact⟨v,by rw[a];exact m⟩
  ·refine(ok b u q).dv (λc v f r=>k c v ?_ r) (λc r=>by rw[bj (i c b r)];exact r) λc g r=>by rw[bj (n c g r)];exact r
   rcases f with rfl|f
   ·exact a
   ·rintro rfl;rcases j with z|z
    ·exact i c b f z
    ·rw[f]at z;cases z;exact hb rfl
end
structure Un(fs ex:List af)(H H':Hp)(h h':ao):Prop where
 keep:∀b o,h.get? b=some o->H b=none->b∉fs->b∉ex->h'.get? b=some o
 slot:∀b o,h.get? b=some o->H b=none->b∈fs->b∉ex->∃sl,h'.get? b=some {o with slots:=sl}
 free:∀b o,h.get? b=some o->H b=none->b∉ex->H' b=none
 there:∀b o,h.get? b=some o->b∉ex->∃o',h'.get? b=some o'
 cg:∀b xs,H b=some (.tup xs)->H' b=some (.tup xs)
 gF:∀b o u,H b=some (.mF o u)->H' b=some (.mF o u)
 gL:∀b ps,H b=some (.uu ps)->∃more,H' b=some (.uu (ps++more))
section
variable{fs Ip ex ex':List af}{H H1 H2:Hp}{h h1 h2 h':ao}{a x e:af}{o:HO}
theorem Un.any(u:Un fs ex H H1 h h1){b:af}{ob:ay}(q:h.get? b=some ob)(n:H b=none)(c:b∉ex):∃d,h1.get? b=some {ob with slots:=d}:=by
 by_cases hb:b∈fs
 ·exact u.slot b ob q n hb c
 ·exact⟨ob.slots,u.keep b ob q n hb c⟩
theorem Un.kept(k:∀b u,h.get? b=some u->h'.get? b=some u):Un fs ex H H h h':=
 ⟨λb ob q _ _ _=>k b ob q,λb ob q _ _ _=>⟨ob.slots,k b ob q⟩,λ_ _ _ n _=>n,λb ob q _=>⟨ob,k b ob q⟩,λ_ _ q=>q,λ_ _ _ q=>q,λ_ c q=>⟨#[],by rw[q];simp⟩⟩
theorem Un.refl:Un fs ex H H h h:=Un.kept λ_ _ q=>q
theorem Un.laid(k:∀b u,h.get? b=some u->h'.get? b=some u)(d:h.objs.size<=a)(c:H a=none):Un fs ex H (upd H a o) h h' where
 keep:=λb u q _ _ _=>k b u q
 slot:=λb u q _ _ _=>⟨u.slots,k b u q⟩
 free:=λb u q n _=>by rw[bj (Zu (ZQ (Zo q) d))];exact n
 there:=λb u q _=>⟨u,k b u q⟩
 cg:=λb f q=>by rw[bj (cK q c)];exact q
 gF:=λb u f q=>by rw[bj (cK q c)];exact q
 gL:=λb g q=>⟨#[],by rw[bj (cK q c),q];simp⟩
theorem Un.write(c:EW (H x))(i:e=x\/H e=some (.own x))(k:∀b u,b≠e->h.get? b=some u->h'.get? b=some u)(j:∃u,h'.get? e=some u):Un fs ex H (upd H x o) h h':=by
 have g:∀b,H b=none->b≠x:=λb n z=>by subst z;rw[n]at c;exact c
 have hb:∀b,H b=none->b≠e:=λb n z=>by
  subst z;rcases i with r|r
  ·exact g b n r
  ·rw[n]at r;cases r
 have d:∀b u,H b=some u->¬EW (some u)->b≠x:=λb u q nm z=>by subst z;rw[q]at c;exact nm c
 refine⟨λb u q n _ _=>k b u (hb b n) q,λb u q n _ _=>⟨u.slots,k b u (hb b n) q⟩,λb u q n _=>by rw[bj (g b n)];exact n,λb u q _=>?_,
  λb l q=>by rw[bj (d b _ q λz=>z)];exact q,λb u l q=>by rw[bj (d b _ q λz=>z)];exact q,λb m q=>⟨#[],by rw[bj (d b _ q λz=>z),q];simp⟩⟩
 by_cases f:b=e
 ·subst f;exact j
 ·exact⟨u,k b u f q⟩
end
def Fp(h:ao)(H:Hp):List af:=(List.range h.objs.size).filter λa=>(H a).isSome
def jn(h:ao)(H:Hp):ao:=PySem.W.hideAll h (Fp h H)
theorem q04(h:ao)(H:Hp):(jn h H).objs.size=h.objs.size:=PySem.W.hideAll_size _ _
theorem xe6{h:ao}{H:Hp}{b:af}{o:ay}(e:h.get? b=some o)(n:H b=none):(jn h H).get? b=some o:=
 Vo _ e λa=>by
  have q:(H b).isSome=true:=(Z2.mp a).2;rw[n]at q;simp at q
theorem xs1{h:ao}{H:Hp}{b:af}{o:ay}(e:(jn h H).get? b=some o):h.get? b=some o/\H b=none:=by
 have a:h.get? b=some o:=WI (Fp h H) e;refine⟨a,?_⟩;cases q:H b with
 |none=>rfl
 |some x=>
  have c:b∈Fp h H:=Z2.mpr ⟨ZR.mpr (Zo a),by simp[q]⟩;have z:(jn h H).get? b=none:=PySem.W.hideAll_none (Fp h H) c;rw[z]at e;cases e
structure Mod(K:PySem.W.Frag)(mg:ar->Option aa)(base:ao):Prop where
 rV:K.In base
 glob:base.Ns mainGlobals mg
 blt:∃mb,base.Ns builtinsNs mb/\∀x:ar,x ≠ "__name__"->mb x=bootBuiltins x
 nolimit:base.NoLimit
structure Cx where
 prog:ag
 w:aj
 K:PySem.W.Frag
 mg:ar->Option aa
 base:ao
 A:aq
 N:List ar
 aC:ae
 aD:Hp
 env:Env
 outer:List Env
 stack:List Env
 ex:List af
 fn:ar->Bool
 calm:Bool
 pn:List (af×ay)
 xe:aa->ae->Prop
def dC(l:List Env):List af:=l.filterMap (·.frame)
abbrev Cx.fs(X:Cx):List af:=dC X.outer
def rg(a:ax)(x:ar):Prop:=a.names.lookup x=some .local\/a.names.lookup x=some .cell\/a.names.lookup x=some .free
def Loc(a:ax)(x:ar):Prop:=a.names.lookup x=some .local\/a.names.lookup x=some .cell
def Look(env:Env)(h:ao)(m:ar->Option aa)(x:ar)(u:aa):Prop:=
 (env.kindOf x=some .local/\m x=some u)\/((env.kindOf x=some .cell\/env.kindOf x=some .free)/\∃c,env.cells.lookup x=some c/\h.IsCell c (some u))
structure Cx.Ok(X:Cx):Prop where
 mod:Mod X.K X.mg X.base
 kind:X.env.scope.kind=.function
 glob:X.env.globals=mainGlobals
 blt:X.env.builtins=builtinsNs
 above:X.aC.heap.objs.size<=X.env.locals
 inj:∀x y c,X.env.cells.lookup x=some c->X.env.cells.lookup y=some c->x=y
 has:∀x,(X.env.kindOf x=some .cell\/X.env.kindOf x=some .free)->∃c,X.env.cells.lookup x=some c
 uh:∀x c,X.fn x=true->X.env.cells.lookup x=some c->X.aC.heap.objs.size<=c
 hd:X.calm=true->X.A.handled=none
 frames:X.A.frames=some X.stack
 su:X.stack=X.outer\/(X.stack=X.env::X.outer/\X.env.frame=some X.env.locals)
 Au:∀b∈X.ex,b≠X.env.locals/\∀x c,X.env.cells.lookup x=some c->c≠b
 bs:∀b o,X.base.get? b=some o->X.aC.heap.get? b=some o/\X.aD b=none
 oh:X.base.objs.size<=X.aC.heap.objs.size
 ji:∀b o,X.base.get? b=some o->b∉X.ex
 lJ:∀b∈X.ex,b∉X.fs
 dW:X.aC.heap.FunFrames X.base X.outer
 qX:∀b∈X.fs,X.aD b=none
structure Inv(X:Cx)(j8:List (af×ay))(σ:List (Option V))(H:Hp)(s:ae):Prop where
 ok:X.Ok
 os:s.os=X.aC.os
 bare:AllBare s.gens
 base:Un X.fs X.ex X.aD H X.aC.heap s.heap
 loc:∃m,s.heap.Ns X.env.locals m/\∀(i:Nat)(x:ar)(v:V),X.N[i]?=some x->σ[i]?=some (some v)->rg X.env.scope x->∃u,RelV v u/\Look X.env s.heap m x u
 cell:∀x c,X.env.cells.lookup x=some c->∃v,s.heap.IsCell c v
 free:H X.env.locals=none
 cX:∀x c,X.env.cells.lookup x=some c->H c=none
 pin:∀p∈X.pn++j8,s.heap.get? p.1=some p.2/\H p.1=none/\p.1≠X.env.locals/\p.1∉X.fs/\∀v,p.2.data≠.cell v
 aS:dQ X.prog X.w H s.heap
 len:σ.length=X.N.length
section
variable{X:Cx}{j8:List (af×ay)}{σ:List (Option V)}{H H':Hp}{s:ae}{h':ao}
theorem Cx.Ok.LG(ok:X.Ok){b:af}{o:ay}(e:X.base.get? b=some o):b∉X.fs:=λhb=>by
 have:=(ok.dW.mem hb).1;rw[e]at this;cases this
theorem Inv.bs(I:Inv X j8 σ H s):∀b o,X.base.get? b=some o->s.heap.get? b=some o/\H b=none:=λb o e=>
 ⟨I.base.keep b o (I.ok.bs b o e).1 (I.ok.bs b o e).2 (I.ok.LG e) (I.ok.ji b o e),I.base.free b o (I.ok.bs b o e).1 (I.ok.bs b o e).2 (I.ok.ji b o e)⟩
theorem Inv.bk(I:Inv X j8 σ H s):∀b o,X.base.get? b=some o->s.heap.get? b=some o:=λb o e=>(I.bs b o e).1
theorem Inv.mod(I:Inv X j8 σ H s):Mod X.K X.mg X.base:=I.ok.mod
theorem Inv.g_(I:Inv X j8 σ H s):X.K.In s.heap:=I.ok.mod.rV.keeps I.bk
theorem Inv.fr(I:Inv X j8 σ H s):∃m,Fr X.base X.env.locals s.heap m:=
 let ⟨m,hn,_⟩:=I.loc
 ⟨m,hn,I.bk,ZD I.ok.oh I.ok.above⟩
theorem Inv.lt(I:Inv X j8 σ H s):X.env.locals<s.heap.objs.size:=let ⟨_,hn,_⟩:=I.loc;hn.lt
theorem Inv.sz(I:Inv X j8 σ H s):X.aC.heap.objs.size<=s.heap.objs.size:=ZD I.ok.above (WT I.lt)
theorem Inv.LF(I:Inv X j8 σ H s){a:af}(h:s.heap.objs.size<=a):a∉X.fs:=λhb=>by
 obtain⟨_,o,b,_⟩:=I.ok.dW.mem hb;exact absurd (ZQ (Zo b) (ZD I.sz h)) (Yn _)
theorem Inv.yX(I:Inv X j8 σ H s):∀x c,X.env.cells.lookup x=some c->c≠X.env.locals:=λx c e z=>by
 obtain⟨v,o,a,b⟩:=I.cell x c e;obtain⟨m,⟨g,i,h,f,d,_⟩,_⟩:=I.loc;rw[z,f]at a;cases a;rw[d]at b;cases b
theorem Inv.dW(I:Inv X j8 σ H s):s.heap.FunFrames X.base X.outer:=by
 have all:∀(l:List Env),(∀b∈dC l,b∈X.fs)->X.aC.heap.FunFrames X.base l->s.heap.FunFrames X.base l:=by
  intro l
  induction l with
  |nil=>intro _ _;trivial
  |cons k r g=>
   intro d i;obtain⟨hk,⟨L,o,a,j,f,m⟩,h⟩:=i;have c:L∈X.fs:=d L (by unfold dC;rw[YD,a];exact ZC);obtain⟨n,e⟩:=I.base.slot L o f (I.ok.qX L c) c λz=>I.ok.lJ L z c;exact⟨hk,⟨L,_,a,j,e,m⟩,g (λb hb=>d b (by unfold dC;rw[YD,a];exact Zq _ hb)) h⟩
 exact all X.outer (λ_ hb=>hb) I.ok.dW
theorem Inv.stack(I:Inv X j8 σ H s):s.heap.FunFrames X.base X.stack:=by
 rcases I.ok.su with e|⟨e,a⟩
 ·rw[e];exact I.dW
 ·rw[e];obtain⟨m,b,_⟩:=I.loc;refine .cons (by rw[I.ok.kind];decide) a b ?_ I.dW;exact Heap.get?_none_of_le (ZD I.ok.oh I.ok.above)
theorem Inv.eV(I:Inv X j8 σ H s):∀b∈dC X.stack,b∈X.env.locals::X.fs:=λb hb=>by
 rcases I.ok.su with e|⟨e,a⟩
 ·rw[e]at hb;exact Zq _ hb
 ·rw[e]at hb;unfold dC at hb;rw[YD,a]at hb;exact hb
theorem Inv.jb(I:Inv X j8 σ H s):∀b∈dC X.stack,H b=none:=λb hb=>by
 rcases Zz.mp (I.eV b hb)with e|hb
 ·rw[e];exact I.free
 ·obtain⟨_,o,a,_⟩:=I.ok.dW.mem hb;exact I.base.free b o a (I.ok.qX b hb) λz=>I.ok.lJ b z hb
theorem Inv.step{g':Array GenState}{t':Nat}{d':Drawn}{ch:List af}(I:Inv X j8 σ H s)
  (w:∀b∈ch,(b∈X.ex\/X.aC.heap.objs.size<=b)/\b≠X.env.locals/\(∀x c,X.env.cells.lookup x=some c->c≠b)/\∀p∈X.pn++j8,p.1≠b)
  (keep:∀b o,b≠X.env.locals->b∉X.fs->b∉ch->s.heap.get? b=some o->H b=none->h'.get? b=some o)
  (slot:∀b o,b≠X.env.locals->b∈X.fs->b∉ch->s.heap.get? b=some o->H b=none->∃E,h'.get? b=some {o with slots:=E}) (free:∀b o,b∉ch->s.heap.get? b=some o->H b=none->H' b=none)
  (there:∀b o,b∉ch->s.heap.get? b=some o->∃t,h'.get? b=some t)
  (cg:∀b h,H b=some (.tup h)->H' b=some (.tup h)) (gF:∀b o u,H b=some (.mF o u)->H' b=some (.mF o u)) (gL:∀b C,H b=some (.uu C)->∃more,H' b=some (.uu (C++more)))
  (M:∀m,s.heap.Ns X.env.locals m->h'.Ns X.env.locals m) (Q:dQ X.prog X.w H' h') (O:AllBare g'):
  Inv X j8 σ H' {s with heap:=h',gens:=g',drawn:=d',toks:=t'}:=by
 have J:∀b o,X.aC.heap.get? b=some o->b≠X.env.locals:=λb o e=>Zu (ZQ (Zo e) I.ok.above);have B:∀b o,X.aC.heap.get? b=some o->b∉X.ex->b∉ch:=λb o e a hb=>by
  rcases(w b hb).1 with z|z
  ·exact a z
  ·exact absurd (ZQ (Zo e) z) (Yn _)
 have f:∀x c,X.env.cells.lookup x=some c->∀v,s.heap.IsCell c v->h'.IsCell c v:=λx c e v ⟨o,j,D⟩=>by
  have A:c∉ch:=λz=>(w c z).2.2.1 x c e rfl;by_cases K:c∈X.fs
  ·obtain⟨E,q⟩:=slot c o (I.yX x c e) K A j (I.cX x c e);exact⟨_,q,D⟩
  ·exact⟨o,keep c o (I.yX x c e) K A j (I.cX x c e),D⟩
 refine⟨I.ok,I.os,O,⟨λb o e n hb a=>?_,λb o e n hb a=>?_,λb o e n a=>?_,λb o e a=>?_,λb h e=>cg b h (I.base.cg b h e),λb o h e=>gF b o h (I.base.gF b o h e),λb C e=>?_⟩,?_,λx c e=>?_,?_,λx c e=>?_,λp G=>?_,Q,I.len⟩
 ·exact keep b o (J b o e) hb (B b o e a) (I.base.keep b o e n hb a) (I.base.free b o e n a)
 ·obtain⟨E,g⟩:=I.base.slot b o e n hb a;obtain⟨R,y⟩:=slot b _ (J b o e) hb (B b o e a) g (I.base.free b o e n a);exact⟨R,y⟩
 ·obtain⟨t,g⟩:=I.base.there b o e a;exact free b t (B b o e a) g (I.base.free b o e n a)
 ·obtain⟨t,g⟩:=I.base.there b o e a;exact there b t (B b o e a) g
 ·obtain⟨U,g⟩:=I.base.gL b C e;obtain⟨N,y⟩:=gL b _ g;exact⟨U++N,by rw[y,Array.append_assoc]⟩
 ·obtain⟨m,S,T⟩:=I.loc;refine⟨m,M m S,λi x v g y P=>?_⟩;obtain⟨u,r,l⟩:=T i x v g y P;refine⟨u,r,?_⟩;rcases l with l|⟨k,c,e,z⟩
  ·exact .inl l
  ·exact .inr ⟨k,c,e,f x c e _ z⟩
 ·obtain⟨v,z⟩:=I.cell x c e;exact⟨v,f x c e v z⟩
 ·obtain⟨m,⟨o,_,_,j,_⟩,_⟩:=I.loc;exact free _ o (λz=>(w _ z).2.1 rfl) j I.free
 ·obtain⟨v,o,j,D⟩:=I.cell x c e;exact free c o (λz=>(w c z).2.2.1 x c e rfl) j (I.cX x c e)
 ·obtain⟨e,n,F,L,d⟩:=I.pin p G;have A:p.1∉ch:=λz=>(w p.1 z).2.2.2 p G rfl;exact⟨keep p.1 p.2 F L A e n,free p.1 p.2 A e n,F,L,d⟩
theorem Inv.un{t':Nat}(I:Inv X j8 σ H s)(u:Un X.fs [] H H' s.heap h')(f:dQ X.prog X.w H' h'):Inv X j8 σ H' {s with heap:=h',toks:=t'}:=by
 obtain⟨m,⟨o,q,l,c,r⟩,_⟩:=id I.loc;obtain⟨t,h⟩:=u.any c I.free 'c';exact I.step (g':=s.gens) (d':=s.drawn) (ch:=[]) (λ_ z=>nomatch z) (λb o _ hb _ e n=>u.keep b o e n hb 'c') (λb o _ hb _ e n=>u.slot b o e n hb 'c') (λb o _ e n=>u.free b o e n 'c') (λb o _ e=>u.there b o e 'c') u.cg u.gF u.gL (λp g=>by
  obtain⟨k,a,i,d,j⟩:=g;rw[c]at d;cases d;exact⟨_,a,i,h,j⟩) f I.bare
theorem Inv.call{g':Array GenState}{t':Nat}{d':Drawn}{ch:List af}(I:Inv X j8 σ H s)(u:Un (dC X.stack) ch H H' s.heap h')(k:dQ X.prog X.w H' h')(j:AllBare g')
  (g:∀b∈ch,(b∈X.ex\/X.aC.heap.objs.size<=b)/\b≠X.env.locals/\(∀x c,X.env.cells.lookup x=some c->c≠b)/\∀p∈X.pn++j8,p.1≠b):
  Inv X j8 σ H' {s with heap:=h',gens:=g',drawn:=d',toks:=t'}:=by
 obtain⟨m,⟨o,A,w,h,r⟩,_⟩:=id I.loc;obtain⟨B,f⟩:=u.any h I.free λz=>(g _ z).2.1 rfl;exact I.step (ch:=ch) g (λb o f hb a e n=>u.keep b o e n (λz=>(Zz.mp (I.eV b z)).elim f hb) a) (λb o _ _ a e n=>u.any e n a) (λb o a e n=>u.free b o e n a) (λb o a e=>u.there b o e a) u.cg u.gF u.gL (λy l=>by
  obtain⟨v,d,q,i,t⟩:=l;rw[h]at i;cases i;exact⟨_,d,q,f,t⟩) k j
theorem Inv.turned{t':Nat}{it:af}(I:Inv X j8 σ H s)(k:∀b o,b≠it->s.heap.get? b=some o->h'.get? b=some o)(t:H it=none)(d:it≠X.env.locals)
  (h1:it∈X.ex\/X.aC.heap.objs.size<=it) (h2:∀x c,X.env.cells.lookup x=some c->c≠it) (h:∀p∈X.pn++j8,p.1≠it):Inv X j8 σ H {s with heap:=h',toks:=t'}:=by
 have f:∀b u,H b=some u->b≠it:=λb u e z=>by rw[z,t]at e;cases e
 refine I.step (g':=s.gens) (d':=s.drawn) (ch:=[it]) (λb hb=>?_) (λb o _ _ a e _=>k b o (λz=>a (by simp[z])) e) (λb o _ _ a e _=>⟨o.slots,k b o (λz=>a (by simp[z])) e⟩) (λ_ _ _ _ n=>n)
  (λb o a e=>⟨o,k b o (λz=>a (by simp[z])) e⟩) (λ_ _ e=>e) (λ_ _ _ e=>e) (λb w e=>⟨#[],by rw[e];simp⟩) (λm j=>?_) (λb u e=>?_) I.bare
 ·have e:b=it:=by simpa using hb
  subst e;exact⟨h1,d,h2,h⟩
 ·obtain⟨o,i,g,l,r⟩:=j;exact⟨o,i,g,k _ o (YK d) l,r⟩
 ·refine(I.aS b u e).dv (λc v a q=>k c v ?_ q) (λ_ q=>q) λ_ _ q=>q;rcases a with z|z
  ·rw[z];exact f b u e
  ·exact f c _ z
theorem Inv.tok(I:Inv X j8 σ H s)(t:Nat):Inv X j8 σ H {s with toks:=t}:=I.un (h':=s.heap) (t':=t) Un.refl I.aS
theorem Inv.kept{t':Nat}(I:Inv X j8 σ H s)(k:∀b u,s.heap.get? b=some u->h'.get? b=some u):Inv X j8 σ H {s with heap:=h',toks:=t'}:=I.un (Un.kept k) (I.aS.kept k)
theorem Inv.laid{a:af}{o:HO}{t':Nat}(I:Inv X j8 σ H s)(k:∀b u,s.heap.get? b=some u->h'.get? b=some u)(c:s.heap.objs.size<=a)(new:a_ X.prog X.w (upd H a o) h' a o):
  Inv X j8 σ (upd H a o) {s with heap:=h',toks:=t'}:=I.un (Un.laid k c (I.aS.fresh c)) (I.aS.laid k c new)
theorem Inv.write{x e:af}{o:HO}{t':Nat}(I:Inv X j8 σ H s)(c:EW (H x))(a:e=x\/H e=some (.own x))(k:∀b u,b≠e->s.heap.get? b=some u->h'.get? b=some u)(d:∃u,h'.get? e=some u)
  (new:a_ X.prog X.w (upd H x o) h' x o):Inv X j8 σ (upd H x o) {s with heap:=h',toks:=t'}:=I.un (Un.write c a k d) (I.aS.write c a k d new)
theorem Inv.weak{σ':List (Option V)}(I:Inv X j8 σ H s)(a:σ'.length=σ.length)(w:∀(i:Nat) v,σ'[i]?=some (some v)->σ[i]?=some (some v)):Inv X j8 σ' H s:=
 ⟨I.ok,I.os,I.bare,I.base,let ⟨m,hn,lF⟩:=I.loc;⟨m,hn,λi x v d c b=>lF i x v d (w i v c) b⟩,I.cell,I.free,I.cX,I.pin,I.aS,a.trans I.len⟩
theorem Inv.ni{a:List (af×ay)}(I:Inv X j8 σ H s)(h:∀p∈a,s.heap.get? p.1=some p.2/\H p.1=none/\p.1≠X.env.locals/\p.1∉X.fs/\∀v,p.2.data≠.cell v):Inv X a σ H s:=
 ⟨I.ok,I.os,I.bare,I.base,I.loc,I.cell,I.free,I.cX,λp b=>(YQ.mp b).elim (λz=>I.pin p (Xf _ z)) (h p),I.aS,I.len⟩
theorem SA{N:List ar}(e:N.Nodup){i j:Nat}{x:ar}(a:N[i]?=some x)(b:N[j]?=some x):i=j:=by
 obtain⟨h1,d⟩:=cf a;obtain⟨h2,c⟩:=cf b;exact(List.getElem_inj e).mp (d.trans c.symm)
theorem q05{M:Model}{A:aq}{E:aa->ae->Prop}{i:Nat}{x:ar}{v:V}{u:aa}{Q:Unit->ae->Prop}(I:Inv X j8 σ H s)(hN:X.N.Nodup)(D:X.N[i]?=some x)(w:Loc X.env.scope x)(r:RelV v u)
  (h:∀W,Inv X j8 (σ.set i (some v)) H W->(∃a,Heap.SameBut a s.heap W.heap/\(a=X.env.locals\/X.env.cells.lookup x=some a))->Q () W) (hf:X.fn x=true\/X.env.scope.names.lookup x=some .local:=by first|exact .inl rfl|exact .inr rfl|assumption):ah M A (storeName X.env x u) Q E s:=by
 obtain⟨m,R,hl⟩:=id I.loc;have yq:(X.env.scope.kind==.class||(X.env.scope.kind==.module&&X.env.locals != X.env.globals))=false:=by rw[I.ok.kind];rfl
 have D8:i<σ.length:=by rw[I.len];exact(cf D).1
 have yX:=I.yX;have l:∀{a:af}{h':ao},(∃o,s.heap.get? a=some o/\H a=none)->Heap.SameBut a s.heap h'->dQ X.prog X.w H h':=λ{a h'} ha f b ob e=>by
  obtain⟨_,_,vd⟩:=ha;refine(I.aS b ob e).dv (λc G t q=>(f.2 c ?_).trans q) (λ_ q=>q) λ_ _ q=>q;rintro rfl;rcases t with rfl|t
  ·rw[vd]at e;cases e
  ·rw[vd]at t;cases t
 rcases w with hk|hk
 ·refine wpAny_storeName_local hk R (λh' oI f=>?_) yq;obtain⟨oL,_,_,T,_⟩:=id R;refine h _ ⟨I.ok,I.os,I.bare,⟨λb o e n hb w=>?_,λb o e n hb w=>?_,I.base.free,λb o e w=>?_,I.base.cg,I.base.gF,I.base.gL⟩,⟨_,oI,λj y Z g B N=>?_⟩,λy c e=>?_,I.free,I.cX,λp P=>?_,l ⟨oL,T,I.free⟩ f,by simpa using I.len⟩ ⟨_,f,.inl rfl⟩
  ·exact(f.2 b (Zu (ZQ (Zo e) I.ok.above))).trans (I.base.keep b o e n hb w)
  ·obtain⟨U,g⟩:=I.base.slot b o e n hb w;exact⟨U,(f.2 b (Zu (ZQ (Zo e) I.ok.above))).trans g⟩
  ·obtain⟨K,g⟩:=I.base.there b o e w;exact⟨K,(f.2 b (Zu (ZQ (Zo e) I.ok.above))).trans g⟩
  ·by_cases C:j=i
   ·subst C;rw[D]at g;cases g;rw[List.getElem?_set_self D8]at B;cases B;exact⟨u,r,.inl ⟨hk,by simp⟩⟩
   ·rw[List.getElem?_set_ne (YK C)]at B;obtain⟨S,O,q⟩:=hl j y Z g B N;refine⟨S,O,?_⟩;rcases q with⟨k,e⟩|⟨k,c,e,z⟩
    ·refine .inl ⟨k,?_⟩;have:y≠x:=λe=>C (SA hN g (e▸D));simp[this,e]
    ·exact .inr ⟨k,c,e,z.sameBut f (yX y c e)⟩
  ·obtain⟨G,z⟩:=I.cell y c e;exact⟨G,z.sameBut f (yX y c e)⟩
  ·obtain⟨e,n,F,Y,d⟩:=I.pin p P;exact⟨(f.2 p.1 F).trans e,n,F,Y,d⟩
 ·have L:X.fn x=true:=by
   rcases hf with z|z
   ·exact z
   ·rw[z]at hk;cases hk
  obtain⟨c,t⟩:=I.ok.has x (.inl hk);obtain⟨G,z⟩:=I.cell x c t;refine wpAny_storeName_cell I.ok.kind hk t z (λh' yr f=>?_);obtain⟨oc,H_,MI⟩:=id z;refine h {s with heap:=h'} ⟨I.ok,I.os,I.bare,⟨λb o e n hb w=>?_,λb o e n hb w=>?_,I.base.free,λb o e w=>?_,I.base.cg,I.base.gF,I.base.gL⟩,⟨m,R.sameBut f (YK (yX x c t)),λj y Z g B N=>?_⟩,λy J e=>?_,I.free,I.cX,λp P=>?_,l ⟨oc,H_,I.cX x c t⟩ f,by simpa using I.len⟩ ⟨c,f,.inr t⟩
  ·exact(f.2 b (Zu (ZQ (Zo e) (I.ok.uh x c L t)))).trans (I.base.keep b o e n hb w)
  ·obtain⟨U,g⟩:=I.base.slot b o e n hb w;exact⟨U,(f.2 b (Zu (ZQ (Zo e) (I.ok.uh x c L t)))).trans g⟩
  ·obtain⟨K,g⟩:=I.base.there b o e w;exact⟨K,(f.2 b (Zu (ZQ (Zo e) (I.ok.uh x c L t)))).trans g⟩
  ·by_cases C:j=i
   ·subst C;rw[D]at g;cases g;rw[List.getElem?_set_self D8]at B;cases B;exact⟨u,r,.inr ⟨.inl hk,c,t,yr⟩⟩
   ·rw[List.getElem?_set_ne (YK C)]at B;obtain⟨S,O,q⟩:=hl j y Z g B N;refine⟨S,O,?_⟩;rcases q with q|⟨k,J,e,z'⟩
    ·exact .inl q
    ·refine .inr ⟨k,J,e,z'.sameBut f ?_⟩;rintro rfl;exact C (SA hN g (I.ok.inj _ _ _ e t▸D))
  ·by_cases Ii:J=c
   ·subst Ii;exact⟨_,yr⟩
   ·obtain⟨w2,z2⟩:=I.cell y J e;exact⟨w2,z2.sameBut f Ii⟩
  ·obtain⟨e,n,F,Y,d⟩:=I.pin p P;refine⟨(f.2 p.1 ?_).trans e,n,F,Y,d⟩;intro q;rw[q,H_]at e;have q':oc=p.2:=ZK e;exact d G (by rw[<- q'];exact MI)
theorem Ga{M:Model}{A:aq}{E:aa->ae->Prop}{i:Nat}{x:ar}{v:V}{u:aa}{Q:Unit->ae->Prop}(I:Inv X j8 σ H s)(e:X.N.Nodup)(f:X.N[i]?=some x)(c:Loc X.env.scope x)(r:RelV v u)
  (h:∀a,Inv X j8 (σ.set i (some v)) H a->Q () a) (b:X.fn x=true\/X.env.scope.names.lookup x=some .local:=by first|exact .inl rfl|exact .inr rfl|assumption):ah M A (storeName X.env x u) Q E s:=
 q05 I e f c r (λa d _=>h a d) b
theorem Inv.vh{s':ae}{ch:List af}(I:Inv X j8 σ H s)(d:s'.os=s.os)(u:Un (dC X.stack) ch H H' s.heap s'.heap)(h:dQ X.prog X.w H' s'.heap)(g:AllBare s'.gens)
  (f:∀b∈ch,(b∈X.ex\/X.aC.heap.objs.size<=b)/\b≠X.env.locals/\(∀x c,X.env.cells.lookup x=some c->c≠b)/\∀p∈X.pn++j8,p.1≠b):Inv X j8 σ H' s':=by
 obtain⟨h',g',d',t',a⟩:=s';have e:a=s.os:=d;subst e;exact I.call (g':=g') (t':=t') (d':=d') u h g f
end
abbrev XK:=aa->Option af->Hp->Prop
abbrev St:=List (Option V)
abbrev VK:=V->Hp->Prop
abbrev TE:=St->Hp->VK->Prop
abbrev TT:=St->Hp->(Bool->Hp->Prop)->Prop
abbrev TA:=St->Hp->(List V->Hp->Prop)->Prop
structure Ends where
 nx:St->Hp->Prop
 rt:VK
 bk:St->Hp->Prop:=λ_ _=>False
 ct:St->Hp->Prop:=λ_ _=>False
abbrev TS:=Ends->St->Hp->Prop
def EP(X:Cx)(b:List (af×ay))(σ:St)(Q:VK)(u:aa)(s':ae):Prop:=∃v a,Inv X b σ a s'/\RelV v u/\Q v a
def TP(X:Cx)(c:List (af×ay))(σ:St)(Q:Bool->Hp->Prop)(b:Bool)(s':ae):Prop:=∃a,Inv X c σ a s'/\Q b a
def AP(X:Cx)(c:List (af×ay))(σ:St)(Q:List V->Hp->Prop)(us:List aa)(s':ae):Prop:=∃a b,Inv X c σ b s'/\Vals a us/\Q a b
def SP(X:Cx)(c:List (af×ay))(D:Ends)(f:Flow)(s':ae):Prop:=
 match f with
 |.next=>∃a b,Inv X c a b s'/\D.nx a b
 |.brk=>∃a b,Inv X c a b s'/\D.bk a b
 |.cont=>∃a b,Inv X c a b s'/\D.ct a b
 |.ret u=>∃v a b,Inv X c a b s'/\RelV v u/\D.rt v b
def PE(X:Cx)(e:au)(t:TE):Prop:=
 ∀(b:List (af×ay))(s:ae)(a:St)(H:Hp)(Q:VK),Inv X b a H s->t a H Q->ah (ai X.prog X.w) X.A (eval e X.env) (EP X b a Q) X.xe s
def PT(X:Cx)(e:au)(t:TT):Prop:=
 ∀(b:List (af×ay))(s:ae)(a:St)(H:Hp)(Q:Bool->Hp->Prop),Inv X b a H s->t a H Q->ah (ai X.prog X.w) X.A (isTrue e X.env (eval e X.env)) (TP X b a Q) X.xe s
def PW(X:Cx)(e:au)(t:TT):Prop:=
 ∀(whole:Sem aa)(b:List (af×ay))(s:ae)(a:St)(H:Hp)(Q:Bool->Hp->Prop),Inv X b a H s->t a H Q->ah (ai X.prog X.w) X.A (isTrue e X.env whole) (TP X b a Q) X.xe s
theorem PW.pt{X:Cx}{e:au}{t:TT}(h:PW X e t):PT X e t:=h _
def PA(X:Cx)(es:List au)(t:TA):Prop:=
 ∀(pos:az)(b:List (af×ay))(s:ae)(a:St)(H:Hp)(Q:List V->Hp->Prop),Inv X b a H s->t a H Q->ah (ai X.prog X.w) X.A (spliced (backTo pos (starEach es X.env))) (AP X b a Q) X.xe s
def PS(X:Cx)(st:aA)(t:TS):Prop:=
 ∀(b:List (af×ay))(s:ae)(a:St)(H:Hp)(D:Ends),Inv X b a H s->t D a H->ah (ai X.prog X.w) X.A (exec st X.env) (SP X b D) X.xe s
def ik(X:Cx)(st:List aA)(t:TS):Prop:=
 ∀(b:List (af×ay))(s:ae)(a:St)(H:Hp)(D:Ends),Inv X b a H s->t D a H->ah (ai X.prog X.w) X.A (execs st X.env) (SP X b D) X.xe s
theorem bh{c:Type}{t:Sem c}{Q b:c->ae->Prop}{M:Model}{A:aq}{E:aa->ae->Prop}{s:ae}(h:ah M A t Q E s)(d:∀a s,Q a s->b a s):ah M A t b E s:=Z9 h d λ_ _ x=>x
section
variable{X:Cx}
inductive AK(i:Nat)(σ:St)(H:Hp)(Q:VK):Prop
 |mk(v:_)(e0:σ[i]?=some (some v))(e1:Q v H)
def oQ(i:Nat):TE:=λa H Q=>AK i a H Q
def tC(v:V):TE:=λ_ H Q=>Q v H
theorem xD1{i:Nat}{x:ar}{b:az}(y:X.N[i]?=some x)(p:rg X.env.scope x)(d:(x==("__debug__":ar))=false:=by decide)(k:(x==("__classdict__":ar))=false:=by decide):PE X (.Name x b) (oQ i):=by
 intro q s w H Q I h;obtain⟨v,e,h⟩:=h;obtain⟨m,n,t⟩:=I.loc;obtain⟨u,r,l⟩:=t i x v y e p;have a:EP X q w Q u s:=⟨v,H,I,r,h⟩;rcases l with⟨hk,j⟩|⟨hk,c,g,f⟩
 ·exact wpAny_Name (wpAny_loadName_local I.ok.kind hk n j a) d
 ·rcases hk with hk|hk
  ·exact wpAny_Name (wpAny_loadName_cell I.ok.kind hk g f a) d
  ·exact wpAny_Name (wpAny_loadName_free I.ok.kind hk g f a k) d
theorem aN {i j pos}:PE X (.Constant (.int i) j pos) (tC (.int i)):=λ_ _ _ H _ I h=>wpAny_Constant_int ⟨.int i,H,I.tok _,⟨_,rfl⟩,h⟩
theorem kj {b j pos}:PE X (.Constant (.bool b) j pos) (tC (.bl b)):=λ_ _ _ H _ I h=>Constant_bool ⟨.bl b,H,I,rfl,h⟩
theorem Lu {j pos}:PE X (.Constant .none j pos) (tC .ck):=λ_ _ _ H _ I h=>Constant_none ⟨.ck,H,I,rfl,h⟩
theorem PN {x j pos}:PE X (.Constant (.str x) j pos) (tC (.str x)):=λ_ _ _ H _ I h=>Vy ⟨.str x,H,I.tok _,⟨_,rfl⟩,h⟩
def Gl(X:Cx)(x:ar):Prop:=X.env.kindOf x=some .globalImplicit
theorem BO{E:aa->ae->Prop}{e:List (af×ay)}{s:ae}{σ:St}{H:Hp}{x:ar}{u:aa}{a:az}{Q:aa->ae->Prop}(I:Inv X e σ H s)(b:Gl X x)(c:X.mg x=some u)(h:Q u s)
  (d:(x==("__debug__":ar))=false:=by decide):ah (ai X.prog X.w) X.A (eval (.Name x a) X.env) Q E s:=
 Calls.Name_function_global I.ok.kind b (Calls.loadGlobal_global (by rw[I.ok.glob];exact I.mod.glob.keeps I.bk) c h) d
theorem zT{E:aa->ae->Prop}{g:List (af×ay)}{s:ae}{σ:St}{H:Hp}{x:ar}{u:aa}{a:az}{Q:aa->ae->Prop}(I:Inv X g σ H s)(c:Gl X x)(e:X.mg x=none)(d:bootBuiltins x=some u)(h:Q u s)
  (b:x ≠ "__name__":=by decide) (f:(x==("__debug__":ar))=false:=by decide):ah (ai X.prog X.w) X.A (eval (.Name x a) X.env) Q E s:=by
 obtain⟨i,h1,h2⟩:=I.mod.blt;exact Calls.Name_function_global I.ok.kind c (Calls.loadGlobal_builtin (by rw[I.ok.glob];exact I.mod.glob.keeps I.bk) e (by rw[I.ok.blt];exact h1.keeps I.bk) ((h2 x b).trans d) h) f
theorem gx{x:ar}{v:V}{u:aa}{a:az}(b:Gl X x)(c:X.mg x=some u)(r:RelV v u)(d:(x==("__debug__":ar))=false:=by decide):PE X (.Name x a) (tC v):=
 λ_ _ _ H _ I h=>BO I b c ⟨v,H,I,r,h⟩ d
theorem zr{x:ar}{v:V}{u:aa}{a:az}(c:Gl X x)(e:X.mg x=none)(d:bootBuiltins x=some u)(r:RelV v u)(b:x ≠ "__name__":=by decide)(f:(x==("__debug__":ar))=false:=by decide):PE X (.Name x a) (tC v):=
 λ_ _ _ H _ I h=>zT I c e d ⟨v,H,I,r,h⟩ b f
variable{a b:au}{ta tb:TE}{pos:az}
def PC(X:Cx)(op:CmpOp)(a b:au)(t:TE):Prop:=
 ∀(d:List (af×ay))(s:ae)(c:St)(H:Hp)(Q:VK),Inv X d c H s->t c H Q ->
  ah (ai X.prog X.w) X.A (eval a X.env) (λv e=>ah (ai X.prog X.w) X.A (eval b X.env) (λu f=>ah (ai X.prog X.w) X.A (compareOp op v u) (EP X d c Q) X.xe f) X.xe e) X.xe s
inductive tB_(Q:Bool->Hp->Prop)(x:V)(H1:Hp):Prop
 |mk(c:_)(e0:x=.bl c)(e1:Q c H1)
def tB(t:TE):TT:=λd H Q=>t d H λx c=>tB_ Q x c
theorem G_{op:CmpOp}{t:TE}(h:PC X op a b t)(h1:behindInMarks op b=false:=by first|exact CL _ 'b' 'b'|rfl):PT X (.Compare a [op] [b] pos) (tB t):=by
 intro k s l H Q I j;refine wpAny_isTrue_Compare1 (bh (h k s l H _ I j) λv m h1=>bh h1 λu n h2=>bh h2 λc p ⟨x,i,e,g,f⟩=>?_) h1;obtain⟨d,rfl,q⟩:=f;cases g;exact Yd ⟨i,e,q⟩
theorem lq{e:au}{t:TE}(h:PE X e t)(g:∀c,isTrue e X.env c=(do let v <- c;standAt e.pos;holding [v] (truthy v)):=by intro _;rfl):PT X e (tB t):=by
 intro m s n H Q I l;refine isTrue_plain (bh (h m s n H _ I l) λv p ⟨x,k,f,j,i⟩=>?_) (g _);obtain⟨d,rfl,q⟩:=i;cases j;exact Yd ⟨k,f,q⟩
variable{tA Fs:TT}{rest:List au}
def JO(t u:TT):TT:=λe H Q=>t e H λc d=>if c=true then u e d Q else Q false d
def tOr(t u:TT):TT:=λe H Q=>t e H λc d=>if c=true then Q true d else u e d Q
def JG(t:TT):TT:=λe H Q=>t e H λc d=>Q (!c) d
theorem K5(d:PT X a tA):PW X (.BoolOp .And [a] pos) tA:=by
 intro i g s f H Q I h;refine isTrue_and (bh (d g s f H Q I h) λc j e=>?_);cases c with
 |true=>exact isTrue_and_nil e
 |false=>exact e
theorem pQ(d:PT X a tA):PW X (.BoolOp .Or [a] pos) tA:=by
 intro i g s f H Q I h;refine isTrue_or (bh (d g s f H Q I h) λc j e=>?_);cases c with
 |false=>exact isTrue_or_nil e
 |true=>exact e
theorem Ls(l:PT X a tA)(hb:PW X (.BoolOp .And (b::rest) pos) Fs):PW X (.BoolOp .And (a::b::rest) pos) (JO tA Fs):=by
 intro j i s g H Q I h;refine isTrue_and (bh (l i s g H _ I h) λc k ⟨f,e,d⟩=>?_);cases c with
 |true=>exact hb j i k g f Q e d
 |false=>exact⟨f,e,d⟩
theorem oz(l:PT X a tA)(hb:PW X (.BoolOp .Or (b::rest) pos) Fs):PW X (.BoolOp .Or (a::b::rest) pos) (tOr tA Fs):=by
 intro j i s g H Q I h;refine isTrue_or (bh (l i s g H _ I h) λc k ⟨f,e,d⟩=>?_);cases c with
 |true=>exact⟨f,e,d⟩
 |false=>exact hb j i k g f Q e d
theorem nO(e:PT X a tA):PT X (.UnaryOp .Not a pos) (JG tA):=by
 intro g s f H Q I h;exact isTrue_not (e g s f H (λc d=>Q (!c) d) I h)
inductive vx(tb:TE)(σ:St)(Q:VK)(x:V)(H1:Hp):Prop
 |mk(c:_)(e0:x=.bl c)(e1:if c=true then tb σ H1 Q else Q (.bl false) H1)
def xN1(ta tb:TE):TE:=λc H Q=>ta c H λx d=>vx tb c Q x d
inductive vt(Q:VK)(x:V)(H1:Hp):Prop
 |mk(c:_)(e0:x=.bl c)(e1:Q (.bl (!c)) H1)
def xN2(ta:TE):TE:=λd H Q=>ta d H λx c=>vt Q x c
theorem uK {op}{t:TE}(h:PE X a t):PE X (.BoolOp op [a] pos) t:=λe s c H Q I d=>BoolOp_one (h e s c H Q I d)
theorem sW(l:PE X a ta)(hb:PE X (.BoolOp .And (b::rest) pos) tb):PE X (.BoolOp .And (a::b::rest) pos) (xN1 ta tb):=by
 intro i s g H Q I h;refine BoolOp_and (bh (l i s g H _ I h) λv k ⟨x,f,e,j,d⟩=>?_);obtain⟨c,rfl,d⟩:=d;cases j;refine Yd ?_;cases c with
 |true=>exact hb i k g f Q e d
 |false=>exact⟨.bl false,f,e,rfl,d⟩
theorem xD2(i:PE X a ta):PE X (.UnaryOp .Not a pos) (xN2 ta):=by
 intro k s j H Q I h;refine UnaryOp_ (bh (i k s j H _ I h) λv l ⟨x,f,e,g,d⟩=>?_);obtain⟨c,rfl,d⟩:=d;cases g;exact not_of (Yd ⟨.bl (!c),f,e,rfl,d⟩)
end
def bZ(K:PySem.W.Frag)(H:Hp)(a:af)(xs:List V):Prop:=
 Rd H a (.lst xs) \/
  ∃(o:ay)(b:Array aa)(n:Nat),K.lookup a=some o/\o.cls=.type "list" /\ o.dict=none/\o.data=.seq b n/\b.size<=sizeLine/\Vals xs b.toList
def bf(K:PySem.W.Frag)(H:Hp)(a:af)(xs:List V):Prop:=
 Rd H a (.tup xs) \/
  ∃(o:ay)(b:Array aa)(n:Nat),K.lookup a=some o/\o.cls=.type "tuple" /\ o.data=.seq b n/\b.size<=sizeLine/\Vals xs b.toList
def Og:aa->Option V
 |.none=>some .ck
 |.bool b=>some (.bl b)
 |.int i _=>some (.int i)
 |.str x _=>some (.str x)
 |.bytes b _=>some (.nB b)
 |.float b _=>some (.yy b)
 |.ref a=>some (.ref a)
 |.type n=>some (.ty n)
 |_=>none
theorem RelV.abs{x:V}{u:aa}(r:RelV x u):Og u=some x:=by
 cases x with
 |ck=>cases r;rfl
 |bl _=>cases r;rfl
 |int _=>obtain⟨t,rfl⟩:=r;rfl
 |str _=>obtain⟨t,rfl⟩:=r;rfl
 |nB _=>obtain⟨t,rfl⟩:=r;rfl
 |yy _=>obtain⟨t,rfl⟩:=r;rfl
 |ref _=>cases r;rfl
 |ty _=>cases r;rfl
theorem RelV.inj{x y:V}{u:aa}(r:RelV x u)(q:RelV y u):x=y:=ZK (r.abs.symm.trans q.abs)
theorem Vals.inj:∀{c b:List V}{a:List aa},Vals c a->Vals b a->c=b
 |_,_,_,.nil,.nil=>rfl
 |_,_,_,.cons r t,.cons d e=>by rw[r.inj d,Vals.inj t e]
section
variable{X:Cx}{j8:List (af×ay)}{σ:St}{H:Hp}{s:ae}{a:af}{xs ys:List V}
theorem bZ.of{K:PySem.W.Frag}(h:H a=some (.lst xs)):bZ K H a xs:=.inl (.inl h)
theorem bf.of{K:PySem.W.Frag}(h:H a=some (.tup xs)):bf K H a xs:=.inl (.inl h)
theorem Inv.list(I:Inv X j8 σ H s)(h:bZ X.K H a xs):∃b:List aa,Vals xs b/\PlainL s.heap a b.toArray/\xs.length<=sizeLine:=by
 rcases h with h|⟨o,b,n,hk,c,f,g,d,r⟩
 ·obtain⟨z,b,n,r,e⟩:=h.ok I.aS;exact⟨b,r,⟨_,n,e,rfl,rfl,rfl⟩,z⟩
 ·refine⟨b.toList,r,⟨o,n,I.g_ a o hk,c,f,by simpa using g⟩,?_⟩;have e:=r.length;simp only[Ys]at e;exact xZ e d
theorem Inv.tuple(I:Inv X j8 σ H s)(h:bf X.K H a xs):∃b:List aa,Vals xs b/\IsTup s.heap a b.toArray/\xs.length<=sizeLine:=by
 rcases h with h|⟨o,b,n,hk,c,f,d,r⟩
 ·obtain⟨z,b,r,p⟩:=h.ok I.aS;exact⟨b,r,p,z⟩
 ·refine⟨b.toList,r,⟨o,I.g_ a o hk,c,n,by simpa using f⟩,?_⟩;have e:=r.length;simp only[Ys]at e;exact xZ e d
theorem Inv.qB(I:Inv X j8 σ H s)(h:bZ X.K H a xs)(h':bZ X.K H a ys):xs=ys:=by
 obtain⟨g,r,⟨o,n,e,_,_,d⟩,_⟩:=I.list h;obtain⟨b,i,⟨j,k,c,_,_,f⟩,_⟩:=I.list h';rw[e]at c;cases c;rw[d]at f;injection f with d1 _
 have:g=b:=by simpa using Yi Array.toList d1
 subst this;exact r.inj i
theorem Inv.iY(I:Inv X j8 σ H s)(h:bf X.K H a xs)(h':bf X.K H a ys):xs=ys:=by
 obtain⟨g,r,⟨o,e,_,n,d⟩,_⟩:=I.tuple h;obtain⟨b,i,⟨j,c,_,k,f⟩,_⟩:=I.tuple h';rw[e]at c;cases c;rw[d]at f;injection f with d1 _
 have:g=b:=by simpa using Yi Array.toList d1
 subst this;exact r.inj i
end
abbrev Cx.iM(X:Cx)(E:aa->ae->Prop):Cx:={X with xe:=E}
abbrev Cx.lA(X:Cx):Cx:=X.iM λ_ _=>False
theorem Cx.Ok.iM{X:Cx}(ok:X.Ok)(E:aa->ae->Prop):(X.iM E).Ok:=
 ⟨ok.mod,ok.kind,ok.glob,ok.blt,ok.above,ok.inj,ok.has,ok.uh,ok.hd,ok.frames,ok.su,ok.Au,ok.bs,ok.oh,ok.ji,ok.lJ,ok.dW,ok.qX⟩
theorem Cx.Ok.eU{X:Cx}{E:aa->ae->Prop}(ok:(X.iM E).Ok):X.Ok:=
 ⟨ok.mod,ok.kind,ok.glob,ok.blt,ok.above,ok.inj,ok.has,ok.uh,ok.hd,ok.frames,ok.su,ok.Au,ok.bs,ok.oh,ok.ji,ok.lJ,ok.dW,ok.qX⟩
section
variable{X:Cx}{j8:List (af×ay)}{σ:St}{H:Hp}{s:ae}{E:aa->ae->Prop}
theorem Inv.iM(I:Inv X j8 σ H s)(E:aa->ae->Prop):Inv (X.iM E) j8 σ H s:=⟨I.ok.iM E,I.os,I.bare,I.base,I.loc,I.cell,I.free,I.cX,I.pin,I.aS,I.len⟩
theorem Inv.eU(I:Inv (X.iM E) j8 σ H s):Inv X j8 σ H s:=⟨I.ok.eU,I.os,I.bare,I.base,I.loc,I.cell,I.free,I.cX,I.pin,I.aS,I.len⟩
theorem SP.eU{D:Ends}{f:Flow}{s':ae}(h:SP (X.iM E) j8 D f s'):SP X j8 D f s':=by
 cases f with
 |next=>obtain⟨a,b,I,q⟩:=h;exact⟨a,b,I.eU,q⟩
 |brk=>obtain⟨a,b,I,q⟩:=h;exact⟨a,b,I.eU,q⟩
 |cont=>obtain⟨a,b,I,q⟩:=h;exact⟨a,b,I.eU,q⟩
 |ret u=>obtain⟨v,a,b,I,r,q⟩:=h;exact⟨v,a,b,I.eU,r,q⟩
theorem ik.lA{st:List aA}{t:TS}(h:ik X.lA st t):ik X st t:=λj8 s σ H D I a=>
 Z9 (h j8 s σ H D (I.iM _) a) (λ_ _ q=>q.eU) λ_ _ z=>False.elim z
end
section
variable{X:Cx}{st:aA}{rest:List aA}{t u:TS}{e:au}{te:TE}{pos:az}
def xN3:TS:=λD a H=>D.nx a H
def vq(t u:TS):TS:=λD a H=>t {D with nx:=u D} a H
theorem eM:ik X [] xN3:=λ_ _ a H _ I h=>Vj ⟨a,H,I,h⟩
theorem fY(h1:PS X st t)(h2:ik X rest u):ik X (st::rest) (vq t u):=by
 intro b s d H D I h;refine wpAny_execs_cons (bh (h1 b s d H {D with nx:=u D} I h) λf c q=>?_);cases f with
 |next=>
  obtain⟨a,i,g,q⟩:=q;exact h2 b c a i D g q
 |ret v=>exact q
 |brk=>exact q
 |cont=>exact q
theorem cN(h1:PS X st t):ik X [st] t:=by
 intro b s a H D I h;refine wpAny_execs_cons (bh (h1 b s a H D I h) λf c q=>?_);cases f with
 |next=>exact Vj q
 |ret v=>exact q
 |brk=>exact q
 |cont=>exact q
theorem Inv.quiet{a:List (af×ay)}{σ:St}{H:Hp}{s:ae}(I:Inv X a σ H s):interactive X.env=false:=by simp[interactive,I.ok.kind]
def xN4(te:TE):TS:=λD a H=>te a H λ_ b=>D.nx a b
theorem ir(f:PE X e te)(hs:swapsWith e none pos.line X.env=pure false:=by rfl):PS X (.Expr e pos) (xN4 te):=by
 intro g s a H D I h;exact wpAny_Expr_any (bh (f g s a H _ I h) λv j ⟨x,d,c,i,b⟩=>⟨a,d,c,b⟩) I.quiet hs
def JF(te:TE):TS:=λD a H=>te a H D.rt
theorem cx(g:PE X e te):PS X (.Return (some e) pos) (JF te):=by
 intro i s a H D I h;exact wpAny_Return_some (bh (g i s a H _ I h) λv j ⟨x,d,c,f,b⟩=>⟨x,a,d,c,f,b⟩)
def xN5:TS:=λD _ H=>D.rt .ck H
theorem HD:PS X (.Return none pos) xN5:=λ_ _ a H _ I h=>wpAny_Return_none ⟨.ck,a,H,I,rfl,h⟩
def JI(c:TT)(t u:TS):TS:=λD a H=>c a H λb d=>if b=true then t D a d else u D a d
theorem eI{c:au}{a b:List aA}{i:TT}(hc:PT X c i)(n:ik X a t)(hb:ik X b u):PS X (.If c a b pos) (JI i t u):=by
 intro g s f H D I h;refine wpAny_If (bh (hc g s f H _ I h) λd m ⟨l,k,j⟩=>?_);cases d with
 |true=>exact n g m f l D k j
 |false=>exact hb g m f l D k j
def xD3:TS:=λ_ _ _=>False
theorem xE{a:List aA}:ik X a xD3:=λ_ _ _ _ _ _ h=>h.elim
end
abbrev TG:=V->St->Hp->(St->Hp->Prop)->Prop
abbrev uj:=List V->St->Hp->(St->Hp->Prop)->Prop
def PG(X:Cx)(a:au)(t:TG):Prop:=
 ∀(d:List (af×ay))(s:ae)(c:St)(H:Hp)(v:V)(u:aa)(Q:St->Hp->Prop),Inv X d c H s->RelV v u->t v c H Q ->
  ah (ai X.prog X.w) X.A (assign a X.env u) (λ_ f=>∃b e,Inv X d b e f/\Q b e) X.xe s
def IA(X:Cx)(h:List au)(t:uj):Prop:=
 ∀(d:List (af×ay))(s:ae)(c:St)(H:Hp)(b:List V)(e:List aa)(Q:St->Hp->Prop),Inv X d c H s->Vals b e->t b c H Q ->
  ah (ai X.prog X.w) X.A (assignInOrder ((assignEach h X.env).map (·.2)) e) (λ_ g=>∃a f,Inv X d a f g/\Q a f) X.xe s
abbrev za:=V->V->V->Hp->(Hp->Prop)->Prop
def zb(X:Cx)(t:za):Prop:=
 ∀(d:List (af×ay))(s:ae)(a:St)(H:Hp)(o i v:V)(b c u:aa)(Q:Hp->Prop),Inv X d a H s->RelV o b->RelV i c->RelV v u->t o i v H Q ->
  ah (ai X.prog X.w) X.A (setItem b c u) (λ_ f=>∃e,Inv X d a e f/\Q e) X.xe s
abbrev Iz:=V->V->Hp->VK->Prop
def PIp(X:Cx)(op:Operator)(t:Iz):Prop:=
 ∀(b:List (af×ay))(s:ae)(a:St)(H:Hp)(x y:V)(v u:aa)(Q:VK),Inv X b a H s->RelV x v->RelV y u->t x y H Q ->
  ah (ai X.prog X.w) X.A (inplaceOp op v u) (EP X b a Q) X.xe s
section
variable{X:Cx}{pos:az}
def cb(i:Nat):TG:=λv a H Q=>Q (a.set i (some v)) H
theorem mq{i:Nat}{x:ar}(d:X.N.Nodup)(e:X.N[i]?=some x)(b:Loc X.env.scope x)(a:X.fn x=true\/X.env.scope.names.lookup x=some .local:=by first|exact .inl rfl|exact .inr rfl|assumption):PG X (.Name x pos) (cb i):=by
 intro j s g H v u Q I r h;exact wpAny_assign_Name (Ga I d e b r (λf c=>⟨_,H,c,h⟩) a)
def eh:uj:=λb a H Q=>b=[]/\Q a H
inductive yv(t:TG)(u:uj)(vs:List V)(σ:St)(H:Hp)(Q:St->Hp->Prop):Prop
 |mk(v:_)(r:_)(e0:vs=v::r)(e1:t v σ H λσ' H'=>u r σ' H' Q)
def cY(t:TG)(u:uj):uj:=λb a H Q=>yv t u b a H Q
theorem pT:IA X [] eh:=by
 intro d s a H b c Q I r h;obtain⟨e,h⟩:=h;subst e;cases r;exact assignInOrder_nil ⟨a,H,I,h⟩
theorem gz{e:au}{es:List au}{t:TG}{u:uj}(h1:PG X e t)(h2:IA X es u)
  (hs:(assignEach (e::es) X.env).map (·.2)=assign e X.env::(assignEach es X.env).map (·.2):=by rfl):IA X (e::es) (cY t u):=by
 intro b s k H l m Q I r h;obtain⟨v,n,f,h⟩:=h;subst f;cases r with
 |cons r j=>
  rw[hs];refine assignInOrder_cons (bh (h1 b s k H _ _ _ I r h) λ_ d ⟨a,i,c,g⟩=>?_);exact h2 b d a i _ _ Q c j g
inductive Et(K:PySem.W.Frag)(n:Nat)(t:uj)(v:V)(σ:St)(H:Hp)(Q:St->Hp->Prop):Prop
 |mk(a:_)(xs:_)(e0:v=.ref a)(e1:bf K H a xs)(e2:xs.length=n)(e3:t xs σ H Q)
def ee(K:PySem.W.Frag)(n:Nat)(t:uj):TG:=λv a H Q=>Et K n t v a H Q
theorem pP{es:List au}{k:Nat}{t:uj}{n:Nat}(hc:X.calm=true)(h:IA X es t)
  (w:(assignEach es X.env).length=n:=by rfl) (m:(assignEach es X.env).findIdx? (·.1)=none:=by rfl):PG X (.Tuple es k pos) (ee X.K n t):=by
 intro d s f H v u Q I r c;obtain⟨a,A,l,q,y,c⟩:=c;subst l;cases r;obtain⟨C,g,i,B⟩:=I.tuple q;refine assign_Tuple_tuple (I.ok.hd hc) i (by simp[w,<- y,g.length]) m λp x=>?_;have j:Inv X d f H {s with heap:=p}:=I.kept (t':=s.toks) λb o e=>x b o (Zu (Zo e)) e;exact h d _ f H A _ Q j (by simpa using g) c
def NM(d c:TE)(t:za):TG:=λv a H Q=>d a H λo e=>c a e λi f=>t o i v f λb=>Q a b
theorem Lr{o i:au}{f e:TE}{t:za}(q:PE X o f)(l:PE X i e)(hs:zb X t)
  (D:∀v,assign (.Subscript o i pos) X.env v=(do
   let a <- holding [v] (eval o X.env)
   let b <- holding [v,a] (eval i X.env)
   standAt pos
   holding [v,a,b] (setItem a b v)
   release [v,a,b] []):=by intro _;rfl):PG X (.Subscript o i pos) (NM f e t):=by
 intro d s c H v u Q I r h;rw[D];refine Za (Yo (bh (q d s c H _ I h) λa j ⟨x,A,g,n,m⟩=>?_));refine Za (Yo (bh (l d j c A _ g m) λb B ⟨y,E,k,F,C⟩=>?_));refine Za (WB (Za (Yo (bh (hs d B c E x y v a b u _ k n F r C) λ_ J ⟨w,G,p⟩=>?_))));exact wpAny_release ⟨c,w,G,p⟩
def ja(te:TE)(g:TG):TS:=λD a H=>te a H λx b=>g x a b D.nx
theorem sV{a e:au}{te:TE}{g:TG}(f:PE X e te)(i:PG X a g)(hs:swapsWithSole [a] e pos.line X.env=pure false:=by rfl)(hw:swappedStores [a] e X.env=pure none:=by rfl)
  (h1:(assignEach [a] X.env).map (·.2)=[assign a X.env]:=by rfl):PS X (.Assign [a] e pos) (ja te g):=by
 intro b s c H D I h;refine wpAny_Assign_stores (bh (f b s c H _ I h) λv j ⟨x,m,d,l,k⟩=>?_) hs hw;rw[h1];exact bh (i b j c m x v _ d l k) λ_ n q=>q
theorem PM{i:Nat}{x:ar}{e:au}{te:TE}{a:az}(q:X.N.Nodup)(f:X.N[i]?=some x)(l:Loc X.env.scope x)(c:PE X e te)(hs:swapsWith e (some (.Name x a)) pos.line X.env=pure false:=by rfl)(n:X.fn x=true\/X.env.scope.names.lookup x=some .local:=by first|exact .inl rfl|exact .inr rfl|assumption):
  PS X (.Assign [.Name x a] e pos) (ja te (cb i)):=by
 intro m s p H D I h;refine wpAny_Assign_Name (bh (c m s p H _ I h) λv r ⟨y,k,b,j,g⟩=>?_) hs;exact Ga b q f l j (λt d=>⟨_,k,d,g⟩) n
inductive AO(i:Nat)(te:TE)(ti:Iz)(D:Ends)(σ:St)(H:Hp):Prop
 |mk(x:_)(e0:σ[i]?=some (some x))(e1:te σ H λy H1=>ti x y H1 λz H2=>D.nx (σ.set i (some z)) H2)
def JN(i:Nat)(te:TE)(b:Iz):TS:=λD a H=>AO i te b D a H
theorem PL{i:Nat}{x:ar}{e:au}{te:TE}{op:Operator}{j:Iz}{a:az}(V:X.N.Nodup)(g:X.N[i]?=some x)(d:Loc X.env.scope x)(t:PE X e te)(J:PIp X op j)(N:X.fn x=true\/X.env.scope.names.lookup x=some .local:=by first|exact .inl rfl|exact .inr rfl|assumption):
  PS X (.AugAssign (.Name x a) op e pos) (JN i te j):=by
 intro f s n H D I h;obtain⟨v,B,h⟩:=h;obtain⟨m,L,R⟩:=I.loc;have b:rg X.env.scope x:=by rcases d with k|k;exact .inl k;exact .inr (.inl k)
 obtain⟨u,r,l⟩:=R i x v g B b;refine wpAny_AugAssign_Name ?_;have go:ah (ai X.prog X.w) X.A (eval e X.env) (λw M=>ah (ai X.prog X.w) X.A (inplaceOp op u w) (λr O=>ah (ai X.prog X.w) X.A (storeName X.env x r) (λ_=>SP X f D .next) X.xe O) X.xe M) X.xe s:=by
  refine bh (t f s n H _ I h) λw A ⟨y,K,q,F,E⟩=>?_;refine bh (J f A n K v y u w _ q r F E) λz Y ⟨W,S,C,T,Q⟩=>?_;exact Ga C V g d T (λZ U=>⟨_,S,U,Q⟩) N
 rcases l with⟨hk,G⟩|⟨hk,c,P,p⟩
 ·exact wpAny_loadName_local I.ok.kind hk L G go
 ·rcases hk with hk|hk
  ·exact wpAny_loadName_cell I.ok.kind hk P p go
  ·rcases d with k|k
   ·have:X.env.scope.names.lookup x=some .free:=hk;rw[k]at this;cases this
   ·have:X.env.scope.names.lookup x=some .free:=hk;rw[k]at this;cases this
end
structure It where
 go:Nat->Hp->Prop
 iK:Nat->Hp->V->Hp->Prop
 stop:Nat->Hp->Prop
def gb(X:Cx)(a:List (af×ay))(H:Hp)(b:af):Prop:=
 H b=none/\b≠X.env.locals/\b∉X.fs/\(b∈X.ex\/X.aC.heap.objs.size<=b)/\(∀x c,X.env.cells.lookup x=some c->c≠b)/\∀p∈X.pn++a,p.1≠b
theorem Inv.jo{X:Cx}{a:List (af×ay)}{σ:St}{H d:Hp}{s:ae}{b:af}(I:Inv X a σ H s)(hb:s.heap.objs.size<=b)(g:d b=none):gb X a d b:=by
 refine⟨g,XU (ZQ I.lt hb),I.LF hb,.inr (ZD I.sz hb),λx c e z=>?_,λp f z=>?_⟩
 ·obtain⟨v,q⟩:=I.cell x c e;exact absurd (ZQ q.lt (by rw[z];exact hb)) (Yn _)
 ·exact absurd (ZQ (Zo (I.pin p f).1) (by rw[z];exact hb)) (Yn _)
structure Turn(P:ag)(w:aj)(K:PySem.W.Frag)(tg:au)(J:It)(fp:List af)(it:af)(tn:Nat->ao->Prop):Prop where
 mem:it∈fp
 obj:∀i h,tn i h->∀b∈fp,∃o,h.get? b=some o/\∀v,o.data≠.cell v
 keep:∀i h h',tn i h->(∀b∈fp,∀o,h.get? b=some o->h'.get? b=some o)->tn i h'
 item:∀(X:Cx),X.prog=P->X.w=w->X.K=K->X.calm=true->∀(i:Nat)(j8:List (af×ay))(s:ae)(σ:St)(H:Hp)(E:aa->ae->Prop),Inv X j8 σ H s->(∀b∈fp,gb X j8 H b)->tn i s.heap->J.go i H ->
  ah (ai P w) X.A (pyNext (.ref it)) (λr s1=>∃u,r=some u /\
   ah (ai P w) X.A (letOwnedTupleGo tg (.ref it) u) (λ_ s2=>∃x H',Inv X j8 σ H' s2/\RelV x u/\J.iK i H x H'/\tn (i+1) s2.heap/\∀b∈fp,H' b=none) E s1) E s
 done:∀(X:Cx),X.prog=P->X.w=w->X.K=K->X.calm=true->∀(i:Nat)(j8:List (af×ay))(s:ae)(σ:St)(H:Hp)(E:aa->ae->Prop),Inv X j8 σ H s->(∀b∈fp,gb X j8 H b)->tn i s.heap->J.stop i H ->
  ah (ai P w) X.A (pyNext (.ref it)) (λr s1=>r=none/\Inv X j8 σ H s1) E s
 self:∀(A:aq)(i:Nat)(s:ae)(Q:aa->ae->Prop)(E:aa->ae->Prop),tn i s.heap->Q (.ref it) s->ah (ai P w) A (pyIter (.ref it)) Q E s
abbrev TI:=St->Hp->(It->Hp->Prop)->Prop
def PIE(X:Cx)(f:List (af×ay))(σ:St)(i:au)(R:It->Hp->Prop)(h:aa)(c:ae):Prop:=
 ∃(d:af)(g:List af)(e:Nat->ao->Prop)(J:It)(a:Hp),h=.ref d/\Inv X f σ a c/\Turn X.prog X.w X.K i J g d e/\e 0 c.heap/\(∀b∈g,gb X f a b)/\R J a
def PI(X:Cx)(e iter:au)(c:TI):Prop:=
 ∀(b:List (af×ay))(s:ae)(a:St)(H:Hp)(R:It->Hp->Prop),Inv X b a H s->c a H R ->
  ah (ai X.prog X.w) X.A (eval iter X.env) (λv d=>ah (ai X.prog X.w) X.A (pyIter v) (PIE X b a e R) X.xe d) X.xe s
theorem Ji{M:Model}{A:aq}{E:aa->ae->Prop}{s:ae}{b:au}{it:af}{u:aa}{o:ay}{n:String}{vs:Array aa}{Q:Unit->ae->Prop}(c:s.heap.get? it=some o)(hc:o.cls=.type n)(e:o.data=.fields vs)
  (d:["enumerate","zip","dict_itemiterator","dict_reverseitemiterator","odict_iterator","itertools.zip_longest","itertools.pairwise"].contains n=false) (a:Q () s):ah M A (letOwnedTupleGo b (.ref it) u) Q E s:=by
 unfold letOwnedTupleGo;cases b<;>first
  |exact Zb a
  |(cases u<;>first
    |exact Zb a
    |(refine Za (wpAny_load c ?_)
      rw[hc,e];show ah M A (if(["enumerate","zip","dict_itemiterator","dict_reverseitemiterator","odict_iterator","itertools.zip_longest","itertools.pairwise"].contains n&&vs[0]?==some (rawInt _))=true then _ else _) Q E s;rw[Zj (by intro h;rw[d,Ua]at h;cases h)];exact Zb a))
def oN(K:PySem.W.Frag)(a:af):It:=
 ⟨λi H=>∃b x,bZ K H a b/\b[i]?=some x,λi H x c=>c=H/\∀b,bZ K H a b->b[i]?=some x,λi H=>∃b,bZ K H a b/\b.length<=i⟩
def uo(K:PySem.W.Frag)(a:af):It:=
 ⟨λi H=>∃b x,bf K H a b/\b[i]?=some x,λi H x c=>c=H/\∀b,bf K H a b->b[i]?=some x,λi H=>∃b,bf K H a b/\b.length<=i⟩
def mf(a:Int)(n:Nat):It:=⟨λi _=>i<n,λi H x b=>b=H/\x=.int (a+i),λi _=>n<=i⟩
theorem q09{P:ag}{w:aj}{K:PySem.W.Frag}{Z:au}(a it:af):Turn P w K Z (oN K a) [it] it (λi h=>h.IsListIter it a i) where
 mem:=by simp
 obj:=λi h f b hb=>by
  have e:b=it:=by simpa using hb
  subst e;obtain⟨o,e,c,d⟩:=f;exact⟨o,e,λv z=>by rw[d]at z;cases z⟩
 keep:=λi h g f k=>f.at λo e=>k it 'c' o e
 item:=by
  intro X t C y L i J s M H E I m f q;subst t C y;obtain⟨xs,x,j,l⟩:=q;obtain⟨T,F,p,Q⟩:=I.list j;obtain⟨u,O,N⟩:=F.get l;obtain⟨r,D,S,n,A,B⟩:=m it 'c';refine wpAny_pyNext_list_item f p.isList (x:=u) (by simpa using O) λg G Y=>?_;have R:Inv X J M H {s with heap:=g}:=I.turned (t':=s.toks) (λb o hb e=>(Y.2 b hb).trans e) r D n A B;obtain⟨o,e,c,d⟩:=id G;exact⟨u,rfl,Ji (s:={s with heap:=g}) e c d 'b' ⟨x,H,R,N,⟨rfl,λys U=>by rw[I.qB U j];exact l⟩,G,λb hb=>(m b hb).1⟩⟩
 done:=by
  intro X t C y L i J s M H E I m f q;subst t C y;obtain⟨xs,j,l⟩:=q;obtain⟨T,F,p,Q⟩:=I.list j;obtain⟨r,D,S,n,A,B⟩:=m it 'c';have W:=F.length;exact wpAny_pyNext_list_end (I.ok.hd L) f p.isList (by simp;exact Aa W l) λg V=>⟨rfl,I.turned (t':=s.toks) (λb o hb e=>V b o hb e) r D n A B⟩
 self:=λ_ _ _ _ _ f h=>wpAny_pyIter_listiter f h
theorem qV8{P:ag}{w:aj}{K:PySem.W.Frag}{Z:au}(a it:af):Turn P w K Z (uo K a) [it] it (λi h=>h.IsTupleIter it a i) where
 mem:=by simp
 obj:=λi h f b hb=>by
  have e:b=it:=by simpa using hb
  subst e;obtain⟨o,e,c,d⟩:=f;exact⟨o,e,λv z=>by rw[d]at z;cases z⟩
 keep:=λi h g f k=>f.at λo e=>k it 'c' o e
 item:=by
  intro X t D y M i L s N H E I m f q;subst t D y;obtain⟨xs,x,j,l⟩:=q;obtain⟨A,G,p,R⟩:=I.tuple j;obtain⟨u,Q,O⟩:=G.get l;obtain⟨r,F,T,n,B,C⟩:=m it 'c';refine wpAny_pyNext_tuple_item f (show s.heap.IsTuple a A.toArray from p) (x:=u) (by simpa using Q) λg J Y=>?_;have S:Inv X L N H {s with heap:=g}:=I.turned (t':=s.toks) (λb o hb e=>(Y.2 b hb).trans e) r F n B C;obtain⟨o,e,c,d⟩:=id J;exact⟨u,rfl,Ji (s:={s with heap:=g}) e c d 'b' ⟨x,H,S,O,⟨rfl,λys U=>by rw[I.iY U j];exact l⟩,J,λb hb=>(m b hb).1⟩⟩
 done:=by
  intro X t D y M i L s N H E I m f q;subst t D y;obtain⟨xs,j,l⟩:=q;obtain⟨A,G,p,R⟩:=I.tuple j;obtain⟨r,F,T,n,B,C⟩:=m it 'c';have W:=G.length;exact wpAny_pyNext_tuple_end (I.ok.hd M) f (show s.heap.IsTuple a A.toArray from p) (by simp;exact Aa W l) λg V=>⟨rfl,I.turned (t':=s.toks) (λb o hb e=>V b o hb e) r F n B C⟩
 self:=λ_ _ _ _ _ f h=>wpAny_pyIter_tupleiter f h
theorem qV9{P:ag}{w:aj}{K:PySem.W.Frag}{O:au}(it:af)(c:Int)(n:Nat):Turn P w K O (mf c n) [it] it (λi h=>IsRangeIter h it (c+(i:Nat)*1) ((n:Int)-(i:Nat)) 1) where
 mem:=by simp
 obj:=λi h a b hb=>by
  have e:b=it:=by simpa using hb
  subst e;exact⟨_,a,λv z=>by
   have L:Data.fields _=Data.cell v:=z;cases L⟩
 keep:=λi h d a k=>k it 'c' _ a
 item:=by
  intro X m u p x i B s C H E I f a j;subst m u p;obtain⟨l,y,J,g,q,r⟩:=f it 'c';have W:=Walks.range (prog:=X.prog) (w:=X.w) (I.ok.hd x) it c 1 n;refine W.item i s _ _ j a λv d D M A G=>?_;obtain⟨t,rfl⟩:=M;have F:Inv X B C H {s with heap:=d,toks:=D}:=I.turned (λb o hb e=>G b o (by simpa using hb) e) l y g q r;refine⟨_,rfl,Ji (s:={s with heap:=d,toks:=D}) (n:= "range_iterator") A rfl rfl 'b' ⟨.int (c+i),H,F,⟨t,?_⟩,⟨rfl,rfl⟩,A,λb hb=>(f b hb).1⟩⟩;rw[Int.mul_one]
 done:=by
  intro X m u p x i B s C H E I f a j;subst m u p;obtain⟨l,y,J,g,q,r⟩:=f it 'c';exact wpAny_pyNext_range_end (I.ok.hd x) a (by have:n<=i:=j;exact Q_ this) λd N=>⟨rfl,I.turned (t':=s.toks) (λb o hb e=>N b o hb e) l y g q r⟩
 self:=λ_ _ _ _ _ a h=>wpAny_pyIter_rangeiter a h
section
variable{X:Cx}{tg:au}
inductive yg(K:PySem.W.Frag)(R:It->Hp->Prop)(x:V)(H1:Hp):Prop
 |mk(a:_)(e0:x=.ref a)(e1:(∃xs,bZ K H1 a xs))(e2:R (oN K a) H1)
def xN6(K:PySem.W.Frag)(c:TE):TI:=λb H R=>c b H λx a=>yg K R x a
inductive Ds(K:PySem.W.Frag)(R:It->Hp->Prop)(x:V)(H1:Hp):Prop
 |mk(a:_)(e0:x=.ref a)(e1:(∃xs,bf K H1 a xs))(e2:R (uo K a) H1)
def Dt(K:PySem.W.Frag)(c:TE):TI:=λb H R=>c b H λx a=>Ds K R x a
theorem oB{l:au}{f:TE}(n:PE X l f):PI X tg l (xN6 X.K f):=by
 intro m s r H R I h;refine bh (n m s r H _ I h) λv d ⟨x,j,c,i,g⟩=>?_;obtain⟨a,e,⟨y,k⟩,q⟩:=g;subst e;cases i;obtain⟨u,w,p,t⟩:=c.list k;refine Wg p.isList ?_;refine⟨d.heap.objs.size,[d.heap.objs.size],_,_,j,rfl,c.kept (t':=d.toks) λb o e=>Zd _ e,q09 a _,⟨_,Zi _ rfl,rfl,rfl⟩,λb hb=>?_,q⟩;have e:b=d.heap.objs.size:=by simpa using hb
 subst e;exact c.jo (Zg _) (c.aS.fresh (Zg _))
theorem sU{l:au}{f:TE}(r:PE X l f):PI X tg l (Dt X.K f):=by
 intro n s t H R I h;refine bh (r n s t H _ I h) λv c ⟨x,k,d,i,g⟩=>?_;obtain⟨a,e,⟨y,m⟩,q⟩:=g;subst e;cases i;obtain⟨j,w,p,u⟩:=d.tuple m;refine XV (show c.heap.IsTuple a j.toArray from p) ?_;refine⟨c.heap.objs.size,[c.heap.objs.size],_,_,k,rfl,d.kept (t':=c.toks) λb o e=>Zd _ e,qV8 a _,⟨_,Zi _ rfl,rfl,rfl⟩,λb hb=>?_,q⟩;have e:b=c.heap.objs.size:=by simpa using hb
 subst e;exact d.jo (Zg _) (d.aS.fresh (Zg _))
theorem pM{f:List (af×ay)}{σ:St}{H:Hp}{s:ae}{R:It->Hp->Prop}{E:aa->ae->Prop}{a c:Int}{t u v:Tok}{tk:Nat}(I:Inv X f σ H s)(h1:-(2^62)<=a)(h2:a<2^62)(g:-(2^62)<=c)(j:c<2^62)
  (q:R (mf a (c-a).toNat) H):ah (ai X.prog X.w) X.A (pyIter (.ref s.heap.objs.size)) (PIE X f σ tg R) E {s with heap:=s.heap.push {cls:=.type "range",data:=.fields #[.int a t,.int c u,.int 1 v]},toks:=tk}:=by
 refine wpAny_pyIter_range (IsRange.new ..) (small_one h1 h2 g j) ?_;have d:Inv X f σ H {s with heap:=s.heap.push {cls:=.type "range",data:=.fields #[.int a t,.int c u,.int 1 v]},toks:=tk}:=I.kept λb o e=>Zd _ e;refine⟨(s.heap.push {cls:=.type "range",data:=.fields #[.int a t,.int c u,.int 1 v]}).objs.size,[(s.heap.push {cls:=.type "range",data:=.fields #[.int a t,.int c u,.int 1 v]}).objs.size],_,_,H,rfl,
  d.kept (t':=tk) λb o e=>Zd _ e,qV9 _ a (c-a).toNat,?_,λb hb=>?_,q⟩
 ·have i:a+((0:Nat):Int)*1=a:=by simp
  have h:(((c-a).toNat:Nat):Int)-((0:Nat):Int)=Builtin.Range.rangeSize a c 1:=by rw[rangeSize_one];split<;>lia
  show IsRangeIter _ _ (a+((0:Nat):Int)*1) ((((c-a).toNat:Nat):Int)-((0:Nat):Int)) 1;rw[i,h];exact Zi _ rfl
 ·have e:b=(s.heap.push {cls:=.type "range",data:=.fields #[.int a t,.int c u,.int 1 v]}).objs.size:=by simpa using hb
  subst e;exact d.jo (Zg _) (d.aS.fresh (Zg _))
inductive yf(R:It->Hp->Prop)(vs:List V)(H1:Hp):Prop
 |mk(j:Int)(e0:vs=[.int j])(e1:-(2^62)<=j)(e2:j<2^62)(e3:R (mf 0 j.toNat) H1)
def QL(ta:TA):TI:=λc H R=>ta c H λa b=>yf R a b
theorem zA{a:au}{ta:TA}{p b:az}(f:Gl X "range")(i:X.mg "range"=none)(n:PA X [a] ta)(hs:starEach [a] X.env=[(false,eval a X.env)]:=by rfl):PI X tg (.Call (.Name "range" p) [a] [] b) (QL ta):=by
 intro l s u H R I h;refine Call_ (zT I f i boot_range (Xr (bh (n b l s u H _ I h) λx v ⟨w,y,d,g,c⟩=>?_) hs rfl));obtain⟨j,e,c,m,q⟩:=c;subst e;cases g with
 |cons r k=>
  cases k;obtain⟨t,rfl⟩:=r;exact call_range_1 (pM d 'a' 'a' c m (by simpa using q))
def JJ(f:TI)(g:TG)(tb:TS):TS:=λD a H=>f a H λJ e=>∃W:Nat->Nat->St->Hp->Prop,(∃m,W 0 m a e)/\∀i m a H,W i m a H ->
 (J.stop i H/\D.nx a H)\/(J.go i H/\∃N:St->Hp->Prop,(∀b c,N b c->∃d,d<m/\W (i+1) d b c)/\∀x c,J.iK i H x c->g x a c λh j=>tb {D with nx:=N,ct:=N,bk:=D.nx} h j)
def xn(fp:List af)(h:ao):List (af×ay):=fp.filterMap λb=>(h.get? b).map λo=>(b,o)
theorem B9{fp:List af}{h:ao}{b:af}{o:ay}(hb:b∈fp)(e:h.get? b=some o):(b,o)∈xn fp h:=WJ.mpr ⟨b,hb,by rw[e];rfl⟩
theorem q10{fp:List af}{h:ao}{p:af×ay}(c:p∈xn fp h):p.1∈fp/\h.get? p.1=some p.2:=by
 obtain⟨b,hb,e⟩:=WJ.mp c;cases q:h.get? b with
 |none=>rw[q]at e;cases e
 |some o=>
  rw[q]at e;have a:(b,o)=p:=ZK e;subst a;exact⟨hb,q⟩
theorem Inv.pinned{a:List (af×ay)}{σ:St}{H:Hp}{s:ae}{fp:List af}(I:Inv X a σ H s)(f:∀b∈fp,gb X a H b)(g:∀b∈fp,∃o,s.heap.get? b=some o/\∀v,o.data≠.cell v):Inv X (a++xn fp s.heap) σ H s:=
 I.ni λp h=>(YQ.mp h).elim (λz=>I.pin p (ZV _ z)) λz=>by
  obtain⟨hb,e⟩:=q10 z;obtain⟨j,k,i,_⟩:=f p.1 hb;obtain⟨o,c,d⟩:=g p.1 hb;rw[e]at c;cases c;exact⟨e,j,k,i,d⟩
theorem Inv.dG{a pl:List (af×ay)}{σ:St}{H:Hp}{s:ae}(I:Inv X (a++pl) σ H s):Inv X a σ H s:=I.ni λp b=>I.pin p (ZV _ (Xf _ b))
theorem rJ{iter:au}{t:List aA}{Z:TI}{g:TG}{tb:TS}{K:az}(F:PassesOwn (ai X.prog X.w) X.A X.env X.xe)(hc:X.calm=true)(hi:PI X tg iter Z)(hg:PG X tg g)(hb:ik X t tb)
  (hs:∀x,foldedSetIterable iter X.env x=pure x:=by intro _;rfl):PS X (.For tg iter t [] K) (JJ Z g tb):=by
 intro w s σ H D I h;refine wpAny_For (bh (hi w s σ H _ I h) λv s1 h1=>bh h1 λHQ s2 h2=>?_) hs;obtain⟨it,A,Q,J,H2,e,I2,T,dz,S,W,⟨m0,w0⟩,B⟩:=h2;subst e;have O:∀{p:Hp},(∀b∈A,p b=none)->∀b∈A,gb X w p b:=λhn b hb=>⟨hn b hb,(S b hb).2⟩;refine codeAny_forLoop_any (λn V=>∃i j p,Inv X w j p V/\Q i V.heap/\(∀b∈A,p b=none)/\W i n j p) ?_ m0 ⟨0,σ,H2,I2,dz,λb hb=>(S b hb).1,w0⟩;rintro n s3 ⟨i,C,G,I3,R,U,w3⟩;rcases B i n C G w3 with⟨E,qn⟩|⟨go,N,hN,step⟩
 ·refine WE F (bh (T.done X rfl rfl rfl hc i w s3 C G X.xe I3 (O U) R E) λr s4 ⟨M,I4⟩=>?_);subst M;exact Vj ⟨C,G,I4,qn⟩
 ·refine WE F (bh (T.item X rfl rfl rfl hc i w s3 C G X.xe I3 (O U) R go) λr s4 ⟨u,M,h4⟩=>?_);subst M;refine WE F (bh h4 λ_ s5 ⟨x,Y,I5,r5,y5,P,EA⟩=>?_);have EZ:=I5.pinned (O EA) (T.obj _ _ P);refine WE F (bh (hg _ s5 C Y x u _ EZ r5 (step x Y y5)) λ_ s6 ⟨IK,H6,I6,q6⟩=>?_);refine WE F (bh (hb _ s6 IK H6 _ I6 q6) λf L q=>?_);have a:∀{c:St}{k:Hp},Inv X (w++xn A s5.heap) c k L->N c k->∃m,m<n/\∃i j p,Inv X w j p L/\Q i L.heap/\(∀b∈A,p b=none)/\W i m j p:=λ{c k} l y=>by
   obtain⟨m',hm,w7⟩:=hN c k y;refine⟨m',hm,i+1,c,k,l.dG,T.keep _ _ _ P λb hb o e=>(l.pin (b,o) (ZV _ (ZV _ (B9 hb e)))).1,λb hb=>?_,w7⟩;obtain⟨o,e,d⟩:=T.obj _ _ P b hb;exact(l.pin (b,o) (ZV _ (ZV _ (B9 hb e)))).2.1
  cases f with
  |next=>obtain⟨c,k,l,y⟩:=q;exact a l y
  |cont=>obtain⟨c,k,l,y⟩:=q;exact a l y
  |brk=>obtain⟨c,k,l,q⟩:=q;exact⟨c,k,l.dG,q⟩
  |ret v=>obtain⟨x7,c,k,l,r7,q⟩:=q;exact⟨x7,c,k,l.dG,r7,q⟩
end
theorem Sz{K:PySem.W.Frag}{a:af}{xs:List V}{g:TG}{tb:TS}{D:Ends}{σ:St}{H:Hp}(Pv:Nat->St->Hp->Prop)(h0:Pv 0 σ H)(r:∀i σ H,i<=xs.length->Pv i σ H->bZ K H a xs)
  (hs:∀i x σ H,xs[i]?=some x->Pv i σ H->g x σ H λf h=>tb {D with nx:=Pv (i+1),ct:=Pv (i+1),bk:=D.nx} f h) (n:∀σ H,Pv xs.length σ H->D.nx σ H):
  ∃W:Nat->Nat->St->Hp->Prop,(∃m,W 0 m σ H)/\∀i m σ H,W i m σ H ->
   ((oN K a).stop i H/\D.nx σ H)\/((oN K a).go i H/\∃N:St->Hp->Prop,(∀c b,N c b->∃j,j<m/\W (i+1) j c b)/\∀x b,(oN K a).iK i H x b->g x σ b λf h=>tb {D with nx:=N,ct:=N,bk:=D.nx} f h):=by
 refine⟨λi m σ H=>m=xs.length-i/\i<=xs.length/\Pv i σ H,⟨xs.length,by simp,Zs _,h0⟩,?_⟩;rintro i m σ H ⟨rfl,k,p⟩;have q:=r i σ H k p;by_cases d:i<xs.length
 ·refine .inr ⟨⟨xs,xs[i],q,by simp[d]⟩,Pv (i+1),λc b l=>⟨xs.length-(i+1),qy d,rfl,d,l⟩,λx b y=>?_⟩;obtain⟨e,y⟩:=y;subst e;exact hs i x σ _ (y xs q) p
 ·have e:i=xs.length:=by exact nY k d
  subst e;exact .inl ⟨⟨xs,q,Zg _⟩,n σ H p⟩
theorem HC{K:PySem.W.Frag}{a:af}{xs:List V}{g:TG}{tb:TS}{D:Ends}{σ:St}{H:Hp}(Pv:Nat->St->Hp->Prop)(h0:Pv 0 σ H)(r:∀i σ H,i<=xs.length->Pv i σ H->bf K H a xs)
  (hs:∀i x σ H,xs[i]?=some x->Pv i σ H->g x σ H λf h=>tb {D with nx:=Pv (i+1),ct:=Pv (i+1),bk:=D.nx} f h) (n:∀σ H,Pv xs.length σ H->D.nx σ H):
  ∃W:Nat->Nat->St->Hp->Prop,(∃m,W 0 m σ H)/\∀i m σ H,W i m σ H ->
   ((uo K a).stop i H/\D.nx σ H)\/((uo K a).go i H/\∃N:St->Hp->Prop,(∀c b,N c b->∃j,j<m/\W (i+1) j c b)/\∀x b,(uo K a).iK i H x b->g x σ b λf h=>tb {D with nx:=N,ct:=N,bk:=D.nx} f h):=by
 refine⟨λi m σ H=>m=xs.length-i/\i<=xs.length/\Pv i σ H,⟨xs.length,by simp,Zs _,h0⟩,?_⟩;rintro i m σ H ⟨rfl,k,p⟩;have q:=r i σ H k p;by_cases d:i<xs.length
 ·refine .inr ⟨⟨xs,xs[i],q,by simp[d]⟩,Pv (i+1),λc b l=>⟨xs.length-(i+1),qy d,rfl,d,l⟩,λx b y=>?_⟩;obtain⟨e,y⟩:=y;subst e;exact hs i x σ _ (y xs q) p
 ·have e:i=xs.length:=by exact nY k d
  subst e;exact .inl ⟨⟨xs,q,Zg _⟩,n σ H p⟩
theorem q11{d:Int}{n:Nat}{g:TG}{tb:TS}{D:Ends}{σ:St}{H:Hp}(Pv:Nat->St->Hp->Prop)(h0:Pv 0 σ H)
  (hs:∀i σ H,i<n->Pv i σ H->g (.int (d+i)) σ H λf h=>tb {D with nx:=Pv (i+1),ct:=Pv (i+1),bk:=D.nx} f h) (q:∀σ H,Pv n σ H->D.nx σ H):
  ∃W:Nat->Nat->St->Hp->Prop,(∃m,W 0 m σ H)/\∀i m σ H,W i m σ H ->
   ((mf d n).stop i H/\D.nx σ H)\/((mf d n).go i H/\∃N:St->Hp->Prop,(∀b a,N b a->∃j,j<m/\W (i+1) j b a)/\∀x a,(mf d n).iK i H x a->g x σ a λf h=>tb {D with nx:=N,ct:=N,bk:=D.nx} f h):=by
 refine⟨λi m σ H=>m=n-i/\i<=n/\Pv i σ H,⟨n,by simp,Zs _,h0⟩,?_⟩;rintro i m σ H ⟨rfl,l,p⟩;by_cases c:i<n
 ·refine .inr ⟨c,Pv (i+1),λb a k=>⟨n-(i+1),qy c,rfl,c,k⟩,λx a y=>?_⟩;obtain⟨e,y⟩:=y;subst e y;exact hs i σ _ c p
 ·have e:i=n:=by exact nY l c
  subst e;exact .inl ⟨Zg _,q σ H p⟩
abbrev R2:=V->V->Hp->VK->Prop
def fj(X:Cx)(f:aa->aa->Sem aa)(r:R2):Prop:=
 ∀(b:List (af×ay))(s:ae)(a:St)(H:Hp)(x y:V)(v u:aa)(Q:VK),Inv X b a H s->RelV x v->RelV y u->r x y H Q ->
  ah (ai X.prog X.w) X.A (f v u) (EP X b a Q) X.xe s
def Oi(X:Cx)(f:aa->Sem aa)(r:V->Hp->VK->Prop):Prop:=
 ∀(b:List (af×ay))(s:ae)(a:St)(H:Hp)(x:V)(v:aa)(Q:VK),Inv X b a H s->RelV x v->r x H Q ->
  ah (ai X.prog X.w) X.A (f v) (EP X b a Q) X.xe s
def gZ(X:Cx)(f:aa)(r:List V->Hp->VK->Prop):Prop:=
 ∀(c:List (af×ay))(s:ae)(a:St)(H:Hp)(b:List V)(d:List aa)(Q:VK),Inv X c a H s->Vals b d->r b H Q ->
  ah (ai X.prog X.w) X.A (call f d) (EP X c a Q) X.xe s
def Oj(X:Cx)(r:V->Hp->(Bool->Hp->Prop)->Prop):Prop:=
 ∀(b:List (af×ay))(s:ae)(a:St)(H:Hp)(x:V)(v:aa)(Q:Bool->Hp->Prop),Inv X b a H s->RelV x v->r x H Q ->
  ah (ai X.prog X.w) X.A (truthy v) (TP X b a Q) X.xe s
def AL(r:R2)(ta tb:TE):TE:=λa H Q=>ta a H λx b=>tb a b λy c=>r x y c Q
def tUn(r:V->Hp->VK->Prop)(ta:TE):TE:=λb H Q=>ta b H λx a=>r x a Q
inductive rI_(C:Int->Int->Prop)(g:Int->Int->V)(x y:V)(H:Hp)(Q:VK):Prop
 |mk(i:_)(j:_)(e0:x=.int i)(e1:y=.int j)(e2:C i j)(e3:Q (g i j) H)
def rI(C:Int->Int->Prop)(g:Int->Int->V):R2:=λx y H Q=>rI_ C g x y H Q
inductive Kc(g:Int->Int->V)(x y:V)(H:Hp)(Q:VK):Prop
 |mk(i:_)(j:_)(e0:x=.int i)(e1:y=.int j)(e2:Q (g i j) H)
def rD(g:Int->Int->V):R2:=λx y H Q=>Kc g x y H Q
inductive rU_(g:Int->V)(x:V)(H:Hp)(Q:VK):Prop
 |mk(i:_)(e0:x=.int i)(e1:Q (g i) H)
def rU(g:Int->V):V->Hp->VK->Prop:=λx H Q=>rU_ g x H Q
section
variable{X:Cx}{a b c:au}{ta tb tc:TE}{pos:az}
theorem y_(w:PE X a ta)(hb:PE X b tb){g:List (af×ay)}{s:ae}{σ:St}{H:Hp}{R:V->V->Hp->Prop}(I:Inv X g σ H s)
  (h:ta σ H λx i=>tb σ i λy d=>R x y d){Q:aa->ae->Prop}{f:aa->aa->Sem aa}
  (r:∀v u e x y d,Inv X g σ d e->RelV x v->RelV y u->R x y d->ah (ai X.prog X.w) X.A (f v u) Q X.xe e):
  ah (ai X.prog X.w) X.A (eval a X.env) (λv p=>ah (ai X.prog X.w) X.A (eval b X.env) (λu q=>ah (ai X.prog X.w) X.A (f v u) Q X.xe q) X.xe p) X.xe s:=by
 refine bh (w g s σ H _ I h) λv k ⟨x,i,j,n,m⟩=>?_;refine bh (hb g k σ i _ j m) λu e ⟨y,d,l,A,t⟩=>?_;exact r v u e x y d l n A t
theorem bg{op:Operator}{r:R2}(e:fj X (binaryOp op) r)(k:PE X a ta)(hb:PE X b tb):PE X (.BinOp a op b pos) (AL r ta tb):=by
 intro i s l H Q I h;exact wpAny_BinOp (y_ k hb I h λv u g x y m d f j q=>e i g l m x y v u Q d f j q)
theorem Fn{op:UnaryOp}{r:V->Hp->VK->Prop}(f:Oi X (unaryOp op) r)(l:PE X a ta):PE X (.UnaryOp op a pos) (tUn r ta):=by
 intro e s d H Q I h;exact UnaryOp_ (bh (l e s d H _ I h) λv m ⟨x,j,i,k,g⟩=>f e m d j x v Q i k g)
theorem zY{f:aa->aa->Sem aa}{C:Int->Int->Prop}{g:Int->Int->Int}
  (d:∀(i j:Int)(t u:Tok)(s:ae)(Q:aa->ae->Prop)(E:aa->ae->Prop),C i j->Q (.int (g i j) s.toks) {s with toks:=s.toks+1}->ah (ai X.prog X.w) X.A (f (.int i t) (.int j u)) Q E s):
  fj X f (rI C λi j=>.int (g i j)):=by
 intro n s p H x y v u Q I e l h;obtain⟨i,j,rfl,rfl,m,q⟩:=h;obtain⟨t,rfl⟩:=e;obtain⟨k,rfl⟩:=l;exact d i j t k s _ _ m ⟨.int (g i j),H,I.tok _,⟨_,rfl⟩,q⟩
theorem tF{f:aa->aa->Sem aa}{g:Int->Int->Int}
  (d:∀(i j:Int)(t u:Tok)(s:ae)(Q:aa->ae->Prop)(E:aa->ae->Prop),Q (.int (g i j) s.toks) {s with toks:=s.toks+1}->ah (ai X.prog X.w) X.A (f (.int i t) (.int j u)) Q E s):
  fj X f (rD λi j=>.int (g i j)):=by
 intro m s n H x y v u Q I e l h;obtain⟨i,j,rfl,rfl,q⟩:=h;obtain⟨t,rfl⟩:=e;obtain⟨k,rfl⟩:=l;exact d i j t k s _ _ ⟨.int (g i j),H,I.tok _,⟨_,rfl⟩,q⟩
theorem tG{f:aa->aa->Sem aa}{g:Int->Int->Bool}
  (d:∀(i j:Int)(t u:Tok)(s:ae)(Q:aa->ae->Prop)(E:aa->ae->Prop),Q (.bool (g i j)) s->ah (ai X.prog X.w) X.A (f (.int i t) (.int j u)) Q E s):
  fj X f (rD λi j=>.bl (g i j)):=by
 intro m s n H x y v u Q I e l h;obtain⟨i,j,rfl,rfl,q⟩:=h;obtain⟨t,rfl⟩:=e;obtain⟨k,rfl⟩:=l;exact d i j t k s _ _ ⟨.bl (g i j),H,I,rfl,q⟩
def OT(i j:Int):Prop:=0<j/\j<1073741824
def E8(i j:Int):Prop:=0<=j/\j<=1000000/\i.natAbs<2^64
def ze(i j:Int):Prop:=(-(2^64)<i/\i<2^64)\/(-(2^64)<j/\j<2^64)
theorem ze.ok{i j:Int}(h:ze i j):IntMulOk i j:=by
 rcases h with⟨h1,h2⟩|⟨h1,h2⟩
 ·exact .of_left (intBits_le_64 h1 h2)
 ·exact .of_right (intBits_le_64 h1 h2)
theorem qW0(k:Nat):(0:Int)<=2^k:=by
 rw[two_pow_cast];exact Vz _
theorem gO:fj X (binaryOp .Add) (rD λi j=>.int (i+j)):=tF λ_ _ _ _ _ _ _ q=>add_int q
theorem gN:fj X (binaryOp .Sub) (rD λi j=>.int (i-j)):=tF λ_ _ _ _ _ _ _ q=>sub_int q
theorem ng:fj X (binaryOp .Mult) (rI ze λi j=>.int (i*j)):=zY λ_ _ _ _ _ _ _ d q=>mul_int q d.ok
theorem pS:fj X (binaryOp .FloorDiv) (rI OT λi j=>.int (i/j)):=zY λi j _ _ _ _ _ d q=>by
 have h1:(0:Int)<j:=d.1;have h2:j<1073741824:=d.2;exact floordiv_int (Dd h1) (by rw[VA i (Dc h1)];exact q) (.inl (PyProof.noPylong_small 'a'))
theorem sT:fj X (binaryOp .Mod) (rI (λ_ j=>0<j) λi j=>.int (i%j)):=zY λi j _ _ _ _ _ d q=>by
 have h1:(0:Int)<j:=d;exact mod_int' (Dd d) (by rw[Int.fmod_eq_emod_of_nonneg i (Dc d)];exact q)
theorem xD5:fj X (binaryOp .Pow) (rI E8 λi j=>.int (i^j.toNat)):=zY λ_ _ _ _ _ _ _ d q=>pow_int_small d.1 d.2.1 d.2.2 q
theorem nM:fj X (binaryOp .LShift) (rI E8 λi j=>.int (i*2^j.toNat)):=zY λ_ _ _ _ _ _ _ d q=>lshift_int_small d.1 d.2.1 d.2.2 q
theorem PK:fj X (binaryOp .RShift) (rI (λ_ j=>0<=j) λi j=>.int (i/2^j.toNat)):=zY λi j _ _ _ _ _ d q=>
 rshift_int d (by rw[VA i (qW0 _)];exact q)
theorem Lq:fj X (binaryOp .BitAnd) (rD λi j=>.int (Builtin.bitAnd i j)):=tF λ_ _ _ _ _ _ _ q=>and_int q
theorem Ue:fj X (inplaceOp .Add) (rD λi j=>.int (i+j)):=tF λ_ _ _ _ _ _ _ q=>iadd_int q
theorem unI{f:aa->Sem aa}{g:Int->Int}
  (d:∀(i:Int)(t:Tok)(s:ae)(Q:aa->ae->Prop)(E:aa->ae->Prop),Q (.int (g i) s.toks) {s with toks:=s.toks+1}->ah (ai X.prog X.w) X.A (f (.int i t)) Q E s):
  Oi X f (rU λi=>.int (g i)):=by
 intro k s j H x v Q I e h;obtain⟨i,rfl,q⟩:=h;obtain⟨t,rfl⟩:=e;exact d i t s _ _ ⟨.int (g i),H,I.tok _,⟨_,rfl⟩,q⟩
theorem G9:Oi X (unaryOp .USub) (rU λi=>.int (-i)):=unI λ_ _ _ _ _ q=>neg_int q
end
def Bo:V->V->Bool
 |.ck,.ck=>true|.ck,.int _=>true|.int _,.ck=>true|.ck,.bl _=>true|.bl _,.ck=>true|.ck,.str _=>true|.str _,.ck=>true
 |.int _,.int _=>true|.bl _,.bl _=>true|.str _,.str _=>true|.nB _,.nB _=>true
 |.int _,.str _=>true|.str _,.int _=>true|.bl _,.str _=>true|.str _,.bl _=>true
 |_,_=>false
def rEq:R2:=λx y H Q=>Bo x y=true/\Q (.bl (decide (x=y))) H
def rNe:R2:=λx y H Q=>Bo x y=true/\Q (.bl (!decide (x=y))) H
theorem T_{i j:Int}:decide (V.int i=V.int j)=(i==j):=by
 rw[Ye];simp
theorem G8{i j:Bool}:decide (V.bl i=V.bl j)=(i==j):=by
 rw[Ye];simp
theorem T9{i j:ar}:decide (V.str i=V.str j)=(i==j):=by
 rw[Ye];simp
theorem T8{i j:Array UInt8}:decide (V.nB i=V.nB j)=(i.toList==j.toList):=by
 rw[Ye];cases i;cases j;simp
section
variable{X:Cx}{a b c:au}{ta tb tc:TE}{pos:az}
theorem fV{f:List (af×ay)}{σ:St}{H:Hp}{s:ae}{Q:VK}{k d:Bool}(I:Inv X f σ H s)(q:Q (.bl k) H)(e:k=d):EP X f σ Q (.bool d) s:=by
 subst e;exact⟨.bl k,H,I,rfl,q⟩
theorem tD:fj X (compareOp .Eq) rEq:=by
 intro l s k H x y v u Q I g d h;obtain⟨f,q⟩:=h;cases x with
 |ck=>
  cases g;cases y with
  |ck=>cases d;exact PySem.EqNone.eq_none_none (fV I q 'c')
  |bl j=>cases d;exact PySem.EqNone.eq_none_bool (fV I q 'c')
  |int j=>obtain⟨e,rfl⟩:=d;exact PySem.EqNone.eq_none_int (fV I q 'c')
  |str j=>obtain⟨e,rfl⟩:=d;exact PySem.EqNone.eq_none_str (fV I q 'c')
  |_=>exact absurd (show false=true from f) ZA
 |bl i=>
  cases g;cases y with
  |ck=>cases d;exact PySem.EqNone.eq_bool_none (fV I q 'c')
  |bl j=>cases d;exact eq_bool (fV I q G8)
  |str j=>obtain⟨e,rfl⟩:=d;exact PySem.EqMixed.eq_bool_str (fV I q 'c')
  |_=>exact absurd (show false=true from f) ZA
 |int i=>
  obtain⟨t,rfl⟩:=g;cases y with
  |ck=>cases d;exact PySem.EqNone.eq_int_none (fV I q 'c')
  |int j=>obtain⟨e,rfl⟩:=d;exact eq_int (fV I q T_)
  |str j=>obtain⟨e,rfl⟩:=d;exact PySem.EqMixed.eq_int_str (fV I q 'c')
  |_=>exact absurd (show false=true from f) ZA
 |str i=>
  obtain⟨t,rfl⟩:=g;cases y with
  |ck=>cases d;exact PySem.EqNone.eq_str_none (fV I q 'c')
  |bl j=>cases d;exact PySem.EqMixed.eq_str_bool (fV I q 'c')
  |int j=>obtain⟨e,rfl⟩:=d;exact PySem.EqMixed.eq_str_int (fV I q 'c')
  |str j=>obtain⟨e,rfl⟩:=d;exact eq_str (fV I q T9)
  |_=>exact absurd (show false=true from f) ZA
 |nB i=>
  obtain⟨t,rfl⟩:=g;cases y with
  |nB j=>obtain⟨e,rfl⟩:=d;exact PySem.W.eq_bytes (fV I q T8)
  |_=>exact absurd (show false=true from f) ZA
 |_=>cases y<;>exact absurd (show false=true from f) ZA
theorem QK:fj X (compareOp .NotEq) rNe:=by
 intro l s k H x y v u Q I g d h;obtain⟨f,q⟩:=h;cases x with
 |ck=>
  cases g;cases y with
  |ck=>cases d;exact PySem.EqNone.ne_none_none (fV I q 'c')
  |bl j=>cases d;exact PySem.EqNone.ne_none_bool (fV I q 'c')
  |int j=>obtain⟨e,rfl⟩:=d;exact PySem.EqNone.ne_none_int (fV I q 'c')
  |str j=>obtain⟨e,rfl⟩:=d;exact PySem.EqNone.ne_none_str (fV I q 'c')
  |_=>exact absurd (show false=true from f) ZA
 |bl i=>
  cases g;cases y with
  |ck=>cases d;exact PySem.EqNone.ne_bool_none (fV I q 'c')
  |bl j=>cases d;exact ne_bool (fV I q (Yi not G8))
  |str j=>obtain⟨e,rfl⟩:=d;exact PySem.EqMixed.ne_bool_str (fV I q 'c')
  |_=>exact absurd (show false=true from f) ZA
 |int i=>
  obtain⟨t,rfl⟩:=g;cases y with
  |ck=>cases d;exact PySem.EqNone.ne_int_none (fV I q 'c')
  |int j=>obtain⟨e,rfl⟩:=d;exact ne_int (fV I q (Yi not T_))
  |str j=>obtain⟨e,rfl⟩:=d;exact PySem.EqMixed.ne_int_str (fV I q 'c')
  |_=>exact absurd (show false=true from f) ZA
 |str i=>
  obtain⟨t,rfl⟩:=g;cases y with
  |ck=>cases d;exact PySem.EqNone.ne_str_none (fV I q 'c')
  |bl j=>cases d;exact PySem.EqMixed.ne_str_bool (fV I q 'c')
  |int j=>obtain⟨e,rfl⟩:=d;exact PySem.EqMixed.ne_str_int (fV I q 'c')
  |str j=>obtain⟨e,rfl⟩:=d;exact ne_str (fV I q (Yi not T9))
  |_=>exact absurd (show false=true from f) ZA
 |nB i=>
  obtain⟨t,rfl⟩:=g;cases y with
  |nB j=>obtain⟨e,rfl⟩:=d;exact PySem.W.ne_bytes (fV I q (Yi not T8))
  |_=>exact absurd (show false=true from f) ZA
 |_=>cases y<;>exact absurd (show false=true from f) ZA
theorem l_:fj X (compareOp .Lt) (rD λi j=>.bl (decide (i<j))):=tG λ_ _ _ _ _ _ _ q=>lt_int q
theorem oy:fj X (compareOp .LtE) (rD λi j=>.bl (decide (i<=j))):=tG λ_ _ _ _ _ _ _ q=>le_int q
theorem CA:fj X (compareOp .Gt) (rD λi j=>.bl (decide (j<i))):=tG λ_ _ _ _ _ _ _ q=>gt_int q
theorem xN7:fj X (compareOp .GtE) (rD λi j=>.bl (decide (j<=i))):=tG λ_ _ _ _ _ _ _ q=>ge_int q
inductive lR(x:V)(y:V)(H:Hp)(Q:VK):Prop
 |mk(i:_)(j:_)(aT:x=.str i)(eR:y=.str j)(dX:Q (.bl (!(Builtin.Str.occurrences j i 0 j.length 1).isEmpty)) H)
theorem q18:fj X (compareOp .In) lR:=by
 intro g s f H x y v u Q I d e h;obtain⟨i,j,rfl,rfl,q⟩:=h;obtain⟨t,rfl⟩:=d;obtain⟨k,rfl⟩:=e;exact in_str (fV I q rfl)
theorem dh(b:au){op:CmpOp}(h:op≠.In:=by decide)(h2:op≠.NotIn:=by decide):behindInMarks op b=false:=by
 have e:(op==CmpOp.In)=false:=by cases op<;>first|rfl|exact absurd rfl h
 have d:(op==CmpOp.NotIn)=false:=by cases op<;>first|rfl|exact absurd rfl h2
 cases b<;>simp[behindInMarks,e,d]
theorem mn{op:CmpOp}{r:R2}(f:fj X (compareOp op) r)(l:PE X a ta)(hb:PE X b tb)(e:behindInMarks op b=false):PE X (.Compare a [op] [b] pos) (AL r ta tb):=by
 intro j s m H Q I h;exact wpAny_Compare1 (y_ l hb I h λv u i x y n d g k q=>f j i m n x y v u Q d g k q) e
inductive vp(Q:Bool->Hp->Prop)(x:V)(H':Hp):Prop
 |mk(k:_)(e0:x=.bl k)(e1:Q k H')
def QJ(t:TE):TT:=λd H Q=>t d H λx e=>vp Q x e
theorem fu{op:CmpOp}{r:R2}(q:fj X (compareOp op) r)(D:PE X a ta)(hb:PE X b tb)(p:behindInMarks op b=false):PT X (.Compare a [op] [b] pos) (QJ (AL r ta tb)):=by
 intro d s f H Q I h;refine wpAny_isTrue_Compare1 (bh (D d s f H _ I h) λv i ⟨x,w,g,m,l⟩=>bh (hb d i f w _ g l) λu A ⟨y,E,j,F,C⟩=>
  bh (q d A f E x y v u _ j m F C) λc J ⟨z,t,G,B,k,e,n⟩=>?_) p
 subst e;cases B;exact Yd ⟨t,G,n⟩
inductive so(r':R2)(tc:TE)(σ:St)(Q:VK)(y z:V)(H3:Hp):Prop
 |mk(k:_)(e0:z=.bl k)(e1:(if k=true then tc σ H3 λw' H4=>r' y w' H4 Q else Q (.bl false) H3))
def PJ(r h:R2)(ta tb tc:TE):TE:=λd H Q=>ta d H λx f=>tb d f λy g=>r x y g λz e=>so h tc d Q y z e
theorem Sy{op i:CmpOp}{r l:R2}(F:fj X (compareOp op) r)(V:fj X (compareOp i) l)(S:PE X a ta)(hb:PE X b tb)(hc:PE X c tc)
  (D:lastMarks [op,i] [b,c]=false:=by with_unfolding_all rfl):PE X (.Compare a [op,i] [b,c] pos) (PJ r l ta tb tc):=by
 intro f s g H Q I h;refine Compare_chain (bh (S f s g H _ I h) λv t ⟨x,J,q,C,B⟩=>chain_link (bh (hb f t g J _ q B) λu K ⟨y,U,w,n,R⟩=>
  bh (F f K g U x y v u _ w C n R) λd T ⟨z,m,p,O,k,e,j⟩=>?_)) D
 subst e;cases O;refine Yd ?_;cases k with
 |false=>exact ite_ff ⟨.bl false,m,p,rfl,j⟩
 |true=>exact ite_tt (chain_last (bh (hc f T g m _ p j) λM A ⟨G,N,E,L,P⟩=>V f A g N y G u M Q E n L P))
theorem xe8{op i:CmpOp}{r l:R2}(N:fj X (compareOp op) r)(eQ:fj X (compareOp i) l)(ha:PE X a ta)(hb:PE X b tb)(hc:PE X c tc)
  (L:lastMarks [op,i] [b,c]=false:=by with_unfolding_all rfl):PT X (.Compare a [op,i] [b,c] pos) (QJ (PJ r l ta tb tc)):=by
 intro f s g H Q I h;refine isTrue_chain (bh (ha f s g H _ I h) λv A ⟨x,R,t,J,G⟩=>test_link (bh (hb f A g R _ t G) λu S ⟨y,H2,D,n,Z⟩=>
  bh (N f S g H2 x y v u _ D J n Z) λd s3 ⟨z,m,p,W,k,e,j⟩=>?_)) L
 subst e;cases W;refine Yd ?_;cases k with
 |false=>
  obtain⟨k',B,K⟩:=j;cases B;exact ite_ff ⟨m,p,K⟩
 |true=>
  refine ite_tt (test_last (bh (hc f s3 g m _ p j) λU E ⟨P,V,M,T,Y⟩=>bh (eQ f E g V y P u U _ M n T Y) λd' s5 ⟨z2,F,O,q,k2,C,w⟩=>?_));subst C;cases q;exact Yd ⟨F,O,w⟩
def ER(K:PySem.W.Frag)(x:V)(H:Hp)(k:Bool):Prop:=
 match x with
 |.ck=>k=false
 |.bl b=>k=b
 |.int i=>k=(i != 0)
 |.str y=>y.length<=sizeLine/\k=((y.length:Int) != 0)
 |.nB y=>y.size<=sizeLine/\k=((y.size:Int) != 0)
 |.ref p=>(∃e,bZ K H p e/\k=!e.isEmpty)\/(∃e,bf K H p e/\k=!e.isEmpty)\/∃d,H p=some (.dK d)/\k=!d.isEmpty
 |_=>False
theorem qW1{d:Type}{kvs:List (d×V)}{vs:List (d×aa)}(r:KV kvs vs):(!vs.isEmpty)=!kvs.isEmpty:=by
 cases r<;>rfl
theorem Tw{xs:List V}{d:List aa}(r:Vals xs d):(!d.toArray.isEmpty)=!xs.isEmpty:=by
 cases r<;>simp
theorem zS:(sizeLine:Nat)<2^63:=by rw[Xu];decide
theorem xD8:Oj X (λx H Q=>∃k,ER X.K x H k/\Q k H):=by
 intro F s J H x v Q I j h;obtain⟨k,e,q⟩:=h;have G:=zS;have E:sizeLine=16777216:=Xu;cases x with
 |ck=>
  cases j;have d:k=false:=e;subst d;exact truthy_none ⟨H,I,q⟩
 |bl b=>
  cases j;have d:k=b:=e;subst d;exact Yd ⟨H,I,q⟩
 |int i=>
  obtain⟨t,rfl⟩:=j;have d:k=(i != 0):=e;subst d;exact PySem.P.truthy_int ⟨H,I,q⟩
 |str y=>
  obtain⟨t,rfl⟩:=j;obtain⟨D,d⟩:y.length<=sizeLine/\k=((y.length:Int) != 0):=e;subst d;exact PySem.P.truthy_str 'a' ⟨H,I.tok _,q⟩
 |nB y=>
  obtain⟨t,rfl⟩:=j;obtain⟨D,d⟩:y.size<=sizeLine/\k=((y.size:Int) != 0):=e;subst d;exact PySem.W.truthy_bytes 'a' ⟨H,I.tok _,q⟩
 |ref p=>
  cases j;have d:(∃g,bZ X.K H p g/\k=!g.isEmpty)\/(∃g,bf X.K H p g/\k=!g.isEmpty)\/∃f,H p=some (.dK f)/\k=!f.isEmpty:=e;rcases d with⟨g,l,d⟩|⟨g,l,d⟩|⟨f,l,d⟩
  ·subst d;obtain⟨C,r,u,w⟩:=I.list l;have A:=r.length;exact wpAny_truthy_list u.isList (by simp only[ZN];lia) ⟨H,I.tok _,by rw[Tw r];exact q⟩
  ·subst d;obtain⟨C,r,u,w⟩:=I.tuple l;have A:=r.length;exact truthy_tuple u (by simp only[ZN];lia) ⟨H,I.tok _,by rw[Tw r];exact q⟩
  ·subst d;obtain⟨w,B,n,r,m⟩:f.length<=sizeLine/\(p==sysModules)=false/\∃n,KV f n/\s.heap.DictOf (gy X.prog X.w) p n:=I.aS p _ l;have A:f.length=n.length:=X8 r;exact wpAny_truthy_dict B m 'a' ⟨H,I.tok _,by rw[qW1 r];exact q⟩
 |_=>exact(show False from e).elim
theorem xe9(q:PE X a ta)(n:∀d,isTrue a X.env d=(do let v <- d;standAt a.pos;holding [v] (truthy v))):
  PT X a (λe H Q=>ta e H λx f=>∃k,ER X.K x f k/\Q k f):=by
 intro g s e H Q I h;exact isTrue_plain (bh (q g s e H _ I h) λv p ⟨x,m,j,l,i⟩=>xD8 g p e m x v Q j l i) (n _)
inductive jw(x:V)(y:V)(H:Hp)(Q:VK):Prop
 |mk(i:_)(j:_)(aT:x=.str i)(eR:y=.str j)(dX:i.length+j.length<=sizeLine)(aR:Q (.str (i++j)) H)
theorem qW2:fj X (binaryOp .Add) jw:=by
 intro k s l H x y v u Q I e g h;obtain⟨i,j,rfl,rfl,d,q⟩:=h;obtain⟨t,rfl⟩:=e;obtain⟨f,rfl⟩:=g;exact add_str (λf m=>⟨.str (i++j),H,I.tok _,⟨_,rfl⟩,q⟩) d
theorem iR{x:V}{us:List aa}(r:Vals [x] us):∃u,us=[u]/\RelV x u:=by
 cases r with
 |cons e d=>cases d;exact⟨_,rfl,e⟩
theorem Jh{x y:V}{us:List aa}(r:Vals [x,y] us):∃u d,us=[u,d]/\RelV x u/\RelV y d:=by
 cases r with
 |cons f h=>
  cases h with
  |cons e g=>cases g;exact⟨_,_,rfl,f,e⟩
inductive mR(xs:List V)(H:Hp)(Q:VK):Prop
 |mk(i:_)(aT:xs=[.int i])(eR:Q (.int (if i<0 then -i else i)) H)
theorem F_:gZ X (.builtin "abs") mR:=by
 intro j s e H g d Q I r h;obtain⟨i,rfl,q⟩:=h;obtain⟨u,rfl,t,rfl⟩:=iR r;exact call_abs_int λu f=>⟨.int (if i<0 then -i else i),H,I.tok _,⟨_,rfl⟩,q⟩
inductive lX(xs:List V)(H:Hp)(Q:VK):Prop
 |mk(i:_)(j:_)(aT:xs=[.int i,.int j])(eR:Q (.int (if j>i then j else i)) H)
theorem B0(hc:X.calm=true):gZ X (.builtin "max") lX:=by
 intro l s n H p e Q I r h;obtain⟨i,j,rfl,q⟩:=h;obtain⟨u,g,rfl,⟨t,rfl⟩,⟨m,rfl⟩⟩:=Jh r;refine max_two_ints (I.ok.hd hc) λf v k=>⟨_,H,I.kept k,?_,q⟩;by_cases d:j>i
 ·rw[Zn d,Zn d];exact⟨_,rfl⟩
 ·rw[Zj d,Zj d];exact⟨_,rfl⟩
inductive lV(xs:List V)(H:Hp)(Q:VK):Prop
 |mk(i:_)(j:_)(aT:xs=[.int i,.int j])(eR:Q (.int (if j<i then j else i)) H)
theorem xD(hc:X.calm=true):gZ X (.builtin "min") lV:=by
 intro l s n H p e Q I r h;obtain⟨i,j,rfl,q⟩:=h;obtain⟨u,g,rfl,⟨t,rfl⟩,⟨m,rfl⟩⟩:=Jh r;refine min_two_ints (I.ok.hd hc) λf v k=>⟨_,H,I.kept k,?_,q⟩;by_cases d:j<i
 ·rw[Zn d,Zn d];exact⟨_,rfl⟩
 ·rw[Zj d,Zj d];exact⟨_,rfl⟩
theorem q19:gZ X (.type "int") (λd H Q=>(∃i,d=[.int i]/\Q (.int i) H)\/∃k,d=[.bl k]/\Q (.int (if k then 1 else 0)) H):=by
 intro j s g H d f Q I r h;rcases h with⟨i,rfl,q⟩|⟨k,rfl,q⟩
 ·obtain⟨u,rfl,t,rfl⟩:=iR r;exact call_int_int ⟨.int i,H,I,⟨_,rfl⟩,q⟩
 ·obtain⟨u,rfl,e⟩:=iR r;cases e;exact call_int_bool ⟨.int (if k then 1 else 0),H,I.tok _,⟨_,rfl⟩,q⟩
inductive iF(xs:List V)(H:Hp)(Q:VK):Prop
 |mk(i:_)(aT:xs=[.int i])(eR:i.natAbs.log2<1920)(dX:Q (.str (toString i)) H)
theorem qF3:gZ X (.type "str") iF:=by
 intro j s f H g e Q I r h;obtain⟨i,rfl,d,q⟩:=h;obtain⟨u,rfl,t,rfl⟩:=iR r;exact PySem.P.str_of_int d ⟨.str _,H,I.tok _,⟨_,rfl⟩,q⟩
end
structure mS(h:ao)(x dx C:af)(mA:ar->Option aa):Prop where
 obj:h.get? x=some (PySem.W.instObj C dx)
 ns:h.Ns1 dx mA
 ne:dx≠x
theorem q20{h:ao}{b:af}{f:ar->Option aa}(n:h.Ns1 b f):∃c,h.get? b=some c/\∀name,PySem.W.lookIn name c=some (f name):=by
 obtain⟨o,d,p,g,m,hk,_,j⟩:=n;refine⟨o,g,λname=>?_⟩;have e:=j name;unfold nsFind findBy at e;rw[<- Array.find?_toList]at e;unfold PySem.W.lookIn;rw[m];dsimp only;split
 ·rename_i y q;rw[q]at e;exact Yi some e
 ·rename_i q;rw[q]at e;have a:d.toList.any (·.refKey)=false:=by
   rw[VQ];intro y k;obtain⟨z,t,i⟩:=hk y (Array.mem_toList_iff.mp k);simp[DictEntry.refKey,i]
  have l:¬d.toList.any (·.refKey)=true:=by rw[a];exact ZA
  rw[Zj l];exact Yi some e
theorem mS.look{h:ao}{x c C:af}{b:ar->Option aa}(I:mS h x c C b):∃a,PySem.W.InstAt h x (PySem.W.instObj C c) C (some a)/\∀name,PySem.W.lookIn name a=some (b name):=
 let ⟨a,ho,hl⟩:=q20 I.ns
 ⟨a,⟨I.obj,rfl,rfl,ho⟩,hl⟩
section
variable{x dx C f:af}{mA:ar->Option aa}{name:ar}{v:aa}
theorem xs4{a:Bool}{Q:aa->ae->Prop}(X:K.In s.heap)(I:mS s.heap x dx C mA)(d:PySem.W.plainGet K C name=true)(b:PySem.W.hasDictIn K C=true)
  (e:PySem.W.findIn K (.ref C) name=some none) (g:mA name=some v) (i:PySem.W.handedIn v=true) (h:Q v {s with toks:=s.toks+1}):
  ah (ai prog w) A (getAttr (.ref x) name a) Q E s:=by
 obtain⟨j,J,c⟩:=I.look;exact PySem.W.get_value X J (Vp d).1 (PySem.W.findObj_own b e rfl (by rw[c,g])) i h
theorem xf0{pl:Sem Bool}{Q:aa×List aa->ae->Prop}(X:K.In s.heap)(I:mS s.heap x dx C mA)(a:PySem.W.plainGet K C name=true)
  (b:PySem.W.findIn K (.ref C) name=some (some (.ref f))) (c:PySem.W.isFn K (.ref f)=true) (g:mA name=none) (h:Q (.ref f,[.ref x]) s):
  ah (ai prog w) A (getMethod (.ref x) name pl) Q E s:=by
 obtain⟨d,J,e⟩:=I.look;exact PySem.W.method_fn X J (Vp a).1 (Vp a).2 b (YT.mp c) (by show(PySem.W.lookIn name d).map (·.isSome)=some false;rw[e,g];rfl) h
theorem xs5{i:List ar}{Q:Unit->ae->Prop}(X:K.In s.heap)(I:mS s.heap x dx C mA)
  (hs:PySem.W.findIn K (.ref C) "__setattr__"=some (some (.builtin "object.__setattr__"))) (p:PySem.W.plainOver K C=true) (l:PySem.W.takerIn K C name=some none) (n:PySem.W.hasDictIn K C=true)
  (hw:PySem.Within mA i) (hsz:i.length<=sizeLine)
  (h:∀c,mS c x dx C (λy=>if y=name then some v else mA y)->Heap.SameBut dx s.heap c->Q () {s with heap:=c,toks:=s.toks+2}):
  ah (ai prog w) A (setAttr (.ref x) name v) Q E s:=by
 obtain⟨G,J,H⟩:=I.look;refine PySem.W.set_plain X J hs (PySem.W.osa_open (s:={s with toks:=s.toks+1}) (r:=none) X J p l λb=>?_);obtain⟨F,B,u⟩:=PySem.W.any_some n;have q:s.heap.get? x=some ⟨.ref C,some dx,.plain,#[]⟩:=I.obj;refine Za (Zb (Za (Za (wpAny_loadPart q (Za (PySem.W.Looks.here (s:={s with toks:=s.toks+1}) (PySem.W.looks_clsIn X B) ?_))))));rw[u];refine Zb (a:=some dx) (Za (Zb (Za ?_)));refine wpAny_nsSet1 (s:={s with toks:=s.toks+1}) I.ns λc k j=>?_;obtain⟨D,m,t,g,d,e⟩:=k.count (PySem.Within.cons name v hw);refine Za (wpAny_lookBehind g (by rw[d];exact pastItsLine_dict (ZD e (by rw[Z5];exact xY hsz))) ?_);exact Zb (h _ ⟨(j.2 _ (YK I.ne)).trans I.obj,k,I.ne⟩ j)
theorem xf1{R:Result->ae->Prop}{vs:List aa}{b:List (ar×aa)}(X:K.In s.heap)(e:PySem.W.makesIn K C=true)
  (i:PySem.W.findIn K (.ref C) "__init__"=some (some (.ref f))) (c:PySem.W.typeIn K (.ref f)=some (.type "function"))
  (h:codeAny (ai prog w) (A.under (.builtin "type.__call__" ⟨.ref C::vs,b⟩)) (.call (.ref f) ⟨.ref (s.heap.objs.size+1)::vs,b⟩) (PySem.W.InitBack (s.heap.objs.size+1) R)
   {s with heap:=(s.heap.push PySem.W.emptyDict).push (PySem.W.instObj C s.heap.objs.size)}):
  codeAny (ai prog w) A (.call (.ref C) ⟨vs,b⟩) R s:=by
 obtain⟨j,g,d,t,k⟩:=s;exact PySem.W.make_core (PySem.W.makes_of X e) (PySem.W.looks_findIn X i) (λa=>PySem.W.bind_fn X a c) (.inl rfl) h
end
def dS(f:ar)(v:V):List (ar×V)->List (ar×V)
 |[]=>[(f,v)]
 |(g,x)::r=>if g=f then(g,v)::r else(g,x)::dS f v r
theorem xG(f g:ar)(v:V):∀fs:List (ar×V),(dS f v fs).lookup g=if g=f then some v else fs.lookup g
 |[]=>by
  show List.lookup g [(f,v)]=_;by_cases h:g=f
  ·have hb:(g==f)=true:=YT.mpr h;simp only[List.lookup,hb,Zn h]
  ·have hb:(g==f)=false:=YC.mpr h;simp only[List.lookup,hb,Zj h]
 |(k,x)::r=>by
  have a:=xG f g v r;rw[show dS f v ((k,x)::r)=(if k=f then(k,v)::r else(k,x)::dS f v r)from rfl];by_cases hk:k=f
  ·rw[Zn hk];by_cases h:g=k
   ·have hb:(g==k)=true:=YT.mpr h;simp only[List.lookup,hb,Zn (h.trans hk)]
   ·have hb:(g==k)=false:=YC.mpr h;simp only[List.lookup,hb,Zj (λe:g=f=>h (e.trans hk.symm))]
  ·rw[Zj hk];by_cases h:g=k
   ·have hb:(g==k)=true:=YT.mpr h;simp only[List.lookup,hb,Zj (λe:g=f=>hk (h.symm.trans e))]
   ·have hb:(g==k)=false:=YC.mpr h;simp only[List.lookup,hb];exact a
theorem Kn(f:ar)(v:V):∀fs:List (ar×V),f∈(dS f v fs).map (·.1)/\∀g,g∈fs.map (·.1)->g∈(dS f v fs).map (·.1)
 |[]=>⟨by simp[dS],λg h=>by simp at h⟩
 |(k,x)::r=>by
  obtain⟨b,a⟩:=Kn f v r;rw[show dS f v ((k,x)::r)=(if k=f then(k,v)::r else(k,x)::dS f v r)from rfl];by_cases hk:k=f
  ·rw[Zn hk];subst hk;exact⟨by simp,λg h=>by simpa using h⟩
  ·rw[Zj hk];refine⟨?_,λg h=>?_⟩
   ·rw[Zw];exact Zq _ b
   ·rw[Zw]at h ⊢;rcases Zz.mp h with e|e
    ·exact Zz.mpr (.inl e)
    ·exact Zq _ (a g e)
theorem Ru(f:ar)(v:V):∀fs:List (ar×V),(dS f v fs).length<=fs.length+1
 |[]=>by simp[dS]
 |(k,x)::r=>by
  have a:=Ru f v r;rw[show dS f v ((k,x)::r)=(if k=f then(k,v)::r else(k,x)::dS f v r)from rfl];by_cases hk:k=f
  ·rw[Zn hk,Z5,Z5];exact Ab
  ·rw[Zj hk,Z5,Z5];exact xY a
theorem eB.some_of{v:V}{o:Option aa}(r:eB (some v) o):∃u,o=some u/\RelV v u:=by
 cases o with
 |none=>exact(show False from r).elim
 |some u=>exact⟨u,rfl,r⟩
theorem eB.none_of{o:Option aa}(r:eB none o):o=none:=by
 cases o with
 |none=>rfl
 |some u=>exact(show False from r).elim
theorem q21{v:V}{u:aa}(r:RelV v u):PySem.W.handedIn u=true:=by
 cases v with
 |ck=>cases(show u=Value.none from r);rfl
 |bl b=>cases(show u=Value.bool b from r);rfl
 |int i=>obtain⟨t,e⟩:=(show ∃t,u=Value.int i t from r);cases e;rfl
 |str x=>obtain⟨t,e⟩:=(show ∃t,u=Value.str x t from r);cases e;rfl
 |nB b=>obtain⟨t,e⟩:=(show ∃t,u=Value.bytes b t from r);cases e;rfl
 |yy b=>obtain⟨t,e⟩:=(show ∃t,u=Value.float b t from r);cases e;rfl
 |ref a=>cases(show u=Value.ref a from r);rfl
 |ty n=>cases(show u=Value.type n from r);rfl
section
variable{H H':Hp}{h h':ao}{a C dx:af}{fs Ip:List (ar×V)}
theorem HB(g:dQ P w H h)(e:H a=some (.ins C dx fs)):∃b,mS h a dx C b/\(∀f,eB (fs.lookup f) (b f))/\PySem.Within b (fs.map (·.1))/\fs.length<=1000/\H dx=some (.own a):=by
 obtain⟨d,z,c,ob,b,n,r,q⟩:=(show a_ P w H h a (.ins C dx fs)from g a _ e);exact⟨b,⟨ob,n,c⟩,r,q,z,d⟩
end
structure rz(K:PySem.W.Frag)(C:af):Prop where
 pg:PySem.W.plainGet K C Str.empty=true
 hd:PySem.W.hasDictIn K C=true
 po:PySem.W.plainOver K C=true
 sa:PySem.W.findIn K (.ref C) "__setattr__"=some (some (.builtin "object.__setattr__"))
theorem rz.get{K:PySem.W.Frag}{C:af}(c:rz K C)(f:ar):PySem.W.plainGet K C f=true:=c.pg
def c6(K:PySem.W.Frag)(C:af)(f:ar):Prop:=PySem.W.findIn K (.ref C) f=some none
theorem c6.AJ{K:PySem.W.Frag}{C:af}{f:ar}(n:c6 K C f):PySem.W.takerIn K C f=some none:=by
 unfold PySem.W.takerIn;rw[show PySem.W.findIn K (.ref C) f=some none from n]
 rfl
structure Meth(K:PySem.W.Frag)(C:af)(m:ar)(f:af):Prop where
 at_:PySem.W.findIn K (.ref C) m=some (some (.ref f))
 fn:PySem.W.isFn K (.ref f)=true
 kp:PySem.W.keepIn K (.ref f)=true
section
variable{X:Cx}{j8:List (af×ay)}{σ:St}{H:Hp}{s:ae}{a C dx:af}{fs:List (ar×V)}{f:ar}{v:V}{A:aq}{E:aa->ae->Prop}
theorem qW3{b:Bool}{Q:aa->ae->Prop}(I:Inv X j8 σ H s)(e:H a=some (.ins C dx fs))(c:rz X.K C)(n:c6 X.K C f)(l:fs.lookup f=some v)
  (h:∀u g,Inv X j8 σ H g->RelV v u->Q u g):ah (ai X.prog X.w) A (getAttr (.ref a) f b) Q E s:=by
 obtain⟨j,O,r,_,_,_⟩:=HB I.aS e;obtain⟨u,i,d⟩:=eB.some_of (v:=v) (o:=j f) (by rw[<- l];exact r f);exact xs4 I.g_ O (c.get f) c.hd n i (q21 d) (h u _ (I.tok _) d)
theorem qW4{m:ar}{g:af}{pl:Sem Bool}{Q:aa×List aa->ae->Prop}(I:Inv X j8 σ H s)(e:H a=some (.ins C dx fs))(c:rz X.K C)(k:Meth X.K C m g)(l:fs.lookup m=none)
  (h:Q (.ref g,[.ref a]) s):ah (ai X.prog X.w) A (getMethod (.ref a) m pl) Q E s:=by
 obtain⟨d,O,r,_,_,_⟩:=HB I.aS e;have b:d m=none:=eB.none_of (by rw[<- l];exact r m);exact xf0 I.g_ O (c.get m) k.at_ k.fn b h
theorem qW5{y:V}{u:aa}{Q:Unit->ae->Prop}(I:Inv X j8 σ H s)(e:H a=some (.ins C dx fs))(c:rz X.K C)(n:c6 X.K C f)(F:fs.length<1000)(m:RelV y u)
  (h:∀k,Inv X j8 σ (upd H a (.ins C dx (dS f y fs))) k->Q () k):ah (ai X.prog X.w) A (setAttr (.ref a) f u) Q E s:=by
 obtain⟨l,O,r,j,_,i⟩:=HB I.aS e;have p:(fs.map (·.1)).length<=sizeLine:=by rw[Ze,Xu];lia
 refine xs5 I.g_ O c.sa c.po n.AJ c.hd j p λt d B=>h _ ?_;have D:∃o,t.get? dx=some o:=let ⟨o,_,_,e',_⟩:=d.ns;⟨o,e'⟩;refine I.write (x:=a) (e:=dx) (by rw[e];exact True.intro) (.inr i) (λb q hb z=>(B.2 b hb).trans z) D ?_;refine⟨by rw[bj O.ne];exact i,?_,O.ne,d.obj,_,d.ns,λg=>?_,λg w=>?_⟩
 ·have:=Ru f y fs;lia
 ·show eB ((dS f y fs).lookup g) (if g=f then some u else l g);rw[xG];by_cases q:g=f
  ·rw[Zn q,Zn q];exact m
  ·rw[Zj q,Zj q];exact r g
 ·by_cases q:g=f
  ·rw[q];exact(Kn f y fs).1
  ·refine(Kn f y fs).2 g (j g λz=>w ?_);show(if g=f then some u else l g)=none;rw[Zj q];exact z
theorem Inv.made(I:Inv X j8 σ H s):Inv X j8 σ (upd (upd H s.heap.objs.size (.own (s.heap.objs.size+1))) (s.heap.objs.size+1) (.ins C s.heap.objs.size []))
  {s with heap:=(s.heap.push PySem.W.emptyDict).push (PySem.W.instObj C s.heap.objs.size)}:=by
 have d:(s.heap.push PySem.W.emptyDict).get? s.heap.objs.size=some PySem.W.emptyDict:=Zi s.heap rfl;have j:((s.heap.push PySem.W.emptyDict).push (PySem.W.instObj C s.heap.objs.size)).get? (s.heap.objs.size+1)=some (PySem.W.instObj C s.heap.objs.size):=by
  have:=Zi (s.heap.push PySem.W.emptyDict) (o:=PySem.W.instObj C s.heap.objs.size) rfl
  rwa [Z4]at this
 have i:(s.heap.push PySem.W.emptyDict).Ns s.heap.objs.size (λ_=>none):=⟨PySem.W.emptyDict,#[],_,d,rfl,(λe h=>absurd h 'c'),λ_=>rfl⟩;have g:=I.laid (a:=s.heap.objs.size) (o:=.own (s.heap.objs.size+1)) (h':=s.heap.push PySem.W.emptyDict) (t':=s.toks) (λb u q=>Zd _ q) (Zg _) ⟨_,d⟩;refine g.laid (a:=s.heap.objs.size+1) (o:=.ins C s.heap.objs.size []) (t':=s.toks) (λb u q=>Zd _ q) (WU (Z4 _ _)) ?_;have c:s.heap.objs.size≠s.heap.objs.size+1:=Zu (Yb _);refine⟨by rw[bj c,aZ],Zs _,c,j,λ_=>none,(Heap.Ns1.of_empty i).at λo q=>Zd _ q,λ_=>True.intro,λy k=>absurd rfl k⟩
theorem xs6{prog:ag}{w:aj}{env:Env}{e:au}{f:ar}{b:az}{s:ae}{Q:aa->ae->Prop}(hb:attributeBase e f env (eval e env)=eval e env)
  (h:ah (ai prog w) A (eval e env) (λo c=>ah (ai prog w) A (getAttr o f true) Q E c) E s):ah (ai prog w) A (eval (.Attribute e f b) env) Q E s:=
 Attribute_any_ h (by rw[arm_eval_Attribute,hb])
end
inductive AM(K:PySem.W.Frag)(f:ar)(Q:VK)(x:V)(H1:Hp):Prop
 |mk(a:_)(C:_)(dx:_)(fs:_)(v:_)(e0:x=.ref a)(e1:H1 a=some (.ins C dx fs))(e2:rz K C)(e3:c6 K C f)(e4:fs.lookup f=some v)(e5:Q v H1)
def JL(K:PySem.W.Frag)(ta:TE)(f:ar):TE:=λb H Q=>ta b H λx a=>AM K f Q x a
inductive Bs(K:PySem.W.Frag)(f:ar)(y:V)(D:Ends)(σ:St)(x:V)(H2:Hp):Prop
 |mk(a:_)(C:_)(dx:_)(fs:_)(e0:x=.ref a)(e1:H2 a=some (.ins C dx fs))(e2:rz K C)(e3:c6 K C f)(e4:fs.length<1000)(e5:D.nx σ (upd H2 a (.ins C dx (dS f y fs))))
def J8(K:PySem.W.Frag)(ta c:TE)(f:ar):TS:=λD a H=>c a H λy b=>ta a b λx d=>Bs K f y D a x d
section
variable{X:Cx}{o e value:au}{f:ar}{pos pos' cH:az}{ta tv:TE}
theorem zR(g:PE X e ta)(hb:attributeBase e f X.env (eval e X.env)=eval e X.env):PE X (.Attribute e f pos) (JL X.K ta f):=by
 intro p s r H Q I h;refine xs6 hb (bh (g p s r H _ I h) λu t ⟨x,m,d,k,a,C,A,fs,v,ex,j,c,n,l,q⟩=>?_);subst ex;obtain rfl:u=Value.ref a:=k;exact qW3 d j c n l λw y i b=>⟨v,m,i,b,q⟩
theorem PH(A:PE X o ta)(t:PE X value tv)(hs:swapsWith value (some (.Attribute o f pos')) pos.line X.env=pure false):PS X (.Assign [.Attribute o f pos'] value pos) (J8 X.K ta tv f):=by
 intro d s b H D I h;refine plainObj_wpAny_Assign_Attribute (bh (t d s b H _ I h) λu i ⟨y,r,g,v,q⟩=>bh (A d i b r _ g q) λm E ⟨x,J,j,p,a,C,F,fs,ex,k,c,n,l,w⟩=>?_) hs;subst ex;obtain rfl:m=Value.ref a:=p;exact qW5 j k c n l v λG B=>⟨b,_,B,w⟩
end
section
variable{X:Cx}{j8:List (af×ay)}{σ:St}{H:Hp}{s:ae}{A:aq}{E:aa->ae->Prop}{Q:aa->ae->Prop}{c:aa}{b:Bool}
inductive gS(K:PySem.W.Frag)(H:Hp):V->aa->Prop where
 |ck:gS K H .ck (.type "NoneType")
 |bl (x:Bool):gS K H (.bl x) (.type "bool")
 |int (i:Int):gS K H (.int i) (.type "int")
 |str (x:ar):gS K H (.str x) (.type "str")
 |yy (x:UInt64):gS K H (.yy x) (.type "float")
 |lst {a:af}{xs:List V}(e:H a=some (.lst xs)):gS K H (.ref a) (.type "list")
 |mF {a:af}{o:ay}{xs:List V}(e:H a=some (.mF o (.lst xs))):gS K H (.ref a) (.type "list")
 |tup {a:af}{xs:List V}(e:H a=some (.tup xs)):gS K H (.ref a) (.type "tuple")
 |dK {a:af}{kvs:List (Key×V)}(e:H a=some (.dK kvs)):gS K H (.ref a) (.type "dict")
 |dT {a:af}{kvs:List (List Key×V)}(e:H a=some (.dT kvs)):gS K H (.ref a) (.type "dict")
 |ins {a C dx:af}{fs:List (ar×V)}(e:H a=some (.ins C dx fs)) (cl:rz K C) (ha:PySem.W.findIn K (.ref C) "__class__"=some (some (.builtin "object.__class__")))
   (hn:PySem.W.specialIn K (.builtin "object.__class__") "__get__"=some (some (.builtin "getset_descriptor.__get__"))) (ny:PySem.W.takesIn K (.builtin "object.__class__")=some true)
   (hm:PySem.W.mroIn K C (.type "object")=some true):gS K H (.ref a) (.ref C)
theorem q22{x:V}{u t:aa}(I:Inv X j8 σ H s)(f:RelV x u)(ty:gS X.K H x t)(e:PySem.W.kitOne X.K t c=some b)(h:∀D,Q (.bool b) {s with toks:=D}):
  ah (ai X.prog X.w) A (call (.builtin "isinstance") [u,c]) Q E s:=by
 cases ty with
 |ck=>cases(show u=Value.none from f);exact YR PySem.W.kitx_none I.g_ True.intro e (λz=>nomatch z) h
 |bl y=>cases(show u=Value.bool y from f);exact YR PySem.W.kitx_bool I.g_ True.intro e (λz=>nomatch z) h
 |int i=>obtain⟨t,q⟩:=(show ∃t,u=Value.int i t from f);cases q;exact YR PySem.W.kitx_int I.g_ True.intro e (λz=>nomatch z) h
 |str y=>obtain⟨t,q⟩:=(show ∃t,u=Value.str y t from f);cases q;exact YR PySem.W.kitx_str I.g_ True.intro e (λz=>nomatch z) h
 |yy y=>obtain⟨t,q⟩:=(show ∃t,u=Value.float y t from f);cases q;exact YR PySem.W.kitx_float I.g_ True.intro e (λz=>nomatch z) h
 |@lst a j d=>
  cases(show u=Value.ref a from f);obtain⟨_,_,n,_,h1⟩:=(show a_ X.prog X.w H s.heap a (.lst j)from I.aS a _ d);exact YR PySem.W.kitx_list I.g_ ⟨_,h1,rfl⟩ e (λz=>nomatch z) h
 |@mF a ob j d=>
  cases(show u=Value.ref a from f);obtain⟨_,_,_,n,_,h1⟩:=(show a_ X.prog X.w H s.heap a (.mF ob (.lst j))from I.aS a _ d);exact YR PySem.W.kitx_list I.g_ ⟨_,h1,rfl⟩ e (λz=>nomatch z) h
 |@tup a j d=>
  cases(show u=Value.ref a from f);obtain⟨_,_,_,p⟩:=(show a_ X.prog X.w H s.heap a (.tup j)from I.aS a _ d);obtain⟨o,h1,h2,_⟩:=p;exact YR PySem.W.kitx_tuple I.g_ ⟨o,h1,h2⟩ e (λz=>nomatch z) h
 |@dK a g d=>
  cases(show u=Value.ref a from f);obtain⟨_,_,F,_,p⟩:=(show a_ X.prog X.w H s.heap a (.dK g)from I.aS a _ d);obtain⟨o,m,l,h1,h2,_⟩:=p;exact YR PySem.W.kitx_dict I.g_ ⟨o,h1,h2.1⟩ e (λz=>nomatch z) h
 |@dT a g d=>
  cases(show u=Value.ref a from f);obtain⟨_,_,j,_,o,m,l,h1,h2,_⟩:=(show a_ X.prog X.w H s.heap a (.dT g)from I.aS a _ d);exact YR PySem.W.kitx_dict I.g_ ⟨o,h1,h2.1⟩ e (λz=>nomatch z) h
 |@ins a C G fs d k B v w r=>
  cases(show u=Value.ref a from f);obtain⟨L,O,_⟩:=HB I.aS d;obtain⟨K,J,_⟩:=O.look;exact YR (PySem.W.kitx_own (k.get _) k.hd B v w r) I.g_ J e (λz=>nomatch z) h
end
structure aV(k:Nat)(A:aq):Prop where
 hd:A.handled=none
 dp:A.depth+3*k+5<recursionLimit
 un:A.units+16*k+200<cLine
 gd:A.guards=some []
theorem aV.mono{j k:Nat}{A:aq}(r:aV k A)(h:j<=k):aV j A:=⟨r.hd,by have:=r.dp;lia,by have:=r.un;lia,r.gd⟩
theorem aV.deeper{k:Nat}{A:aq}(r:aV (k+1) A)(env:Env):aV k (A.deeper env):=
 ⟨r.hd,by have:=r.dp;show A.depth+1+3*k+5<_;exact Q8 this,by have:=r.un;show A.units+3+16*k+200<_;lia,r.gd⟩
theorem qW6{A:aq}{C:af}{us:List aa}{a:List (ar×aa)}:(A.under (.builtin "type.__call__" ⟨.ref C::us,a⟩)).depth=A.depth+1:=by
 first|rfl|simp[Around.under,Code.weight,Code.isCreation,Code.isGuard,Code.isCaller,Code.frames,Code.isFrame,guardIds]
theorem qW7{A:aq}{C:af}{us:List aa}{a:List (ar×aa)}:(A.under (.builtin "type.__call__" ⟨.ref C::us,a⟩)).units=A.units+1:=by
 first|rfl|simp[Around.under,Code.cUnits,Code.frames,Code.isFrame]
theorem qL9{A:aq}{C:af}{us:List aa}{a:List (ar×aa)}:(A.under (.builtin "type.__call__" ⟨.ref C::us,a⟩)).guards=A.guards:=by
 first|rfl|(unfold Around.under;simp[Code.guards,Code.isGuard,guardIds,pushGuards])|(cases h:A.guards<;>simp[Around.under,Code.guards,Code.isGuard,guardIds,pushGuards,h])
theorem aV.make{k:Nat}{A:aq}(r:aV (k+1) A)(C:af)(us:List aa)(a:List (ar×aa)):aV k (A.under (.builtin "type.__call__" ⟨.ref C::us,a⟩)):=
 ⟨r.hd,by have:=r.dp;rw[qW6];exact Q8 this,by have:=r.un;rw[qW7];lia,by rw[qL9];exact r.gd⟩
theorem aV.depth{k:Nat}{A:aq}(r:aV k A):A.depth<recursionLimit:=by have:=r.dp;lia
theorem aV.units{k:Nat}{A:aq}(r:aV k A):A.units+64<cLine:=by have:=r.un;lia
def nF:TA:=λ_ H Q=>Q [] H
def uV(ta:TE)(tr:TA):TA:=λa H Q=>ta a H λx b=>tr a b λd c=>Q (x::d) c
section
variable{X:Cx}{e:au}{es:List au}{te:TE}{t:TA}{pos:az}
theorem aI:PA X [] nF:=λ_ _ _ _ H Q I h=>Calls.spliced_nil ⟨[],H,I,.nil,h⟩
theorem aF(m:PE X e te)(l:PA X es t)(hs:starEach (e::es) X.env=(false,eval e X.env)::starEach es X.env:=by rfl):PA X (e::es) (uV te t):=by
 intro pos a s b H Q I h;rw[hs];show ah _ _ (spliced ((false,eval e X.env)::backTo pos (starEach es X.env))) _ _ s;refine Calls.spliced_cons (bh (m a s b H _ I h) λu d ⟨x,j,c,i,g⟩=>?_);exact bh (l pos a d b j _ c g) λr v ⟨q,n,f,p,k⟩=>⟨x::q,n,f,.cons i p,k⟩
def JE(t:TA):TE:=λc H Q=>t c H λb a=>b.length<=sizeLine/\∀p,a p=none->Q (.ref p) (upd a p (.tup b))
def JH(t:TA):TE:=λc H Q=>t c H λb a=>b.length<=sizeLine/\∀p,a p=none->Q (.ref p) (upd a p (.lst b))
theorem gf {x1} (h:PA X es t):PE X (.Tuple es x1 pos) (JE t):=by
 intro k s i H Q I g;refine wpAny_Tuple_spliced (bh (h pos k s i H _ I g) λl a ⟨j,d,c,r,z,q⟩=>⟨by rw[<- r.length];exact z,?_⟩);have f:d a.heap.objs.size=none:=c.aS.fresh (Zg _);refine⟨.ref a.heap.objs.size,upd d a.heap.objs.size (.tup j),c.laid (t':=a.toks) (λb u e=>Zd _ e) (Zg _) ?_,rfl,q _ f⟩;exact⟨z,l,r,⟨_,Zi _ rfl,rfl,⟨_,rfl⟩,rfl⟩⟩
theorem jh(h:PA X es t):PE X (.List es pos) (JH t):=by
 intro k s i H Q I g;refine wpAny_List_spliced (bh (h pos k s i H _ I g) λl a ⟨j,d,c,r,z,q⟩=>⟨by rw[<- r.length];exact z,?_⟩);have f:d a.heap.objs.size=none:=c.aS.fresh (Zg _);refine⟨.ref a.heap.objs.size,upd d a.heap.objs.size (.lst j),c.laid (t':=a.toks) (λb u e=>Zd _ e) (Zg _) ?_,rfl,q _ f⟩;exact⟨z,l,0,r,Zi _ rfl⟩
end
abbrev Sp:=List V->Hp->VK->XK->Prop
abbrev oO:=List Env->Hp->ae->XK->aa->ae->Prop
structure mT(P:ag)(w:aj)(K:PySem.W.Frag)(mg:ar->Option aa)(base:ao)(A:aq)(outer:List Env)(s:ae)(H:Hp):Prop where
 frames:A.frames=some outer
 mod:Mod K mg base
 bs:∀b o,base.get? b=some o->s.heap.get? b=some o/\H b=none
 oh:base.objs.size<=s.heap.objs.size
 dW:s.heap.FunFrames base outer
 qX:∀b∈dC outer,H b=none
 aS:dQ P w H s.heap
 bare:AllBare s.gens
def CE(outer:List Env)(P:ag)(w:aj)(H:Hp)(s:ae)(Q:VK)(u:aa)(s':ae):Prop:=
 ∃v a,s'.os=s.os/\AllBare s'.gens/\Un (dC outer) [] H a s.heap s'.heap/\dQ P w a s'.heap/\RelV v u/\Q v a
def CR(CX:oO)(outer:List Env)(P:ag)(w:aj)(H:Hp)(s:ae)(Q:VK)(E:XK)(r:Result)(s':ae):Prop:=
 match r with
 |.ok (.ret u)=>CE outer P w H s Q u s'
 |.ok _=>False
 |.error e=>CX outer H s E e s'
structure aB(P:ag)(w:aj)(K:PySem.W.Frag)(mg:ar->Option aa)(base:ao)(CX:oO)(k:Nat)(f:af)(fd:ak)(ps:List ar)(sp:Sp):Prop where
 len:∀vs H Q E,sp vs H Q E->vs.length=ps.length
 run:∀(A:aq)(outer:List Env)(s:ae)(H:Hp)(args:Args)(us:List aa)(vs:List V)(Q:VK)(E:XK),aV k A->mT P w K mg base A outer s H->BindsTo s fd args (ps.zip us)->Vals vs us->sp vs H Q E ->
  codeAny (ai P w) A (.call (.ref f) args) (CR CX outer P w H s Q E) s
theorem mT.make{P:ag}{w:aj}{K:PySem.W.Frag}{mg:ar->Option aa}{base:ao}{A:aq}{outer:List Env}{s:ae}{H:Hp}(e:mT P w K mg base A outer s H)(C:af)(us:List aa)(a:List (ar×aa)):
  mT P w K mg base (A.under (.builtin "type.__call__" ⟨.ref C::us,a⟩)) outer s H:=⟨by first|exact e.frames|(simpa[Around.under,Code.envs,Code.isFrame,pushEnvs]using e.frames),e.mod,e.bs,e.oh,e.dW,e.qX,e.aS,e.bare⟩
section
variable{X:Cx}{j8:List (af×ay)}{σ:St}{H:Hp}{s s':ae}
theorem Inv.EH(I:Inv X j8 σ H s):mT X.prog X.w X.K X.mg X.base X.A X.stack s H:=
 ⟨I.ok.frames,I.ok.mod,I.bs,ZD I.ok.oh I.sz,I.stack,I.jb,I.aS,I.bare⟩
theorem Inv.after{Q:VK}{u:aa}(I:Inv X j8 σ H s)(h:CE X.stack X.prog X.w H s Q u s'):EP X j8 σ Q u s':=by
 obtain⟨v,j,f,a,un,e,r,q⟩:=h;obtain⟨c,g,d,t,i⟩:=s';obtain rfl:i=s.os:=f;exact⟨v,j,I.call (h':=c) (g':=g) (d':=d) (t':=t) (ch:=[]) un e a (λb z=>absurd z 'c'),r,q⟩
end
def Fm(sp:Sp)(a:List V)(E:XK)(t:TA):TE:=λd H Q=>t d H λb c=>sp (b++a) c Q E
inductive vv(C:af)(m:ar)(sp:Sp)(iU:List V)(E:XK)(t:TA)(σ:St)(Q:VK)(x:V)(H1:Hp):Prop
 |mk(a:_)(dx:_)(fs:_)(e0:x=.ref a)(e1:H1 a=some (.ins C dx fs))(e2:fs.lookup m=none)(e3:t σ H1 λvs H2=>sp (x::(vs++iU)) H2 Q E)
def xN8(C:af)(m:ar)(sp:Sp)(b:List V)(E:XK)(ta:TE)(t:TA):TE:=λa H Q=>ta a H λx c=>vv C m sp b E t a Q x c
def xN9(C:af)(sp:Sp)(c:List V)(E:XK)(t:TA):TE:=λe H Q=>t e H λd b=>∀x a,b x=none->b a=none->a≠x ->
 sp (.ref x::(d++c)) (upd (upd b a (.own x)) x (.ins C a [])) (λv f=>v=.ck/\Q (.ref x) f) E
def Binds(K:PySem.W.Frag)(c:ak)(ps:List ar)(b:List aa):Prop:=
 ∀(s:ae)(a:List aa),K.In s.heap->(a++b).length=ps.length->BindsTo s c ⟨a,[]⟩ (ps.zip (a++b))
theorem Binds.all{K:PySem.W.Frag}{c:ak}{ps:List ar}(h:∀a:List aa,a.length=ps.length->bindArgs c ⟨a,[]⟩=pure (ps.zip a)):Binds K c ps []:=λs a _ b=>by
 rw[Xj]at b ⊢;exact .of_eq (h a b)
def uJ(CX:oO)(X:Cx)(E:XK):Prop:=∀(c:List (af×ay))(b:St)(H:Hp)(s:ae)(e:aa)(a:ae),Inv X c b H s->CX X.stack H s E e a->X.xe e a
section
variable{X:Cx}{CX:oO}{k:Nat}{f C:af}{fd:ak}{ps:List ar}{sp:Sp}{iU:List V}{ds:List aa}{E:XK}{x m:ar}{p pos apos:az}{e o:au}{es:List au}{ta:TE}{t:TA}
theorem PF{b:List (af×ay)}{σ:St}{H:Hp}{s:ae}{Q:VK}{us:List aa}{vs:List V}(F:aB X.prog X.w X.K X.mg X.base CX k f fd ps sp)(d:aV k X.A)(hb:Binds X.K fd ps ds)(n:Vals iU ds)(l:uJ CX X E)
  (I:Inv X b σ H s) (r:Vals vs us) (h:sp (vs++iU) H Q E):ah (ai X.prog X.w) X.A (call (.ref f) us) (EP X b σ Q) X.xe s:=by
 have c:Vals (vs++iU) (us++ds):=r.append n;have g:(us++ds).length=ps.length:=by rw[<- c.length];exact F.len _ _ _ _ h
 refine wpAny_call (WV (F.run X.A X.stack s H ⟨us,[]⟩ (us++ds) (vs++iU) Q E d I.EH (hb s us I.g_ g) c h) λr i a=>?_);cases r with
 |error e=>exact l b σ H s e i I a
 |ok j=>
  cases j with
  |ret u=>exact I.after a
  |next=>exact False.elim a
  |brk=>exact False.elim a
  |cont=>exact False.elim a
theorem xy(F:aB X.prog X.w X.K X.mg X.base CX k f fd ps sp)(n:aV k X.A)(c:Gl X x)(d:X.mg x=some (.ref f))(hk:PySem.W.keepIn X.K (.ref f)=true)(hb:Binds X.K fd ps ds)(j:Vals iU ds)(i:uJ CX X E)
  (u:PA X (e::es) t) (g:(x==("__debug__":ar))=false:=by decide) (b:starEach (e::es) X.env=(false,eval e X.env)::starEach es X.env:=by rfl) (w:(backTo pos (starEach es X.env)).any (·.1)=false:=by rfl):
  PE X (.Call (.Name x p) (e::es) [] pos) (Fm sp iU E t):=by
 intro l s v H Q I h;refine WK (BO I c d ?_ g);refine PySem.W.callWith_K (h₀:=X.base) I.ok.mod.rV hk (bh (u pos l s v H _ I h) λB y ⟨A,D,a,r,q⟩=>⟨a.g_,?_⟩) b w;exact PF F n hb j i a r q
theorem xs7{pl:Sem Bool}(v:PE X o ta)(c:rz X.K C)(g:Meth X.K C m f)(F:aB X.prog X.w X.K X.mg X.base CX k f fd ps sp)(L:aV k X.A)(hb:Binds X.K fd ps ds)(J:Vals iU ds)(G:uJ CX X E)(M:PA X (e::es) t)
  (A:starEach (e::es) X.env=(false,eval e X.env)::starEach es X.env:=by rfl) (N:(backTo pos (starEach es X.env)).any (·.1)=false:=by rfl)
  (n:eval (.Call (.Attribute o m apos) (e::es) [] pos) X.env=(do
   let ov <- eval o X.env
   standAt apos.atName
   let (f,first) <- holding [ov] (getMethod ov m pl)
   callWith pos f first (backTo pos (starEach (e::es) X.env)) (backToKw pos (keywordEach [] X.env))):=by rfl):
  PE X (.Call (.Attribute o m apos) (e::es) [] pos) (xN8 C m sp iU E ta t):=by
 intro i s j H Q I h;refine PySem.W.methodCall_KW (pl:=pl) (bh (v i s j H _ I h) λu w ⟨x,D,b,B,a,P,fs,ex,y,l,q⟩=>?_) n;subst ex;obtain rfl:u=Value.ref a:=B;refine qW4 b y c g l ?_;refine PySem.W.callWith_K (first:=[.ref a]) (h₀:=X.base) I.ok.mod.rV g.kp (bh (M pos i w j D _ b q) λus O ⟨vs,R,d,r,K⟩=>⟨d.g_,?_⟩) A N;exact PF (us:=.ref a::us) (vs:=.ref a::vs) F L hb J G d (.cons rfl r) K
structure Mk(K:PySem.W.Frag)(C f:af):Prop where
 makes:PySem.W.makesIn K C=true
 init:PySem.W.findIn K (.ref C) "__init__"=some (some (.ref f))
 fn:PySem.W.isFn K (.ref f)=true
 kp:PySem.W.keepIn K (.ref C)=true
theorem xf3{d:List (af×ay)}{σ:St}{H:Hp}{s:ae}{Q:VK}{us:List aa}{vs:List V}(M:Mk X.K C f)(F:aB X.prog X.w X.K X.mg X.base CX k f fd ps sp)(w:aV (k+1) X.A)(hb:Binds X.K fd ps ds)(n:Vals iU ds)
  (l:uJ CX X E) (I:Inv X d σ H s) (r:Vals vs us)
  (h:∀x c,H x=none->H c=none->c≠x->sp (.ref x::(vs++iU)) (upd (upd H c (.own x)) x (.ins C c [])) (λv D=>v=.ck/\Q (.ref x) D) E):
  ah (ai X.prog X.w) X.A (call (.ref C) us) (EP X d σ Q) X.xe s:=by
 have g:=h (s.heap.objs.size+1) s.heap.objs.size (I.aS.fresh (Wq _)) (I.aS.fresh (Zg _)) (Zu (Yb _));have b:=Inv.made (C:=C) I;have i:Vals (V.ref (s.heap.objs.size+1)::(vs++iU)) (Value.ref (s.heap.objs.size+1)::(us++ds)):=.cons rfl (r.append n);have y:(Value.ref (s.heap.objs.size+1)::us++ds).length=ps.length:=by
  have e:=i.length;rw[F.len _ _ _ _ g]at e;exact e.symm
 refine wpAny_call (xf1 (f:=f) I.g_ M.makes M.init (YT.mp M.fn) (WV (F.run _ X.stack _ _ ⟨Value.ref (s.heap.objs.size+1)::us,[]⟩ (Value.ref (s.heap.objs.size+1)::(us++ds)) _ _ E (w.make C us [])
  (b.EH.make C us []) (hb _ (Value.ref (s.heap.objs.size+1)::us) b.g_ y) i g) λr A a=>?_))
 cases r with
 |error e=>exact l d σ _ _ e A b a
 |ok B=>
  cases B with
  |ret u=>
   obtain⟨v,q,G,J,ev,j⟩:=b.after a;subst ev;exact⟨J,⟨V.ref (s.heap.objs.size+1),q,G,rfl,j⟩⟩
  |next=>exact False.elim a
  |brk=>exact False.elim a
  |cont=>exact False.elim a
theorem xf4(M:Mk X.K C f)(F:aB X.prog X.w X.K X.mg X.base CX k f fd ps sp)(a:aV (k+1) X.A)(c:Gl X x)(g:X.mg x=some (.ref C))(hb:Binds X.K fd ps ds)(b:Vals iU ds)(d:uJ CX X E)
  (i:(x==("__debug__":ar))=false:=by decide):PE X (.Call (.Name x p) [] [] pos) (xN9 C sp iU E nF):=by
 intro l s j H Q I h;refine WK (BO I c g ?_ i);exact PySem.W.callWith_K0 I.g_ M.kp (xf3 (us:=[]) M F a hb b d I .nil h)
end
structure aE(N P:List ar)(sc:ax):Prop where
 kind:sc.kind=.function
 co:sc.isCoroutine=false
 gen:sc.isGenerator=false
 nd:N.Nodup
 pre:N.take P.length=P
 par:∀x∈P,sc.names.lookup x=some .local\/sc.names.lookup x=some .cell
 xQ:∀y∈sc.names,y.2≠.free
theorem To{a:ar->Option NameKind}{x:ar}:∀{binds:List (ar×aa)}{m:ar->Option aa},(∀v,(x,v)∉binds)->bindL a binds m x=m x
 |[],_,_=>rfl
 |(n,v)::r,m,h=>by
  unfold bindL;rw[To λw b=>h w (Zq _ b)];split
  ·have:x≠n:=by rintro rfl;exact h v ZC
   simp[this]
  ·rfl
theorem Tn{a:ar->Option NameKind}{x:ar}:∀{binds:List (ar×aa)}{m:ar->Option aa},(∀v,(x,v)∉binds)->bindC a binds m x=m x
 |[],_,_=>rfl
 |(n,v)::r,m,h=>by
  unfold bindC;rw[Tn λw b=>h w (Zq _ b)];split
  ·rfl
  ·have:x≠n:=by rintro rfl;exact h v ZC
   simp[this]
theorem Tj{a:ar->Option NameKind}{x:ar}{v:aa}:∀{P:List ar}{b:List aa}{i:Nat}{m:ar->Option aa},P.Nodup->P[i]?=some x->b[i]?=some v->a x=some .local ->
  bindL a (P.zip b) m x=some v
 |[],_,_,_,_,h,_,_=>by simp at h
 |_::_,[],_,_,_,_,h,_=>by simp at h
 |p::P,w::b,0,m,nd,h1,h2,hk=>by
  simp at h1 h2;subst h1;subst h2;show bindL a ((p,w)::P.zip b) m p=_;unfold bindL;rw[To λv c=>(Z3.mp nd).1 (Vk c).1,Zn hk];simp
 |p::P,w::b,i+1,m,nd,h1,h2,hk=>by
  show bindL a ((p,w)::P.zip b) m x=_;unfold bindL;exact Tj (i:=i) (Z3.mp nd).2 (by simpa using h1) (by simpa using h2) hk
theorem Ti{a:ar->Option NameKind}{x:ar}{v:aa}:∀{P:List ar}{b:List aa}{i:Nat}{m:ar->Option aa},P.Nodup->P[i]?=some x->b[i]?=some v->a x≠some .local ->
  bindC a (P.zip b) m x=some v
 |[],_,_,_,_,h,_,_=>by simp at h
 |_::_,[],_,_,_,_,h,_=>by simp at h
 |p::P,w::b,0,m,nd,h1,h2,hk=>by
  simp at h1 h2;subst h1;subst h2;show bindC a ((p,w)::P.zip b) m p=_;unfold bindC;rw[Tn λv c=>(Z3.mp nd).1 (Vk c).1,Zj hk];simp
 |p::P,w::b,i+1,m,nd,h1,h2,hk=>by
  show bindC a ((p,w)::P.zip b) m x=_;unfold bindC;exact Ti (i:=i) (Z3.mp nd).2 (by simpa using h1) (by simpa using h2) hk
def start(N:List ar)(vs:List V):St:=vs.map some++List.replicate (N.length-vs.length) none
def ju(CX:oO)(P:ag)(w:aj)(K:PySem.W.Frag)(mg:ar->Option aa)(base:ao)(N:List ar)(a:ar)(scope:ax)(f:af)(b:aa)(A:aq)(outer:List Env)(s:ae)(H:Hp)(E:XK):Cx where
 prog:=P
 w:=w
 K:=K
 mg:=mg
 base:=base
 A:=A.deeper (envOfC a scope s.heap.objs.size f b)
 N:=N
 aC:=s
 aD:=H
 env:=envOfC a scope s.heap.objs.size f b
 outer:=outer
 stack:=envOfC a scope s.heap.objs.size f b::outer
 ex:=[]
 calm:=true
 fn:=λ_=>true
 pn:=[]
 xe:=λe d=>ah (ai P w) (A.deeper (envOfC a scope s.heap.objs.size f b)) (leaving (envOfC a scope s.heap.objs.size f b) e) (λ_ c=>CX outer H s E e c) (λg c=>CX outer H s E g c) d
theorem Sx{a:ax}{n:Nat}{x:ar}(h:a.names.lookup x=some .cell):∃c,(cellsFrom n a.names []).lookup x=some c:=by
 have q:=PySem.W.cellsFrom_some a.names n [] (.inl h);exact XD.mp q
theorem q23{CX:oO}{P:ag}{w:aj}{K:PySem.W.Frag}{mg:ar->Option aa}{base:ao}{N ps:List ar}{d:ar}{scope:ax}{f:af}{t:aa}{A:aq}{outer:List Env}{s D:ae}{H:Hp}{E:XK}{us:List aa}{vs:List V}
  (S:aE N ps scope) (G:A.handled=none) (g:mT P w K mg base A outer s H) (I:vs.length=ps.length) (r:Vals vs us)
  (x:InCallC s s.heap.objs.size (bindL (envOfC d scope s.heap.objs.size f t).kindOf (ps.zip us) λ_=>none) (cellsFrom (s.heap.objs.size+1) scope.names []) (bindC (envOfC d scope s.heap.objs.size f t).kindOf (ps.zip us) λ_=>none) D):
  Inv (ju CX P w K mg base N d scope f t A outer s H E) [] (start N vs) H D:=by
 have O:ps.length<=N.length:=by have:=Yi List.length S.pre;rw[Yc]at this;lia
 obtain⟨h1,Q,rfl,hk⟩:=x.done;have B:∀b:af,b∉(ju CX P w K mg base N d scope f t A outer s H E).ex:=λb z=>absurd (show b∈([]:List af)from z) 'c';refine⟨⟨g.mod,S.kind,rfl,rfl,Zg _,λy z c h1 h2=>?_,λy j=>?_,λy c _ h=>?_,λ_=>G,Around.frames_deeper g.frames,.inr ⟨rfl,rfl⟩,λb z=>absurd z (B b),g.bs,g.oh,λb _ _=>B b,λb z=>absurd z (B b),g.dW,g.qX⟩,
  rfl,g.bare,Un.kept hk,⟨_,x.toInCall.ns,λi y v h1 h2 M=>?_⟩,λy c h=>⟨_,x.cell y c h⟩,g.aS.fresh (Zg _),λy c h=>?_,λp m=>absurd (show p∈([]:List (af×ay))from m) 'c',g.aS.kept hk,?_⟩
 ·exact name_of_addr x.apart (XJ h1) (XJ h2)
 ·have j:scope.names.lookup y=some .cell\/scope.names.lookup y=some .free:=j;rcases j with j|j
  ·exact Sx j
  ·exact absurd rfl (S.xQ _ (XJ j))
 ·exact WT (x.above y c (XJ h))
 ·have l:i<vs.length:=by
   unfold start at h2;by_cases l:i<vs.length
   ·exact l
   ·rw[Zx (by simpa using l)]at h2;rw[WS]at h2;split at h2<;>cases h2
  have J:vs[i]?=some v:=by
   unfold start at h2;rw[Zp (by simpa using l),Zf]at h2;cases e:vs[i]? with
   |none=>rw[e]at h2;cases h2
   |some a=>rw[e]at h2;cases h2;rfl
  obtain⟨u,C,L⟩:=r.get J;have m:ps[i]?=some y:=by
   rw[<- S.pre,List.getElem?_take_of_lt (qm l I)];exact h1
  have F:ps.Nodup:=by rw[<- S.pre];exact S.nd.sublist (List.take_sublist _ _)
  refine⟨u,L,?_⟩;rcases S.par y (Zm m)with k|k
  ·exact .inl ⟨k,Tj F m C k⟩
  ·obtain⟨c,e⟩:=Sx (n:=s.heap.objs.size+1) k;refine .inr ⟨.inl k,c,e,?_⟩;have q:=x.cell y c e;rw[Ti F m C (by show scope.names.lookup y≠_;rw[k];decide)]at q;exact q
 ·exact g.aS.fresh (WT (x.above y c (XJ h)))
 ·unfold start;show _=N.length;rw[Zl,Ze,W7];lia
theorem QI{CX:oO}{P:ag}{w:aj}{K:PySem.W.Frag}{mg:ar->Option aa}{base:ao}{k:Nat}{f:af}{name c:ar}{d:Arguments}{g:List aA}{scope:ax}{M kV p X l ct oc:aa}{W od:Option af}
  {oH:Array (Option aa)}{N ps:List ar}{sp:Sp}(lk:K.lookup f=some ⟨oc,od,.func (PySem.W.fnOf name c d g scope M kV p X W l ct),oH⟩) (kU:PySem.W.codeIn K l c=true) (S:aE N ps scope)
  (len:∀h H Q E,sp h H Q E->h.length=ps.length)
  (lG:∀(A:aq)(a:List Env)(s:ae)(H:Hp)(h:List V)(Q:VK)(E:XK),aV k (A.deeper (envOfC c scope s.heap.objs.size f l))->sp h H Q E ->
   ∃t,ik (ju CX P w K mg base N c scope f l A a s H E) g t/\t {nx:=λ_ j=>Q .ck j,rt:=Q} (start N h) H):
  aB P w K mg base CX (k+1) f (PySem.W.fnOf name c d g scope M kV p X W l ct) ps sp:=by
 refine⟨len,λA a s H O us h Q E F B hb r U=>?_⟩;have hl:=len _ _ _ _ U;have R:K.In s.heap:=B.mod.rV.keeps λb o e=>(B.bs b o e).1;have D:s.heap.NoLimit:=B.mod.nolimit.keeps λb o e=>(B.bs b o e).1;have jD:∀y∈ps.zip us,scope.names.lookup y.1=some .local\/(scope.names.lookup y.1=some .cell/\((cellsFrom (s.heap.objs.size+1) scope.names []).lookup y.1).isSome=true):=λ⟨n,v⟩ hy=>by
  rcases S.par n (Vk hy).1 with q|q
  ·exact .inl q
  ·exact .inr ⟨q,PySem.W.cellsFrom_some _ _ _ (.inl q)⟩
 refine codeAny_call_function F.depth (R _ _ lk) rfl S.co S.gen rfl (PySem.W.codeRec_of R kU) (hb _ _ _ _ ?_);refine wpAny_newFunctionEnv_cells S.kind jD λenv Z T x=>?_;subst Z;refine⟨D.keeps x.toInCall.keep,codeAny_func ?_⟩;obtain⟨t,Y,hq⟩:=lG A a s H h Q E (F.deeper _) U;have I:Inv (ju CX P w K mg base N c scope f l A a s H E) [] (start N h) H T:=q23 S F.hd B hl r x;refine Z9 (Y [] T (start N h) H _ I hq) (λfl G m=>?_) λe G m=>m;have C:∀{i:St}{j:Hp}{v:V}{u:aa},Inv (ju CX P w K mg base N c scope f l A a s H E) [] i j G->RelV v u->Q v j->CE a P w H s Q u G:=
  λ{i j v u} J L q=>⟨v,j,J.os,J.bare,J.base,J.aS,L,q⟩
 cases fl with
 |ret u=>
  obtain⟨v,i,j,J,L,q⟩:=m;exact C J L q
 |next=>
  obtain⟨i,j,J,q⟩:=m;exact C (v:=V.ck) (u:=Value.none) J rfl q
 |brk=>
  obtain⟨_,_,_,q⟩:=m;exact False.elim q
 |cont=>
  obtain⟨_,_,_,q⟩:=m;exact False.elim q
section
variable{X:Cx}{x:ar}{p pos:az}{e:au}{es:List au}{t:TA}{id T:String}{r:List V->Hp->VK->Prop}
def Rh(r:List V->Hp->VK->Prop)(t:TA):TE:=λc H Q=>t c H λa b=>r a b Q
theorem dw(hc:gZ X (.builtin id) r)(f:Gl X x)(l:X.mg x=none)(v:bootBuiltins x=some (.builtin id))(w:PA X (e::es) t)(u:x ≠ "__name__":=by decide)(m:(x==("__debug__":ar))=false:=by decide)
  (d:starEach (e::es) X.env=(false,eval e X.env)::starEach es X.env:=by rfl) (y:(backTo pos (starEach es X.env)).any (·.1)=false:=by rfl):PE X (.Call (.Name x p) (e::es) [] pos) (Rh r t):=by
 intro a s b H Q I h;refine WK (zT I f l v ?_ u m);exact PyProof.Rows.callWith_builtin1 (bh (w pos a s b H _ I h) λn g ⟨j,q,c,k,i⟩=>hc a g b q j n Q c k i) d y
theorem i7(hc:gZ X (.type T) r)(f:Gl X x)(l:X.mg x=none)(v:bootBuiltins x=some (.type T))(w:PA X (e::es) t)(u:x ≠ "__name__":=by decide)(m:(x==("__debug__":ar))=false:=by decide)
  (d:starEach (e::es) X.env=(false,eval e X.env)::starEach es X.env:=by rfl) (y:(backTo pos (starEach es X.env)).any (·.1)=false:=by rfl):PE X (.Call (.Name x p) (e::es) [] pos) (Rh r t):=by
 intro a s b H Q I h;refine WK (zT I f l v ?_ u m);exact Xr (bh (w pos a s b H _ I h) λn g ⟨j,q,c,k,i⟩=>hc a g b q j n Q c k i) d y
end
end L2
namespace HT
open PySem PyProof.Rows
def dI(n d:Nat):Option Int->Nat
 |none=>d
 |some v=>if v<0 then(v+(n:Int)).toNat else min v.toNat n
theorem xE0(n d:Nat)(b:d<=n)(o:Option Int):dI n d o<=n:=by
 cases o with
 |none=>exact b
 |some v=>
  show(if v<0 then(v+(n:Int)).toNat else min v.toNat n)<=n;by_cases a:v<0
  ·rw[Zn a];lia
  ·rw[Zj a];exact Nat.min_le_right _ _
theorem T7(v:Int)(n d:Nat):(if v<0 then max (v+(n:Int)) 0 else min v (n:Int))=((dI n d (some v):Nat):Int):=by
 show(if v<0 then max (v+(n:Int)) 0 else min v (n:Int))=(((if v<0 then(v+(n:Int)).toNat else min v.toNat n):Nat):Int);by_cases a:v<0
 ·simp only[Zn a];lia
 ·simp only[Zj a];lia
theorem qW8(a b:Option Int)(n:Nat):Builtin.Slice.sliceAdjust a b 1 (n:Int)=(((dI n 0 a:Nat):Int),((dI n n b:Nat):Int)):=by
 have h1:¬((1:Int)<0):=by lia
 unfold Builtin.Slice.sliceAdjust;simp only[h1,Z6];refine Prod.ext ?_ ?_
 ·cases a with
  |none=>rfl
  |some v=>exact T7 v n 0
 ·cases b with
  |none=>rfl
  |some v=>exact T7 v n n
theorem qW9(i j:Nat):Builtin.Slice.slicePlaces (i:Int) (j:Int) 1=j-i:=by
 unfold Builtin.Slice.slicePlaces;have h1:(1:Int)>0:=by lia
 simp only[h1,XM,Int.ediv_one];split<;>lia
theorem Tv{v:aa}{o:Option Int}{Q:Option Int->ae->Prop}(p:IsPart v o)(h:Q o s):ah (ai prog w) A (Builtin.Slice.slicePartIndex v) Q E s:=by
 cases p with
 |none=>exact slicePart_none h
 |int i t=>exact slicePart_int h
theorem qu4{g:af}{d e:aa}{a b:Option Int}{n:Nat}{Q:Int×Int×Nat->ae->Prop}(hs:s.heap.IsSliceOf g d e .none)(pl:IsPart d a)(i:IsPart e b)
  (h:Q (((dI n 0 a:Nat):Int),1,dI n n b-dI n 0 a) s):ah (ai prog w) A (Builtin.Slice.sliceApplied (.ref g) (pure (n:Int))) Q E s:=by
 obtain⟨k,c,j,f⟩:=id hs;unfold Builtin.Slice.sliceApplied Builtin.Slice.sliceFields;refine Za (Za (YE c f (x:=d) rfl (Za (YE c f (x:=e) rfl (Za (YE c f (x:=.none) rfl (Zb ?_)))))));refine Za (slicePart_none ?_);show ah _ _ (if((1:Int)==0)=true then _ else _) _ _ s;rw[Zj 'b'];refine Za (Tv pl (Za (Tv i (Za (Zb ?_)))));show ah _ _ (match Builtin.Slice.sliceAdjust a b 1 (n:Int)with|(a,b)=>pure (a,(1:Int),Builtin.Slice.slicePlaces a b 1)) _ _ s;rw[qW8 a b n];show ah _ _ (pure (((dI n 0 a:Nat):Int),(1:Int),Builtin.Slice.slicePlaces ((dI n 0 a:Nat):Int) ((dI n n b:Nat):Int) 1)) _ _ s;rw[qW9];exact Zb h
theorem xf5(xs:Array aa)(i k:Nat):((List.range k).filterMap λ(m:Nat)=>xs[((i:Int)+(m:Int)*1).toNat]?).toArray=((xs.toList.drop i).take k).toArray:=by
 have e:(λ(m:Nat)=>xs[((i:Int)+(m:Int)*1).toNat]?)=λm=>xs[i+m]?:=by
  funext m;have:((i:Int)+(m:Int)*1).toNat=i+m:=by lia
  rw[this]
 rw[e];have:=pick_run xs i k;rw[List.filterMap_map]at this;have a:((λx=>xs[x]?)∘λx=>i+x)=λm=>xs[i+m]?:=rfl;rw[a]at this;rw[this]
theorem gE{t f:af}{items:Array aa}{i g:aa}{a b:Option Int}{Q:aa->ae->Prop}(c:IsTup s.heap t items)(hs:s.heap.IsSliceOf f i g .none)(pl:IsPart i a)(j:IsPart g b)
  (hw:¬(dI items.size 0 a=0/\dI items.size items.size b=items.size))
  (h:Q (.ref s.heap.objs.size) {s with heap:=s.heap.push {cls:=.type "tuple",data:=.seq ((items.toList.drop (dI items.size 0 a)).take (dI items.size items.size b-dI items.size 0 a)).toArray}})
  (hsz:items.size<=sizeLine):ah (ai prog w) A (getItem (.ref t) (.ref f)) Q E s:=by
 have d:sizeOk (.seq ((items.toList.drop (dI items.size 0 a)).take (dI items.size items.size b-dI items.size 0 a)).toArray):=by
  show((items.toList.drop (dI items.size 0 a)).take (dI items.size items.size b-dI items.size 0 a)).toArray.size<=sizeLine;rw[ZN,Yc,List.length_drop,Ys];lia
 have x:dI items.size items.size b<=items.size:=xE0 _ _ (Zg _) b;obtain⟨k,n,l,r⟩:=id hs;have e:s.TypeIs (.ref f) "slice":=⟨k,n,l⟩;unfold getItem
 try with_reducible refine Yo ?_
 first|refine Za (Zb ?_)|skip
 refine Za (wpAny_sequenceKey c.typeIs 'b' ?_);refine Za (Z7 (name:=Str.ofString "__getitem__") c.typeIs XI
  (Z0 XI c.typeIs entry_tuple_getitem ?_ (args_tuple_getitem _ _)))
 show ah _ _ (Builtin.Tuple.tupleItemsOf (.ref t) >>= _) _ _ s;refine Za (tupleItemsOf_ c ?_);refine Za (WW e ?_);rw[Zn 'b'];refine Za (qu4 hs pl j ?_);have p:¬((((dI items.size 0 a:Nat):Int)==0&&(1:Int)==1&&(dI items.size items.size b-dI items.size 0 a)==items.size)=true):=by
  intro q;rw[Vd,Vd]at q;have u:((dI items.size 0 a:Nat):Int)=0:=eq_of_beq q.1.1;have v:dI items.size items.size b-dI items.size 0 a=items.size:=eq_of_beq q.2;exact hw ⟨by lia,by lia⟩
 show ah _ _ (if(((dI items.size 0 a:Nat):Int)==0&&(1:Int)==1&&(dI items.size items.size b-dI items.size 0 a)==items.size)=true then _ else _) _ _ s;rw[Zj p,xf5]
 first
  |exact Za (m:=Builtin.Tuple.tupleExact _) (ZP (Zb ⟨_,rfl,Zb h⟩) d)
  |exact Za (m:=Builtin.Tuple.tupleExact _) (ZP (Za (Zb (Zb ⟨_,rfl,Zb h⟩))) d)
  |exact Za (Za (m:=Builtin.Tuple.tupleExact _) (ZP (Zb (Zb ⟨_,rfl,Zb h⟩)) d))
  |exact Za (Za (m:=Builtin.Tuple.tupleExact _) (ZP (Zb ⟨_,rfl,Zb h⟩) d))
end HT
namespace L2
open PySem PySem.Spec PyProof.Rows
abbrev TO:=St->Hp->(Option Int->Hp->Prop)->Prop
def PO(X:Cx)(e:Option au)(t:TO):Prop:=
 ∀(b:List (af×ay))(s:ae)(a:St)(H:Hp)(Q:Option Int->Hp->Prop),Inv X b a H s->t a H Q ->
  ah (ai X.prog X.w) X.A (evalPart e X.env) (λu d=>∃o c,Inv X b a c d/\IsPart u o/\Q o c) X.xe s
def xs8:TO:=λ_ H Q=>Q none H
def xO0(t:TE):TO:=λb H Q=>t b H λx a=>∃i,x=.int i/\Q (some i) a
section
variable{X:Cx}{e:au}{te:TE}{lo hi:Option au}{tl th:TO}{pos p2:az}
theorem T6:PO X none xs8:=by
 intro b s a H Q I h;rw[evalPart_none];exact Zb ⟨none,H,I,.none,h⟩
theorem T5(h:PE X e te):PO X (some e) (xO0 te):=by
 intro j s f H Q I g;rw[evalPart_some];refine bh (h j s f H _ I g) λu k ⟨x,d,b,c,a⟩=>?_;obtain⟨i,rfl,q⟩:=a;obtain⟨t,rfl⟩:=c;exact⟨some i,d,b,.int i t,q⟩
def SlR(X:Cx)(r:V->Option Int->Option Int->Hp->VK->Prop):Prop:=
 ∀(d:List (af×ay))(s:ae)(b:St)(H:Hp)(x:V)(v a c:aa)(lo hi:Option Int)(f:af)(Q:VK),Inv X d b H s->RelV x v->s.heap.IsSliceOf f a c .none->IsPart a lo->IsPart c hi->r x lo hi H Q ->
  ∃T id,typeLookup (.type T) "__getitem__"=pure (some (.builtin id))/\s.TypeIs v T/\ah (ai X.prog X.w) X.A (getItem v (.ref f)) (EP X d b Q) X.xe s
def tSl(r:V->Option Int->Option Int->Hp->VK->Prop)(te:TE)(tl th:TO):TE:=λa H Q=>te a H λx c=>tl a c λl d=>th a d λu b=>r x l u b Q
theorem Sw{r:V->Option Int->Option Int->Hp->VK->Prop}(L:SlR X r)(n:PE X e te)(M:PO X lo tl)(j:PO X hi th):PE X (.Subscript e (.Slice lo hi none p2) pos) (tSl r te tl th):=by
 intro c s d H Q I h;refine Subscript_ (bh (n c s d H _ I h) λv t ⟨x,F,m,C,B⟩=>?_);refine wpAny_Slice (bh (M c t d F _ m B) λg G ⟨l,N,A,J,K⟩=>bh (j c G d N _ A K) λf a ⟨u,i,O,y,D⟩=>?_);rw[evalPart_none];refine Zb ?_;have E:Inv X c d i {a with heap:=a.heap.push {cls:=.type "slice",data:=.fields #[g,f,.none]}}:=O.kept (t':=a.toks) λb ob q=>Zd _ q;obtain⟨T,id,w,k,p⟩:=L c {a with heap:=a.heap.push {cls:=.type "slice",data:=.fields #[g,f,.none]}} d i x v g f l u a.heap.objs.size Q E C (Heap.IsSliceOf.new ..) J y D;show ah (ai X.prog X.w) X.A (subscriptTail e (.Slice lo hi none p2) v (.ref a.heap.objs.size)) (EP X c d Q) X.xe {a with heap:=a.heap.push {cls:=.type "slice",data:=.fields #[g,f,.none]}};exact tail_any (ops:=[.ref a.heap.objs.size,v]) k w p (by with_unfolding_all rfl)
def ug(xs:List V)(lo hi:Option Int):List V:=(xs.drop (HT.dI xs.length 0 lo)).take (HT.dI xs.length xs.length hi-HT.dI xs.length 0 lo)
theorem qM0(xs:List V)(lo hi:Option Int):(ug xs lo hi).length<=xs.length:=by
 unfold ug;rw[Yc,List.length_drop];lia
inductive Bx(K:PySem.W.Frag)(x:V)(lo hi:Option Int)(H:Hp)(Q:VK):Prop
 |mk(a:_)(xs:_)(e0:x=.ref a)(e1:bf K H a xs)(e2:¬(HT.dI xs.length 0 lo=0/\HT.dI xs.length xs.length hi=xs.length))(e3:∀p,H p=none->Q (.ref p) (upd H p (.tup (ug xs lo hi))))
def Kb(K:PySem.W.Frag):V->Option Int->Option Int->Hp->VK->Prop:=λx lo hi H Q=>Bx K x lo hi H Q
theorem PD:SlR X (Kb X.K):=by
 intro w s A H x v y t lo hi u Q I l j m i h;obtain⟨a,c,rfl,n,p,q⟩:=h;cases l;obtain⟨k,r,f,g⟩:=I.tuple n;have d:k.toArray.size=c.length:=by rw[ZN];exact r.length.symm
 refine⟨"tuple",_,XI.lookup,f.typeIs,?_⟩;refine HT.gE f j m i (by rw[d];exact p) ?_ (by rw[d];exact g);rw[d];refine⟨.ref s.heap.objs.size,_,I.laid (t':=s.toks) (o:=.tup (ug c lo hi)) (λb ob q=>Zd _ q) (Zg _) ?_,rfl,q _ (I.aS.fresh (Zg _))⟩;exact⟨ZD (qM0 c lo hi) g,_,(r.drop (HT.dI c.length 0 lo)).take (HT.dI c.length c.length hi-HT.dI c.length 0 lo),cV.new _ _⟩
end
def yd(n:Nat)(i:Int):Option Nat:=if 0<=i then(if i<n then some i.toNat else none)else if -(n:Int)<=i then some (i+n).toNat else none
def ui{a:Type}(xs:List a)(i:Int):Option a:=(yd xs.length i).bind λj=>xs[j]?
theorem T4{n:Nat}{i:Int}{j:Nat}(h:yd n i=some j):seqIndex? i n=some j/\j<n/\-(n:Int)<=i/\i<n:=by
 unfold yd at h;by_cases a:0<=i
 ·rw[Zn a]at h;by_cases h1:i<n
  ·rw[Zn h1]at h;have e:i.toNat=j:=ZK h;exact⟨by rw[seqIndex_of a h1,e],by lia,by lia,h1⟩
  ·rw[Zj h1]at h;cases h
 ·rw[Zj a]at h;by_cases h1:-(n:Int)<=i
  ·rw[Zn h1]at h;have e:(i+n).toNat=j:=ZK h;exact⟨by rw[seqIndex_neg (qq a) h1,e],by lia,h1,by lia⟩
  ·rw[Zj h1]at h;cases h
theorem T1{a:Type}{xs:List a}{i:Int}{v:a}(h:ui xs i=some v):∃j,seqIndex? i xs.length=some j/\xs[j]?=some v/\j<xs.length/\-(xs.length:Int)<=i/\i<xs.length:=by
 unfold ui at h;cases e:yd xs.length i with
 |none=>rw[e]at h;cases h
 |some j=>
  rw[e]at h;obtain⟨h1,h2,b,c⟩:=T4 e;exact⟨j,h1,h,h2,b,c⟩
theorem uP{a:Type}{xs:List a}{j:Nat}{v:a}(h:xs[j]?=some v):ui xs (j:Int)=some v:=by
 have b:j<xs.length:=(cf h).1;have e:yd xs.length (j:Int)=some j:=by
  unfold yd;rw[Zn u9,Zn 'a'];simp
 unfold ui;rw[e];exact h
def TZ(b:au):Prop:=∀o i,subscripted b false o i=operate [o,i] (getItem o i)
def oK(X:Cx)(r:R2):Prop:=
 ∀(value slice:au)(b:List (af×ay))(s:ae)(a:St)(H:Hp)(x y:V)(v u:aa)(Q:VK),Inv X b a H s->RelV x v->RelV y u->r x y H Q ->
  subscripted slice false v u=operate [v,u] (getItem v u)->ah (ai X.prog X.w) X.A (subscriptTail value slice v u) (EP X b a Q) X.xe s
def MtR(X:Cx)(id:String)(r:V->List V->Hp->VK->Prop):Prop:=
 ∀(c:List (af×ay))(s:ae)(a:St)(H:Hp)(x:V)(b:List V)(v:aa)(d:List aa)(Q:VK),Inv X c a H s->RelV x v->Vals b d->r x b H Q ->
  ah (ai X.prog X.w) X.A (call (.builtin id) (v::d)) (EP X c a Q) X.xe s
section
variable{X:Cx}{a b:au}{ta tb:TE}{pos:az}
theorem oK.or{r i:R2}(h:oK X r)(h':oK X i):oK X (λx y H Q=>r x y H Q\/i x y H Q):=by
 intro d c k s g H x y v u Q I e f q j;rcases q with q|q
 ·exact h d c k s g H x y v u Q I e f q j
 ·exact h' d c k s g H x y v u Q I e f q j
theorem QH{r:R2}(i:oK X r)(j:PE X a ta)(hb:PE X b tb)(hs:TZ b):PE X (.Subscript a b pos) (AL r ta tb):=by
 intro f s k H Q I h;exact Subscript_ (y_ j hb I h λv u e x y l c d g q=>i a b f e k l x y v u Q c d g q (hs _ _))
inductive Bz(K:PySem.W.Frag)(x y:V)(H:Hp)(Q:VK):Prop
 |mk(p:_)(xs:_)(i:_)(v:_)(e0:x=.ref p)(e1:y=.int i)(e2:bZ K H p xs)(e3:ui xs i=some v)(e4:Q v H)
def xh(K:PySem.W.Frag):R2:=λx y H Q=>Bz K x y H Q
inductive By(K:PySem.W.Frag)(x y:V)(H:Hp)(Q:VK):Prop
 |mk(p:_)(xs:_)(i:_)(v:_)(e0:x=.ref p)(e1:y=.int i)(e2:bf K H p xs)(e3:ui xs i=some v)(e4:Q v H)
def xf(K:PySem.W.Frag):R2:=λx y H Q=>By K x y H Q
theorem pR:oK X (xh X.K):=by
 intro e g n s A H x y v u Q I F K h m;obtain⟨p,R,i,z,rfl,rfl,G,B,q⟩:=h;cases F;obtain⟨t,rfl⟩:=K;obtain⟨E,r,f,O⟩:=I.list G;obtain⟨j,h1,h2,N,D,C⟩:=T1 B;obtain⟨w,l,J⟩:=r.get h2;have L:=r.length;have P:=zS;have c:EP X n A Q w s:=⟨z,H,I,J,q⟩;by_cases d:0<=i
 ·have k:i.toNat=j:=by
   rw[seqIndex_of d C]at h1;exact ZK h1
  exact item_listR f.isList d 'a' (by rw[k];simpa using l) c m
 ·have k:(i+(E.toArray.size:Int)).toNat=j:=by
   rw[seqIndex_neg (qq d) D]at h1;rw[ZN,<- L];exact ZK h1
  exact WX (x:=w) f.isList.typeIs slot_list_getitem.lookup
   (wpAny_getItem_list_neg (Q:=λr M=>r=w/\EP X n A Q r M) f.isList (qq d) (by rw[ZN]<;>lia) 'a' (by rw[k];simpa using l) ⟨rfl,c⟩) m
theorem fQ:oK X (xf X.K):=by
 intro c e g s k H x y v u Q I A D h n;obtain⟨p,O,i,z,rfl,rfl,B,m,q⟩:=h;cases A;obtain⟨t,rfl⟩:=D;obtain⟨M,r,f,J⟩:=I.tuple B;obtain⟨j,h1,h2,G,L,K⟩:=T1 m;obtain⟨w,l,C⟩:=r.get h2;have E:=r.length;have N:=zS;have d:EP X g k Q w s:=⟨z,H,I,C,q⟩;exact WX (x:=w) f.typeIs slot_tuple_getitem.lookup
  (getItem_tuple (j:=j) (Q:=λr F=>r=w/\EP X g k Q r F) f 'a' 'a' (by rw[ZN,<- E];exact h1) (by simpa using l) ⟨rfl,d⟩) n
theorem qX0(c:List aa)(n j:Nat)(u:aa):Obj.mapSeq (·.setIfInBounds j u) {cls:=.type "list",data:=.seq c.toArray n}={cls:=.type "list",data:=.seq (c.set j u).toArray n}:=by
 simp[Obj.mapSeq]
theorem Inv.lst{d:List (af×ay)}{σ:St}{H:Hp}{s:ae}{p:af}{xs:List V}(I:Inv X d σ H s)(h:H p=some (.lst xs)):
  ∃(c:List aa)(n:Nat),Vals xs c/\s.heap.get? p=some {cls:=.type "list",data:=.seq c.toArray n}/\xs.length<=sizeLine:=by
 obtain⟨z,c,n,r,e⟩:=I.aS p _ h;exact⟨c,n,r,e,z⟩
theorem Inv.xS{i:List (af×ay)}{σ:St}{H:Hp}{s:ae}{p:af}{xs ys:List V}{d its':List aa}{n c:Nat}{f:ay->ay}(I:Inv X i σ H s)(h:H p=some (.lst xs))
  (j:s.heap.get? p=some {cls:=.type "list",data:=.seq d.toArray n}) (g:f {cls:=.type "list",data:=.seq d.toArray n}={cls:=.type "list",data:=.seq its'.toArray c}) (r:Vals ys its') (hz:ys.length<=sizeLine) (t:Nat):
  Inv X i σ (upd H p (.lst ys)) {s with heap:=s.heap.update p f,toks:=t}:=by
 have e:(s.heap.update p f).get? p=some {cls:=.type "list",data:=.seq its'.toArray c}:=by
  rw[Z8 f j (by rw[g]<;>rfl),g]
 refine I.write (x:=p) (e:=p) (by rw[h];trivial) (.inl rfl) (λb u hb q=>(ZJ _ _ (YK hb)).trans q) ⟨_,e⟩ ?_;exact⟨hz,its',c,r,e⟩
inductive xc(o i v:V)(H:Hp)(Q:Hp->Prop):Prop
 |mk(p:_)(xs:_)(k:_)(j:_)(e0:o=.ref p)(e1:i=.int k)(e2:H p=some (.lst xs))(e3:yd xs.length k=some j)(e4:Q (upd H p (.lst (xs.set j v))))
def xO1:V->V->V->Hp->(Hp->Prop)->Prop:=λo i v H Q=>xc o i v H Q
theorem Sv:zb X xO1:=by
 intro A s B H o i v G K u Q I F y D h;obtain⟨p,E,k,j,rfl,rfl,m,C,q⟩:=h;cases F;obtain⟨t,rfl⟩:=y;obtain⟨l,n,r,d,x⟩:=I.lst m;obtain⟨h1,h2,f,g⟩:=T4 C;have e:=r.length;have J:=zS;have w:Inv X A B (upd H p (.lst (E.set j v))) {s with heap:=s.heap.update p (Obj.mapSeq (·.setIfInBounds j u))}:=
  I.xS m d (qX0 l n j u) (r.set D j) (by rw[List.length_set];exact x) s.toks
 by_cases c:0<=k
 ·have hk:k.toNat=j:=by
   rw[seqIndex_of c g]at h1;exact ZK h1
  exact PySem.W.ki_setAt d c 'a' (by rw[ZN,<- e];exact g) (by rw[hk];exact⟨_,w,q⟩)
 ·have hk:(k+(l.toArray.size:Int)).toNat=j:=by
   rw[seqIndex_neg (qq c) f]at h1;rw[ZN,<- e];exact ZK h1
  exact PySem.W.ki_setBack d (qq c) (by rw[ZN,<- e];exact f) 'a' (by rw[hk];exact⟨_,w,q⟩)
inductive iI(K_:PySem.W.Frag)(xs:List V)(H:Hp)(Q:VK):Prop
 |mk(p:_)(ys:_)(aT:xs=[.ref p])(eR:(bZ K_ H p ys\/bf K_ H p ys))(dX:Q (.int ys.length) H)
theorem s_:gZ X (.builtin "len") (iI X.K):=by
 intro n s t H v l Q I r h;obtain⟨p,g,rfl,c,q⟩:=h;obtain⟨u,rfl,k⟩:=iR r;cases k;have m:=zS;rcases c with c|c
 ·obtain⟨j,d,f,i⟩:=I.list c;have e:=d.length;exact Calls.call_len_list f.isList (by simp only[ZN]<;>lia) ⟨.int g.length,H,I.tok _,⟨s.toks+1,by rw[ZN,e]⟩,q⟩
 ·obtain⟨j,d,f,i⟩:=I.tuple c;have e:=d.length;exact len_tuple f (by simp only[ZN]<;>lia) ⟨.int g.length,H,I.tok _,⟨s.toks+1,by rw[ZN,e]⟩,q⟩
inductive iH(xs:List V)(H:Hp)(Q:VK):Prop
 |mk(z:_)(aT:xs=[.str z])(eR:z.length<=sizeLine)(dX:Q (.int z.length) H)
theorem qF9:gZ X (.builtin "len") iH:=by
 intro i s f H g c Q I r h;obtain⟨z,rfl,d,q⟩:=h;obtain⟨u,rfl,t,rfl⟩:=iR r;have e:=zS;exact len_str 'a' ⟨.int z.length,H,I.tok _,⟨_,rfl⟩,q⟩
inductive d_(K_:PySem.W.Frag)(xs:List V)(H:Hp)(Q:VK):Prop
 |mk(p:_)(ys:_)(aT:xs=[.ref p])(eR:((bZ K_ H p ys/\∀l,H l=none->Q (.ref l) (upd H l (.tup ys)))\/(bf K_ H p ys/\Q (.ref p) H)))
theorem qC5:gZ X (.type "tuple") (d_ X.K):=by
 intro l s m H A y Q I r h;obtain⟨p,n,rfl,h⟩:=h;obtain⟨u,rfl,v⟩:=iR r;cases v;rcases h with⟨i,q⟩|⟨i,q⟩
 ·obtain⟨g,f,j,d⟩:=I.list i;have w:=f.length;refine call_tuple_list j.isList (λc x=>?_) (by simp only[ZN]<;>exact Aa w d);have k:Inv X l m H {s with heap:=c}:=I.kept (t':=s.toks) x;have t:Inv X l m (upd H c.objs.size (.tup n)) {s with heap:=c.push {cls:=.type "tuple",data:=.seq g.toArray}}:=
   k.laid (t':=s.toks) (λb o e=>Zd _ e) (Zg _) (show a_ X.prog X.w _ _ _ (.tup n)from⟨d,g,f,cV.new _ _⟩)
  exact⟨.ref c.objs.size,_,t,rfl,q _ (k.aS.fresh (Zg _))⟩
 ·obtain⟨g,f,j,d⟩:=I.tuple i;exact call_tuple_same j ⟨.ref p,H,I,rfl,q⟩
def Rf(K:PySem.W.Frag)(T:String)(x:V)(H:Hp):Prop:=match x with
 |.str _=>T="str"
 |.int _=>T="int"
 |.ref p=>(T="list" /\ ∃d,bZ K H p d)\/(T="tuple" /\ ∃o,K.lookup p=some o/\o.cls=.type "tuple" /\ o.dict=none) \/
   (T="dict" /\ ((∃c,H p=some (.dK c))\/∃c,H p=some (.dT c)))\/(T="set" /\ ∃S n,H p=some (.set S n))
 |_=>False
theorem xE2{l:List (af×ay)}{σ:St}{H:Hp}{s:ae}{T:String}{x:V}{v:aa}(I:Inv X l σ H s)(r:RelV x v)(ty:Rf X.K T x H):
  s.TypeIs v T/\∀a,v=.ref a->∃ob,s.heap.get? a=some ob/\ob.dict=none:=by
 cases x with
 |str z=>
  obtain⟨t,rfl⟩:=r;cases(show T="str"from ty);exact⟨typeIs_str s z t,λ_ e=>nomatch e⟩
 |int i=>
  obtain⟨t,rfl⟩:=r;cases(show T="int"from ty);exact⟨typeIs_int s i t,λ_ e=>nomatch e⟩
 |ref p=>
  cases r;rcases ty with⟨rfl,q,k⟩|⟨rfl,o,hk,j,g⟩|⟨rfl,hk⟩|⟨rfl,S,n,hk⟩
  ·obtain⟨m,_,h,_⟩:=I.list k;refine⟨h.isList.typeIs,λa e=>?_⟩;cases e;obtain⟨o,n,e,c,g,_⟩:=h;exact⟨o,e,g⟩
  ·refine⟨⟨o,I.g_ p o hk,j⟩,λa e=>?_⟩;cases e;exact⟨o,I.g_ _ o hk,g⟩
  ·have z:∃o,s.heap.get? p=some o/\o.ExactDict:=by
    rcases hk with⟨d,hk⟩|⟨d,hk⟩
    ·obtain⟨_,_,_,_,o,_,_,e,ex,_⟩:=I.aS p _ hk;exact⟨o,e,ex⟩
    ·obtain⟨_,_,_,_,o,_,_,e,ex,_⟩:=I.aS p _ hk;exact⟨o,e,ex⟩
   obtain⟨o,e,ex⟩:=z;refine⟨⟨o,e,ex.1⟩,λa f=>?_⟩;cases f;exact⟨o,e,ex.2.1⟩
  ·obtain⟨o,_,_,_,e,ex,_⟩:=I.aS p _ hk;refine⟨⟨o,e,ex.1⟩,λa f=>?_⟩;cases f;exact⟨o,e,ex.2.1⟩
 |_=>exact False.elim ty
def Ri(K:PySem.W.Frag)(T:String)(r:V->List V->Hp->VK->Prop)(e:TE)(t:TA):TE:=λd H Q=>e d H λx c=>Rf K T x c/\t d c λg f=>r x g f Q
variable{o e:au}{es:List au}{to:TE}{t:TA}{name:ar}{apos dN:az}{T id:String}{r:V->List V->Hp->VK->Prop}
theorem uU(pa:PlainAttrs T)(slot:Slot T name id)(E:typeOf (.builtin id)=pure (.type "method_descriptor"))(n:MtR X id r)(u:PE X o to)(D:PA X (e::es) t)
  (B:attributeBase o name X.env (eval o X.env)=eval o X.env:=by rfl)
  (p:((backTo dN (starEach (e::es) X.env)).all (λx=>!x.1)&&(backToKw dN (keywordEach [] X.env)).all (λx=>x.1.isSome)
   && decide ((e::es).length+([]:List Keyword).length+(if([]:List Keyword).isEmpty then 0 else 1)<30))=true:=by rfl)
  (k:(apos.endLine==dN.line)=true:=by rfl) (hs:starEach (e::es) X.env=(false,eval e X.env)::starEach es X.env:=by rfl) (y:(backTo dN (starEach es X.env)).any (·.1)=false:=by rfl):
  PE X (.Call (.Attribute o name apos) (e::es) [] dN) (Ri X.K T r to t):=by
 intro c s d H Q I h;refine wpAny_Call_method_late B p k rfl (bh (u c s d H _ I h) λv i ⟨x,w,f,g,ty,l⟩=>?_);obtain⟨h1,h2⟩:=xE2 f g ty;refine⟨T,id,pa,slot,E,h1,h2,?_⟩;have hA:=D dN c i d w _ f l;rw[hs]at hA ⊢;refine Calls.callWith_builtin (by show(false||(backTo dN (starEach es X.env)).any (·.1))=false;rw[y]<;>rfl) (Calls.evalArgs_plain ?_);exact bh hA λq A ⟨m,F,j,G,C⟩=>n c A d F x m v q Q j g G C
end
def MtM(X:Cx)(id:String)(r:V->List V->Hp->VK->Prop):Prop:=
 ∀(c:List (af×ay))(s:ae)(a:St)(H:Hp)(x:V)(b:List V)(v:aa)(d:List aa)(Q:VK),Inv X c a H s->RelV x v->Vals b d->r x b H Q ->
  ah (ai X.prog X.w) X.A (call (.builtin id) (v::d)) (EP X c a Q) X.xe s
theorem Vals.one{x:V}{us:List aa}(h:Vals [x] us):∃u,us=[u]/\RelV x u:=by
 cases h with
 |cons r t=>cases t;exact⟨_,rfl,r⟩
section
variable{X:Cx}{j8:List (af×ay)}{σ:St}{H:Hp}{s:ae}{l b:af}{xs ys zs:List V}
theorem Inv.LV{a its':List aa}{n:Nat}{f:Array aa->Array aa}{t':Nat}(I:Inv X j8 σ H s)(h:H l=some (.lst xs))
  (e:s.heap.get? l=some {cls:=.type "list",data:=.seq a.toArray n}) (c:f a.toArray=its'.toArray) (g:Vals ys its') (hz:ys.length<=sizeLine):
  Inv X j8 σ (upd H l (.lst ys)) {s with heap:=s.heap.update l (Obj.mapSeq f),toks:=t'}:=by
 have q:=PySem.IsL.update e f;rw[c]at q;refine I.write (x:=l) (e:=l) (by rw[h];exact trivial) (.inl rfl) (λi u hb d=>(ZJ s.heap (Obj.mapSeq f) (YK hb)).trans d) ⟨_,q⟩ ?_;exact⟨hz,its',_,g,q⟩
theorem Inv.LY{a:List aa}{t':Nat}(I:Inv X j8 σ H s)(c:Vals ys a)(hz:ys.length<=sizeLine):
  Inv X j8 σ (upd H s.heap.objs.size (.lst ys)) {s with heap:=s.heap.push {cls:=.type "list",data:=.seq a.toArray},toks:=t'}:=
 I.laid (λ_ _ q=>Zd _ q) (Zg _) ⟨hz,a,0,c,Zi _ rfl⟩
theorem Inv.fresh(I:Inv X j8 σ H s):H s.heap.objs.size=none:=I.aS.fresh (Zg _)
theorem Inv.xT(I:Inv X j8 σ H s)(c:H l=some (.lst xs)):xs.length<=sizeLine/\∃(a:List aa)(n:Nat),Vals xs a/\xs.length=a.length/\s.heap.get? l=some {cls:=.type "list",data:=.seq a.toArray n}:=by
 obtain⟨z,a,n,r,e⟩:=I.aS l _ c;exact⟨z,a,n,r,r.length,e⟩
end
section
variable{X:Cx}
inductive pN(x:V)(vs:List V)(H:Hp)(Q:VK):Prop
 |mk(l:_)(xs:_)(y:_)(e0:x=.ref l)(e1:vs=[y])(e2:H l=some (.lst xs))(e3:xs.length<sizeLine)(e4:Q .ck (upd H l (.lst (xs++[y]))))
def xs9:V->List V->Hp->VK->Prop:=λx a H Q=>pN x a H Q
theorem sZ:MtM X "list.append" xs9:=by
 intro k s p H x i v j Q I d f h;obtain⟨l,t,y,rfl,rfl,a,g,q⟩:=h;cases d;obtain⟨u,rfl,c⟩:=f.one;obtain⟨z,b,n,r,m,e⟩:=I.xT a;refine call_meets F.slot_list_append ⟨_,e,rfl⟩ F.entry_list_append (F.args_list_append_2 _ _) (PySem.list_append l b.toArray n u (by rw[ZN];lia)) ⟨e,?_⟩;refine⟨.ck,_,I.LV (its':=b++[u]) a e 'c' (r.append (.cons c .nil)) ?_,rfl,q⟩;rw[Zl,W8];lia
inductive BA(x y:V)(H:Hp)(Q:VK):Prop
 |mk(l:_)(b:_)(xs:_)(zs:_)(e0:x=.ref l)(e1:y=.ref b)(e2:H l=some (.lst xs))(e3:H b=some (.lst zs))(e4:xs.length+zs.length<=sizeLine)(e5:∀p,H p=none->Q (.ref p) (upd H p (.lst (xs++zs))))
def Kd:R2:=λx y H Q=>BA x y H Q
theorem xE3:fj X (binaryOp .Add) Kd:=by
 intro B s D H x y v u Q I k m h;obtain⟨l,b,E,zs,rfl,rfl,j,d,f,q⟩:=h;cases k;cases m;obtain⟨z,c,n,r,C,e⟩:=I.xT j;obtain⟨w,a,A,p,t,g⟩:=I.xT d;refine PySem.P.add_list e g ?_ (by rw[ZN,ZN];lia);have i:c.toArray++a.toArray=(c++a).toArray:=by simp
 rw[i];exact⟨.ref _,_,I.LY (t':=s.toks) (r.append p) (by rw[Zl];exact f),rfl,q _ I.fresh⟩
end
end L2
namespace Att
open PySem PySem.W PySem.Calls PyProof.Rows
theorem qw3{P:Params}{h:ao}:∀(c:List Int)(d:List aa),WellAll P h d (c.map WData.int)->IntsAre d c:=by
 intro c
 induction c with
 |nil=>
  intro d w;rw[XW]at w;cases w;exact .nil
 |cons n c e=>
  intro d w;rw[Zw]at w;cases w with
  |cons a b=>
   cases a;exact .cons _ _ (e _ b)
theorem q30{l:OpenLaw}{n:Nat}(v:l.most=some n){P:Params}{h:ao}{args:List WData}{c:List aa}
  (k:l.row.toRowW.claim.pre args=true) (y:WellAll P h c args):
  ∃a i b,c=[Value.ref a]/\args=[WData.list (b.map WData.int)]/\h.get? a=some {cls:=.type "list",data:=.seq i.toArray}/\IntsAre i b/\b.length<=n:=by
 have g:WShape.hasAll [] args [.list .int]=true:=(pre_splitW k).1;have j:l.pre.holds [] {args:=args}=true:=(pre_splitW k).2;obtain⟨d,r,rfl,h1,h2⟩:=hasAllW_cons g;obtain rfl:=hasAllW_nil h2;obtain⟨A,rfl,m⟩:=hasW_list h1;obtain⟨b,rfl⟩:=items_int m;have u:b.length<=n:=by
  unfold OpenLaw.pre at j;have f:(WTm.not (.lt (.lit (.int (n:Int))) (.len (.arg 0)))).holds [] {args:=[.list (b.map .int)]}=true:=by
   have f:=(holds_andW j).1;rw[v]at f;exact f
  have e:=condW_of f (w_not (w_lt w_lit (w_len_list (w_arg rfl))));rw[Ze]at e;refine VY λq=>?_;have p:(n:Int)<((b.length:Nat):Int):=by lia
  first
   |(rw[Zv p]at e;exact absurd e 'b')
   |(simp at e;lia)
 cases y with
 |cons w x=>
  cases x;cases w with
  |list t s=>exact⟨_,_,b,rfl,rfl,t,qw3 b _ s,u⟩
theorem q31(l:OpenLaw)(args:List WData):l.row.toRowW.claim.post args (.bool true) args=true:=
 postW_of (r:=l.row.toRowW) (X:=(true==true))
  (show WShape.has [] (.bool true) .bool=true by first|rfl|decide|simp[WShape.has,WShape.arms,WShape.armsAll])
  (show(WTm.eq .res (.lit (.bool true))).value [] {args:=args,res:=some (.bool true),after:=args}=some (.bool (true==true))from w_eq_bool (w_res rfl) w_lit) rfl
theorem lN{l:OpenLaw}{n:Nat}{q:ag}{loose:List ar}{XP:(ar->Option aa)->ao->Prop}{YP:aj->ao->Prop}{d:DefRec}
  (P:l.most=some n) (A:d.params.defaults=[])
  (call:∀(w:aj)(p b:ae)(j t:ar->Option aa)(h:af)(o:ay)(s k c:aa)(a:af)(g:List aa)(i:List Int),
   Ground q loose [] XP w p j t b.heap->YP w b.heap ->
   b.heap.get? h=some o->o.data=.func (docDef d.name d.params d.body d.scope s k c)->b.heap.CodeRec k d.name->j d.name=some (.ref h) ->
   b.heap.get? a=some {cls:=.type "list",data:=.seq g.toArray}->IntsAre g i->i.length<=n->b.gens=#[] ->
   codeAny (ai l.prog w) callerA (.call (.ref h) ⟨[.ref a],[]⟩) (λr m=>r=.ok (.ret (.bool true))/\OldK b.heap m.heap/\m.os=b.os/\AllBare m.gens) b):
  WalkO q loose XP YP l.row.toRowW d [] (λf g=>PySem.call f g):=by
 intro w p b j t G Y h o s k c C kV L Q M v H E u y as R x F S J;obtain rfl:C=.none:=Dflts.none v A;obtain rfl:kV=.none:=Dflts.noKw v;obtain⟨a,g,i,rfl,rfl,D,e,N⟩:=q30 P R S;refine enter_call (WV (call w p b j t h o s k c a g i G Y L (fd_plain Q) M H D e N E) λr m O=>?_);obtain⟨rfl,h2,B,I⟩:=O;exact⟨.inl ⟨.bool true,.bool true,[],rfl,λ_=>rfl,.bool true,q31 l _,λ_=>⟨List.Pairwise.nil,λ_ K=>(nomatch K)⟩⟩,h2,B,I⟩
end Att
namespace L2
open PySem PySem.Spec PyProof.Rows
theorem Th:∀{b:List aa}{a:List Int},IntsAre b a->Vals (a.map V.int) b
 |_,_,.nil=>.nil
 |_,_,.cons n t h=>.cons ⟨t,rfl⟩ (Th h)
def zc(H:Hp):Prop:=∀b,H b=none\/∃o a,H b=some (.mF o (.lst a))
theorem xf6{P:ag}{w:aj}{K:PySem.W.Frag}{mg G:ar->Option aa}{CX:oO}{k:Nat}{E a:af}{Q:ak}{x:ar}{sp:Sp}{c:ae}{vs:List aa}{l:List Int}
  (I:K.In c.heap) (S:c.heap.Ns mainGlobals mg) (hb:c.heap.Ns builtinsNs G) (En:∀x:ar,x ≠ "__name__"->G x=bootBuiltins x) (MR:c.heap.NoLimit) (U:c.gens=#[])
  (C:c.heap.get? a=some {cls:=.type "list",data:=.seq vs.toArray}) (L:IntsAre vs l) (R:l.length<=sizeLine) (hr:aV k callerA)
  (F:∀g:ao,K.In g->g.Ns mainGlobals mg->aB P w K mg g CX k E Q [x] sp) (Em:∀(s:ae)(u:aa),BindsTo s Q ⟨[u],[]⟩ [(x,u)])
  (kX:∀H:Hp,zc H->bZ K H a (l.map V.int)->sp [.ref a] H (λv _=>v=.bl true) λ_ _ _=>False)
  (NA:∀H e f,CX [] H c (λ_ _ _=>False) e f->False):
  codeAny (ai P w) callerA (.call (.ref E) ⟨[.ref a],[]⟩) (λr f=>r=.ok (.ret (.bool true))/\OldK c.heap f.heap/\f.os=c.os/\AllBare f.gens) c:=by
 have T:=Th L;have LZ:=L.length;have i:∀H:Hp,zc H->bZ K H a (l.map V.int)->dQ P w H c.heap->(∀b,H b≠none->b=a)->(H a≠none->K.lookup a=none) ->
   codeAny (ai P w) callerA (.call (.ref E) ⟨[.ref a],[]⟩) (λr f=>r=.ok (.ret (.bool true))/\OldK c.heap f.heap/\f.os=c.os/\AllBare f.gens) c:=by
  intro H N hS O hA hK;have M:∀{b:af}{o:ay},c.heap.get? b=some o->H b=none->(jn c.heap H).get? b=some o:=λe n=>xe6 e n;have W:∀{b:af}{o:ay}{p:Array DictEntry}{j:Nat},c.heap.get? b=some o->o.data=.dict p j->H b=none:=λ{b o p j} e d=>by
   cases q:H b with
   |none=>rfl
   |some u=>
    have D:b=a:=hA b (by rw[q];simp);subst D;rw[C]at e;cases e;have d':Data.seq vs.toArray _=Data.dict p j:=d;cases d'
  have B:∀{b:af}{m:ar->Option aa},c.heap.Ns b m->(jn c.heap H).Ns b m:=λ{b m} ⟨o,p,j,e,d,r⟩=>⟨o,p,j,M e (W e d),d,r⟩;have y:K.In (jn c.heap H):=λb o e=>M (I b o e) (by
   cases q:H b with
   |none=>rfl
   |some u=>
    have D:b=a:=hA b (by rw[q];simp);subst D;rw[hK (by rw[q];simp)]at e;cases e)
  have hM:Mod K mg (jn c.heap H):=⟨y,B S,⟨G,B hb,En⟩,let ⟨mc,h1,h2⟩:=MR;⟨mc,B h1,h2⟩⟩;have e0:mT P w K mg (jn c.heap H) callerA [] c H:=⟨rfl,hM,λb o e=>xs1 e,WU (q04 _ _),trivial,λb hb=>absurd (show b∈([]:List af)from hb) 'c',O,.of_eq U⟩;refine WV ((F _ y (B S)).run callerA [] c H ⟨[.ref a],[]⟩ [.ref a] [.ref a] _ _ hr e0 (Em c (.ref a)) (.cons rfl .nil) (kX H N hS)) λr f h=>?_;cases r with
  |error e=>exact(NA H e f h).elim
  |ok fl=>
   cases fl with
   |next=>exact False.elim h
   |brk=>exact False.elim h
   |cont=>exact False.elim h
   |ret u=>
    obtain⟨v,H',Z,A,un,MH,r',q⟩:=h;have q':v=.bl true:=q;subst q';obtain rfl:u=Value.bool true:=r';refine⟨rfl,OldK.of_keep λb o e=>?_,Z,A⟩;cases q:H b with
    |none=>exact un.keep b o e q (by intro z;exact absurd (show b∈([]:List af)from z) 'c') 'c'
    |some u=>
     rcases N b with z|⟨ob,xs,z⟩
     ·rw[q]at z;cases z
     ·have Y:=un.gF b ob _ z;obtain⟨J,_⟩:=O b _ z;obtain⟨X,_⟩:=MH b _ Y;rw[e]at J;cases J;exact X
 cases hk:K.lookup a with
 |some o=>
  have e:=I a o hk;rw[C]at e;cases e;refine i (λ_=>none) (λ_=>.inl rfl) (.inr ⟨_,vs.toArray,_,hk,rfl,rfl,rfl,by rw[ZN,LZ];exact R,by simpa using T⟩) (λb u z=>by have t:(none:Option HO)=some u:=z;cases t) (λb z=>absurd rfl z) λz=>absurd rfl z
 |none=>
  refine i (λb=>if b=a then some (.mF {cls:=.type "list",data:=.seq vs.toArray} (.lst (l.map V.int)))else none) (λb=>?_) (.inl (.inr ⟨{cls:=.type "list",data:=.seq vs.toArray},Zn rfl⟩)) (λb u z=>?_) (λb z=>?_) λ_=>hk
  ·by_cases hb:b=a
   ·exact .inr ⟨_,_,Zn hb⟩
   ·exact .inl (Zj hb)
  ·by_cases hb:b=a
   ·have t:=(Zn hb).symm.trans z;cases t;subst hb;exact⟨C,by rw[Ze];exact R,vs,_,T,C⟩
   ·have t:=(Zj hb).symm.trans z;cases t
  ·by_cases hb:b=a
   ·exact hb
   ·exact absurd (Zj hb) z
theorem xt0{l:PySem.W.OpenLaw}{n k:Nat}{q:ag}{loose:List ar}{XP:(ar->Option aa)->ao->Prop}{YP:aj->ao->Prop}{d:DefRec}{K:Params->PySem.W.Frag}{CX:aj->oO}{sp:aj->Sp}{x:ar}
  (O:l.most=some n) (N:n<=sizeLine) (A:d.params.defaults=[]) (S:aV k callerA)
  (Q:∀(w:aj)(h:ao),YP w h->(K w.params).In h)
  (F:∀(w:aj)(g:ar->Option aa)(j:af)(h:ao),(K w.params).In h->h.Ns mainGlobals g->g d.name=some (.ref j) ->
   ∃m:ak,(∀(s:ae)(u:aa),BindsTo s m ⟨[u],[]⟩ [(x,u)]) /\
    ∀b:ao,(K w.params).In b->b.Ns mainGlobals g->aB l.prog w (K w.params) g b (CX w) k j m [x] (sp w))
  (P:∀(w:aj)(H:Hp)(a:af)(i:List Int),i.length<=n->zc H->bZ (K w.params) H a (i.map V.int)->sp w [.ref a] H (λv _=>v=.bl true) λ_ _ _=>False)
  (R:∀(w:aj)(H:Hp)(s:ae)(e:aa)(p:ae),CX w [] H s (λ_ _ _=>False) e p->False):
  PySem.W.WalkO q loose XP YP l.row.toRowW d [] (λf t=>PySem.call f t):=by
 refine Att.lN O A λw T M g mb j o pm Z B a t i G Y U X W I C c y D=>?_;have r:=Q w _ Y;obtain⟨m,hb,E⟩:=F w g j _ r G.T.g I;exact xf6 r G.T.g G.T.b G.T.builtins G.T.nolimit D C c (ZD y N) S E hb (λH J L=>P w H a i y J L) λH e p=>R w H M e p
abbrev aK:oO:=λ_ _ _ _ _ _=>False
abbrev E0:XK:=λ_ _ _=>False
theorem Fl{X:Cx}:uJ aK X E0:=λ_ _ _ _ _ _ _ h=>h.elim
structure aO(K:PySem.W.Frag)(x qual:ar)(st:aA)(f:af)(fd:ak):Prop where
 ex:∃(oc:aa)(od:Option af)(kV doc pm:aa)(an:Option af)(bJ ct:aa)(oH:Array (Option aa)),
  fd=PySem.W.fnOf x qual (pU st) (nR st) (bq st) .none kV doc pm an bJ ct/\K.lookup f=some ⟨oc,od,.func fd,oH⟩/\PySem.W.codeIn K bJ qual=true
 kp:PySem.W.keepIn K (.ref f)=true
theorem aO.ok{x b:ar}{st:aA}{f:af}{e:ak}{N ps:List ar}{k:Nat}{sp:Sp}(F:aO K x b st f e)(S:aE N ps (bq st))(len:∀c H Q E,sp c H Q E->c.length=ps.length)
  (i:∀(d:aa)(A:aq)(a:List Env)(s:ae)(H:Hp)(c:List V)(Q:VK)(E:XK),aV k (A.deeper (envOfC b (bq st) s.heap.objs.size f d))->sp c H Q E ->
   ∃t,ik (ju aK P w K mg base N b (bq st) f d A a s H E).lA (nR st) t/\t {nx:=λ_ m=>Q .ck m,rt:=Q} (start N c) H):aB P w K mg base aK (k+1) f e ps sp:=by
 obtain⟨v,C,kV,g,B,y,d,u,r,rfl,p,j⟩:=F.ex;refine QI p j S len λA a s H c Q E n l=>?_;obtain⟨t,h,q⟩:=i d A a s H c Q E n l;exact⟨t,h.lA,q⟩
theorem aO.binds{x a:ar}{st:aA}{f:af}{j:ak}{ps:List ar}(F:aO K x a st f j)
  (h:∀(kV b d:aa)(c:Option af)(e i:aa)(g:List aa),g.length=ps.length->bindArgs (PySem.W.fnOf x a (pU st) (nR st) (bq st) .none kV b d c e i) ⟨g,[]⟩=pure (ps.zip g)):Binds K j ps []:=by
 obtain⟨k,m,kV,b,d,c,e,i,p,rfl,n,l⟩:=F.ex;exact .all (h kV b d c e i)
theorem Lp{x a:ar}{st:aA}{f:af}{h:aa}{i e:Option af}{j:Array (Option aa)}{kV b g d ct:aa}(l:K.lookup f=some ⟨h,i,.func (PySem.W.fnOf x a (pU st) (nR st) (bq st) .none kV b g e d ct),j⟩)
  (c:PySem.W.codeIn K d a=true) (k:PySem.W.keepIn K (.ref f)=true):aO K x a st f (PySem.W.fnOf x a (pU st) (nR st) (bq st) .none kV b g e d ct):=⟨⟨h,i,kV,b,g,e,d,ct,j,rfl,l,c⟩,k⟩
theorem pY{n:Nat}(h:n<=1000):n<sizeLine:=Xv h 'b'
section
variable{X:Cx}
theorem pv(i:Nat){x:ar}{a:az}(e:X.N[i]?=some x:=by rfl)(c:rg X.env.scope x:=by first|exact Or.inl rfl|exact Or.inr (Or.inl rfl)|exact Or.inr (Or.inr rfl))(d:(x==("__debug__":ar))=false:=by decide)
  (b:(x==("__classdict__":ar))=false:=by decide):PE X (.Name x a) (oQ i):=xD1 e c d b
end
theorem cB{A B:Prop}(h:B):if false=true then A else B:=by
 rw[Zj ZA];exact h
theorem dy{A B:Prop}(h:A):if true=true then A else B:=by
 rw[Zn rfl];exact h
theorem cC{c A B:Prop}[Decidable c](h1:c->A)(h2:¬c->B):if c then A else B:=by
 by_cases h:c
 ·rw[Zn h];exact h1 h
 ·rw[Zj h];exact h2 h
theorem xO2{c A B:Prop}[Decidable c](hc:c)(h:B):if(!decide c)=true then A else B:=by
 rw[Zv hc];exact cB h
def aG(H a:Hp):Prop:=∀b o,H b=some o->a b=some o
theorem aG.refl(H:Hp):aG H H:=λ_ _ h=>h
theorem aG.trans{H d e:Hp}(a:aG H d)(b:aG d e):aG H e:=λc o h=>b c o (a c o h)
theorem aG.seq{K:PySem.W.Frag}{H b:Hp}{a:af}{xs:List V}(e:aG H b)(h:bZ K H a xs):bZ K b a xs:=by
 rcases h with(h|⟨o,h⟩)|h
 ·exact .inl (.inl (e _ _ h))
 ·exact .inl (.inr ⟨o,e _ _ h⟩)
 ·exact .inr h
end L2
namespace bI
open PySem
def g:Nat->Nat
 |0=>0
 |n+1=>5*g n+1
def F:Nat->Nat->Nat
 |0,x=>x
 |n+1,x=>5*F n x+1
theorem zd(n x:Nat):F n x=x+g n*(4*x+1):=by
 induction n with
 |zero=>simp[F,g]
 |succ n a=>
  show 5*F n x+1=x+(5*g n+1)*(4*x+1);rw[a,Nat.add_mul,Nat.one_mul,Y5];lia
theorem Jg(m n x:Nat):F (m+n) x=F m (F n x):=by
 induction m with
 |zero=>simp[F]
 |succ m a=>
  rw[Nat.succ_add];show 5*F (m+n) x+1=5*F m (F n x)+1;rw[a]
theorem g_F(n:Nat):g n=F n 0:=by
 rw[zd];simp
theorem xO3(m n:Nat):g (m+n)=g n+g m*(4*g n+1):=by
 rw[g_F,Jg,zd m,<- g_F n]
theorem QG:∀k:Nat,∃c,g (2^k)=2^k*(2*c+1)
 |0=>⟨0,rfl⟩
 |k+1=>by
  obtain⟨c,a⟩:=QG k;have e:g (2^(k+1))=g (2^k)*(4*g (2^k)+2):=by
   rw[YL,Nat.mul_two,xO3];generalize g (2^k)=y;rw[Vh,Vh];lia
  rw[e,a];refine⟨2^k*(2*c+1)*(2*c+1)+c,?_⟩;rw[YL];generalize 2^k=p;have h1:p*(2*c+1)*(4*(p*(2*c+1))+2)=p*2*((2*c+1)*(2*(p*(2*c+1))+1)):=by
   have:4*(p*(2*c+1))+2=2*(2*(p*(2*c+1))+1):=by lia
   rw[this,Y5,Y5,VR (2*c+1) 2]
  rw[h1];congr 1;rw[Vh,Nat.mul_one,VR,Yz (2*c+1) (p*(2*c+1))];lia
theorem HA(k a q:Nat):(2^k*a+q)%2^(k+1)=(2^k*(a%2)+q)%2^(k+1):=by
 have b:a=2*(a/2)+a%2:=by lia
 have:2^k*a+q=(2^k*(a%2)+q)+2^(k+1)*(a/2):=by
  have h:2^k*a+q=2^k*(2*(a/2)+a%2)+q:=by rw[<- b]
  rw[h,YL,Vh,Y5];lia
 rw[this,Nat.add_mul_mod_self_left]
theorem QF:∀(k x y:Nat),∃r,r<2^k/\F r x%2^k=y%2^k
 |0,x,y=>⟨0,by decide,by simp[Nat.mod_one]⟩
 |k+1,x,y=>by
  obtain⟨r,j,e⟩:=QF k x y;obtain⟨c,b⟩:=QG k;have g:F (2^k+r) x=F r x+2^k*(2*c+1)*(4*F r x+1):=by
   rw[Jg,zd (2^k),b]
  have a:2^k*(y/2^k)+y%2^k=y:=X4 y _;have f:2^k*(F r x/2^k)+F r x%2^k=F r x:=X4 _ _;by_cases h:F r x/2^k%2=y/2^k%2
  ·refine⟨r,by lia,?_⟩;rw[<- f,<- a,HA,h,<- HA,e]
  ·refine⟨2^k+r,by lia,?_⟩;rw[g];generalize F r x=z at *;have o:(2*c+1)*(4*z+1)=2*(c*(4*z+1)+2*z)+1:=by
    rw[Nat.add_mul,Nat.one_mul,Y5];lia
   have d:z+2^k*(2*c+1)*(4*z+1)=2^k*(z/2^k+(2*(c*(4*z+1)+2*z)+1))+z%2^k:=by
    rw[Y5,o,Vh (2^k) (z/2^k)];lia
   rw[d,<- a,HA,e];have i:(z/2^k+(2*(c*(4*z+1)+2*z)+1))%2=y/2^k%2:=by lia
   rw[i,<- HA]
def kl(mask:Nat):Nat->Nat->Nat->Nat
 |0,i,_=>i
 |r+1,i,p=>kl mask r (SetTable.leap mask i p).1 (SetTable.leap mask i p).2
theorem Rt(k:Nat):∀(r i:Nat),kl (2^k-1) r (i%2^k) 0=F r i%2^k
 |0,i=>rfl
 |r+1,i=>by
  have a:0<2^k:=WF k;show kl (2^k-1) r ((i%2^k*5+1+0/32)%(2^k-1+1)) (0/32)=_;have c:2^k-1+1=2^k:=by exact x4 a
  have b:(i%2^k*5+1+0/32)%2^k=(5*i+1)%2^k:=by
   simp only[Nat.zero_div,V4];rw[Nat.add_mod,Nat.mul_mod,Nat.mod_mod,<- Nat.mul_mod,<- Nat.add_mod,Yz]
  rw[c,b,Nat.zero_div,Rt k r (5*i+1)];have:F r (5*i+1)=F (r+1) i:=by rw[Jg r 1 i];rfl
  rw[this]
theorem Tu(mask:Nat):∀(a b i p:Nat),kl mask (a+b) i p=kl mask b (kl mask a i p) (p/32^a)
 |0,b,i,p=>by simp[kl]
 |a+1,b,i,p=>by
  rw[Nat.succ_add];show kl mask (a+b) _ _=kl mask b (kl mask a _ _) _;rw[Tu mask a b];show kl mask b _ (p/32/32^a)=_;rw[WY,YL,Yz (32^a) 32]
theorem Tg(mask:Nat):∀(a i p:Nat),i<mask+1->kl mask a i p<mask+1
 |0,i,p,h=>h
 |a+1,i,p,_=>Tg mask a _ _ (YH _ (V5 _))
theorem Rr(k i p j:Nat)(h:i<2^k)(a:p<2^64)(c:j<2^k):∃r,r<13+2^k/\kl (2^k-1) r i p=j:=by
 have g:=Tg (2^k-1) 13 i p 'a';obtain⟨r,f,e⟩:=QF k (kl (2^k-1) 13 i p) j;refine⟨13+r,by lia,?_⟩;rw[Tu];have b:p/32^13=0:=Yw (WZ a 'b');have d:kl (2^k-1) 13 i p=kl (2^k-1) 13 i p%2^k:=(Y3 'a').symm;rw[b,d,Rt,e,Y3 c]
theorem Tf(mask i:Nat):SetTable.runEnd mask i-i<=9:=by unfold SetTable.runEnd;split<;>lia
def cO(t:av):Nat->SetTable.Probe->SetTable.Probe
 |0,p=>p
 |n+1,p=>cO t n (t.advance p)
theorem Hz(t:av):∀(m:Nat)(p:SetTable.Probe),m<=p.more->cO t m p={p with j:=p.j+m,more:=p.more-m}
 |0,p,_=>by simp[cO]
 |m+1,p,h=>by
  have e:t.advance p={p with j:=p.j+1,more:=p.more-1}:=by
   unfold SetTable.advance;rw[Zn 'a']
  show cO t m (t.advance p)=_;rw[e,Hz t m _ (by show m<=p.more-1;lia)];congr 1
  ·show p.j+1+m=p.j+(m+1);exact qu
  ·show p.more-1-m=p.more-(m+1);lia
theorem uO(t:av):∀(a b:Nat)(p:SetTable.Probe),cO t (a+b) p=cO t b (cO t a p)
 |0,b,p=>by simp[cO]
 |a+1,b,p=>by rw[Nat.succ_add];exact uO t a b _
structure Head(t:av)(i perturb:Nat)(d:Option Nat)(p:SetTable.Probe):Prop where
 e:p={j:=i,more:=SetTable.runEnd t.mask i-i,i:=i,perturb:=perturb,dummy:=d}
theorem q33{t:av}{i q:Nat}{d:Option Nat}{p:SetTable.Probe}(h:Head t i q d p):∃n,n<=10/\Head t (SetTable.leap t.mask i q).1 (SetTable.leap t.mask i q).2 d (cO t n p):=by
 have a:=Tf t.mask i;refine⟨(SetTable.runEnd t.mask i-i)+1,by lia,⟨?_⟩⟩;rw[uO,Hz t _ p (by rw[h.e];exact Zg _)];show t.advance _=_;rw[h.e];unfold SetTable.advance;rw[Zj (by show ¬(SetTable.runEnd t.mask i-i)-(SetTable.runEnd t.mask i-i)>0;exact Q7)]
theorem TY{t:av}{d:Option Nat}:∀(r:Nat){i q:Nat}{p:SetTable.Probe},Head t i q d p->∃n,n<=10*r/\(cO t n p).j=kl t.mask r i q/\(cO t n p).dummy=d
 |0,i,q,p,h=>⟨0,Zg _,by show p.j=i;rw[h.e],by show p.dummy=d;rw[h.e]⟩
 |r+1,i,q,p,h=>by
  obtain⟨n,c,h1⟩:=q33 h;obtain⟨m,e,b,a⟩:=TY r h1;exact⟨n+m,by lia,by rw[uO];exact b,by rw[uO];exact a⟩
theorem Te(t:av):∀(n:Nat)(p:SetTable.Probe),(cO t n p).dummy=p.dummy
 |0,p=>rfl
 |n+1,p=>by
  show(cO t n (t.advance p)).dummy=_;rw[Te t n];unfold SetTable.advance;split<;>rfl
theorem TX(h:Int):SetTable.bits h<2^64:=by
 unfold SetTable.bits;have:=WL h (show(0:Int)<2^64 by decide);lia
theorem meet{t:av}{k:Nat}(a:t.mask=2^k-1)(h:Int){j:Nat}(b:j<2^k):∃n,n<10*SetTable.turns t.mask/\(cO t n (t.probeStart h)).j=j:=by
 have hk:0<2^k:=WF k;have d:Head t (SetTable.bits h%(t.mask+1)) (SetTable.bits h) none (t.probeStart h):=⟨rfl⟩;obtain⟨r,f,e⟩:=Rr k (SetTable.bits h%(t.mask+1)) (SetTable.bits h) j (by rw[a];have:=YH (SetTable.bits h) hk;rw[show 2^k-1+1=2^k from x4 hk];exact this) (TX h) b;obtain⟨n,g,c,_⟩:=TY r d;refine⟨n,?_,by rw[c];rw[<- a]at e;exact e⟩;unfold SetTable.turns;lia
theorem Le(j:Nat):SetTable.has #[] j=false:=by
 unfold SetTable.has;simp
theorem TV{t:av}(a:t.dummies=#[])(j:Nat):(t.slot j=.empty)\/∃i,t.slot j=.live i/\t.place[i]?=some j:=by
 unfold SetTable.slot;simp only;split
 ·rename_i h;exact .inr ⟨_,rfl,by simpa using h⟩
 ·rw[a,Le];exact .inl rfl
theorem q37{t:av}(a:t.dummies=#[]){j:Nat}(h:j∉t.place.toList):t.slot j=.empty:=by
 rcases TV a j with e|⟨i,_,e⟩
 ·exact e
 ·refine absurd ?_ h;have:=Array.mem_of_getElem? e;simpa using this
theorem Lo:∀(n:Nat)(l:List Nat),l.length<n->∃j,j<n/\j∉l
 |0,l,h=>absurd h (Y0 _)
 |n+1,l,h=>by
  by_cases a:n∈l
  ·obtain⟨j,c,b⟩:=Lo n (l.erase n) (by rw[List.length_erase_of_mem a];have:=List.length_pos_of_mem a;lia);refine⟨j,Dh c,λm=>b ?_⟩;exact(List.mem_erase_of_ne 'a').mpr m
  ·exact⟨n,Yb n,a⟩
structure cP(t:av)(n:Nat):Prop where
 pl:t.place.size=n
 du:t.dummies=#[]
 ma:∃k,t.mask=2^k-1/\1<=k
 le:n<=t.mask
theorem cP.fill{t:av}{n:Nat}(h:cP t n):t.fill=n:=by unfold SetTable.fill;rw[h.pl,h.du];rfl
theorem cP.way{t:av}{n:Nat}(h:cP t n):t.gaveWay=false:=by
 obtain⟨k,e,hk⟩:=h.ma;unfold SetTable.gaveWay;rw[e];obtain⟨k,rfl⟩:∃m,k=m+1:=⟨k-1,by lia⟩;have:=WF k;have a:(2^(k+1)-1)%2=1:=by rw[YL];lia
 rw[a]
 rfl
theorem cP.meets{t:av}{n:Nat}(g:cP t n)(h:Int):∃m,m<10*SetTable.turns t.mask/\t.slot (cO t m (t.probeStart h)).j=.empty:=by
 obtain⟨k,e,_⟩:=g.ma;have hk:=WF k;obtain⟨j,b,a⟩:=Lo (2^k) t.place.toList (by simp only[Ys,g.pl];have:=g.le;lia);obtain⟨m,c,d⟩:=meet e h b;exact⟨m,c,by rw[d];exact q37 g.du a⟩
theorem KG{a:Type}(xs:Array a)(p:Nat)(x:a):(SetTable.insertAt xs p x).size=xs.size+1:=by
 unfold SetTable.insertAt;simp;lia
theorem cP.put{t:av}{n:Nat}(g:cP t n)(a:t.tooFull=false)(j:Nat):cP (t.put j).1 (n+1):=by
 have e:(t.put j).1={t with place:=SetTable.insertAt t.place (SetTable.below t.place j) j}:=by
  unfold SetTable.put;simp only;rw[g.du,Le];simp[g.du]
 rw[e];refine⟨by rw[KG,g.pl],g.du,g.ma,?_⟩;show n+1<=t.mask;unfold SetTable.tooFull at a;rw[g.fill]at a;have:=Xa a;lia
theorem Su{b c:Type}{f g:b->Option c}:∀(l:List b),(∀x∈l,f x=g x)->l.filterMap f=l.filterMap g
 |[],_=>rfl
 |a::l,h=>by
  rw[YD,YD,h a ZC,Su l λx d=>h x (Zq _ d)]
theorem Td:∀(f k n:Nat),3<=k->n<2^(k+f)->∃a,SetTable.sizeAbove.go n f (2^k)=2^a/\3<=a/\n<2^a/\(2^k<=2*n+8->2^a<=2*n+8)
 |0,k,n,hk,h=>⟨k,rfl,hk,h,λz=>z⟩
 |f+1,k,n,hk,h=>by
  unfold SetTable.sizeAbove.go;by_cases b:2^k<=n
  ·rw[Zn b,<- YL];obtain⟨a,e,h1,h2,c⟩:=Td f (k+1) n (UH hk) (by rw[show k+1+f=k+(f+1)from qu];exact h);exact⟨a,e,h1,h2,λ_=>c (by rw[YL];lia)⟩
  ·rw[Zj b];exact⟨k,rfl,hk,by lia,λz=>z⟩
theorem Rw{n:Nat}(h:n<2^60):∃k,SetTable.sizeAbove n=2^k/\3<=k/\n<2^k/\2^k<=2*n+8:=by
 obtain⟨k,e,h1,h2,a⟩:=Td 64 3 n 'b' (WZ h 'b');exact⟨k,e,h1,h2,a (by show 8<=2*n+8;exact C8)⟩
end bI
namespace bI
open PySem PySem.Spec PyProof.Rows
section
variable{K:Type}[DecidableEq K]{knd:KeyKind prog w K}{A:aq}{E:aa->ae->Prop}{s:ae}
theorem qw6(n:Nat){v:aa}(h:carriedByValue v=true):ofAClassStatement n v=pure false:=by
 cases v with
 |ref a=>simp[carriedByValue]at h
 |_=>first|rfl|(unfold ofAClassStatement;rfl)|(cases n<;>rfl)
theorem gq{M:Model}{a:af}{o:ay}{items:Array aa}{n:Nat}{Q:Option (Array aa)->ae->Prop}(c:s.heap.get? a=some o)(b:o.data=.seq items n)(h:Q (some items) s):
  ah M A (seqItems? (.ref a)) Q E s:=Wr c b h
theorem Rz{l:List K}{a:af}{Q:Bool->ae->Prop}(hk:IsTupleKey knd s.heap l a)(h:Q false s):ah (ai prog w) A (ofAClassStatement 8 (.ref a)) Q E s:=by
 have j:=hk.typeIs;obtain⟨o,e,n,i,_,k,m⟩:=hk;unfold ofAClassStatement;refine Za (WW j ?_);show ah _ _ ((if("tuple"=="tuple")=true then pure true else isSubtype (.type "tuple") (.type "tuple")) >>= _) _ _ s;rw[Zn 'b'];refine Za (Zb ?_);simp only[YY,Zy,Z6];refine Za (gq i k ?_);dsimp only;refine Za ?_;rw[<- WM];refine XO _ (λb r d=>r.1=none/\d=s/\∀v∈b,carriedByValue v=true) _ ?_ ?_ _ _ ⟨rfl,rfl,m.byValue⟩
 ·rintro v b r d ⟨c,rfl,f⟩;rw[qw6 _ (f v ZC)];refine Za (Zb ?_);simp only[Zy,Z6];exact Zb ⟨rfl,rfl,λu g=>f u (Zq _ g)⟩
 ·rintro⟨p,q⟩ d ⟨c,rfl,_⟩;simp only at c;subst c;exact Zb h
theorem xE6{l:List K}{a:af}{Q:Bool->ae->Prop}(hk:IsTupleKey knd s.heap l a)(h:Q false s){c:List aa}(m:∀y∈c,∃b e,y=.ref b/\IsTupleKey knd s.heap e b):
  ah (ai prog w) A (searchCouldBeSeen (.ref a) c) Q E s:=by
 unfold searchCouldBeSeen;refine Za ?_;refine XO _ (λd r f=>r.1=none/\f=s/\∀y∈d,∃b e,y=.ref b/\IsTupleKey knd s.heap e b) _ ?_ ?_ _ _ ⟨rfl,rfl,m⟩
 ·rintro y d r f ⟨g,rfl,i⟩;obtain⟨b,e,rfl,hb⟩:=i y ZC;have j:∀y∈d,∃b e,y=.ref b/\IsTupleKey knd f.heap e b:=λu k=>i u (Zq _ k);dsimp only;split
  ·exact Zb ⟨rfl,rfl,j⟩
  ·refine Za (wpAny_eqIsQuiet_tuple hk ?_);simp only[YY,Zy,Z6];refine Za (wpAny_eqIsQuiet_tuple hb ?_);simp only[YY,Zy,Z6];refine Za (Rz hk ?_);simp only[Zy,Z6];refine Za (Rz hb ?_);simp only[Zy,Z6];exact Zb ⟨rfl,rfl,j⟩
 ·rintro⟨n,p⟩ f ⟨g,rfl,_⟩;simp only at g;subst g;exact Zb h
def Hb(v:aa):Prop:=∃b,∀n,hashByValue n v=pure b
theorem Hb.int(k:Int)(t:Tok):Hb (.int k t):=⟨true,λn=>by cases n<;>rfl⟩
theorem Hb.str(x:ar)(t:Tok):Hb (.str x t):=⟨false,λn=>by cases n<;>rfl⟩
theorem qG6{a:af}{o:ay}{items:Array aa}{n:Nat}{Q:Bool->ae->Prop}(g:s.heap.get? a=some o)(hc:o.cls=.type "tuple")(k:o.data=.seq items n)(l:∀v∈items.toList,Hb v)(h:∀b,Q b s):
  ah (ai prog w) A (hashByValue 8 (.ref a)) Q E s:=by
 have j:s.TypeIs (.ref a) "tuple":=⟨o,g,hc⟩;unfold hashByValue;refine Za (X5 j Wh.lookup ?_);dsimp only;refine Za (gq g k ?_);dsimp only[Option.getD];refine Za ?_;rw[<- WM];refine XO _ (λc r e=>r.1=none/\e=s/\∀v∈c,Hb v) _ ?_ ?_ _ _ ⟨rfl,rfl,l⟩
 ·rintro v c r e ⟨d,rfl,f⟩;obtain⟨b,hb⟩:=f v ZC;rw[hb];refine Za (Zb ?_);cases b with
  |true=>
   simp only[YY,Zy,Z6];exact Zb ⟨rfl,rfl,λu i=>f u (Zq _ i)⟩
  |false=>
   simp only[VB,XM];exact Zb (Zb (h false))
 ·rintro⟨m,p⟩ e ⟨d,rfl,_⟩;simp only at d;subst d;exact Zb (h true)
theorem cP.fits{t:av}{n:Nat}(g:cP t n):t.fits n=true:=by
 unfold SetTable.fits;rw[g.pl,g.fill];simp[g.le]
theorem Km{h:ao}{a b:af}{o:ay}{j:List K}{es:Array (Int×aa)}{ep:Nat}{t:av}(x:IsTupleKey knd h j b)(f:h.get? a=some o)(g:o.data=.set es ep t):b≠a:=by
 rintro rfl;obtain⟨e,c,n,i,_,d,_⟩:=x;obtain rfl:e=o:=ZK (i.symm.trans f);rw[g]at d;exact nomatch d
theorem dJ{h h':ao}{a b:af}{d:List K}(x:IsTupleKey knd h d b)(j:b≠a)(hs:Heap.SameBut a h h'):IsTupleKey knd h' d b:=by
 obtain⟨e,c,n,g,f,i,k⟩:=x;exact⟨e,c,n,(hs.2 b j).trans g,f,i,k⟩
theorem TU{h:ao}{a:af}{o:ay}{es es':Array (Int×aa)}{ep:Nat}{t t':av}(c:h.get? a=some o)(b:o.data=.set es ep t):
  (h.update a (Obj.putSet es' t')).get? a=some {o with data:=.set es' (ep+1) t'}:=by
 have:=Z8 (Obj.putSet es' t') c (by rw[putSet_of es' t' b];rfl);rw[putSet_of es' t' b]at this;exact this
end
end bI
namespace bI
open PySem
def gT(xs:Array Nat):Prop:=∀i j (b:i<xs.size) (a:j<xs.size),i<j->xs[i]<xs[j]
theorem Ld{xs:Array Nat}(c:gT xs)(j:Nat):∀(f b a:Nat),a-b<=f->b<=a->a<=xs.size->(∀k (h:k<xs.size),k<b->xs[k]<j)->(∀k (h:k<xs.size),a<=k->j<=xs[k]) ->
  SetTable.below.go xs j f b a<=xs.size/\(∀k (h:k<xs.size),k<SetTable.below.go xs j f b a->xs[k]<j)/\(∀k (h:k<xs.size),SetTable.below.go xs j f b a<=k->j<=xs[k])
 |0,b,a,p,n,l,h1,h2=>by
  have e:b=a:=by lia
  subst e;exact⟨l,h1,h2⟩
 |f+1,b,a,p,n,l,h1,h2=>by
  unfold SetTable.below.go;by_cases m:b<a
  ·rw[Zn m];have g:(b+a)/2<xs.size:=by lia
   have q:xs.getD ((b+a)/2) j=xs[(b+a)/2]:=by simp[Array.getD,g]
   simp only;rw[q];by_cases d:xs[(b+a)/2]<j
   ·rw[Zn d];refine Ld c j f _ a 'a' 'a' l (λk h hk=>?_) h2;by_cases i:k=(b+a)/2
    ·subst i;exact d
    ·exact WZ (c k _ h g (C9 hk i)) d
   ·rw[Zj d];refine Ld c j f b _ 'a' 'a' (x6 g) h1 (λk h hk=>?_);by_cases i:k=(b+a)/2
    ·subst i;lia
    ·have:=c _ k g h 'a';lia
  ·rw[Zj m];have e:b=a:=by exact nY n m
   subst e;exact⟨l,h1,h2⟩
theorem fh{xs:Array Nat}(a:gT xs)(j:Nat):SetTable.below xs j<=xs.size/\(∀k (h:k<xs.size),k<SetTable.below xs j->xs[k]<j)/\(∀k (h:k<xs.size),SetTable.below xs j<=k->j<=xs[k]):=
 Ld a j xs.size 0 xs.size 'a' (Zs _) (Zg _) (λk h hk=>absurd hk (Y0 _)) (λk h hk=>absurd h 'a')
theorem xf8{xs:Array Nat}(d:gT xs){i j:Nat}(h:xs[i]?=some j):SetTable.below xs j=i:=by
 obtain⟨c,e⟩:=ZH.mp h;obtain⟨f,h1,h2⟩:=fh d j;rcases XA (SetTable.below xs j) i with z|z|z
 ·have a:=h2 (SetTable.below xs j) (md z c) (Zg _);have b:=d _ i (md z c) c z;lia
 ·exact z
 ·have:=h1 i c z;lia
theorem BN{t:av}(a:gT t.place){i j:Nat}(h:t.place[i]?=some j):t.slot j=.live i:=by
 unfold SetTable.slot;simp only;rw[xf8 a h,Zn (by rw[h];simp)]
theorem pZ{b:Type}(xs:Array b)(p:Nat)(e:p<=xs.size)(x:b)(k:Nat):(SetTable.insertAt xs p x)[k]?=if k<p then xs[k]? else if k=p then some x else xs[k-1]?:=by
 unfold SetTable.insertAt;have a:(xs.extract 0 p).size=p:=by simp;lia
 have d:((xs.extract 0 p).push x).size=p+1:=by rw[Array.size_push,a]
 rw[Array.getElem?_append,d];by_cases h1:k<p
 ·rw[Zn (Dh h1),Zn h1,Vq,a,Zj 'a',Array.getElem?_extract];simp only[Vu];rw[Zn 'a']
 ·rw[Zj h1];by_cases h2:k=p
  ·rw[Zn h2,Zn 'a',Vq,a,Zn h2]
  ·rw[Zj h2,Zj 'a',Array.getElem?_extract];have:p+(k-(p+1))=k-1:=by lia
   rw[this];by_cases c:k-1<xs.size
   ·rw[Zn 'a']
   ·rw[Zj 'a',XX (u7 c)]
theorem TR{xs:Array Nat}(h:∀i j x y:Nat,i<j->xs[i]?=some x->xs[j]?=some y->x<y):gT xs:=λi j c a b=>h i j _ _ b (ZT c) (ZT a)
theorem gT.at{xs:Array Nat}(h:gT xs){i j x y:Nat}(c:i<j)(b:xs[i]?=some x)(a:xs[j]?=some y):x<y:=by
 obtain⟨h1,rfl⟩:=ZH.mp b;obtain⟨h2,rfl⟩:=ZH.mp a;exact h i j h1 h2 c
theorem xf9{xs:Array Nat}(f:gT xs){j:Nat}(v:∀i:Nat,xs[i]?≠some j):gT (SetTable.insertAt xs (SetTable.below xs j) j):=by
 obtain⟨t,h1,h2⟩:=fh f j;have u:∀k x:Nat,k<SetTable.below xs j->xs[k]?=some x->x<j:=λk x hk e=>by
  obtain⟨h,rfl⟩:=ZH.mp e;exact h1 k h hk
 have s:∀k x:Nat,SetTable.below xs j<=k->xs[k]?=some x->j<x:=λk x hk e=>by
  obtain⟨h,q⟩:=ZH.mp e;have:=h2 k h hk;rw[q]at this;have w:x≠j:=λz=>v k (by rw[e,z]);lia
 generalize SetTable.below xs j=p at *;refine TR λa b x y r d c=>?_;rw[pZ _ _ t]at d c;by_cases g:a<p
 ·rw[Zn g]at d;by_cases n:b<p
  ·rw[Zn n]at c;exact f.at r d c
  ·rw[Zj n]at c;by_cases m:b=p
   ·rw[Zn m]at c;cases c;exact u a x g d
   ·rw[Zj m]at c;exact f.at 'a' d c
 ·rw[Zj g]at d;rw[Zj 'a',Zj 'a']at c;by_cases l:a=p
  ·rw[Zn l]at d;cases d;exact s _ y 'a' c
  ·rw[Zj l]at d;exact f.at 'a' d c
theorem BW{t t':av}(h:t.mask=t'.mask):∀(m:Nat)(p:SetTable.Probe),cO t m p=cO t' m p
 |0,p=>rfl
 |m+1,p=>by
  have e:t.advance p=t'.advance p:=by unfold SetTable.advance;rw[h]
  show cO t m (t.advance p)=cO t' m (t'.advance p);rw[e];exact BW h m _
theorem Gm{t t':av}(h:t.mask=t'.mask)(x:Int):t.probeStart x=t'.probeStart x:=by unfold SetTable.probeStart;rw[h]
def Way(t:av)(x:Int)(j:Nat):Prop:=∃m,m<10*SetTable.turns t.mask/\(cO t m (t.probeStart x)).j=j/\∀a,a<m->∃i:Nat,t.place[i]?=some (cO t a (t.probeStart x)).j
theorem Way.more{t t':av}{x:Int}{j:Nat}(w:Way t x j)(a:t.mask=t'.mask)(c:∀k:Nat,(∃i:Nat,t.place[i]?=some k)->∃i:Nat,t'.place[i]?=some k):Way t' x j:=by
 obtain⟨m,h1,h2,b⟩:=w;refine⟨m,by rw[<- a];exact h1,?_,λd e=>?_⟩
 ·rw[<- Gm a,<- BW a];exact h2
 ·rw[<- Gm a,<- BW a];exact c _ (b d e)
structure Good(t:av)(hs:Array Int):Prop where
 gr:cP t hs.size
 ri:gT t.place
 wy:∀(i j:Nat)(x:Int),t.place[i]?=some j->hs[i]?=some x->Way t x j
theorem Good.put{t:av}{hs:Array Int}(g:Good t hs)(m:t.tooFull=false){j:Nat}{x:Int}(p:∀i:Nat,t.place[i]?≠some j)(w:Way t x j):Good (t.put j).1 (SetTable.insertAt hs (t.put j).2 x):=by
 have e:(t.put j).1={t with place:=SetTable.insertAt t.place (SetTable.below t.place j) j}:=by
  unfold SetTable.put;simp only;rw[g.gr.du,Le];simp[g.gr.du]
 have n:(t.put j).2=SetTable.below t.place j:=rfl;have d:=(fh g.ri j).1;have q:t.place.size=hs.size:=g.gr.pl;have l:∀k:Nat,(∃i:Nat,t.place[i]?=some k)->∃i:Nat,(t.put j).1.place[i]?=some k:=λk ⟨i,c⟩=>by
  rw[e];by_cases h:i<SetTable.below t.place j
  ·exact⟨i,by rw[pZ _ _ d,Zn h];exact c⟩
  ·exact⟨i+1,by rw[pZ _ _ d,Zj 'a',Zj 'a'];exact c⟩
 have f:t.mask=(t.put j).1.mask:=by rw[e]
 refine⟨by rw[KG];exact g.gr.put m j,by rw[e];exact xf9 g.ri p,λi k y c b=>?_⟩;rw[n,pZ _ _ 'a']at b;rw[e]at c;have a:(SetTable.insertAt t.place (SetTable.below t.place j) j)[i]?=some k:=c;rw[pZ _ _ d]at a;by_cases h1:i<SetTable.below t.place j
 ·rw[Zn h1]at a b;exact(g.wy i k y a b).more f l
 ·rw[Zj h1]at a b;by_cases h2:i=SetTable.below t.place j
  ·rw[Zn h2]at a b;cases a;cases b;exact w.more f l
  ·rw[Zj h2]at a b;exact(g.wy (i-1) k y a b).more f l
end bI
namespace bI
open PySem PySem.Spec PyProof.Rows
theorem PB{t:av}(x:t.dummies=#[])(f:Nat->Int)(h:Int)(st:SetTable.Probe):∀(q m M:Nat),M-m<q->m<=M->st.dummy=none->t.slot (cO t M st).j=.empty ->
  (∃p j,m<=p/\p<=M/\SetTable.probe.go t f h q (cO t m st)=some (.empty j none)/\(cO t p st).j=j/\t.slot j=.empty/\∀n,m<=n->n<p->∃i:Nat,t.place[i]?=some (cO t n st).j/\f i≠h) \/
  (∃p j i,m<=p/\p<M/\SetTable.probe.go t f h q (cO t m st)=some (.candidate j i (cO t (p+1) st))/\(cO t p st).j=j/\t.slot j=.live i/\t.place[i]?=some j/\f i=h/\∀n,m<=n->n<p->∃i:Nat,t.place[i]?=some (cO t n st).j/\f i≠h)
 |0,m,M,h1,_,_,_=>absurd h1 (Y0 _)
 |q+1,m,M,h1,h2,w,s=>by
  unfold SetTable.probe.go;have C:(cO t m st).dummy=none:=by rw[Te];exact w
  have A:t.advance (cO t m st)=cO t (m+1) st:=by rw[uO];rfl
  rcases TV x (cO t m st).j with e|⟨i,e,v⟩
  ·rw[e];exact .inl ⟨m,_,Zg _,h2,by rw[C],rfl,e,λn a b=>absurd a 'a'⟩
  ·rw[e];have y:m<M:=by
    rcases Nat.lt_or_ge m M with z|z
    ·exact z
    ·have:m=M:=by lia
     subst this;rw[e]at s;cases s
   by_cases r:f i==h
   ·refine .inr ⟨m,_,i,Zg _,y,?_,rfl,e,v,by simpa using r,λn a b=>absurd a 'a'⟩;simp only;rw[Zn r,A]
   ·simp only;rw[Zj r,A];have ext:∀p,(∀n,m+1<=n->n<p->∃i:Nat,t.place[i]?=some (cO t n st).j/\f i≠h)->∀n,m<=n->n<p->∃i:Nat,t.place[i]?=some (cO t n st).j/\f i≠h:=λp B n a b=>by
     by_cases z:n=m
     ·subst z;exact⟨i,v,by simpa using r⟩
     ·exact B n 'a' b
    rcases PB x f h st q (m+1) M 'a' y w s with⟨p,j,a,b,c,d,u,g⟩|⟨p,j,D,a,b,c,d,u,g,k,l⟩
    ·exact .inl ⟨p,j,by lia,b,c,d,u,ext p g⟩
    ·exact .inr ⟨p,j,D,by lia,b,c,d,u,g,k,ext p l⟩
theorem Tb{t:av}{f:Nat->Int}{h:Int}{st:SetTable.Probe}{u:Option SetTable.Met}{r M:Nat}(C:t.probe f h (cO t r st)=u)(D:t.dummies=#[])(F:M<10*SetTable.turns t.mask)(h2:r<=M)(E:st.dummy=none)(B:t.slot (cO t M st).j=.empty)
  {es:Array (Int×aa)}(v:∀(i:Nat) e,es[i]?=some e->f i=e.1) (G:t.place.size=es.size):
  (∃m j,r<=m/\m<=M/\u=some (.empty j none)/\(cO t m st).j=j/\t.slot j=.empty/\∀n,r<=n->n<m->∃i:Nat,t.place[i]?=some (cO t n st).j/\∀e,es[i]?=some e->e.1≠h) \/
  (∃m j i,r<=m/\m<M/\u=some (.candidate j i (cO t (m+1) st))/\(cO t m st).j=j/\t.slot j=.live i/\t.place[i]?=some j/\(∀e,es[i]?=some e->e.1=h)/\∀n,r<=n->n<m->∃i:Nat,t.place[i]?=some (cO t n st).j/\∀e,es[i]?=some e->e.1≠h):=by
 subst C;rcases PB D f h st (10*SetTable.turns t.mask) r M 'a' h2 E B with⟨m,j,a,b,c,d,s,g⟩|⟨m,j,A,a,b,c,d,s,g,k,l⟩
 ·exact .inl ⟨m,j,a,b,c,d,s,λn x y=>let ⟨i,p,q⟩:=g n x y;⟨i,p,λe z w=>q (by rw[v i e z];exact w)⟩⟩
 ·exact .inr ⟨m,j,A,a,b,c,d,s,g,λe z=>by rw[<- v A e z];exact k,λn x y=>let ⟨i,p,q⟩:=l n x y;⟨i,p,λe z w=>q (by rw[v i e z];exact w)⟩⟩
section
variable{K:Type}[DecidableEq K]{knd:KeyKind prog w K}{A:aq}{E:aa->ae->Prop}{s:ae}
theorem xE7{t:av}{es:Array (Int×aa)}{b:List K}{h:ao}(G:Good t (es.map (·.1)))(L:∀(i:Nat) e,es[i]?=some e->∃a B,e.2=.ref a/\IsTupleKey knd h B a/\e.1=tupleKeyHash knd B){k j:Nat}(p:(cO t k (t.probeStart (tupleKeyHash knd b))).j=j)(f:t.slot j=.empty)
  (J:∀r,r<k->∃i:Nat,t.place[i]?=some (cO t r (t.probeStart (tupleKeyHash knd b))).j/\∀e a,es[i]?=some e->e.2=.ref a->¬IsTupleKey knd h b a):
  ∀(i:Nat) e a,es[i]?=some e->e.2=.ref a->¬IsTupleKey knd h b a:=by
 intro i e a d v y;have g:cP t es.size:=by have:=G.gr;rw[Yj]at this;exact this
 obtain⟨P,N,q,F,I⟩:=L i e d;rw[v]at q;cases q;have D:N=b:=F.inj y;subst D;have H:i<t.place.size:=by rw[g.pl];exact(ZH.mp d).1
 have l:t.place[i]?=some t.place[i]:=ZT H;obtain⟨m,Q,n,x⟩:=G.wy i _ e.1 l (by rw[Xw,d];rfl);rw[I]at n x;rcases XA m k with z|z|z
 ·obtain⟨O,c,M⟩:=J m z;rw[n]at c;have C:=BN G.ri c;have u:=BN G.ri l;rw[C]at u;cases u;exact M e a d v y
 ·subst z;rw[n]at p;rw[<- p,BN G.ri l]at f;cases f
 ·obtain⟨O,c⟩:=x k z;rw[p]at c;rw[BN G.ri c]at f;cases f
theorem xt2{a b:af}{o:ay}{es:Array (Int×aa)}{ep:Nat}{t:av}{h:List K}{Q:SetFound->ae->Prop}(hu:A.units<cLine)
  (ho:s.heap.get? a=some o) (hd:o.data=.set es ep t) (G:Good t (es.map (·.1))) (hk:IsTupleKey knd s.heap h b)
  (D:∀(i:Nat) e,es[i]?=some e->∃k u,e.2=.ref k/\IsTupleKey knd s.heap u k/\e.1=tupleKeyHash knd u)
  (there:(∃(i:Nat)(e:Int×aa)(k:af),es[i]?=some e/\e.2=.ref k/\IsTupleKey knd s.heap h k)->Q (.there none) s)
  (free:∀j,(∀(i:Nat) e k,es[i]?=some e->e.2=.ref k->¬IsTupleKey knd s.heap h k)->Way t (tupleKeyHash knd h) j->(∀i:Nat,t.place[i]?≠some j)->Q (.free j false) s)
  {M:Nat}(Z:M<10*SetTable.turns t.mask) (B:t.slot (cO t M (t.probeStart (tupleKeyHash knd h))).j=.empty):
  ∀(d p f:Nat)(X:Option SetTable.Probe),M-p<=d->p<=M->d<f->X.getD (t.probeStart (tupleKeyHash knd h))=cO t p (t.probeStart (tupleKeyHash knd h)) ->
   (∀l,l<p->∃i:Nat,t.place[i]?=some (cO t l (t.probeStart (tupleKeyHash knd h))).j/\∀e k,es[i]?=some e->e.2=.ref k->¬IsTupleKey knd s.heap h k) ->
   ah (ai prog w) A (setSearchFrom a (.ref b) (tupleKeyHash knd h) true f X) Q E s:=by
 have g:cP t es.size:=by have:=G.gr;rw[Yj]at this;exact this
 intro d
 induction d using Nat.strongRecOn with
 |_ d ih=>
  intro p f X h1 h2 h3 kJ Y;cases f with
  |zero=>exact absurd h3 (Y0 _)
  |succ f=>
   unfold setSearchFrom;refine Za (Yg ho hd g.fits ?_);dsimp only;rw[g.way];simp only[Zy,Z6];rw[kJ];split
   rotate_left
   ·rename_i N;exact Or.elim (Tb rfl g.du Z h2 rfl B (es:=es) (λi e x=>by show(es[i]?.map (·.1)).getD 0=e.1;rw[x];rfl) g.pl) (λ⟨_,_,_,_,e,_⟩=>(N _ e).elim) (λ⟨_,_,_,_,_,e,_⟩=>(N _ e).elim)
   rename_i met N;rcases Tb N g.du Z h2 rfl B (es:=es) (λi e x=>by show(es[i]?.map (·.1)).getD 0=e.1;rw[x];rfl) g.pl with⟨m1,j,a1,a2,a3,a4,a5,a6⟩|⟨m1,j,i,a1,a2,a3,a4,a5,a6,a7,a8⟩
   ·cases a3;dsimp only;refine Zb ?_;have nj:∀i:Nat,t.place[i]?≠some j:=λi z=>by rw[BN G.ri z]at a5;cases a5
    have all:∀l,l<m1->∃i:Nat,t.place[i]?=some (cO t l (t.probeStart (tupleKeyHash knd h))).j/\∀e k,es[i]?=some e->e.2=.ref k->¬IsTupleKey knd s.heap h k:=λl J=>by
     by_cases z:l<p
     ·exact Y l z
     ·obtain⟨H,T,W⟩:=a6 l 'a' J;refine⟨H,T,λe c m q F=>W e m ?_⟩;obtain⟨c',kc,v,P,S⟩:=D H e m;rw[q]at v;cases v;rw[S,P.inj F]
    exact free j (xE7 G D a4 a5 all) ⟨m1,by lia,a4,λl J=>let ⟨i,I,_⟩:=all l J;⟨i,I⟩⟩ nj
   ·cases a3;dsimp only;have I:i<es.size:=by
     have:=(ZH.mp a6).1;rw[g.pl]at this;exact this
    obtain⟨k,u,e2,V,e3⟩:=D i es[i] (ZT I);have L:es[i]?=some (es[i].1,.ref k):=by
     rw[<- e2];simp[I]
    have sm:t.sameMemory t.moves t.mask=some true:=by
     unfold SetTable.sameMemory;rw[Zn 'c']
    have C:∀y∈(es.filter (·.1==tupleKeyHash knd h)).toList.map (·.2),∃b gk,y=.ref b/\IsTupleKey knd s.heap gk b:=λy hy=>by
     obtain⟨e,U,rfl⟩:=ZF.mp hy;have:e∈es:=(Array.mem_filter.mp (show e∈es.filter (·.1==tupleKeyHash knd h) by simpa using U)).1;obtain⟨n,hn,en⟩:=Array.mem_iff_getElem.mp this;obtain⟨O,L9,m,q,_⟩:=D n e (by rw[ZT hn,en]);exact⟨O,L9,m,q⟩
    have nx:u≠h->ah (ai prog w) A (setSearchFrom a (.ref b) (tupleKeyHash knd h) true f (some (cO t (m1+1) (t.probeStart (tupleKeyHash knd h))))) Q E s:=λr=>by
     refine ih (d-1) 'a' (m1+1) f _ 'a' 'a' 'a' rfl λl J=>?_;by_cases z:l<p
     ·exact Y l z
     ·by_cases z2:l=m1
      ·subst z2;refine⟨i,by rw[a4];exact a6,λe c m q F=>r ?_⟩;rw[L]at m;cases m;cases q;exact V.inj F
      ·obtain⟨H,T,W⟩:=a8 l 'a' 'a';refine⟨H,T,λe c m q F=>W e m ?_⟩;obtain⟨c',kc,v,P,S⟩:=D H e m;rw[q]at v;cases v;rw[S,P.inj F]
    have R:u=h->Q (.there none) s:=λx=>there ⟨i,_,k,L,rfl,by rw[<- x];exact V⟩;cases hl:t.led
    case' false=>
     simp only[VB,XM];refine Za (xE6 hk ?_ C)
    all_goals
     simp only[YY,Zy,Z6];rw[L];dsimp only;refine Za (Yo (wpAny_eqBool_tuple hu V hk ?_));by_cases r:u=h
     case' pos=>rw[Zv r]
     case' neg=>rw[ZM r]
     all_goals
      refine Za (Yg ho hd g.fits ?_);dsimp only;simp only[Bool.and_self,Bool.and_false,Zy,XM,Z6]
     case pos=>exact Zb (R r)
     rw[sm];dsimp only;simp only[XM];rw[a5];dsimp only;rw[L];dsimp only;refine Za (wpAny_isSame_ref_self ?_);refine Za (Zb ?_);simp only[XM];exact nx r
end
section
variable{K:Type}[DecidableEq K]{knd:KeyKind prog w K}
def h_(knd:KeyKind prog w K)(h:ao)(c:List K)(b:af):Prop:=∃o a n,h.get? b=some o/\o.cls=.type "tuple" /\ o.data=.seq a n/\ItemsAre knd c a.toList/\∀v∈a.toList,Hb v
theorem h_.key{h:ao}{a:List K}{b:af}(x:h_ knd h a b):IsTupleKey knd h a b:=let ⟨o,items,n,h1,h2,h3,h4,_⟩:=x;⟨o,items,n,h1,h2,h3,h4⟩
theorem h_.hb{h:ao}{g:List K}{b:af}(x:h_ knd h g b):∀o a m,h.get? b=some o->o.data=.seq a m->∀v∈a.toList,Hb v:=λo a m e d=>by
 obtain⟨i,j,k,h1,_,c,_,f⟩:=x;rw[e]at h1;cases h1;rw[d]at c;cases c;exact f
theorem h_.at{h h':ao}{a:List K}{b:af}(x:h_ knd h a b)(k:∀o,h.get? b=some o->h'.get? b=some o):h_ knd h' a b:=let ⟨o,items,n,h1,r⟩:=x;⟨o,items,n,k o h1,r⟩
variable{R:Result->ae->Prop}{I:af}{fp wr:List af}{G:Array GenState->Array GenState->Prop}{n:Nat}{P:Nat->aa->Prop}{St:Nat->ae->Prop}
def QE(knd:KeyKind prog w K)(S:af)(wr:List af)(P:Nat->aa->Prop)(val:Nat->List K)(h:ao):Prop:=∀i v,P i v->∃b,v=.ref b/\b≠S/\b∉wr/\h_ knd h (val i) b
def xO4(knd:KeyKind prog w K)(wr:List af)(h:ao):Prop:=∀b∈wr,¬∃a,IsTupleKey knd h a b
end
section
variable{K:Type}[DecidableEq K]{knd:KeyKind prog w K}{A:aq}{E:aa->ae->Prop}{s:ae}
theorem qw9{a:Type}{xs:Array a}{p:Nat}(c:p<=xs.size){x e:a}{i:Nat}(h:(SetTable.insertAt xs p x)[i]?=some e):e=x\/∃b:Nat,xs[b]?=some e:=by
 rw[pZ _ _ c]at h;split at h
 ·exact .inr ⟨_,h⟩
 ·split at h
  ·exact .inl (ZK h).symm
  ·exact .inr ⟨_,h⟩
theorem qx0{a:Type}{xs:Array a}{p:Nat}(b:p<=xs.size){x e:a}{i:Nat}(h:xs[i]?=some e):∃c:Nat,(SetTable.insertAt xs p x)[c]?=some e:=by
 by_cases z:i<p
 ·exact⟨i,by rw[pZ _ _ b,Zn z];exact h⟩
 ·exact⟨i+1,by rw[pZ _ _ b,Zj 'a',Zj 'a'];exact h⟩
theorem qG8{a c:Type}(f:a->c)(xs:Array a)(p:Nat)(b:p<=xs.size)(x:a):(SetTable.insertAt xs p x).map f=SetTable.insertAt (xs.map f) p (f x):=by
 apply Array.ext_getElem?
 intro i;rw[Xw,pZ _ _ b,pZ _ _ (by rw[Yj];exact b)];split
 ·rw[Xw]
 ·split
  ·rfl
  ·rw[Xw]
theorem Good.plain{t:av}{hs:Array Int}(g:Good t hs)(b:Bool):Good {t with plain:=b} hs:=⟨⟨g.gr.pl,g.gr.du,g.gr.ma,g.gr.le⟩,g.ri,λi j x h1 h2=>by
 obtain⟨m,d,a,c⟩:=g.wy i j x h1 h2;have e:t.mask=({t with plain:=b}:av).mask:=rfl;exact Way.more (t:=t) ⟨m,d,a,c⟩ e λk hk=>hk⟩
end
end bI
namespace bI
open PySem
def l6(mask:Nat):av:={mask:=mask,place:=#[],dummies:=#[],finger:=0,led:=false,moves:=0,plain:=true}
theorem Ss{mask:Nat}{o:Array (Option Nat)}(hs:o.size=mask+1):∀(f r i p:Nat)(c:SetTable.Probe),r<f->i<=mask->o[kl mask r i p]?=some none->Head (l6 mask) i p none c ->
  ∃j m,SetTable.layClean.free mask o f i p=some j/\m<10*f/\(cO (l6 mask) m c).j=j/\o[j]?=some none/\∀b,b<m->∃v:Nat,o[(cO (l6 mask) b c).j]?=some (some v)
 |0,r,i,p,c,h,_,_,_=>absurd h (Y0 _)
 |f+1,r,i,p,c,h,G,g,l=>by
  have I:=Tf mask i;have H:i<=SetTable.runEnd mask i/\SetTable.runEnd mask i<=mask:=by unfold SetTable.runEnd;split<;>lia
  have u:∀k,k<=SetTable.runEnd mask i-i->(cO (l6 mask) k c).j=i+k:=λk hk=>by
   rw[Hz (l6 mask) k c (by rw[l.e];exact hk),l.e]
  have x:∀k,k<=SetTable.runEnd mask i-i->∃a,o[i+k]?=some a/\(o.getD (i+k) (some 0)).isNone=a.isNone:=λk hk=>by
   have:i+k<o.size:=by lia
   exact⟨o[i+k],ZT this,by simp[Array.getD,this]⟩
  have n:∀k,k<=SetTable.runEnd mask i-i->¬(o.getD (i+k) (some 0)).isNone=true->∃v:Nat,o[(cO (l6 mask) k c).j]?=some (some v):=λk hk C=>by
   obtain⟨a,t,s⟩:=x k hk;rw[u k hk,t];cases a with
   |none=>exact absurd s C
   |some v=>exact⟨v,rfl⟩
  unfold SetTable.layClean.free;cases e:(List.range (SetTable.runEnd mask i+1-i)).find? λk=>(o.getD (i+k) (some 0)).isNone with
  |some k=>
   obtain⟨h1,h2,q⟩:=List.find?_range_eq_some.mp e;have hk:k<=SetTable.runEnd mask i-i:=by have:=ZR.mp h2;lia
   obtain⟨a,t,s⟩:=x k hk;refine⟨i+k,k,rfl,by lia,u k hk,?_,λb y=>n b 'a' λz=>by have:=q b y;rw[z]at this;cases this⟩;cases a with
   |none=>exact t
   |some v=>rw[s]at h1;cases h1
  |none=>
   have A:∀k,k<=SetTable.runEnd mask i-i->¬(o.getD (i+k) (some 0)).isNone=true:=λk hk=>(List.find?_eq_none.mp e) k (ZR.mpr 'a');cases r with
   |zero=>
    obtain⟨v,w⟩:=n 0 (Zs _) (A 0 (Zs _));rw[u 0 (Zs _)]at w;have g:o[i]?=some none:=g;rw[V4,g]at w;cases w
   |succ r=>
    have F:Head (l6 mask) (SetTable.leap mask i p).1 (SetTable.leap mask i p).2 none (cO (l6 mask) ((SetTable.runEnd mask i-i)+1) c):=by
     refine⟨?_⟩;rw[uO,Hz (l6 mask) _ c (by rw[l.e];exact Zg _),l.e];show(l6 mask).advance _=_;unfold SetTable.advance;rw[Zj (by show ¬(SetTable.runEnd mask i-i)-(SetTable.runEnd mask i-i)>0;exact Q7)]
     rfl
    obtain⟨j,m,h1,h2,q,E,D⟩:=Ss hs f r _ _ _ (qw h) (Wj (YH _ (V5 mask))) g F;refine⟨j,(SetTable.runEnd mask i-i)+1+m,h1,by lia,by rw[uO];exact q,E,λb y=>?_⟩;by_cases B:b<=SetTable.runEnd mask i-i
    ·exact n b B (A b B)
    ·obtain⟨d,rfl⟩:∃d,b=(SetTable.runEnd mask i-i)+1+d:=⟨b-((SetTable.runEnd mask i-i)+1),by lia⟩;rw[uO];exact D d 'a'
structure Lay(mask:Nat)(hs:List Int)(o:Array (Option Nat))(J:List Nat):Prop where
 sz:o.size=mask+1
 ix:∀j k:Nat,o[j]?=some (some k)<->J[k]?=some j
 wy:∀(k j:Nat) x,J[k]?=some j->hs[k]?=some x->∃m,m<10*SetTable.turns mask/\(cO (l6 mask) m ((l6 mask).probeStart x)).j=j/\∀m',m'<m->∃v:Nat,o[(cO (l6 mask) m' ((l6 mask).probeStart x)).j]?=some (some v)
theorem xg0{mask k:Nat}{hs:List Int}{o:Array (Option Nat)}{J:List Nat}(E:mask=2^k-1)(g:Lay mask hs o J)(I:J.length<=mask){x:Int}(F:hs[J.length]?=some x):
  ∃j,SetTable.layClean.free mask o (SetTable.turns mask) (SetTable.bits x%(mask+1)) (SetTable.bits x)=some j/\Lay mask hs (o.setIfInBounds j (some J.length)) (J++[j]):=by
 have hk:=WF k;obtain⟨s,u,D⟩:=Lo (mask+1) J 'a';have A:mask+1=2^k:=by lia
 obtain⟨r,K,w⟩:=Rr k (SetTable.bits x%(mask+1)) (SetTable.bits x) s (by rw[<- A];exact YH _ (V5 _)) (TX x) (qm u A);rw[<- E]at w;obtain⟨j,m,h1,h2,B,p,C⟩:=Ss g.sz (SetTable.turns mask) r _ (SetTable.bits x) ((l6 mask).probeStart x) (by unfold SetTable.turns;lia) (Wj (YH _ (V5 _))) (by
  rw[w,ZT (by rw[g.sz];exact u)];cases ho:o[s]'(by rw[g.sz];exact u)with
  |none=>rfl
  |some v=>exact absurd (Zm ((g.ix s v).mp (ZH.mpr ⟨_,ho⟩))) D) ⟨rfl⟩
 have h:=(ZH.mp p).1;have keep:∀i:Nat,(∃v:Nat,o[i]?=some (some v))->∃v:Nat,(o.setIfInBounds j (some J.length))[i]?=some (some v):=λi ⟨v,G⟩=>by
  rw[Vl];by_cases e:j=i
  ·exact⟨_,by rw[Zn e,Zn h]⟩
  ·exact⟨v,by rw[Zj e];exact G⟩
 refine⟨j,h1,by rw[Array.size_setIfInBounds];exact g.sz,λi n=>?_,λn i y f t=>?_⟩
 ·rw[Vl,List.getElem?_append];by_cases e:j=i
  ·subst e;rw[Zn rfl,Zn h];split
   ·rename_i H;exact⟨λz=>by cases z;exact absurd H (Yn _),λz=>by rw[(g.ix j n).mpr z]at p;cases p⟩
   ·exact⟨λz=>by cases z;rw[Vv];rfl,λz=>by
     have:=(cf z).1;rw[W8]at this;rw[show n=J.length by lia]⟩
  ·rw[Zj e,g.ix i n];split
   ·exact Iff.rfl
   ·exact⟨λz=>absurd (cf z).1 (by assumption),λz=>absurd (WN.mp (Zm z)).symm e⟩
 ·rw[List.getElem?_append]at f;split at f
  ·obtain⟨a,b,c,d⟩:=g.wy n i y f t;exact⟨a,b,c,λl q=>keep _ (d l q)⟩
  ·have:=(cf f).1;rw[W8]at this;rw[show n=J.length by lia,F]at t;cases t;rw[WN.mp (Zm f)];exact⟨m,h2,B,λl q=>keep _ (C l q)⟩
theorem q41{mask k:Nat}(s:mask=2^k-1)(hs:Array Int)(v:hs.size<=mask):∃o J,SetTable.layClean mask hs=some o/\Lay mask hs.toList o J/\J.length=hs.size:=by
 have go:∀(l:List Int)(o:Array (Option Nat))(J:List Nat),Lay mask hs.toList o J->J.length+l.length=hs.size->(∀i x,l[i]?=some x->hs.toList[J.length+i]?=some x)->∃b a,(l.foldl (λ(c:Option (Array (Option Nat)×Nat)) (h:Int)=>do
   let (owner,k) <- c
   let j <- SetTable.layClean.free mask owner (SetTable.turns mask) (SetTable.bits h%(mask+1)) (SetTable.bits h)
   pure (owner.setIfInBounds j (some k),k+1)) (some (o,J.length)))=some (b,a.length)/\Lay mask hs.toList b a/\a.length=hs.size:=λl=>by
  induction l with
  |nil=>exact λo J g e _=>⟨o,J,rfl,g,e⟩
  |cons h l u=>
   intro o J g e f;rw[Z5]at e;obtain⟨j,n,t⟩:=xg0 s g 'a' (f 0 h rfl);have d:(J++[j]).length=J.length+1:=Zl;obtain⟨b,a,m,r⟩:=u _ _ t 'a' λi x q=>by rw[d,show J.length+1+i=J.length+(i+1)from qu];exact f (i+1) x q
   refine⟨b,a,?_,r⟩;rw[Xk,<- m];congr 1;show(SetTable.layClean.free mask o (SetTable.turns mask) (SetTable.bits h%(mask+1)) (SetTable.bits h)).bind _=_;rw[n,d]
   rfl
 obtain⟨o,J,e,g,p⟩:=go hs.toList (Array.replicate (mask+1) none) [] ⟨by simp,λj k=>by simp[Array.getElem?_replicate],λk j x h=>by cases h⟩ 'c' (λi x h=>by rw[Xl,Vu];exact h);refine⟨o,J,?_,g,p⟩;unfold SetTable.layClean;rw[<- Array.foldl_toList];exact Yi (Option.map (·.1)) e
theorem G7{b:Type}(d:b){es:Array b}{a:Array Nat}(h:∀v∈a,v<es.size):a.filterMap (es[·]?)=a.map λv=>es.getD v d:=by
 refine Array.ext' ?_;rw[Array.toList_filterMap,Array.toList_map,<- List.filterMap_eq_map];refine Su _ λv c=>?_;have:=h v (by simpa using c);simp[Array.getD,this]
theorem qM1{t:av}{hs:Array Int}{wanted:Nat}(hw:wanted<2^60)(hl:hs.size<wanted):
  ∃s c,t.relaid hs wanted=some (s,c)/\Good s (c.filterMap (hs[·]?))/\wanted<=s.mask/\s.mask<=2*wanted+8/\s.led=t.led/\c.toList.Perm (List.range hs.size):=by
 obtain⟨k,e,h1,h2,h3⟩:=Rw hw;unfold SetTable.relaid;rw[e];obtain⟨o,J,eo,g,I⟩:=q41 (mask:=2^k-1) rfl hs 'a';unfold SetTable.laid;rw[eo];have u:∀j n:Nat,(j,n)∈((List.range (2^k-1+1)).filterMap λj=>(o.getD j none).map (j,·))<->J[n]?=some j:=λj n=>by
  rw[WJ,<- g.ix];constructor
  ·rintro⟨i,l,Q⟩;obtain⟨v,ev,z⟩:=Zh.mp Q;cases z;have l:j<o.size:=by rw[g.sz];exact ZR.mp l
   rw[<- ev];simp[Array.getD,l]
  ·intro z;obtain⟨O,V⟩:=ZH.mp z;exact⟨j,ZR.mpr (by rw[<- g.sz];exact O),by simp[Array.getD,O,V]⟩
 have A:((List.range (2^k-1+1)).filterMap λj=>(o.getD j none).map (j,·)).Pairwise λp q=>p.1<q.1:=List.Pairwise.filterMap _ (λa a' h b hb b' iA=>by
  obtain⟨_,_,rfl⟩:=Zh.mp hb;obtain⟨_,_,rfl⟩:=Zh.mp iA;exact h) List.pairwise_lt_range
 obtain⟨L,D⟩:∃L,L=(List.range (2^k-1+1)).filterMap λj=>(o.getD j none).map (j,·):=⟨_,rfl⟩;rw[<- D]at A;simp only[<- D]at u;have K:J.zipIdx.map (·.2)=List.range hs.size:=by rw[List.zipIdx_map_snd,I,List.range_eq_range']
 have F:(L.map (·.2)).Perm (List.range hs.size):=by
  rw[<- K];refine List.Perm.map _ ((List.perm_ext_iff_of_nodup (A.imp λh z=>by rw[z]at h;exact Yn _ h) ?_).mpr λp=>?_)
  ·show List.Pairwise (·≠·) _;exact List.Pairwise.imp (R:=λ(p q:Nat×Nat)=>p.2≠q.2) (S:=λp q=>p≠q) (λh z=>h (Yi _ z)) (List.pairwise_map.mp (by rw[K];exact List.nodup_range))
  ·rw[List.mem_zipIdx_iff_getElem?];exact u p.1 p.2
 have W:L.length=hs.size:=by rw[<- Ze,F.length_eq,Yk]
 have d:∀v∈(L.map (·.2)).toArray,v<hs.size:=λv d=>ZR.mp (F.mem_iff.mp (by simpa using d));obtain⟨T,f⟩:∃T:av,T={mask:=2^k-1,place:=(L.map (·.1)).toArray,dummies:=#[],finger:=t.finger,led:=t.led,moves:=t.movedTo (2^k-1),plain:=t.plain}:=⟨_,rfl⟩;have r:T.place=(L.map (·.1)).toArray:=by rw[f]
 have hk:T.mask=(l6 (2^k-1)).mask:=by rw[f];rfl
 have N:T.mask=2^k-1:=hk;have G:∀i j:Nat,T.place[i]?=some j->∃n,L[i]?=some (j,n):=λi j h=>by
  rw[r,Wb,Zf]at h;obtain⟨p,r,rfl⟩:=Zh.mp h;exact⟨p.2,r⟩
 refine⟨T,(L.map (·.2)).toArray,by rw[f,D];rfl,⟨⟨?_,by rw[f],⟨k,N,by lia⟩,?_⟩,TR λa b x y U C E=>?_,λi j x l M=>?_⟩,by lia,by lia,by rw[f],F⟩
 ·rw[G7 0 d,Yj];rw[r];simp
 ·rw[G7 0 d,Yj];simp;lia
 ·obtain⟨_,w⟩:=G a x C;obtain⟨_,B⟩:=G b y E;obtain⟨ha,C⟩:=cf w;obtain⟨hb,E⟩:=cf B;have:=VM.mp A a b ha hb U;rw[C,E]at this;exact this
 ·obtain⟨n,w⟩:=G i j l;have H:=(u j n).mp (Zm w);rw[G7 0 d,Xw,Wb,Zf,w]at M;have B:n<hs.size:=by rw[<- I];exact(cf H).1
  obtain⟨m,w1,w2,w3⟩:=g.wy n j x H (by simpa[Array.getD,B]using M);refine⟨m,by rw[N];exact w1,by rw[Gm hk,BW hk];exact w2,λP Y=>?_⟩;obtain⟨v,d⟩:=w3 P Y;obtain⟨i',Z,X⟩:=ZL.mp ((u _ v).mpr ((g.ix _ v).mp d));exact⟨i',by rw[Gm hk,BW hk,r,Wb,Zf,Zc Z,X];rfl⟩
end bI
namespace bI
open PySem PySem.Spec PyProof.Rows
section
variable{K:Type}[DecidableEq K]{knd:KeyKind prog w K}{A:aq}{E:aa->ae->Prop}{s:ae}
structure mP(knd:KeyKind prog w K)(ld:Bool)(B:af->Prop)(h:ao)(a:af)(Ks:List (List K)):Prop where
 ex:∃o es ep t,h.get? a=some o/\o.ExactSet/\o.data=.set es ep t/\Good t (es.map (·.1))/\t.tooFull=false/\t.led=ld/\t.mask<=8*Ks.length+8/\es.size=Ks.length/\Ks.Nodup /\
  (∀(i:Nat) e,es[i]?=some e->∃b ks,e.2=.ref b/\ks∈Ks/\IsTupleKey knd h ks b/\e.1=tupleKeyHash knd ks/\B b)/\∀ks∈Ks,∃(i:Nat)(e:Int×aa)(b:af),es[i]?=some e/\e.2=.ref b/\IsTupleKey knd h ks b
theorem lO{a b:af}{d:List K}{D:List (List K)}{Q:Bool->ae->Prop}{ld:Bool}{B:af->Prop}(hB:B b)(hu:A.units<cLine)(S:mP knd ld B s.heap a D)(hk:IsTupleKey knd s.heap d b)(hHb:∀o r m,s.heap.get? b=some o->o.data=.seq r m->∀v∈r.toList,Hb v)
  (hsz:D.length<1200) (old:d∈D->Q false s) (q:d∉D->∀h',Heap.SameBut a s.heap h'->mP knd ld B h' a (d::D)->Q true {s with heap:=h'}):
  ah (ai prog w) A (setAddHashed a (.ref b) (tupleKeyHash knd d)) Q E s:=by
 obtain⟨o,h,ep,t,J,k8,M,G,hf,wL,wK,DA,kY,kK,vF⟩:=S.ex;have g:cP t h.size:=by have:=G.gr;rw[Yj]at this;exact this
 unfold setAddHashed setAddHashedIn;refine Yo (Za (Yg J M g.fits ?_));dsimp only;have hby:byScan (.ref b) h=false:=rfl;rw[hby];simp only[Zy,Z6];obtain⟨m,hm,Dz⟩:=g.meets (tupleKeyHash knd d);have vL:m<100000:=by
  unfold SetTable.turns at hm;lia
 refine Za (xt2 hu J M G hk (λi e O=>?_) (λjQ=>?_) (λj wB Mq ML=>?_) hm Dz m 0 100000 none 'a' (Zs _) vL rfl λm' fz=>absurd fz (Y0 _))
 ·obtain⟨l,u,T,e2,P,e4,_⟩:=kK i e O;exact⟨l,u,T,P,e4⟩
 ·dsimp only;refine Zb (old ?_);obtain⟨i,e,l,L,N,H⟩:=jQ;obtain⟨b'',u,T,e2,P,e4,_⟩:=kK i e L;rw[N]at T;cases T;rw[H.inj P];exact e2
 have n8:d∉D:=λz=>by
  obtain⟨i,e,l,L,N,H⟩:=vF d z;exact wB i e l L N H
 replace q:=q n8
 dsimp only;refine Za (Yg J M g.fits ?_);dsimp only;have V:=G.put hf ML Mq;have U:(t.put j).2<=h.size:=by
  have:=(fh G.ri j).1;rw[g.pl]at this;exact this
 have EG:(SetTable.insertAt h (t.put j).2 (tupleKeyHash knd d,Value.ref b)).map (·.1)=SetTable.insertAt (h.map (·.1)) (t.put j).2 (tupleKeyHash knd d):=qG8 _ _ _ U _;rw[<- EG]at V;have yo:(t.put j).1.mask=t.mask:=rfl;have Y:(t.put j).1.led=t.led:=rfl;generalize hp:t.put j=tp at V U yo Y;obtain⟨X,p⟩:=tp;dsimp only at V U yo Y ⊢;have yn:X.mask=t.mask:=yo;have hba:b≠a:=Km hk J M;have CY:∀{h1:ao},Heap.SameBut a s.heap h1->∀(i:Nat) e,(SetTable.insertAt h p (tupleKeyHash knd d,Value.ref b))[i]?=some e->∃l u,e.2=.ref l/\u∈d::D/\IsTupleKey knd h1 u l/\e.1=tupleKeyHash knd u/\B l:=λ{h1} hs i e O=>by
  rcases qw9 U O with rfl|⟨Z,O⟩
  ·exact⟨b,d,rfl,ZC,dJ hk hba hs,rfl,hB⟩
  ·obtain⟨l,u,T,e2,P,e4,e5⟩:=kK Z e O;exact⟨l,u,T,Zq _ e2,dJ P (Km P J M) hs,e4,e5⟩
 have mK:∀{h1:ao},Heap.SameBut a s.heap h1->∀u∈d::D,∃(i:Nat)(e:Int×aa)(l:af),(SetTable.insertAt h p (tupleKeyHash knd d,Value.ref b))[i]?=some e/\e.2=.ref l/\IsTupleKey knd h1 u l:=λ{h1} hs u W=>by
  rcases Zz.mp W with rfl|W
  ·exact⟨p,_,b,by rw[pZ _ _ U,Zj (Yn _),Zn rfl],rfl,dJ hk hba hs⟩
  ·obtain⟨i,e,l,L,N,H⟩:=vF u W;obtain⟨Z,dZ⟩:=qx0 U (x:=(tupleKeyHash knd d,Value.ref b)) L;exact⟨Z,e,l,dZ,N,dJ H (Km H J M) hs⟩
 have Uu:(d::D).Nodup:=Z3.mpr ⟨n8,kY⟩;have F:(SetTable.insertAt h p (tupleKeyHash knd d,Value.ref b)).size=h.size+1:=KG _ _ _;have JP:h.size+1=(d::D).length:=by rw[Z5,DA]
 have I:h.size+1<=sizeLine:=by rw[Xu];lia
 have C:∀y:av,Good y ((SetTable.insertAt h p (tupleKeyHash knd d,Value.ref b)).map (·.1))->y.mask=t.mask->y.led=t.led->ah (ai prog w) A (do
   storeSet a (SetTable.insertAt h p (tupleKeyHash knd d,Value.ref b)) y
   if(!false&&y.tooFull)=true then do
     setRelay a (SetTable.grown (h.size+1))
     pure true
    else pure true) Q E s:=λy G2 MP jN=>by
  have g2:cP y (h.size+1):=by have:=G2.gr;rw[Yj,F]at this;exact this
  refine Za (wpAny_storeSet_of J M ?_ (by rw[F];exact I));have yD:=TU (es':=SetTable.insertAt h p (tupleKeyHash knd d,Value.ref b)) (t':=y) J M;have HX:=Yt s.heap a (Obj.putSet (SetTable.insertAt h p (tupleKeyHash knd d,Value.ref b)) y);cases ht:y.tooFull with
  |false=>
   simp only[Bool.and_false,Zy,Z6];refine Zb (q _ HX ⟨_,_,_,y,yD,k8,rfl,G2,ht,jN.trans wL,by rw[Z5];lia,by rw[F];exact JP,Uu,CY HX,mK HX⟩)
  |true=>
   simp only[VB,Bool.and_self,XM];refine Za ?_;unfold setRelay;refine Za (Yg yD rfl (by rw[F];exact g2.fits) ?_);dsimp only;have R:SetTable.grown (h.size+1)=(h.size+1)*4:=by
    unfold SetTable.grown;rw[Zj 'a']
   obtain⟨k,ek,_,_,hk3⟩:=Rw (n:=SetTable.grown (h.size+1)) (by rw[R];lia);rw[Zj (by rw[ek,Xu];rw[R]at hk3;lia)];obtain⟨t3,f,er,G3,hw1,hw2,vR,pm⟩:=qM1 (t:=y) (hs:=(SetTable.insertAt h p (tupleKeyHash knd d,Value.ref b)).map (·.1)) (wanted:=SetTable.grown (h.size+1)) (by rw[R];lia) (by rw[Yj,F,R];lia);rw[Yj,F]at pm;have eo:f.size=h.size+1:=by rw[<- Ys,pm.length_eq,Yk]
   have Iw:(f.filterMap ((SetTable.insertAt h p (tupleKeyHash knd d,Value.ref b))[·]?)).size=h.size+1:=by rw[G7 (tupleKeyHash knd d,Value.ref b) λv hv=>by rw[F];exact ZR.mp (pm.mem_iff.mp (by simpa using hv)),Yj,eo]
   have emap:(f.filterMap ((SetTable.insertAt h p (tupleKeyHash knd d,Value.ref b))[·]?)).map (·.1)=f.filterMap (((SetTable.insertAt h p (tupleKeyHash knd d,Value.ref b)).map (·.1))[·]?):=by rw[Array.map_filterMap];simp only[Xw]
   rw[<- emap]at G3;have fl:=G3.gr.fill;rw[Yj,Iw]at fl;rw[er];refine Za ?_;show ah _ _ (if((f.filterMap ((SetTable.insertAt h p (tupleKeyHash knd d,Value.ref b))[·]?)).size != (SetTable.insertAt h p (tupleKeyHash knd d,Value.ref b)).size)=true then _ else _) _ _ _;rw[Zj (by rw[Iw,F];simp)];refine Zb ?_;dsimp only;refine wpAny_storeSet_of yD rfl ?_ (by rw[Iw];exact I);have ho2:=TU (es':=f.filterMap ((SetTable.insertAt h p (tupleKeyHash knd d,Value.ref b))[·]?)) (t':=t3) yD rfl;have w6:=HX.trans (Yt _ a (Obj.putSet (f.filterMap ((SetTable.insertAt h p (tupleKeyHash knd d,Value.ref b))[·]?)) t3));refine Zb (q _ w6 ⟨_,_,_,t3,ho2,k8,rfl,G3,?_,vR.trans (jN.trans wL),?_,by rw[Iw];exact JP,Uu,λi e O=>?_,λu W=>?_⟩)
   ·unfold SetTable.tooFull;rw[fl];rw[R]at hw1;exact ZM 'a'
   ·rw[R]at hw2;rw[<- JP];lia
   ·obtain⟨v,_,hv⟩:=Array.mem_filterMap.mp (Array.mem_of_getElem? O);exact CY w6 v e hv
   ·obtain⟨i,e,l,L,N,H⟩:=mK w6 u W;obtain⟨Z,dZ⟩:=Array.getElem?_of_mem (Array.mem_filterMap.mpr ⟨i,by
     have:=(ZH.mp L).1;rw[F]at this;simpa using pm.mem_iff.mpr (ZR.mpr this),L⟩)
    exact⟨Z,e,l,dZ,N,H⟩
 cases jI:X.plain with
 |false=>
  simp only[Zy,Z6];refine Za (Zb ?_);simp only[XM];exact C X V yn Y
 |true=>
  simp only[XM];obtain⟨ob,r,nn,kN,kQ,vY,_⟩:=id hk;refine Za (qG6 kN kQ vY (hHb _ _ _ kN vY) λc=>?_);cases c with
  |true=>
   simp only[XM];exact C X V yn Y
  |false=>
   simp only[Zy,Z6];exact C {X with plain:=false} (V.plain false) yn Y
end
end bI
namespace L2
open PySem PySem.Spec PyProof.Rows
section
variable{κ:Type}[DecidableEq κ]
def bY(kvs:List (κ×V))(k:κ):Option V:=(kvs.find? λa=>decide (a.1=k)).map (·.2)
def putK(kvs:List (κ×V))(k:κ)(v:V):List (κ×V):=
 if(kvs.any λa=>decide (a.1=k))=true then kvs.map (λa=>if a.1=k then(a.1,v)else a)else kvs++[(k,v)]
theorem nU{p:κ×V}{r:List (κ×V)}{k:κ}(e:p.1=k):bY (p::r) k=some p.2:=by simp[bY,Xm,e]
theorem mw{p:κ×V}{r:List (κ×V)}{k:κ}(e:¬p.1=k):bY (p::r) k=bY r k:=by simp[bY,Xm,e]
theorem sY(k:κ):∀a:List (κ×V),(a.any λb=>decide (b.1=k))=(bY a k).isSome
 |[]=>rfl
 |p::r=>by
  rw[X9];by_cases e:p.1=k
  ·simp only[nU e,Zv e,Bool.true_or,Option.isSome_some]
  ·rw[mw e,ZM e,Bool.false_or];exact sY k r
theorem Sr(k j:κ)(y:V):∀a:List (κ×V),bY (a.map λb=>if b.1=k then(b.1,y)else b) j=(bY a j).map λx=>if j=k then y else x
 |[]=>rfl
 |p::r=>by
  have c:=Sr k j y r;rw[Zw];by_cases h:p.1=k
  ·rw[Zn h];by_cases e:p.1=j
   ·rw[nU (p:=(p.1,y)) e,nU e,Vm,Zn (e.symm.trans h)]
   ·rw[mw (p:=(p.1,y)) e,mw e,c]
  ·rw[Zj h];by_cases e:p.1=j
   ·rw[nU (p:=p) e,nU e,Vm,Zj (λz=>h (e.trans z))]
   ·rw[mw (p:=p) e,mw e,c]
theorem Ta(k j:κ)(y:V):∀a:List (κ×V),bY a k=none->bY (a++[(k,y)]) j=if j=k then some y else bY a j
 |[],_=>by
  by_cases e:k=j
  ·rw[Zn e.symm];exact nU (p:=(k,y)) e
  ·rw[Zj (λz=>e z.symm)];exact mw (p:=(k,y)) e
 |p::r,b=>by
  rw[List.cons_append];have hk:¬p.1=k:=λz=>by rw[nU z]at b;cases b
  rw[mw hk]at b;have c:=Ta k j y r b;by_cases e:p.1=j
  ·rw[nU e,nU e,Zj (λz=>hk (e.trans z))]
  ·rw[mw e,mw e,c]
theorem Sq(kvs:List (κ×V))(k j:κ)(y:V):bY (putK kvs k y) j=if j=k then some y else bY kvs j:=by
 unfold putK;by_cases a:(kvs.any λc=>decide (c.1=k))=true
 ·rw[Zn a,Sr];rw[sY]at a;by_cases e:j=k
  ·obtain⟨x,b⟩:=XD.mp a;rw[Zn e,e,b,Vm,Zn rfl]
  ·rw[Zj e];cases bY kvs j with
   |none=>rfl
   |some x=>rw[Vm,Zj e]
 ·rw[Zj a];refine Ta k j y kvs ?_;rw[sY]at a;cases q:bY kvs k with
  |none=>rfl
  |some x=>rw[q]at a;exact(a rfl).elim
theorem Ca(kvs:List (κ×V))(k:κ)(v:V):(putK kvs k v).length<=kvs.length+1:=by
 unfold putK;split
 ·rw[Ze];exact Ab
 ·rw[Zl,Z5,Xl];lia
theorem eB.cS{o:Option V}{u:Option aa}(r:eB o u):o.isSome=u.isSome:=by
 cases o with
 |none=>cases u with
  |none=>rfl
  |some _=>exact(show False from r).elim
 |some _=>cases u with
  |none=>exact(show False from r).elim
  |some _=>rfl
theorem KV.val{kvs:List (κ×V)}{vs:List (κ×aa)}(r:KV kvs vs)(k:κ):eB (bY kvs k) (valueAt vs k):=by
 unfold KV at r
 induction r with
 |nil=>exact True.intro
 |@cons p q f c h t d=>
  obtain⟨h1,h2⟩:=h;by_cases e:p.1=k
  ·have a:q.1=k:=h1.symm.trans e;have b:valueAt (q::c) k=some q.2:=by simp[valueAt,Xm,a]
   rw[nU e,b];exact h2
  ·have a:¬q.1=k:=λz=>e (h1.trans z);have b:valueAt (q::c) k=valueAt c k:=by simp[valueAt,Xm,a]
   rw[mw e,b];exact d
theorem KV.any{kvs:List (κ×V)}{vs:List (κ×aa)}(r:KV kvs vs)(k:κ):(kvs.any λa=>decide (a.1=k))=vs.any λa=>decide (a.1=k):=by
 unfold KV at r
 induction r with
 |nil=>rfl
 |cons h t b=>rw[X9,X9,b,h.1]
theorem KV.pL{kvs:List (κ×V)}{vs:List (κ×aa)}(r:KV kvs vs)(k:κ){y:V}{u:aa}(b:RelV y u):
  KV (kvs.map λa=>if a.1=k then(a.1,y)else a) (vs.map λa=>if a.1=k then(a.1,u)else a):=by
 unfold KV at r ⊢
 induction r with
 |nil=>exact .nil
 |@cons p q f d h t c=>
  rw[Zw,Zw];refine .cons ?_ c;obtain⟨h1,h2⟩:=h;by_cases e:p.1=k
  ·rw[Zn e,Zn (h1.symm.trans e)];exact⟨h1,b⟩
  ·rw[Zj e,Zj (λz=>e (h1.trans z))];exact⟨h1,h2⟩
theorem KV.put{kvs:List (κ×V)}{vs:List (κ×aa)}(r:KV kvs vs)(k:κ){y:V}{u:aa}(a:RelV y u):KV (putK kvs k y) (stored vs k u):=by
 unfold putK stored;rw[r.any k];by_cases e:(vs.any λb=>decide (b.1=k))=true
 ·rw[Zn e,Zn e];exact r.pL k a
 ·rw[Zj e,Zj e];exact Paired.snoc r ⟨rfl,a⟩
theorem KV.keys{kvs:List (κ×V)}{vs:List (κ×aa)}(r:KV kvs vs):kvs.map (·.1)=vs.map (·.1):=by
 unfold KV at r
 induction r with
 |nil=>rfl
 |cons h t a=>rw[Zw,Zw,a,h.1]
theorem KV.length{kvs:List (κ×V)}{vs:List (κ×aa)}(r:KV kvs vs):kvs.length=vs.length:=X8 r
end
theorem uT{P:ag}{w:aj}{k:Key}{u:aa}(r:RelV (kV k) u):(gy P w).is k u=true:=by
 cases k with
 |inl i=>obtain⟨t,e⟩:=(show ∃t,u=Value.int i t from r);subst e;exact qL6 P w i t
 |inr x=>obtain⟨t,e⟩:=(show ∃t,u=Value.str x t from r);subst e;exact qL7 P w x t
theorem Kl{P:ag}{w:aj}:∀{a:List Key}{b:List aa},Vals (a.map kV) b->ItemsAre (gy P w) a b
 |[],_,r=>by rw[XW]at r;cases r;exact .nil
 |k::a,_,r=>by
  rw[Zw]at r;cases r with
  |cons h t=>exact .cons (uT h) (Kl t)
abbrev KT(H:Hp):List (List Key×V)->List (List Key×af×aa)->Prop:=Paired λp q=>p.1=q.1/\H q.2.1=some (.tup (p.1.map kV))/\RelV p.2 q.2.2
theorem KT.val{H:Hp}{kvs:List (List Key×V)}{xs:List (List Key×af×aa)}(r:KT H kvs xs)(k:List Key):eB (bY kvs k) ((atKey xs k).map (·.2)):=by
 induction r with
 |nil=>exact True.intro
 |@cons p q f c h t d=>
  obtain⟨h1,_,h2⟩:=h;by_cases e:p.1=k
  ·have a:q.1=k:=h1.symm.trans e;have b:atKey (q::c) k=some q.2:=by simp[atKey,Xm,a]
   rw[nU e,b];exact h2
  ·have a:¬q.1=k:=λz=>e (h1.trans z);have b:atKey (q::c) k=atKey c k:=by simp[atKey,Xm,a]
   rw[mw e,b];exact d
theorem KT.pL{H:Hp}{kvs:List (List Key×V)}{xs:List (List Key×af×aa)}(r:KT H kvs xs)(k:List Key){y:V}{u:aa}(b:RelV y u):
  KT H (kvs.map λa=>if a.1=k then(a.1,y)else a) (xs.map (putAt k u)):=by
 induction r with
 |nil=>exact .nil
 |@cons p q g f h t d=>
  rw[Zw,Zw];refine .cons ?_ d;obtain⟨h1,h2,c⟩:=h;unfold putAt;by_cases e:p.1=k
  ·rw[Zn e,Zn (h1.symm.trans e)];exact⟨h1,h2,b⟩
  ·rw[Zj e,Zj (λz=>e (h1.trans z))];exact⟨h1,h2,c⟩
theorem KT.put{H:Hp}{kvs:List (List Key×V)}{xs:List (List Key×af×aa)}(r:KT H kvs xs)(k:List Key){b:af}{y:V}{u:aa}(hb:H b=some (.tup (k.map kV)))(a:RelV y u):
  KT H (putK kvs k y) (storedH xs k b u):=by
 have e:(kvs.any λc=>decide (c.1=k))=(atKey xs k).isSome:=by
  rw[sY,(r.val k).cS,Wk]
 unfold putK storedH;rw[e];by_cases q:(atKey xs k).isSome=true
 ·rw[Zn q,Zn q];exact r.pL k a
 ·rw[Zj q,Zj q];exact Paired.snoc r ⟨rfl,hb,a⟩
theorem KT.keeps{H c:Hp}{kvs:List (List Key×V)}{xs:List (List Key×af×aa)}(r:KT H kvs xs)(d:∀b a,H b=some (.tup a)->c b=some (.tup a)):KT c kvs xs:=
 Paired.qh r λ_ _ z=>⟨z.1,d _ _ z.2.1,z.2.2⟩
section
variable{H:Hp}{h:ao}{a:af}
theorem QD{u:HO}(ok:dQ P w H h)(e:Rd H a u):a_ P w H h a u:=e.ok ok
theorem Cz{kvs:List (Key×V)}(ok:dQ P w H h)(e:Rd H a (.dK kvs)):kvs.length<=sizeLine/\(a==sysModules)=false/\∃b,KV kvs b/\h.DictOf (gy P w) a b:=
 show a_ P w H h a (.dK kvs)from QD ok e
theorem Jf{kvs:List (Key×V)}(ok:dQ P w H h)(e:H a=some (.dK kvs)):kvs.length<=sizeLine/\(a==sysModules)=false/\∃b,KV kvs b/\h.DictOf (gy P w) a b:=Cz ok (.inl e)
theorem Co{b:List Key}(ok:dQ P w H h)(e:H a=some (.tup (b.map kV))):(tupleKind (gy P w)).is h b a:=by
 obtain⟨_,c,r,o,h1,h2,n,d⟩:=(show a_ P w H h a (.tup (b.map kV))from ok a _ e);exact⟨o,c.toArray,n,h1,h2,d,by simpa using Kl r⟩
theorem Cy{kvs:List (List Key×V)}(ok:dQ P w H h)(e:Rd H a (.dT kvs)):kvs.length<=sizeLine/\(a==sysModules)=false /\
  ∃c,KT H kvs c/\h.DictOfH (tupleKind (gy P w)) a c:=by
 obtain⟨z,y,c,r,o,k,f,h1,h2,g,n,j⟩:=(show a_ P w H h a (.dT kvs)from QD ok e);refine⟨z,y,c,r,o,k,f,h1,h2,g,n,λx b=>?_,j⟩;have all:∀{l:List (List Key×V)}{m:List (List Key×af×aa)},KT H l m->∀x∈m,(tupleKind (gy P w)).is h x.1 x.2.1:=by
  intro l m q
  induction q with
  |nil=>intro x b;exact nomatch b
  |@cons p q u s d t i=>
   intro x b;rcases Zz.mp b with e|b
   ·subst e;exact Co ok (by rw[<- d.1];exact d.2.1)
   ·exact i x b
 exact all r x b
theorem xO5{kvs:List (List Key×V)}(ok:dQ P w H h)(e:H a=some (.dT kvs)):kvs.length<=sizeLine/\(a==sysModules)=false /\
  ∃b,KT H kvs b/\h.DictOfH (tupleKind (gy P w)) a b:=Cy ok (.inl e)
end
def dE(H:Hp)(a:af)(y:V)(r:Option V):Prop:=
 (∃c k,Rd H a (.dK c)/\y=kV k/\r=bY c k)\/∃c k b,Rd H a (.dT c)/\y=.ref b/\H b=some (.tup (k.map kV))/\r=bY c k
def iJ(H:Hp)(a:af)(y v:V)(d:Hp):Prop:=
 (∃c k,H a=some (.dK c)/\y=kV k/\c.length<sizeLine/\d=upd H a (.dK (putK c k v))) \/
 ∃c k b,H a=some (.dT c)/\y=.ref b/\H b=some (.tup (k.map kV))/\c.length<sizeLine/\d=upd H a (.dT (putK c k v))
theorem dE.k{H:Hp}{a:af}{kvs:List (Key×V)}{k:Key}(e:H a=some (.dK kvs)):dE H a (kV k) (bY kvs k):=.inl ⟨kvs,k,.inl e,rfl,rfl⟩
theorem dE.t{H:Hp}{a b:af}{kvs:List (List Key×V)}{k:List Key}(e:H a=some (.dT kvs))(c:H b=some (.tup (k.map kV))):dE H a (.ref b) (bY kvs k):=.inr ⟨kvs,k,b,.inl e,rfl,c,rfl⟩
theorem iJ.k{H:Hp}{a:af}{kvs:List (Key×V)}{k:Key}{v:V}(e:H a=some (.dK kvs))(b:kvs.length<sizeLine):iJ H a (kV k) v (upd H a (.dK (putK kvs k v))):=.inl ⟨kvs,k,e,rfl,b,rfl⟩
theorem iJ.t{H:Hp}{a b:af}{kvs:List (List Key×V)}{k:List Key}{v:V}(e:H a=some (.dT kvs))(d:H b=some (.tup (k.map kV)))(c:kvs.length<sizeLine):
  iJ H a (.ref b) v (upd H a (.dT (putK kvs k v))):=.inr ⟨kvs,k,b,e,rfl,d,c,rfl⟩
section
variable{X:Cx}{j8:List (af×ay)}{σ:St}{H:Hp}{s:ae}{a:af}{y v:V}{u r:aa}{o:Option V}{A:aq}{E:aa->ae->Prop}
theorem Inv.big(I:Inv X j8 σ H s):sysModules<s.heap.objs.size:=by
 have h:mainGlobals<s.heap.objs.size:=(I.mod.glob.keeps I.bk).lt;exact WZ 'b' h
theorem q44{Q:aa->ae->Prop}(w:A.units+1<cLine)(I:Inv X j8 σ H s)(g:dE H a y (some v))(q:RelV y u)(h:∀d t,Inv X j8 σ H t->RelV v d->Q d t):
  ah (ai X.prog X.w) A (getItem (.ref a) u) Q E s:=by
 rcases g with⟨i,k,e,n,l⟩|⟨i,k,b,e,n,F,l⟩
 ·subst n;obtain⟨z,D,x,c,f⟩:=Cz I.aS e;obtain⟨d,j,m⟩:=eB.some_of (v:=v) (o:=valueAt x k) (by rw[l];exact c.val k);exact wpAny_getItem_of (uT q) f.mapOf j (h d _ (I.tok _) m)
 ·subst n;cases(show u=Value.ref b from q);obtain⟨z,D,G,c,f⟩:=Cy I.aS e;obtain⟨d,j,m⟩:=eB.some_of (v:=v) (o:=(atKey G k).map (·.2)) (by rw[l];exact c.val k);obtain⟨p,C,B⟩:=Zh.mp j;refine wpAny_getItem_heap (WO w) (Co I.aS F) f C ?_;rw[B];exact h d _ (I.tok _) m
theorem N5{Q:aa->ae->Prop}(p:A.units+1<cLine)(I:Inv X j8 σ H s)(g:dE H a y o)(m:RelV y u)(h:∀n,Inv X j8 σ H n->Q (.bool o.isSome) n):
  ah (ai X.prog X.w) A (compareOp .In u (.ref a)) Q E s:=by
 rcases g with⟨i,k,e,j,l⟩|⟨i,k,b,e,j,t,l⟩
 ·subst j;obtain⟨z,d,w,c,f⟩:=Cz I.aS e;refine wpAny_in_of (uT m) d f.mapOf ?_;rw[<- (c.val k).cS,<- l];exact h _ (I.tok _)
 ·subst j;cases(show u=Value.ref b from m);obtain⟨z,d,x,c,f⟩:=Cy I.aS e;refine wpAny_in_heap (WO p) (Co I.aS t) d f ?_;have q:=(c.val k).cS;rw[Wk]at q;rw[<- q,<- l];exact h _ (I.tok _)
theorem xt4{Q:aa->ae->Prop}(p:A.units+1<cLine)(I:Inv X j8 σ H s)(g:dE H a y o)(m:RelV y u)(h:∀n,Inv X j8 σ H n->Q (.bool (!o.isSome)) n):
  ah (ai X.prog X.w) A (compareOp .NotIn u (.ref a)) Q E s:=by
 rcases g with⟨i,k,e,j,l⟩|⟨i,k,b,e,j,t,l⟩
 ·subst j;obtain⟨z,d,w,c,f⟩:=Cz I.aS e;refine wpAny_notIn_of (uT m) d f.mapOf ?_;rw[<- (c.val k).cS,<- l];exact h _ (I.tok _)
 ·subst j;cases(show u=Value.ref b from m);obtain⟨z,d,x,c,f⟩:=Cy I.aS e;refine wpAny_notIn_heap (WO p) (Co I.aS t) d f ?_;have q:=(c.val k).cS;rw[Wk]at q;rw[<- q,<- l];exact h _ (I.tok _)
theorem BM{h':ao}{t':Nat}{ob:HO}(I:Inv X j8 σ H s)(d:EW (H a))(hs:Heap.SameBut a s.heap h')(c:∃q,h'.get? a=some q)(new:a_ X.prog X.w (upd H a ob) h' a ob):
  Inv X j8 σ (upd H a ob) {s with heap:=h',toks:=t'}:=
 I.write (x:=a) (e:=a) d (.inl rfl) (λb q hb z=>(hs.2 b hb).trans z) c new
theorem Pz{P:ag}{w:aj}{d:Hp}{h':ao}{kvs:List (Key×V)}{vs:List (Key×aa)}(z:kvs.length<=sizeLine)(c:(a==sysModules)=false)(b:KV kvs vs)(dd:h'.DictOf (gy P w) a vs):
  a_ P w d h' a (.dK kvs):=⟨z,c,vs,b,dd⟩
theorem q45{G:Hp}{Q:Unit->ae->Prop}(O:A.units+1<cLine)(I:Inv X j8 σ H s)(g:iJ H a y v G)(J:RelV y u)(L:RelV v r)(h:∀K,Inv X j8 σ G K->Q () K):
  ah (ai X.prog X.w) A (setItem (.ref a) u r) Q E s:=by
 rcases g with⟨d,k,e,w,l,B⟩|⟨d,k,b,e,w,F,l,B⟩
 ·subst w B;obtain⟨z,t,U,f,n⟩:=Jf I.aS e;have m:U.length<=sizeLine:=by rw[<- f.length];exact z
  have x:(putK d k v).length<=sizeLine:=by have:=Ca d k v;exact xW l this
  refine wpAny_setItem_pairs (hsz:=m) (uT J) n λD i p=>h _ ?_;have P:∃q,D.get? a=some q:=let ⟨q,_,_,j,_⟩:=i;⟨q,j⟩;exact BM I (by rw[e];exact True.intro) p P (Pz x t (f.put k L) i)
 ·subst w B;cases(show u=Value.ref b from J);obtain⟨z,t,V,f,n⟩:=xO5 I.aS e;have m:V.length<=sizeLine:=by rw[<- X8 f];exact z
  have x:(putK d k v).length<=sizeLine:=by have:=Ca d k v;exact xW l this
  refine wpAny_setItem_heap (hsz:=m) (WO O) (Co I.aS F) n λD i p=>h _ ?_;obtain⟨q,S,M,j,h2,N,T,_,R⟩:=i;refine BM I (by rw[e];exact True.intro) p ⟨q,j⟩ ⟨x,t,_,(f.put k F L).keeps λc W C=>?_,q,S,M,j,h2,N,T,R⟩;rw[bj (i5 C e (λz=>nomatch z))];exact C
end
def EV(i:au):Prop:=∀a b,subscripted i false a b=operate [a,b] (getItem a b)
theorem xt5{prog:ag}{w:aj}{A:aq}{E:aa->ae->Prop}{s:ae}{env:Env}{b a:au}{f:az}{T id:String}{Q:aa->ae->Prop}
  (m:typeLookup (.type T) "__getitem__"=pure (some (.builtin id))) (hs:EV a)
  (h:ah (ai prog w) A (eval b env) (λo k=>ah (ai prog w) A (eval a env) (λi d=>d.TypeIs o T/\ah (ai prog w) A (getItem o i) Q E d) E k) E s):
  ah (ai prog w) A (eval (.Subscript b a f) env) Q E s:=by
 refine Subscript_ (Z9 h (λo k n=>Z9 n (λi d e=>?_) λ_ _ x=>x) λ_ _ x=>x);obtain⟨j,e⟩:=e;unfold subscriptTail;refine Za ?_;rw[getitemInPython_of_ne j.not_modules];refine Za (X5 j m ?_);have c:ah (ai prog w) A (subscripted a false o i) (λr g=>ah (ai prog w) A (letTemporaryGo b o r >>= λ_=>pure r) Q E g) E d:=by
  rw[hs o i];exact wpAny_operating (Z9 e (λr g l=>Za (wpAny_letTemporaryGo (Zb l))) λ_ _ x=>x)
 first
  |exact Zb (Za c)
  |exact Za (Zb (Za c))
  |exact Za c
theorem qM2{X:Cx}{f:List (af×ay)}{σ:St}{H:Hp}{s:ae}{a:af}{y:V}{o:Option V}(I:Inv X f σ H s)(g:dE H a y o):s.TypeIs (.ref a) "dict":=by
 rcases g with⟨d,k,e,_,_⟩|⟨d,k,b,e,_,_,_⟩
 ·obtain⟨_,_,h,_,c⟩:=Cz I.aS e;exact c.typeIs
 ·obtain⟨_,_,i,_,c⟩:=Cy I.aS e;exact c.typeIs
inductive vw(Q:VK)(x y:V)(H2:Hp):Prop
 |mk(a:_)(v:_)(e0:x=.ref a)(e1:dE H2 a y (some v))(e2:Q v H2)
def xO6(c ty:TE):TE:=λa H Q=>c a H λx b=>ty a b λy d=>vw Q x y d
inductive AN(Q:VK)(x y:V)(H2:Hp):Prop
 |mk(a:_)(o:_)(e0:x=.ref a)(e1:dE H2 a y o)(e2:Q (.bl o.isSome) H2)
def JM(ty c:TE):TE:=λa H Q=>ty a H λy b=>c a b λx d=>AN Q x y d
inductive oR(Q:VK)(x y:V)(H2:Hp):Prop
 |mk(a:_)(o:_)(e0:x=.ref a)(e1:dE H2 a y o)(e2:Q (.bl (!o.isSome)) H2)
def xt6(ty c:TE):TE:=λa H Q=>ty a H λy b=>c a b λx d=>oR Q x y d
inductive xa(D:Ends)(σ:St)(v x y:V)(H3:Hp):Prop
 |mk(a:_)(H4:_)(e0:x=.ref a)(e1:iJ H3 a y v H4)(e2:D.nx σ H4)
def xO7(e ty d:TE):TS:=λD a H=>d a H λv c=>e a c λx f=>ty a f λy b=>xa D a v x y b
section
variable{X:Cx}{o i e value:au}{pos pos' cH:az}{td ty tv:TE}
theorem Hy(f:X.A.units+1<cLine)(n:PE X o td)(l:PE X i ty)(hs:EV i):PE X (.Subscript o i pos) (xO6 td ty):=by
 intro c s d H Q I h;refine xt5 VN.lookup hs (bh (n c s d H _ I h) λu k ⟨x,q,j,p,m⟩=>bh (l c k d q _ j m) λF C ⟨y,A,b,t,a,v,ex,g,w⟩=>?_);subst ex;obtain rfl:u=Value.ref a:=p;exact⟨qM2 b g,q44 f b g t λD E B r=>⟨v,A,B,r,w⟩⟩
theorem Py(d:X.A.units+1<cLine)(l:PE X i ty)(p:PE X o td):PC X .In i o (JM ty td):=by
 intro b s c H Q I h;refine bh (l b s c H _ I h) λD j ⟨y,r,f,t,m⟩=>bh (p b j c r _ f m) λu B ⟨x,w,k,q,a,n,ex,g,v⟩=>?_;subst ex;obtain rfl:u=Value.ref a:=q;exact N5 d k g t λC A=>⟨.bl n.isSome,w,A,rfl,v⟩
theorem S_(d:X.A.units+1<cLine)(l:PE X i ty)(p:PE X o td):PC X .NotIn i o (xt6 ty td):=by
 intro b s c H Q I h;refine bh (l b s c H _ I h) λD j ⟨y,r,f,t,m⟩=>bh (p b j c r _ f m) λu B ⟨x,w,k,q,a,n,ex,g,v⟩=>?_;subst ex;obtain rfl:u=Value.ref a:=q;exact xt4 d k g t λC A=>⟨.bl (!n.isSome),w,A,rfl,v⟩
theorem Hw(d:X.A.units+1<cLine)(q:PE X o td)(l:PE X i ty)(B:PE X value tv)(hs:swapsWith value (some (.Subscript o i pos')) pos.line X.env=pure false):
  PS X (.Assign [.Subscript o i pos'] value pos) (xO7 td ty tv):=by
 intro c s b H D I h;refine wpAny_Assign_Subscript (bh (B c s b H _ I h) λr j ⟨v,w,f,K,m⟩=>bh (q c j b w _ f m) λu A ⟨x,G,k,t,F⟩=>bh (l c A b G _ k F) λO N ⟨y,M,J,E,a,C,ex,g,n⟩=>?_) hs;subst ex;obtain rfl:u=Value.ref a:=t;exact q45 d J g E K λL p=>⟨b,C,p,n⟩
end
theorem xg1{P:ag}{w:aj}{H:Hp}(h:ao)(hb:sysModules<h.objs.size):a_ P w H (h.push {cls:=.type "dict",data:=.dict #[]}) h.objs.size (.dK []):=
 ⟨Zs _,YC.mpr (YK (Zu hb)),[],.nil,Heap.DictOf.new h⟩
theorem xg2{P:ag}{w:aj}{H:Hp}(h:ao)(hb:sysModules<h.objs.size):a_ P w H (h.push {cls:=.type "dict",data:=.dict #[]}) h.objs.size (.dT []):=
 ⟨Zs _,YC.mpr (YK (Zu hb)),[],.nil,_,#[],0,Zi _ rfl,⟨rfl,rfl,rfl⟩,rfl,rfl,XQ⟩
def xF0:TE:=λ_ H Q=>∀p,H p=none->Q (.ref p) (upd H p (.dT []))
section
variable{X:Cx}{pos:az}
theorem So:PE X (.Dict [] [] pos) xF0:=λc s b H Q I h=>
 wpAny_Dict_empty ⟨.ref s.heap.objs.size,_,I.laid (a:=s.heap.objs.size) (o:=.dT []) (t':=s.toks) (λ_ _ q=>Zd _ q) (Zg _) (xg2 s.heap I.big),rfl,h _ (I.aS.fresh (Zg _))⟩
end
def Ln:List (TE×TE)->St->Hp->(List (V×V)->Hp->Prop)->Prop
 |[],_,H,Q=>Q [] H
 |(f,e)::r,a,H,Q=>f a H λx c=>e a c λy d=>Ln r a d λg b=>Q ((x,y)::g) b
abbrev VV:List (V×V)->List (aa×aa)->Prop:=Paired λp q=>RelV p.1 q.1/\RelV p.2 q.2
def EU(X:Cx)(c:az)(keys:List (Option au))(a:List au)(i:List (TE×TE)):Prop:=
 ∀(d:List (af×ay))(s:ae)(b:St)(H:Hp)(Q:List (V×V)->Hp->Prop),Inv X d b H s->Ln i b H Q ->
  ah (ai X.prog X.w) X.A (evalPairs (pairTrees keys a X.env c)) (λg h=>∃e f,Inv X d b f h/\VV e g/\Q e f) X.xe s
theorem xt7{X:Cx}{a:az}:EU X a [] [] []:=λc s b H Q I h=>pairTrees_nil_walk ⟨[],H,I,.nil,h⟩
theorem xg3{X:Cx}{a:az}{k v:au}{e:List (Option au)}{vs:List au}{tk f:TE}{g:List (TE×TE)}(hk:PE X k tk)(A:PE X v f)(D:EU X a e vs g):
  EU X a (some k::e) (v::vs) ((tk,f)::g):=λb s c H Q I h=>
 pairTrees_cons_walk (bh (hk b s c H _ I h) λu j ⟨x,t,i,r,m⟩=>bh (A b j c t _ i m) λJ w ⟨y,E,l,B,C⟩=>
  bh (D b w c E _ l C) λG K ⟨p,q,F,d,n⟩=>⟨(x,y)::p,q,F,.cons ⟨r,B⟩ d,n⟩)
def zQ(kvs more:List (Key×V)):List (Key×V):=more.foldl (λa b=>putK a b.1 b.2) kvs
theorem KV.merge:∀{more:List (Key×V)}{c:List (Key×aa)}{a:List (Key×V)}{b:List (Key×aa)},KV more c->KV a b->KV (zQ a more) (merged b c):=by
 intro more c a b r;unfold KV at r
 induction r generalizing a b with
 |nil=>intro q;exact q
 |@cons p q i g h t d=>
  intro f;have e:KV (putK a p.1 p.2) (stored b q.1 q.2):=by
   have:=f.put p.1 h.2;rw[<- h.1];exact this
  exact d e
theorem Ry:∀(more a:List (Key×V)),(zQ a more).length<=a.length+more.length
 |[],a=>by show a.length<=a.length+0;exact Ab
 |p::r,a=>by
  have h1:=Ry r (putK a p.1 p.2);have h2:=Ca a p.1 p.2;show(zQ (putK a p.1 p.2) r).length<=_;rw[Z5];lia
theorem Tt{P:ag}{w:aj}:∀{d:List (Key×V)}{f:List (aa×aa)},VV (d.map λg=>(kV g.1,g.2)) f->∃e,Carries (gy P w) f e/\KV d e
 |[],_,r=>by rw[XW]at r;cases r;exact⟨[],True.intro,.nil⟩
 |p::d,_,r=>by
  rw[Zw]at r;cases r with
  |@cons a b as bs h t=>
   obtain⟨e,c,q⟩:=Tt (P:=P) (w:=w) t;obtain⟨j,i⟩:=b;exact⟨(p.1,i)::e,⟨uT h.1,rfl,c⟩,.cons ⟨rfl,h.2⟩ q⟩
def QC(e:List (TE×TE)):TE:=λd H Q=>∀p,H p=none->Ln e d (upd H p (.dK [])) λf b=>b p=some (.dK [])/\∃a:List (Key×V),f=a.map (λc=>(kV c.1,c.2))/\a.length<=15/\Q (.ref p) (upd b p (.dK (zQ [] a)))
theorem xt8{X:Cx}{d:az}{keys:List (Option au)}{b:List au}{k:List (TE×TE)}(h:EU X d keys b k)(x:keys.all (·.isSome)=true)(G:keys.length=b.length)(h0:keys≠[])
  (B:keys.length<=15):PE X (.Dict keys b d) (QC k):=by
 intro D s J H Q I q;have y:=I.aS.fresh (Zg s.heap.objs.size);have m:=I.laid (a:=s.heap.objs.size) (o:=.dK []) (h':=s.heap.push {cls:=.type "dict",data:=.dict #[]}) (t':=s.toks) (λ_ _ q=>Zd _ q) (Zg _) (xg1 s.heap I.big);refine wpAny_Dict_walk (knd:=gy X.prog X.w) x G h0 B (bh (h D _ J _ _ m (q _ y)) λK M ⟨L,O,i,g,e,f,l,N,E⟩=>?_);subst l;obtain⟨r,c,A⟩:=Tt (P:=X.prog) (w:=X.w) g;obtain⟨z,C,F,u,t⟩:=Jf i.aS e;cases u;refine⟨r,c,t,λh' j v=>⟨.ref s.heap.objs.size,_,?_,rfl,E⟩⟩;have n:(zQ [] f).length<=sizeLine:=by
  have h1:=Ry f [];rw[Xl]at h1;rw[Xu];lia
 have p:∃q,h'.get? s.heap.objs.size=some q:=let ⟨q,_,_,hq,_⟩:=j;⟨q,hq⟩;exact BM i (by rw[e];exact True.intro) v p (Pz n C (A.merge .nil) j)
end L2
namespace bI
open PySem PySem.Spec PyProof.Rows
section
variable{K:Type}[DecidableEq K]{knd:KeyKind prog w K}
def iW(knd:KeyKind prog w K)(h:ao)(a:af)(c:List (List K))(n:Nat):Prop:=(∃b,mP knd b (λ_=>True) h a c)/\c.length=n
theorem iW.at{h h':ao}{a:af}{p:List (List K)}{n:Nat}(S:iW knd h a p n)(k:∀b o,h.get? b=some o->h'.get? b=some o\/b≠a/\¬∃c,IsTupleKey knd h c b):iW knd h' a p n:=by
 obtain⟨⟨l,⟨o,x,s,t,C,B,F,G,I,L,y,E,v,H,M⟩⟩,D⟩:=S;have q:∀{b c},IsTupleKey knd h c b->IsTupleKey knd h' c b:=λ{b c} f=>by
  obtain⟨m,d,N,J,r⟩:=id f;rcases k b m J with z|z
  ·exact⟨m,d,N,z,r⟩
  ·exact absurd ⟨c,f⟩ z.2
 refine⟨⟨l,⟨o,x,s,t,?_,B,F,G,I,L,y,E,v,λi e u=>?_,λc hk=>?_⟩⟩,D⟩
 ·rcases k a o C with z|z
  ·exact z
  ·exact absurd rfl z.1
 ·obtain⟨b,c,g,j,f,A⟩:=H i e u;exact⟨b,c,g,j,q f,A⟩
 ·obtain⟨i,e,b,g,j,f⟩:=M c hk;exact⟨i,e,b,g,j,q f⟩
variable{R:Result->ae->Prop}{I:af}{fp wr:List af}{G:Array GenState->Array GenState->Prop}{n:Nat}{P:Nat->aa->Prop}{St:Nat->ae->Prop}
theorem q47(W:WalksS prog w A.in1 I fp wr G n P St)(S:af)(O:S∉fp)(val:Nat->List K)(q:∀i j,i<j->j<n->val i≠val j)(hn:n<=1200)(N:A.in1.units<cLine)
  (nt:∀i s,St i s->xO4 knd wr s.heap):
  ∀(k i:Nat)(s:ae),n-i=k->i<=n->St i s->QE knd S wr P val s.heap->(∃d,iW knd s.heap S d i/\∀B∈d,∃j,j<i/\B=val j) ->
   (∀a,Moved (S::wr) G s a->(∃d,iW knd a.heap S d n)->R (.ok (.ret .none)) a) ->
   codeAny (ai prog w) A (.builtin "set.update.loop" ⟨[.ref S,.ref I],[]⟩) R s:=by
 have E:S∉wr:=λz=>O (W.sub _ z);have Q:∀b∈wr,b∈S::wr:=λb hb=>Zq _ hb;have f:∀{i:Nat}{s a:ae}{d:List (List K)}{m:Nat},St i s->Moved wr G s a->iW knd s.heap S d m->iW knd a.heap S d m:=λ{i s a d m} g mv l=>l.at λb o e=>by
  by_cases hb:b∈wr
  ·exact .inr ⟨λz=>E (by rw[<- z];exact hb),nt i s g b hb⟩
  ·exact .inl (mv.heap b o hb e)
 intro k
 induction k with
 |zero=>
  intro i s hk X g H C M;have jQ:i=n:=by lia
  subst jQ;obtain⟨d,l,_⟩:=C;refine Y7 Wy ?_;rw[Y4 Xq _];refine Za (W.done s _ _ g λa mv=>?_);exact Zb (M a (mv.mono Q) ⟨d,f g mv l⟩)
 |succ k ih=>
  intro i s hk X g H C M;obtain⟨d,l,p⟩:=C;have L:i<n:=by lia
  refine Y7 Wy ?_;rw[Y4 Xq _];refine Za (W.item i s _ _ L g λv a Y Z mv=>?_);obtain⟨b,rfl,Nr,Nl,hb⟩:=H i v Y;have D:h_ knd a.heap (val i) b:=hb.at λo e=>mv.heap b o Nl e;obtain⟨⟨y,V⟩,hl⟩:=f g mv l;refine Za (Yo ?_);unfold setAdd;refine Yo ?_;refine Za (wpAny_pyHash_tuple N D.key ?_);refine lO (s:={a with toks:=a.toks+((val i).length+1)}) trivial N V D.key D.hb 'a' (λz=>?_) λ_ h' t S2=>?_
  ·obtain⟨j,T,e⟩:=p _ z;exact absurd e.symm (q j i T L)
  ·have h:QE knd S wr P val h':=λj u F=>by
    obtain⟨c,rfl,h1,h2,U⟩:=H j u F;exact⟨c,rfl,h1,h2,(U.at λo e=>mv.heap c o h2 e).at λo e=>(t.2 c h1).trans e⟩
   refine Zb ⟨Wa Xq _,ih (i+1) _ 'a' L (W.frame _ a _ _ Z (Xb _ _) λc J o e=>?_) h ⟨val i::d,⟨⟨y,S2⟩,by rw[Z5,hl]⟩,λB r=>?_⟩ λBt LN x=>?_⟩
   ·rw[t.2 c (λz:c=S=>O (by rw[<- z];exact J))];exact e
   ·rcases Zz.mp r with rfl|r
    ·exact⟨i,Yb i,rfl⟩
    ·obtain⟨j,T,e⟩:=p B r;exact⟨j,by lia,e⟩
   ·refine M Bt (Moved.trans W.gtrans ((mv.mono Q).then_heap (Xb _ _) λc o J e=>?_) LN) x;rw[t.2 c (λz:c=S=>J (by rw[z];exact ZC))];exact e
end
end bI
namespace bI
open PySem PySem.Spec
section
variable{K:Type}[DecidableEq K]{knd:KeyKind prog w K}{A:aq}{E:aa->ae->Prop}{s:ae}
abbrev e_(led:Bool):ay:={cls:=.type "set",dict:=none,data:=.set #[] 0 (.fresh 0 0 led)}
theorem iB{h:ao}{a:af}{led:Bool}(e:h.get? a=some (e_ led)):mP knd led (λ_=>True) h a []:=
 ⟨_,#[],0,.fresh 0 0 led,e,⟨rfl,rfl,rfl⟩,rfl,⟨⟨(by rw[Yj];rfl),rfl,⟨3,rfl,by decide⟩,(by rw[Yj];exact Zs _)⟩,λi j c=>absurd c (Y0 _),λi j x h=>by have:(#[]:Array Nat)[i]?=some j:=h;simp at this⟩,by rfl,rfl,(by show 7<=8*0+8;decide),rfl,XQ,λi e b=>by simp at b,λd hk=>nomatch hk⟩
theorem qX1{h:ao}{a:af}{led:Bool}(e:h.get? a=some (e_ led)):iW knd h a [] 0:=⟨⟨led,iB e⟩,rfl⟩
theorem iD{l:af}{items:Array aa}{val:Nat->List K}{Q:aa->ae->Prop}(hh:A.handled=none)(hu:A.units+8<cLine)(hl:s.heap.IsTuple l items)
  (hi:∀(i:Nat)(v:aa),items[i]?=some v->∃b,v=.ref b/\h_ knd s.heap (val i) b) (q:∀i j,i<j->j<items.size->val i≠val j) (hb:items.size<=1200)
  (h:∀(d:ao)(t:Nat),(∃y,iW knd d s.heap.objs.size y items.size)->(∀b o,b<s.heap.objs.size->s.heap.get? b=some o->d.get? b=some o)->Q (.ref s.heap.objs.size) {s with heap:=d,toks:=t}):
  ah (ai prog w) A (call (.type "set") [.ref l]) Q E s:=by
 obtain⟨c,tl,H⟩:=F.called_set.mro;have UG:=F.called_set.made;have M:=F.called_set.sub;refine wpAny_call (codeAny_of_tree ?_);show ah _ _ (callAny (.type "set") _) _ _ _;refine Zb ⟨Code.quiet_builtin _ (by decide +kernel),Y7 F.entry_type_call ?_⟩;rw[Around.under_plain (weight_type_call_type "set" [.ref l] []) rfl];have f1:=F.called_set.notType;have f2:=F.called_set.canCreate;have f3:=F.typeCall_set_1 (.ref l)
 repeat (any_goals first|assumption|wp_step)
 refine WV (code_set_new_1 (.ref l) (E:=E) (Q₁:=λn T=>∃a:Bool,n=.ref s.heap.objs.size/\T={s with heap:=s.heap.push (e_ a)}) λa=>⟨a,rfl,rfl⟩) λr T B=>?_;cases r with
 |error e=>exact B
 |ok fl=>
  cases fl with
  |ret n=>
   obtain⟨a,rfl,rfl⟩:=B;have N:(s.heap.push (e_ a)).get? s.heap.objs.size=some (e_ a):=Zi _ rfl;have hT:Shared.TypeIs {s with heap:=s.heap.push (e_ a)} (.ref s.heap.objs.size) "set":=⟨_,N,rfl⟩;have i1:=F.called_set.init.lookup;have i2:=F.called_set.init.bind (.ref s.heap.objs.size)
   repeat (any_goals first|assumption|wp_step)
   refine WV (Vi (R:=wants (λr J=>r=.none/\∃d t,J={s with heap:=d,toks:=t}/\(∃y,iW knd d s.heap.objs.size y items.size) /\
     (∀b o,b<s.heap.objs.size->s.heap.get? b=some o->d.get? b=some o)) E) F.called_set.init.plain F.entry_set_init (check_set_init_1 hT ?_)) λJ_ J G=>?_
   ·obtain⟨ol,W,I,L,P⟩:=id hl;obtain⟨S,CH,Uj,X⟩:=ol;simp only at I P;subst I;subst P;have MG:(s.heap.push (e_ a)).get? l=some {cls:=.type "tuple",dict:=CH,data:=.seq items L,slots:=X}:=Zd _ W;have ki:=F.sub_tuple_set;have dz:=F.sub_tuple_frozenset;have ned:(Value.type "tuple"== Value.type "dict")=false:=by decide
    have m:(s.heap.push (e_ a)).IsTuple l items:=⟨_,MG,rfl,L,rfl⟩;unfold Builtin.«set.__init__» noKeywords Builtin.Frozenset.updateFrom;generalize D:pyIter=PI
    wp_walk
    subst D;refine XV m ?_;refine Za (wpAny_runValue ?_);have p:l<s.heap.objs.size:=Zo W;have f:(s.heap.push (e_ a)).objs.size=s.heap.objs.size+1:=Z4 _ _;have MM:l≠(s.heap.push (e_ a)).objs.size:=by rw[f];exact Zu (Yl p)
    have yN:s.heap.objs.size∉[(s.heap.push (e_ a)).objs.size,l]:=by
     rw[f];simp only[Zz,Ww,Ud,not_or];exact⟨Zu (Yb _),XU p⟩
    refine q47 (knd:=knd) ((Walks.tuple (by simp[hh]) _ l MM items).toS) s.heap.objs.size yN val q hb (by show A.units+1+1+1<cLine;lia) (λi O Z b Nl=>?_) (items.size-0) 0 _ 'a' (Zs _)
     ⟨⟨_,Zi _ rfl,rfl,rfl⟩,m.push _⟩ (λi v hv=>?_) ⟨[],qX1 (Zd _ N),λks DY=>nomatch DY⟩ λO mv g=>?_
    ·rintro⟨ks,o',U,n',x,u,e3,_⟩;have:b=(s.heap.push (e_ a)).objs.size:=by simpa using Nl
     subst this;obtain⟨oi,x1,x2,x3⟩:=Z.1;rw[x1]at x;cases x;rw[x2]at u;injection u with u
     exact absurd u 'b'
    ·obtain⟨b,rfl,V⟩:=hi i v hv;have k:b<s.heap.objs.size:=by obtain⟨o',_,_,x,_⟩:=V;exact Zo x
     refine⟨b,rfl,Zu k,(by rw[f];simp only[Zz,Ww,Ud];exact Zu (Yl k)),V.at λo e=>Zd _ (Zd _ e)⟩
    ·obtain⟨d,g',d',C,fU⟩:=O;have eg:g'=s.gens:=mv.gens;have ed:d'=s.drawn:=mv.drawn;have eo:fU=s.os:=mv.os;subst eg;subst ed;subst eo;show ah _ _ _ _ _ _;refine Zb ?_;show ah _ _ (ret Value.none) _ _ _;refine Zb ⟨rfl,d,C,rfl,g,λb o k e=>?_⟩;exact mv.heap b o (by rw[f];simp only[Zz,Ww,Ud,not_or];exact⟨Zu k,Zu (Yl k)⟩) (Zd _ (Zd _ e))
   ·cases J_ with
    |error e=>exact G
    |ok EB=>
     cases EB with
     |ret r=>
      obtain⟨rfl,d,t,rfl,g,Y⟩:=G
      repeat (any_goals first|assumption|wp_step)
      exact h _ _ g Y
     |_=>exact G.elim
  |_=>exact B.elim
end
end bI
namespace L2
open PySem PySem.Spec PyProof.Rows
section
variable{X:Cx}
theorem Kx{env:Env}:∀{names:List (ar×NameKind)}{acc:List (ar×af)},
  (∀p∈names,p.2=.free->∃c,cellOf env p.1=pure c/\env.cells.lookup p.1=some c) ->
  (∀y c,acc.lookup y=some c->env.cells.lookup y=some c) ->
  ∃b:List (ar×af),(forIn names acc λp q=>(if p.2==.free then(do let c <- cellOf env p.1;pure (ForInStep.yield ((p.1,c)::q)))else pure (ForInStep.yield q):Sem (ForInStep (List (ar×af)))))=pure b /\
   (∀y c,b.lookup y=some c->env.cells.lookup y=some c)/\(∀y,(acc.lookup y).isSome=true->(b.lookup y).isSome=true)/\∀p∈names,p.2=.free->(b.lookup p.1).isSome=true
 |[],acc,_,i=>⟨acc,by simp,i,λ_ h=>h,λ_ h=>absurd h 'c'⟩
 |(n,k)::r,acc,m,i=>by
  by_cases hk:k=.free
  ·subst hk;obtain⟨c,t,s⟩:=m (n,.free) ZC rfl;obtain⟨b,h1,h2,f,j⟩:=Kx (env:=env) (names:=r) (acc:=(n,c)::acc) (λp a=>m p (Zq _ a)) (λy d h=>by
    rw[YS]at h;cases e:y==n with
    |true=>rw[e]at h;cases h;rw[eq_of_beq e];exact s
    |false=>rw[e]at h;exact i y d h)
   refine⟨b,?_,h2,λy e=>f y (by
    rw[YS];cases y==n with
    |true=>rfl
    |false=>exact e),λp a g=>?_⟩
   ·rw[WG];have l:cellOf env n=pure c:=t;simp only[VZ,XM,l,Vx];exact h1
   ·rcases Zz.mp a with rfl|a
    ·exact f _ (by simp[YS])
    ·exact j p a g
  ·obtain⟨b,h1,h2,f,j⟩:=Kx (env:=env) (names:=r) (acc:=acc) (λp a=>m p (Zq _ a)) i;refine⟨b,?_,h2,f,λp a g=>?_⟩
   ·rw[WG];have:(k==NameKind.free)=false:=by simpa using hk
    simp only[this,Zy,Z6,Vx];exact h1
   ·rcases Zz.mp a with rfl|a
    ·exact absurd g hk
    ·exact j p a g
def Fj(h:TI)(te:TE):TE:=λf H Q=>h f H λJ d=>∀D,d D=none->∃W:Nat->Nat->List V->Hp->Prop,(∃m,W 0 m [] (upd d D (.lst []))) /\
 ∀i m b a,W i m b a->a D=some (.lst b)/\b.length<sizeLine/\((J.stop i a/\Q (.ref D) a)\/(J.go i a/\∀y c,J.iK i a y c ->
  te (some y::f) c λv g=>g D=some (.lst b)/\∃e,e<m/\W (i+1) e (b++[v]) (upd g D (.lst (b++[v])))))
theorem RG{scope:ax}{env:Env}(b:∀p∈scope.names,p.2=.free->∃c,env.cells.lookup p.1=some c):
  ∃a:List (ar×af),closureFor scope env=pure a/\(∀y c,a.lookup y=some c->env.cells.lookup y=some c)/\∀p∈scope.names,p.2=.free->(a.lookup p.1).isSome=true:=by
 obtain⟨a,h1,h2,_,f⟩:=Kx (env:=env) (names:=scope.names) (acc:=[]) (λp d hk=>by
  obtain⟨c,e⟩:=b p d hk;refine⟨c,?_,e⟩;unfold cellOf;rw[e]) (λy c h=>by simp at h)
 refine⟨a,?_,h2,f⟩;unfold closureFor;refine Eq.trans ?_ h1;simp only[bind_pure]
theorem B_{env:Env}:∀{names:List (ar×NameKind)}{y:ar}{k:NameKind},(names.map λ(n,k)=>if(k==NameKind.free&&env.scope.kind==.function&&env.kindOf n==some .cell)then(n,NameKind.cell)else(n,k)).lookup y=some k ->
  (∀p∈names,p.2≠.cell)->(k=.cell\/k=.free)->∃p∈names,p.1=y/\p.2=.free
 |[],_,_,h,_,_=>by simp at h
 |(n,b)::r,y,k,h,d,hk=>by
  rw[Zw]at h;by_cases f:y=n
  ·subst f;by_cases a:b=.free
   ·exact⟨(y,b),ZC,rfl,a⟩
   ·exfalso;have e:(b==NameKind.free)=false:=by simpa using a
    simp only[e,Ua,Zy,Z6,YS,VZ,Option.some.injEq]at h;rcases hk with z|z
    ·exact d _ ZC (h.trans z)
    ·exact a (h.trans z)
  ·have hb:(y==n)=false:=by simpa using f
   have g:(r.map λ(n,k)=>if(k==NameKind.free&&env.scope.kind==.function&&env.kindOf n==some .cell)then(n,NameKind.cell)else(n,k)).lookup y=some k:=by
    revert h;dsimp only;split<;>(intro h;simpa only[YS,hb]using h)
   obtain⟨p,c,e⟩:=B_ g (λp c=>d p (Zq _ c)) hk;exact⟨p,Zq _ c,e⟩
theorem Rx{env:Env}:∀{names:List (ar×NameKind)}{y:ar},(names.map λ(n,k)=>if(k==NameKind.free&&env.scope.kind==.function&&env.kindOf n==some .cell)then(n,NameKind.cell)else(n,k)).lookup y=some .local ->
  names.lookup y=some .local
 |[],_,h=>by simp at h
 |(n,b)::r,y,h=>by
  rw[Zw]at h;by_cases a:y=n
  ·subst a;rw[YS,VZ];revert h;dsimp only;split
   ·intro h;simp[YS]at h
   ·intro h;simpa[YS]using h
  ·have hb:(y==n)=false:=by simpa using a
   rw[YS,hb];refine Rx (env:=env) ?_;revert h;dsimp only;split<;>(intro h;simpa only[YS,hb]using h)
end
end L2
namespace L2
open PySem PySem.Spec PyProof.Rows PySem.W
def xO8(h base:ao)(e:af)(cls d:aa):Prop:=∃b a T oT c,h.get? e=some b/\b.cls=cls/\b.data=.fields a/\a[1]?=some (.ref T)/\a[2]?=some .none/\base.get? T=none/\T≠e/\h.get? T=some oT/\oT.data=.fields c/\c[3]?=some d
structure Over(base:ao)(l:List Env)(e:af)(cls fl:aa)(h:ao):Prop where
 stays:base.StaysIn h
 new:base.get? e=none
 frames:h.FunFrames base l
 p6:xO8 h base e cls fl
section
variable{M:Model}{A:aq}{E:aa->ae->Prop}{s:ae}{base:ao}{env:Env}{outer:List Env}{L e:af}{oe:ay}{vs:Array aa}{head:aa}{t7:Bool}
theorem S9{Q:Unit->ae->Prop}(hfr:A.frames=some (env::outer))(k:s.heap.FunFrames base (env::outer))(y:env.frame=some L)(i:s.heap.get? e=some oe)(kb:base.StaysIn s.heap)(ne:base.get? e=none)
  (h:oe.data=.fields vs) (h2:vs[2]?=some .none) (x:∀l,Over base (env::outer) e oe.cls (rawInt L) l->s.heap.UpToSlots l->Q () {s with heap:=l}):
  ah M A (do let a <- frameOf env;let g <- entryPlaceOf L t7;let b <- EntryCells.newEntry head a .none (rawInt L) .none g;setField (.ref e) 1 b) Q E s:=by
 have m:1<vs.size:=WZ 'b' (ZH.mp h2).1;have C:e∉(env::outer).filterMap (·.frame):=λz=>by
  obtain⟨_,o,f,B⟩:=k.mem z;rw[i]at f;cases f;exact B vs h
 refine Za (wpAny_frameOf_fun hfr k y λc j=>?_);refine Za (wpAny_entryPlaceOf λg D=>?_);unfold EntryCells.newEntry newFields;refine Za (ZP ?_ (D.sizeOk5 _ _ _ _ _));dsimp only;have p:c.get? e=some oe:=(j.2.1 e C).trans i;have v:base.StaysIn c:=λb o q=>(j.2.1 b (λz=>by rw[(k.mem z).1]at q;cases q)).trans (kb b o q);have r:(([head,.ref L,.none,rawInt L,.none]++(if g.isEmpty then List.replicate 6 Value.none else g)).toArray:Array aa)[3]?=some (rawInt L):=by
  simp
 generalize ([head,.ref L,.none,rawInt L,.none]++(if g.isEmpty then List.replicate 6 Value.none else g)).toArray=w at r;have n:(c.push {cls:=.type "traceback",dict:=none,data:=.fields w}).get? e=some oe:=Zd _ p;have t:c.objs.size≠e:=XU (Zo p);refine YZ n h m (x _ ⟨?_,ne,?_,?_⟩ ?_)
 ·exact λb o q=>(ZJ _ _ (λz=>by rw[z,q]at ne;cases ne)).trans (Zd _ (v b o q))
 ·refine k.of_keeps λb o q d=>?_;obtain⟨u,f⟩:=j.2.2 b o q;exact⟨_,(ZJ _ _ (λz=>by rw[<- z,i]at q;cases q;exact d vs h)).trans (Zd _ f),rfl⟩
 ·refine⟨_,_,c.objs.size,_,w,Z8 _ n (YW (Z1 h _)),Wl _ _,Z1 h _,by simp[m],?_,v.fresh,t,(ZJ _ _ (YK t)).trans (Zi c rfl),rfl,r⟩;rw[Array.getElem?_setIfInBounds_ne 'b'];exact h2
 ·intro b o q d;obtain⟨u,f⟩:=j.2.2 b o q;exact⟨u,(ZJ _ _ (λz=>by rw[<- z,i]at q;cases q;exact d vs h)).trans (Zd _ f)⟩
theorem Gk{Q:Unit->ae->Prop}{l:List Env}{cls t:aa}(O:Over base l e cls t s.heap)(v:∀c,Over base l e cls .none c->s.heap.UpToSlots c->Q () {s with heap:=c}):ah M A (setFlight (.ref e) none) Q E s:=by
 obtain⟨u,p,r,oe,vs,T,oT,j,h,n,k,h1,h2,f,i,a,dT,m⟩:=O;have g:=(ZH.mp m).1;unfold setFlight;refine Za (YE h k h1 ?_);rw[Zn 'c'];refine YZ a dT g (v _ ⟨?_,p,?_,?_⟩ ?_)
 ·exact λb o q=>(ZJ _ _ (λz=>by rw[z,q]at f;cases f)).trans (u b o q)
 ·exact r.of_keeps λb o q d=>⟨o,(ZJ _ _ (λz=>by rw[<- z,a]at q;cases q;exact d j dT)).trans q,rfl⟩
 ·exact⟨oe,vs,T,_,_,(ZJ _ _ i).trans h,n,k,h1,h2,f,i,Z8 _ a (YW (Z1 dT _)),Z1 dT _,by simp[g]⟩
 ·exact λb o q d=>⟨o.slots,(ZJ _ _ (λz=>by rw[<- z,a]at q;cases q;exact d j dT)).trans q⟩
theorem qX2{Q:Unit->ae->Prop}(hfr:A.frames=some (env::outer))(f:s.heap.FunFrames base (env::outer))(b:env.frame=some L)(c:s.heap.get? e=some oe)(kb:base.StaysIn s.heap)(ne:base.get? e=none)
  (d:oe.data=.fields vs) (h1:vs[1]?=some .none) (h2:vs[2]?=some .none) (g:∀a,Over base (env::outer) e oe.cls (rawInt L) a->s.heap.UpToSlots a->Q () {s with heap:=a}):ah M A (noteFrame (.ref e) env) Q E s:=by
 unfold noteFrame;simp only[b];refine Za (YE c d h1 ?_);rw[Zj 'b'];exact S9 hfr f b c kb ne d h2 g
theorem S8{Q:Unit->ae->Prop}{cls:aa}(hfr:A.frames=some (env::outer))(k:env.frame=some L)(O:Over base (env::outer) e cls .none s.heap)(p:∀a,Over base (env::outer) e cls (rawInt L) a->s.heap.UpToSlots a->Q () {s with heap:=a}):
  ah M A (noteFrame (.ref e) env) Q E s:=by
 obtain⟨x,l,w,oe,vs,T,oT,y,g,u,j,h1,h2,i,t,c,dT,f⟩:=O;subst u;have v:=(ZH.mp f).1;unfold noteFrame;simp only[k];refine Za (YE g j h1 ?_);rw[Zn 'c'];refine Za (YE c dT f ?_);rw[Zj (by simp[rawInt])];refine Za (YZ c dT v ?_);have h:∀b o,s.heap.get? b=some o->(∀m,o.data≠.fields m)->T≠b:=λb o q d z=>by rw[<- z,c]at q;cases q;exact d y dT
 refine S9 (s:={s with heap:=_}) hfr ?_ k ((ZJ _ _ t).trans g) ?_ l j h2 λa r n=>p a r λb o q d=>?_
 ·exact w.of_keeps λb o q d=>⟨o,(ZJ _ _ (h b o q d)).trans q,rfl⟩
 ·exact λb o q=>(ZJ _ _ (λz=>by rw[z,q]at i;cases i)).trans (x b o q)
 ·exact n b o ((ZJ _ _ (h b o q d)).trans q) d
theorem qM3{Q:Unit->ae->Prop}(hfr:A.frames=some (env::outer))(h:s.heap.FunFrames base (env::outer))(c:env.frame=some L)(d:s.heap.get? e=some oe)(kb:base.StaysIn s.heap)(ne:base.get? e=none)
  (f:oe.data=.fields vs) (h1:vs[1]?=some .none) (h2:vs[2]?=some .none) (k:∀b,Over base outer e oe.cls .none b->s.heap.UpToSlots b->Q () {s with heap:=b}):ah M A (leaving env (.ref e)) Q E s:=by
 unfold leaving;refine Za (qX2 hfr h c d kb ne f h1 h2 λg O U=>?_);refine Gk O λi a j=>k i ⟨a.stays,a.new,a.frames.2.2,a.p6⟩ (U.trans j)
theorem qX3{Q:Unit->ae->Prop}{cls:aa}(hfr:A.frames=some (env::outer))(c:env.frame=some L)(O:Over base (env::outer) e cls .none s.heap)(i:∀b,Over base outer e cls .none b->s.heap.UpToSlots b->Q () {s with heap:=b}):
  ah M A (leaving env (.ref e)) Q E s:=by
 unfold leaving;refine Za (S8 hfr c O λg h U=>?_);refine Gk h λd a f=>i d ⟨a.stays,a.new,a.frames.2.2,a.p6⟩ (U.trans f)
end
end L2
namespace L2
open PySem PySem.Spec PyProof.Rows
theorem a_.there{P:ag}{w:aj}{H:Hp}{h:ao}{a:af}{o:HO}(x:a_ P w H h a o):∃ob,h.get? a=some ob:=by
 cases o with
 |lst c=>obtain⟨_,_,_,_,e⟩:=x;exact⟨_,e⟩
 |tup c=>obtain⟨_,_,_,o,e,_⟩:=x;exact⟨_,e⟩
 |dK b=>obtain⟨_,_,_,_,o,_,_,e,_⟩:=x;exact⟨_,e⟩
 |dT b=>obtain⟨_,_,_,_,o,_,_,e,_⟩:=x;exact⟨_,e⟩
 |set S n=>obtain⟨o,_,_,_,e,_⟩:=x;exact⟨_,e⟩
 |ins C i fs=>obtain⟨_,_,_,e,_⟩:=x;exact⟨_,e⟩
 |own y=>exact x
 |xd fs=>obtain⟨_,⟨_,_,_,e,_⟩,_⟩:=x;exact⟨_,e⟩
 |uz j k=>obtain⟨_,_,_,e⟩:=x;exact⟨_,e⟩
 |mF ob u=>obtain⟨e,_⟩:=x;exact⟨_,e⟩
 |uu d=>exact⟨_,(show h.get? a=some _ from x)⟩
 |met f y=>exact⟨_,(show h.get? a=some _ from x)⟩
 |ext g=>exact x.2.1
def E3(P:ag)(w:aj)(outer:List Env)(H a:Hp)(h h':ao)(x:af)(cls:aa):Prop:=
 ∃(B:ao),Un (dC outer) [] H a h h'/\dQ P w a h'/\Over B outer x cls .none h'/\(∀b o,h.get? b=some o->b∉dC outer->∃ob,B.get? b=some ob)/\(∀b o,a b=some o->∃ob,B.get? b=some ob)/\a x=none
def jz(P:ag)(w:aj):oO:=λa H s E e b=>∃(x:af)(cls:aa)(c:Hp),e=.ref x/\b.os=s.os/\AllBare b.gens/\E3 P w a H c s.heap b.heap x cls/\E cls none c
def Px(X:Cx)(E:XK):Prop:=∀(c:List (af×ay))(b:St)(H:Hp)(s:ae)(a:ao)(e:af)(cls:aa)(args:List aa),Inv X c b H s->Heap.MadeExcOf s.heap a e cls args->E cls none H->X.xe (.ref e) {s with heap:=a}
section
variable{H H1 H':Hp}{h h1 h':ao}{outer:List Env}{env:Env}{x L:af}{cls:aa}
theorem E3.left{B:ao}(U0:Un (dC outer) [] H H1 h h1)(p:∀b o,h.get? b=some o->b≠L)(A:env.frame=some L)(f:Un (dC (env::outer)) [] H1 H' h1 h')(K:dQ P w H' h')
  (j:∀b o,h1.get? b=some o->b∉dC (env::outer)->∃ob,B.get? b=some ob) (k:∀b o,H' b=some o->∃ob,B.get? b=some ob) (O:H' x=none) (st:B.StaysIn h') (G:h.FunFrames B' outer)
  {h2:ao}(g:Over B outer x cls .none h2) (U:h'.UpToSlots h2):E3 P w outer H H' h h2 x cls:=by
 have fr:∀b,b∉dC outer->b≠L->b∉dC (env::outer):=λb hb N m=>by
  unfold dC at m hb;rw[YD,A]at m;rcases Zz.mp m with z|z
  ·exact N z
  ·exact hb z
 have J:∀b,b∈dC outer->b∈dC (env::outer):=λb hb=>by
  unfold dC at hb ⊢;rw[YD,A];exact Zq _ hb
 have lA:∀b:af,b∉([]:List af):=λb=>by simp
 have same:∀b ob o,B.get? b=some ob->h'.get? b=some o->h2.get? b=some o:=λb ob o a d=>by
  have t:=st b ob a;have S:=g.stays b ob a;rw[d]at t;cases t;exact S
 refine⟨B,⟨λb o e n hb _=>?_,λb o e n hb _=>?_,λb o e n _=>?_,λb o e _=>?_,λb s e=>f.cg b s (U0.cg b s e),λb o u e=>f.gF b o u (U0.gF b o u e),λb M e=>?_⟩,λb o e=>?_,g,λb o e hb=>?_,k,O⟩
 ·have a:=U0.keep b o e n hb (lA b);have v:=fr b hb (p b o e);have d:=f.keep b o a (U0.free b o e n (lA b)) v (lA b);obtain⟨ob,z⟩:=j b o a v;exact same b ob o z d
 ·obtain⟨W,a⟩:=U0.slot b o e n hb (lA b);obtain⟨V,d⟩:=f.slot b _ a (U0.free b o e n (lA b)) (J b hb) (lA b);obtain⟨_,r,C,Q⟩:=G.mem hb;rw[e]at C;cases C;obtain⟨F,I⟩:=U b _ d Q;exact⟨F,I⟩
 ·obtain⟨r,a⟩:=U0.there b o e (lA b);exact f.free b r a (U0.free b o e n (lA b)) (lA b)
 ·obtain⟨i,a⟩:=U0.there b o e (lA b);by_cases hb:b∈dC (env::outer)
  ·by_cases y:b∈dC outer
   ·obtain⟨_,E,d,_⟩:=g.frames.mem y;exact⟨E,d⟩
   ·exact absurd hb (fr b y (p b o e))
  ·obtain⟨ob,z⟩:=j b i a hb;exact⟨ob,g.stays b ob z⟩
 ·obtain⟨T,a⟩:=U0.gL b M e;obtain⟨D,d⟩:=f.gL b _ a;exact⟨T++D,by rw[d,Array.append_assoc]⟩
 ·refine(K b o e).dv (λc u R q=>?_) (λ_ q=>q) λ_ _ q=>q;rcases R with z|z
  ·obtain⟨ob,l⟩:=k b o e;rw[z]at q ⊢;exact same b ob u l q
  ·obtain⟨ob,l⟩:=k c _ z;exact same c ob u l q
 ·obtain⟨i,a⟩:=U0.there b o e (lA b);exact j b i a (fr b hb (p b o e))
end
section
variable{N:List ar}{qual:ar}{scope:ax}{f:af}{cd:aa}{A:aq}{outer:List Env}{aC:ae}{aD:Hp}{E:XK}
theorem K4:uJ (jz P w) (ju (jz P w) P w K mg base N qual scope f cd A outer aC aD E) E:=by
 intro r u H s e t I h;obtain⟨x,a,m,rfl,j,hb,⟨B,U,n,c,g,i,k⟩,l⟩:=h;have d:(envOfC qual scope aC.heap.objs.size f cd).frame=some aC.heap.objs.size:=rfl;refine qX3 I.ok.frames d c λh2 p q=>?_;refine⟨x,a,m,rfl,j.trans I.os,hb,?_,l⟩;exact E3.left I.base (λb o e=>Zu (Zo e)) d U n g i k c.stays I.ok.dW p q
theorem xt9:Px (ju (jz P w) P w K mg base N qual scope f cd A outer aC aD E) E:=by
 intro y C H s h' e h j I c r;have k:(envOfC qual scope aC.heap.objs.size f cd).frame=some aC.heap.objs.size:=rfl;have n:s.heap.FunFrames base (envOfC qual scope aC.heap.objs.size f cd::outer):=I.stack;have p:∀d∈(envOfC qual scope aC.heap.objs.size f cd::outer),∀a,d.frame=some a->a∈dC (envOfC qual scope aC.heap.objs.size f cd::outer):=λd g a x=>WJ.mpr ⟨d,g,x⟩;obtain⟨t,g,_,_⟩:=c.there;have m:(PySem.W.hideAll s.heap (dC (envOfC qual scope aC.heap.objs.size f cd::outer))).get? e=none:=by
  cases q:(PySem.W.hideAll s.heap (dC (envOfC qual scope aC.heap.objs.size f cd::outer))).get? e with
  |none=>rfl
  |some o=>
   have:=WI _ q;rw[c.new]at this;cases this
 have u:H e=none:=by
  cases z:H e with
  |none=>rfl
  |some o=>
   obtain⟨ob,q⟩:=(I.aS e o z).there;rw[c.new]at q;cases q
 refine qM3 (base:=PySem.W.hideAll s.heap (dC (envOfC qual scope aC.heap.objs.size f cd::outer))) I.ok.frames ((PySem.W.funFrames_hide n p).of_keeps λb o hb _=>⟨o,c.keeps b o hb,rfl⟩) k g
  (λb o hb=>c.keeps b o (WI _ hb)) m rfl rfl rfl λh2 v l=>?_
 refine⟨e,h,H,rfl,I.os,I.bare,?_,r⟩;refine E3.left (B:=PySem.W.hideAll s.heap (dC (envOfC qual scope aC.heap.objs.size f cd::outer))) (h':=h') I.base (λb o z=>Zu (Zo z)) k (Un.kept c.keeps) (I.aS.kept c.keeps) (λb o z hb=>⟨o,Vo _ z hb⟩) (λb o z=>?_) u (λb o hb=>c.keeps b o (WI _ hb)) I.ok.dW v l;obtain⟨ob,q⟩:=(I.aS b o z).there;refine⟨ob,Vo _ q λi=>?_⟩;have:=I.jb b i;rw[z]at this;cases this
end
def uk(r:af)(n:Nat)(h:ao):Prop:=∃o a b t,h.get? r=some o/\o.ExactSet/\o.data=.set a b t/\t.fits a.size=true/\a.size=n
section
variable{X:Cx}
theorem xO9{k:Key}{u:aa}(r:RelV (kV k) u):bI.Hb u:=by
 cases k with
 |inl i=>obtain⟨t,rfl⟩:=r;exact bI.Hb.int i t
 |inr x=>obtain⟨t,rfl⟩:=r;exact bI.Hb.str x t
theorem Pw:∀{b:List Key}{c:List aa},Vals (b.map kV) c->∀v∈c,bI.Hb v
 |[],_,.nil,v,a=>by cases a
 |k::b,_,.cons r t,v,a=>by
  rcases Zz.mp a with rfl|a
  ·exact xO9 r
  ·exact Pw t v a
theorem BL{P:ag}{w:aj}{H:Hp}{h:ao}{b:af}{a:List Key}(ok:dQ P w H h)(e:H b=some (.tup (a.map kV))):bI.h_ (gy P w) h a b:=by
 obtain⟨_,d,r,o,c,f,n,i⟩:=ok b _ e;exact⟨o,d.toArray,n,c,f,i,by simpa using Kl r,λv g=>Pw r v (by simpa using g)⟩
inductive lT(xs:List V)(H:Hp)(Q:VK):Prop
 |mk(p:af)(bs:List af)(rows:List (List Key))(aT:xs=[.ref p])(eR:H p=some (.tup (bs.map V.ref)))(dX:bs.length=rows.length)(aR:(∀(i:Nat) b ks,bs[i]?=some b->rows[i]?=some ks->H b=some (.tup (ks.map kV))))(dB:rows.Nodup)(EJ:rows.length<=1200)(e6_:∀r,H r=none->Q (.ref r) (upd H r (.ext (uk r rows.length))))
theorem q48(hc:X.calm=true){k:Nat}(hr:aV k X.A):gZ X (.type "set") lT:=by
 intro j8 s σ H xs us Q I rv h;obtain⟨p,bs,rows,rfl,hp,n,jE,R,E,q⟩:=h;obtain⟨u,rfl,O⟩:=iR rv;cases O;obtain⟨_,m,N,C⟩:=I.aS p _ hp;have l:m.length=bs.length:=by have:=N.length;simpa using this.symm
 have un:=hr.units;have d:∀(i:Nat)(v:aa),m[i]?=some v->∃b,bs[i]?=some b/\v=.ref b:=λi v w=>by
  have c:i<bs.length:=by rw[<- l];exact(cf w).1
  obtain⟨w',f,y⟩:=N.get (i:=i) (x:=V.ref bs[i]) (by simp[c]);rw[w]at f;cases f;exact⟨bs[i],by simp[c],y⟩
 refine bI.iD (knd:=gy X.prog X.w) (items:=m.toArray) (val:=λi=>rows.getD i []) (I.ok.hd hc) 'a' (show s.heap.IsTuple p m.toArray from C) (λi v w=>?_) (λi j Y F z=>?_) (by rw[ZN,l,n];exact E) λh' tk A kp=>?_
 ·obtain⟨b,hb,rfl⟩:=d i v (by simpa using w);have c:i<rows.length:=by rw[<- n];exact(cf hb).1
  have e:rows.getD i []=rows[i]:=by simp[List.getD,c]
  show ∃K,Value.ref b=.ref K/\bI.h_ _ s.heap (rows.getD i []) K;rw[e];exact⟨b,rfl,BL I.aS (jE i b rows[i] hb (by simp[c]))⟩
 ·rw[ZN,l,n]at F;have M:rows.getD i []=rows.getD j []:=z;have c:i<rows.length:=by exact md Y F
  have f:rows.getD i []=rows[i]:=by simp[List.getD,c]
  have y:rows.getD j []=rows[j]:=by simp[List.getD,F]
  rw[f,y]at M;have:=(List.getElem_inj R).mp M;lia
 ·obtain⟨Ks,S⟩:=A;obtain⟨⟨_,o,B,P,t,L,Z,hd,G,hf,_,_,W,_⟩,hn⟩:=S;have g:bI.cP t B.size:=by have:=G.gr;rw[Yj]at this;exact this
  have T:B.size=rows.length:=by rw[W,hn,ZN,l,n]
  refine⟨.ref s.heap.objs.size,_,I.laid (a:=s.heap.objs.size) (o:=.ext (uk s.heap.objs.size rows.length)) (t':=tk) (λb o e=>kp b o (Zo e) e) (Zg _) ⟨⟨o,B,P,t,L,Z,hd,g.fits,T⟩,⟨o,L⟩,λh1 h2 φ k=>?_⟩,rfl,q _ (I.aS.fresh (Zg _))⟩;obtain⟨J,D,U,t',eQ,r⟩:=φ;exact⟨J,D,U,t',k J eQ,r⟩
inductive iX(xs:List V)(H:Hp)(Q:VK):Prop
 |mk(r:af)(n:Nat)(aT:xs=[.ref r])(eR:H r=some (.ext (uk r n)))(dX:n<=1200)(aR:Q (.int n) H)
theorem qM5:gZ X (.builtin "len") iX:=by
 intro m s p H v k Q I i h;obtain⟨r,n,rfl,g,l,q⟩:=h;obtain⟨u,rfl,b⟩:=iR i;cases b;obtain⟨⟨o,a,j,t,d,c,e,f,rfl⟩,_⟩:=I.aS r _ g;have hb:(a.size:Int)<=1200:=by lia
 exact call_len_set d c e f (Int.lt_of_le_of_lt hb 'b') ⟨.int a.size,H,I.tok _,⟨_,rfl⟩,q⟩
end
def dO(P:ag)(w:aj)(a:af)(ps:List (List Key×af)):ao->Prop:=λh=>∃o b c t,h.get? a=some o/\o.ExactSet/\o.data=.set b c t/\bI.Good t (b.map (·.1))/\t.tooFull=false/\t.led=(!w.params.followText "set-order")/\t.mask<=8*ps.length+8/\b.size=ps.length /\
 (∀(i:Nat) e,b[i]?=some e->∃p∈ps,e.2=.ref p.2/\e.1=tupleKeyHash (gy P w) p.1)/\∀p∈ps,∃(i:Nat)(e:Int×aa),b[i]?=some e/\e.2=.ref p.2
structure fi(P:ag)(w:aj)(H:Hp)(a:af)(ps:List (List Key×af)):Prop where
 at_:H a=some (.ext (dO P w a ps))
 nd:(ps.map (·.1)).Nodup
 tl:∀p∈ps,H p.2=some (.tup (p.1.map kV))
theorem TQ{H:Hp}{h:ao}{a:af}{ps:List (List Key×af)}(s:dO P w a ps h):a_ P w H h a (.ext (dO P w a ps)):=by
 obtain⟨o,l,j,t,d,r⟩:=id s;exact⟨s,⟨o,d⟩,λh1 h2 ⟨c,b,e,i,g,f⟩ k=>⟨c,b,e,i,k c g,f⟩⟩
theorem xF2{H:Hp}{h:ao}{a:af}{ps:List (List Key×af)}(ok:dQ P w H h)(c:fi P w H a ps):bI.mP (gy P w) (!w.params.followText "set-order") (λb=>∃p∈ps,p.2=b) h a (ps.map (·.1)):=by
 obtain⟨⟨o,l,j,t,r,q,u,G,x,s,m,n,v,y⟩,_⟩:=(show a_ P w H h a (.ext _)from ok a _ c.at_);refine⟨o,l,j,t,r,q,u,G,x,s,by rw[Ze];exact m,by rw[Ze];exact n,c.nd,λi e k=>?_,λA hk=>?_⟩
 ·obtain⟨p,d,g,f⟩:=v i e k;exact⟨p.2,p.1,g,ZF.mpr ⟨p,d,rfl⟩,(BL ok (c.tl p d)).key,f,p,d,rfl⟩
 ·obtain⟨p,d,rfl⟩:=ZF.mp hk;obtain⟨i,e,g,f⟩:=y p d;exact⟨i,e,p.2,g,f,(BL ok (c.tl p d)).key⟩
theorem Pu{g f:Type}{p q:g×f}:∀{a:List (g×f)},(a.map (·.1)).Nodup->p∈a->q∈a->p.1=q.1->p=q
 |[],_,h,_,_=>nomatch h
 |r::a,nd,k,b,e=>by
  obtain⟨d,j⟩:=Z3.mp (show(r.1::a.map (·.1)).Nodup from nd);rcases Zz.mp k with rfl|i
  ·rcases Zz.mp b with b|c
   ·exact b.symm
   ·exact absurd (ZF.mpr ⟨q,c,e.symm⟩) d
  ·rcases Zz.mp b with rfl|c
   ·exact absurd (ZF.mpr ⟨p,i,e⟩) d
   ·exact Pu j i c e
theorem xu0{h:ao}{a:af}{ps:List (List Key×af)}(nd:(ps.map (·.1)).Nodup)(m:∀p∈ps,IsTupleKey (gy P w) h p.1 p.2)(c:bI.mP (gy P w) (!w.params.followText "set-order") (λb=>∃p∈ps,p.2=b) h a (ps.map (·.1))):dO P w a ps h:=by
 obtain⟨o,y,v,t,D,C,E,G,H,F,l,n,_,s,I⟩:=c;refine⟨o,y,v,t,D,C,E,G,H,F,by rw[Ze]at l;exact l,by rw[Ze]at n;exact n,λi e x=>?_,λp d=>?_⟩
 ·obtain⟨b,A,f,g,j,B,p,d,rfl⟩:=s i e x;have:=(m p d).inj j;exact⟨p,d,f,by rw[this];exact B⟩
 ·obtain⟨i,e,b,f,g,j⟩:=I p.1 (ZF.mpr ⟨p,d,rfl⟩);obtain⟨K,A,u,L,J,M,q,r,k⟩:=s i e f;rw[g]at u;cases u;have h1:=(m q r);rw[k]at h1;have:q.1=p.1:=h1.inj j;have:=Pu nd r d this;subst this;exact⟨i,e,f,by rw[g,k]⟩
theorem TN{H:Hp}{a:af}{o:HO}(h:H a=some o):upd H a o=H:=funext λx=>by
 by_cases e:x=a
 ·rw[e,aZ,h]
 ·exact bj e
section
variable{X:Cx}{j8:List (af×ay)}{s:ae}{σ:St}{H:Hp}{E:aa->ae->Prop}
theorem qM6{D b:af}{ps:List (List Key×af)}{f:List Key}{Q:aa->ae->Prop}(un:X.A.units+8<cLine)(I:Inv X j8 σ H s)(c:fi X.prog X.w H D ps)(hb:H b=some (.tup (f.map kV)))(hsz:ps.length<1200)
  (q:∀G g,Inv X j8 σ (upd H D (.ext (dO X.prog X.w D g))) G->fi X.prog X.w (upd H D (.ext (dO X.prog X.w D g))) D g->(∀x,x∈g.map (·.1)<->x=f\/x∈ps.map (·.1))->g.length<=ps.length+1->Q .none G):
  ah (ai X.prog X.w) X.A (call (.builtin "set.add") [.ref D,.ref b]) Q E s:=by
 have S:=xF2 I.aS c;obtain⟨o,w,r,t,ho,k8,hd,_⟩:=id S.ex;have m:=BL I.aS hb;refine Z0 F.slot_set_add (show s.TypeIs (.ref D) "set"from⟨o,ho,k8.1⟩) F.entry_set_add ?_ (F.args_set_add_2 _ _);unfold Builtin.«set.add» Builtin.Frozenset.oneOther;simp only[List.isEmpty_nil,bind_assoc];unfold Builtin.Frozenset.addrOf setAdd;refine Za (Zb ?_)
 try dsimp only
 refine Za (Zb ?_)
 try dsimp only
 refine Za ?_;refine Yo ?_;have u:X.A.in1.units<cLine:=by show X.A.units+1<cLine;lia
 refine Za (wpAny_pyHash_tuple u m.key ?_);have L:∀p∈ps,p.2≠D:=λp d z=>by
  have:=c.tl p d;rw[z,c.at_]at this;cases this
 have nb:b≠D:=λz=>by rw[z,c.at_]at hb;cases hb
 have v:Inv X j8 σ H {s with toks:=s.toks+(f.length+1)}:=I.tok _;refine bI.lO (s:={s with toks:=s.toks+(f.length+1)}) (ld:=!X.w.params.followText "set-order") (B:=λx=>∃p∈(f,b)::ps,p.2=x) ⟨_,ZC,rfl⟩ u (show bI.mP _ _ _ s.heap D (ps.map (·.1))from ?_) m.key m.hb (by rw[Ze];exact hsz) (λjQ=>?_) λU h' A S2=>?_
 ·obtain⟨o,w,r,t,K,T,Y,Z,P,n,y6,y7,y8,O,k⟩:=S;refine⟨o,w,r,t,K,T,Y,Z,P,n,y6,y7,y8,λi e M=>?_,k⟩;obtain⟨N,J,l,j,z3,z4,p,d,V⟩:=O i e M;exact⟨N,J,l,j,z3,z4,p,Zq _ d,V⟩
 ·refine Zb ⟨_,rfl,q _ ps ?_ ?_ (λx=>⟨.inr,λz=>z.elim (λy=>y▸jQ) id⟩) (Wq _)⟩
  ·rw[TN c.at_];exact v
  ·rw[TN c.at_];exact c
 ·have h:∀p∈(f,b)::ps,H p.2=some (.tup (p.1.map kV))/\p.2≠D:=λp d=>by
   rcases Zz.mp d with rfl|d
   ·exact⟨hb,nb⟩
   ·exact⟨c.tl p d,L p d⟩
  have C:(((f,b)::ps).map (·.1)).Nodup:=Z3.mpr ⟨U,c.nd⟩;have W:dO X.prog X.w D ((f,b)::ps) h':=xu0 C (λp d=>by
   obtain⟨l,j⟩:=h p d;have k0:=(BL I.aS l).key;exact bI.dJ k0 j A) S2
  have R:=BM (a:=D) (h':=h') (ob:=.ext (dO X.prog X.w D ((f,b)::ps))) (t':=s.toks+(f.length+1)) v (by rw[c.at_];exact True.intro) A (let ⟨o',_,_,_,e,_⟩:=W;⟨o',e⟩) (TQ W);refine Zb ⟨_,rfl,q _ ((f,b)::ps) R ⟨aZ,C,λp d=>?_⟩ (λx=>by rw[Zw,Zz]) (Zg _)⟩;rw[bj (h p d).2];exact(h p d).1
end
end L2
namespace L2
theorem tE{b:Type}{l:List b}(h:l.length=1):∃a,l=[a]:=List.length_eq_one_iff.mp h
theorem zX{c:Type}{l:List c}(h:l.length=2):∃a b,l=[a,b]:=by
 obtain⟨a,m,rfl⟩:=Xi h;obtain⟨b,rfl⟩:=tE (V6 h);exact⟨a,b,rfl⟩
theorem HF{d:Type}{l:List d}(h:l.length=3):∃a b c,l=[a,b,c]:=by
 obtain⟨a,m,rfl⟩:=Xi h;obtain⟨b,c,rfl⟩:=zX (V6 h);exact⟨a,b,c,rfl⟩
theorem zW{e:Type}{l:List e}(h:l.length=4):∃a b c d,l=[a,b,c,d]:=by
 obtain⟨a,m,rfl⟩:=Xi h;obtain⟨b,c,d,rfl⟩:=HF (V6 h);exact⟨a,b,c,d,rfl⟩
end L2
namespace L2
open PySem PySem.Spec PyProof.Rows
mutual
inductive aX(H:Hp):V->PyData->Prop
 |ck:aX H .ck .none
 |bl (b:Bool):aX H (.bl b) (.bool b)
 |int (i:Int):aX H (.int i) (.int i)
 |str (x:ar):aX H (.str x) (.str x)
 |lst {a:af}{xs:List V}{ds:List PyData}(h:H a=some (.lst xs)) (r:aM H xs ds):aX H (.ref a) (.list ds)
 |tup {a:af}{xs:List V}{ds:List PyData}(h:H a=some (.tup xs)) (r:aM H xs ds):aX H (.ref a) (.tuple ds)
inductive aM(H:Hp):List V->List PyData->Prop
 |nil:aM H [] []
 |cons {x:V}{xs:List V}{d:PyData}{ds:List PyData}(h:aX H x d) (r:aM H xs ds):aM H (x::xs) (d::ds)
end
section
variable{H:Hp}{h:ao}
mutual
theorem aX.reads(ok:dQ P w H h):∀{x:V}{d:PyData}{u:aa},aX H x d->RelV x u->∃as,Reads h u d as
 |_,_,u,.ck,r=>⟨[],by cases(show u=Value.none from r);exact .none⟩
 |_,_,u,.bl b,r=>⟨[],by cases(show u=Value.bool b from r);exact .bool b⟩
 |_,_,u,.int i,r=>⟨[],by obtain⟨t,rfl⟩:=r;exact .int i t⟩
 |_,_,u,.str x,r=>⟨[],by obtain⟨t,rfl⟩:=r;exact .str x t⟩
 |_,_,u,.lst (a:=a) e rs,r=>by
  cases(show u=Value.ref a from r);obtain⟨_,j,n,g,c⟩:=ok a _ e;obtain⟨as,f⟩:=aM.reads ok rs g;exact⟨a::as,.list c rfl rfl (by simpa using f)⟩
 |_,_,u,.tup (a:=a) e rs,r=>by
  cases(show u=Value.ref a from r);obtain⟨_,j,g,o,c,k,n,l⟩:=ok a _ e;obtain⟨as,f⟩:=aM.reads ok rs g;exact⟨as,.tuple c k l (by simpa using f)⟩
theorem aM.reads(ok:dQ P w H h):∀{c:List V}{b:List PyData}{a:List aa},aM H c b->Vals c a->∃as,ReadsAll h a b as
 |_,_,_,.nil,.nil=>⟨[],.nil⟩
 |_,_,_,.cons h1 d,.cons r f=>by
  obtain⟨as,e⟩:=aX.reads ok h1 r;obtain⟨bs,g⟩:=aM.reads ok d f;exact⟨as++bs,.cons e g⟩
end
mutual
theorem aX.same{a:Hp}(s:∀b o,H b=some o->a b=some o):∀{x:V}{d:PyData},aX H x d->aX a x d
 |_,_,.ck=>.ck
 |_,_,.bl b=>.bl b
 |_,_,.int i=>.int i
 |_,_,.str x=>.str x
 |_,_,.lst e r=>.lst (s _ _ e) (aM.same s r)
 |_,_,.tup e r=>.tup (s _ _ e) (aM.same s r)
theorem aM.same{d:Hp}(s:∀b o,H b=some o->d b=some o):∀{c:List V}{a:List PyData},aM H c a->aM d c a
 |_,_,.nil=>.nil
 |_,_,.cons h r=>.cons (aX.same s h) (aM.same s r)
end
theorem aM.ints:∀(a:List Int),aM H (a.map V.int) (a.map PyData.int)
 |[]=>.nil
 |n::a=>.cons (.int n) (aM.ints a)
end
section
variable{X:Cx}
inductive rl(x:V)(y:V)(H:Hp)(Q:VK):Prop
 |mk(d:_)(e:_)(aT:aX H x d)(eR:aX H y e)(dX:d.canLay0=true)(aR:e.canLay0=true)(dB:d.depth<=60)(EJ:Q (.bl (PyData.eqv d e)) H)
theorem Ll{k:Nat}(m:aV k X.A):fj X (compareOp .Eq) rl:=by
 intro n s p H x y v u Q I f l h;obtain⟨d,e,j,a,b,c,dp,q⟩:=h;obtain⟨as,g⟩:=j.reads I.aS f;obtain⟨bs,i⟩:=a.reads I.aS l;have un:=m.units;exact SeqAt.rcAt_reads g i b c (QP dp un) X.prog X.w X.xe _ ⟨.bl _,H,I,rfl,q⟩
inductive rh(x:V)(y:V)(H:Hp)(Q:VK):Prop
 |mk(d:_)(e:_)(aT:aX H x d)(eR:aX H y e)(dX:d.canLay0=true)(aR:e.canLay0=true)(dB:d.depth<=60)(EJ:Q (.bl (!PyData.eqv d e)) H)
theorem Lk{k:Nat}(m:aV k X.A):fj X (compareOp .NotEq) rh:=by
 intro n s p H x y v u Q I f l h;obtain⟨d,e,j,a,b,c,dp,q⟩:=h;obtain⟨as,g⟩:=j.reads I.aS f;obtain⟨bs,i⟩:=a.reads I.aS l;have un:=m.units;exact SeqAt.rcNeAt_reads g i b c (QP dp un) X.prog X.w X.xe _ ⟨.bl _,H,I,rfl,q⟩
end
theorem KA:∀(a b:List Int),PyData.eqvAll (a.map PyData.int) (b.map PyData.int)=decide (a=b)
 |[],[]=>by simp[PyData.eqvAll]
 |x::a,[]=>by simp[PyData.eqvAll]
 |[],y::b=>by simp[PyData.eqvAll]
 |x::a,y::b=>by
  show(PyData.eqv (.int x) (.int y)&&PyData.eqvAll (a.map PyData.int) (b.map PyData.int))=_;rw[KA a b,show PyData.eqv (.int x) (.int y)=(x==y) by simp[PyData.eqv]];rw[Ye];simp
theorem Kz:∀(a:List Int),PyData.canLayAll0 (a.map PyData.int)=true
 |[]=>by simp[PyData.canLayAll0]
 |x::a=>by
  show(PyData.canLay0 (.int x)&&PyData.canLayAll0 (a.map PyData.int))=true;rw[Kz a];simp[PyData.canLay0]
def dT(a:List Int):PyData:=.tuple (a.map PyData.int)
def dL(a:List Int):PyData:=.list (a.map PyData.int)
theorem G6(a:List Int):(dT a).canLay0=true:=by
 exact Kz a
theorem G5(a:List Int):(dL a).canLay0=true:=by
 exact Kz a
theorem xF3(a b:List Int):PyData.eqv (dT a) (dT b)=decide (a=b):=by
 exact KA a b
theorem Lj(a b:List Int):PyData.eqv (dL a) (dL b)=decide (a=b):=by
 exact KA a b
end L2
namespace nE
open PySem PySem.Spec
theorem qX4{it t:af}{i:Nat}{items:Array aa}{x:aa}{Q:aa->ae->Prop}(st:s.heap.IsTupleIter it t i)(d:s.heap.IsTuple t items)(f:items[i]?=some x)
  (q:∀c,c.IsTupleIter it t (i+1)->Heap.SameBut it s.heap c->Q x {s with heap:=c}):ah (ai prog w) A (Builtin.SmallTypes.nextOf (.ref it)) Q E s:=by
 obtain⟨o,b,g,a⟩:=id st;obtain⟨j,h,_,k,e⟩:=d;unfold Builtin.SmallTypes.nextOf;refine Za (Z7 (name:=Str.ofString "__next__") st.typeIs Xx (Z0 Xx st.typeIs F.entry_tuple_iterator_next ?_ (F.args_tuple_iterator_next_1 _)));show ah _ _ (field (.ref it) 0 >>= _) _ _ s;refine Za (YE b a (x:=.ref t) rfl ?_);show ah _ _ (if(Value.ref t==Value.none)=true then _ else _) _ _ s;rw[Zj (show ¬((Value.ref t==Value.none)=true)from ZA)];show ah _ _ (field (.ref it) 1 >>= _) _ _ s;refine Za (YE b a (x:=.int i 0) rfl ?_);show ah _ _ (seqItems? (.ref t) >>= _) _ _ s;refine Za (Wr h e ?_);simp only[ZI,f];refine Za (YZ b a 'c' (Zb ⟨x,rfl,Zb (q _ ⟨_,Z8 _ b (YW (Z1 a _)),(Wl ..).trans g,?_⟩ (Yt ..))⟩));rw[Z1 a];simp[rawInt]
theorem q54{it t:af}{i:Nat}{items:Array aa}{Q:aa->ae->Prop}(f:A.handled=none)(st:s.heap.IsTupleIter it t i)(g:s.heap.IsTuple t items)(j:items[i]?=none)
  (q:∀b e,Heap.ExtBut it s.heap b->(∃o,b.get? e=some o/\o.cls=.type "StopIteration")->E (.ref e) {s with heap:=b}):ah (ai prog w) A (Builtin.SmallTypes.nextOf (.ref it)) Q E s:=by
 obtain⟨o,d,n,c⟩:=id st;obtain⟨l,k,_,p,h⟩:=g;unfold Builtin.SmallTypes.nextOf;refine Za (Z7 (name:=Str.ofString "__next__") st.typeIs Xx (Z0 Xx st.typeIs F.entry_tuple_iterator_next ?_ (F.args_tuple_iterator_next_1 _)));show ah _ _ (field (.ref it) 0 >>= _) _ _ s;refine Za (YE d c (x:=.ref t) rfl ?_);show ah _ _ (if(Value.ref t==Value.none)=true then _ else _) _ _ s;rw[Zj (show ¬((Value.ref t==Value.none)=true)from ZA)];show ah _ _ (field (.ref it) 1 >>= _) _ _ s;refine Za (YE d c (x:=.int i 0) rfl ?_);show ah _ _ (seqItems? (.ref t) >>= _) _ _ s;refine Za (Wr k h ?_);simp only[ZI,j];refine Za (Xn (Za (YZ d c 'c' ?_)));show ah _ _ (newExc (.type "StopIteration") [] >>= _) _ _ _;refine Za ?_;simp only[newExc,newTuple];refine Za (ZP ?_ (by size_fits));refine Za (m:=firstArgMember _ _) (VS (a:=Value.none) (by first|rfl|(simp only[firstArgMember];rfl)) ?_);refine ZP ?_ (by size_fits);simp only[raiseNew];refine Za (wpAny_handled ?_)
 first|rw[show A.in1.handled=none from f]|rw[f]
 refine Za (Zb (wpAny_throw ?_));exact q _ _ (((Yt ..).extBut.push _).push _) ⟨_,Zi _ rfl,rfl⟩
theorem q55{e it:af}{i:Nat}{x a:aa}{St:ao->Prop}{Q:aa->ae->Prop}(F:IsEnum s.heap e it i a)(Y:e≠it)
  (nx:∀U:aa->ae->Prop,(∀k,Heap.SameBut it s.heap k->St k->U x {s with heap:=k})->ah (ai prog w) A (Builtin.SmallTypes.nextOf (.ref it)) U E s)
  (q:∀h1 k,Heap.SameBut it s.heap h1->St h1->IsEnumOut k e it ((i:Int)+1) x s.heap.objs.size->k.get? s.heap.objs.size=some {cls:=.type "tuple",data:=.seq #[.int i s.toks,x]} ->
   (∀b o,b≠e->h1.get? b=some o->k.get? b=some o)->Q (.ref s.heap.objs.size) {s with heap:=k,toks:=s.toks+1}):
  ah (ai prog w) A (Builtin.«enumerate.__next__» ⟨[.ref e],[]⟩) (λG s'=>∃v,G=.done (.ret v)/\Q v s') E s:=by
 obtain⟨l,g,d,c,j⟩:=s;show ah _ _ (field (.ref e) 2 >>= _) _ _ _;refine Za (YE F rfl (x:=.ref it) rfl ?_);refine Za (nx _ λf m Z=>?_)
 replace m:Heap.SameBut it l f:=m
 have J:IsEnum f e it i a:=(m.2 e Y).trans F;show ah _ _ (field (.ref e) 3 >>= _) _ _ ⟨f,g,d,c,j⟩;refine Za (YE J rfl (x:=rawInt i) rfl ?_);show ah _ _ (field (.ref e) 4 >>= _) _ _ ⟨f,g,d,c,j⟩;refine Za (YE J rfl (x:=.none) rfl ?_);show ah _ _ (mkInt i >>= _) _ _ ⟨f,g,d,c,j⟩;refine Za (wpAny_mkInt ?_);show ah _ _ (setField (.ref e) 3 (rawInt ((i:Int)+1)) >>= _) _ _ ⟨f,g,d,c+1,j⟩;refine Za (XY J 'c' λB P y=>?_)
 replace y:Heap.SameBut e f B:=y
 replace P:IsEnum B e it ((i:Int)+1) a:=P
 show ah _ _ (setField (.ref e) 4 .none >>= _) _ _ ⟨B,g,d,c+1,j⟩;refine Za (XY P 'c' λn D C=>?_)
 replace C:Heap.SameBut e B n:=C
 replace D:IsEnum n e it ((i:Int)+1) a:=D
 show ah _ _ (newTuple [.int i c,x] >>= _) _ _ ⟨n,g,d,c+1,j⟩;refine Za (wpAny_newTuple ?_);have T:n.objs.size=l.objs.size:=by rw[C.1,y.1,m.1]
 have K:e<l.objs.size:=Zo F;obtain⟨h,t⟩:∃h,n.push {cls:=.type "tuple",data:=.seq #[.int i c,x]}=h:=⟨_,rfl⟩;have S:IsEnum h e it ((i:Int)+1) a:=by rw[<- t];exact Zd _ D
 have X:h.get? l.objs.size=some {cls:=.type "tuple",data:=.seq #[.int i c,x]}:=by rw[<- t,<- T];exact Zi _ rfl
 have W:∀b o,b≠e->f.get? b=some o->h.get? b=some o:=λb o hb p=>by
  rw[<- t];exact Zd _ (C.extBut b o hb (y.extBut b o hb p))
 rw[t];show ah _ _ (Builtin.SmallTypes.ownedTupleIsFree (.ref e) >>= _) _ _ ⟨h,g,d,c+1,j⟩;rw[T];refine Za ?_;unfold Builtin.SmallTypes.ownedTupleIsFree;refine Za (YE S rfl (x:=.none) rfl (Zb ?_));simp only[XM];refine Za (Xn ?_);refine Za (YE S rfl (x:=a) rfl ?_);refine Za (XY S 'c' λu R M=>?_)
 replace M:Heap.SameBut e h u:=M
 replace R:IsEnum u e it ((i:Int)+1) x:=R
 show ah _ _ (Builtin.SmallTypes.ownedTupleHandOut (.ref e) (.ref l.objs.size) >>= _) _ _ ⟨u,g,d,c+1,j⟩;refine Za ?_;unfold Builtin.SmallTypes.ownedTupleHandOut;refine Za (XY R 'c' λO I N=>?_)
 replace N:Heap.SameBut e u O:=N
 replace I:IsEnumOut O e it ((i:Int)+1) x l.objs.size:=I
 refine XY I 'c' λr H L=>?_
 replace L:Heap.SameBut e O r:=L
 replace H:IsEnumOut r e it ((i:Int)+1) x l.objs.size:=H
 have V:∀b o,b≠e->h.get? b=some o->r.get? b=some o:=λb o hb p=>L.extBut b o hb (N.extBut b o hb (M.extBut b o hb p));exact Za (wpAny_letGo (Zb ⟨_,rfl,q f r m Z H (V _ _ (XU K) X) λb o hb p=>V b o hb (W b o hb p)⟩))
theorem nV{e it t:af}{i:Nat}{items:Array aa}{x c:aa}{Q:Option aa->ae->Prop}(g:IsEnum s.heap e it i c)(k:e≠it)(st:s.heap.IsTupleIter it t i)(p:s.heap.IsTuple t items)(u:items[i]?=some x)
  (q:∀h1 a,Heap.SameBut it s.heap h1->IsEnumOut a e it ((i:Int)+1) x s.heap.objs.size->a.IsTupleIter it t (i+1)->a.get? s.heap.objs.size=some {cls:=.type "tuple",data:=.seq #[.int i s.toks,x]} ->
   (∀b o,b≠e->h1.get? b=some o->a.get? b=some o)->Q (some (.ref s.heap.objs.size)) {s with heap:=a,toks:=s.toks+1}):ah (ai prog w) A (pyNext (.ref e)) Q E s:=by
 have j:s.TypeIs (.ref e) "enumerate":=⟨_,g,rfl⟩;unfold pyNext;refine Za (XE (Z7 (name:=Str.ofString "__next__") j Wc (Z0 Wc j F.entry_enumerate_next
  (q55 (St:=λh=>h.IsTupleIter it t (i+1)) g k (λC y=>qX4 st p u λa B d=>y a d B) λh1 a d r m f l=>Zb (q h1 a d m ?_ f l)) (F.args_enumerate_next_1 _))))
 obtain⟨o,v,n⟩:=r;exact⟨o,l it o (YK k) v,n⟩
theorem next_end{e it t:af}{i:Nat}{items:Array aa}{a:aa}{Q:Option aa->ae->Prop}(k:A.handled=none)(d:IsEnum s.heap e it i a)(st:s.heap.IsTupleIter it t i)(h:s.heap.IsTuple t items)(l:items[i]?=none)
  (q:∀c,Heap.ExtBut it s.heap c->Q none {s with heap:=c}):ah (ai prog w) A (pyNext (.ref e)) Q E s:=by
 have f:s.TypeIs (.ref e) "enumerate":=⟨_,d,rfl⟩;unfold pyNext;refine Za (XE (Z7 (name:=Str.ofString "__next__") f Wc (Z0 Wc f F.entry_enumerate_next ?_ (F.args_enumerate_next_1 _))));show ah _ _ (field (.ref e) 2 >>= _) _ _ _;refine Za (YE d rfl (x:=.ref it) rfl ?_);refine Za (q54 k st h l λc x m ⟨o,g,j⟩=>?_);exact Za (XR (T:= "StopIteration") (b:=true) ⟨o,g,j⟩ isSubtype_stop (Zb (q _ m)))
theorem q56(l:af)(items:Array aa)(n:Nat)(f:Option af)(k:Array (Option aa)):
  Meets (Builtin.«enumerate.__new__» ⟨[.type "enumerate",.ref l],[]⟩) (λ_ R s=>s.heap.get? l=some {cls:=.type "tuple",dict:=f,data:=.seq items n,slots:=k} /\
   R (.ok (.ret (.ref (s.heap.push {cls:=.type "tuple_iterator",data:=.fields #[.ref l,.int 0 0]}).objs.size)))
    {s with heap:=(s.heap.push {cls:=.type "tuple_iterator",data:=.fields #[.ref l,.int 0 0]}).push {cls:=.type "enumerate",data:=.fields #[.none,.bool false,.ref s.heap.objs.size,rawInt 0,.none,.none]}}):=
 .of_wp λprog w A R s h=>by
  obtain⟨e,g,d,i,j⟩:=s;obtain⟨a,h⟩:=h;have m:=sub_enumerate;have b:Heap.IsTuple (Shared.heap ⟨e,g,d,i,j⟩) l items:=⟨_,a,rfl,n,rfl⟩
  wp_walk using WC a
  refine wpAny_stack_any λp=>Zb ?_;split
  ·rename_i c _ _ _ _ _;cases(c==Value.type "enumerate")
   all_goals
    wp_walk using WC a,XV b
    exact⟨_,rfl,h⟩
  ·wp_walk using WC a,XV b
   exact⟨_,rfl,h⟩
theorem q9{l:af}{items:Array aa}{Q:aa->ae->Prop}(m:s.heap.IsTuple l items)
  (q:∀a,IsEnum a (s.heap.objs.size+1) s.heap.objs.size 0 .none->a.IsTupleIter s.heap.objs.size l 0->(∀b o,s.heap.get? b=some o->a.get? b=some o)->Q (.ref (s.heap.objs.size+1)) {s with heap:=a}):
  ah (ai prog w) A (call (.type "enumerate") [.ref l]) Q E s:=by
 obtain⟨⟨c,i,k,p⟩,j,d,n,g⟩:=m
 replace d:c=.type "tuple":=d
 replace g:k=.seq items n:=g
 subst d g;refine callType_new F.called_enumerate 'b' (F.typeCall_enumerate_1 _) (F.newCall_enumerate_1 _) (λf=>F.args_object_init_2 f _) F.entry_enumerate_new (q56 l items n i p) ⟨j,?_⟩;have h:(s.heap.push {cls:=.type "tuple_iterator",data:=.fields #[.ref l,.int 0 0]}).objs.size=s.heap.objs.size+1:=Z4 ..;show _/\_;rw[h];have e:=Zi (s.heap.push {cls:=.type "tuple_iterator",data:=.fields #[.ref l,.int 0 0]}) (o:={cls:=.type "enumerate",data:=.fields #[.none,.bool false,.ref s.heap.objs.size,rawInt 0,.none,.none]}) rfl;rw[h]at e;exact⟨⟨_,e,rfl⟩,q _ e ⟨_,Zd _ (Zi _ rfl),rfl,rfl⟩ λb o x=>Zd _ (Zd _ x)⟩
end nE
namespace L2
open PySem PySem.Spec PyProof.Rows
def Az(K:PySem.W.Frag)(a:af):It:=
 ⟨λi H=>∃b x,bf K H a b/\b[i]?=some x,λi H y c=>∃p x,H p=none/\(∀b,bf K H a b->b[i]?=some x)/\c=upd H p (.tup [.int i,x])/\y=.ref p,λi H=>∃b,bf K H a b/\b.length<=i⟩
theorem TM{h:ao}{o a:ay}{b:af}(e:(h.push o).get? b=some a)(c:b<h.objs.size):h.get? b=some a:=by
 unfold Heap.get? Heap.push at *;simp only[Vq]at e;rw[Zj (Zu c)]at e;exact e
theorem qX5{P:ag}{w:aj}{K:PySem.W.Frag}{t:List au}{x1:Nat}{cH:az}(a e it:af)(jK:e≠it):
  Turn P w K (.Tuple t x1 cH) (Az K a) [e,it] e (λi h=>(∃c,IsEnum h e it i c)/\h.IsTupleIter it a i) where
 mem:=by simp
 obj:=λi h f b hb=>by
  rcases Zz.mp hb with rfl|hb
  ·obtain⟨⟨c,z⟩,_⟩:=f;exact⟨_,z,λv q=>by
    have n:Data.fields _=Data.cell v:=q;cases n⟩
  ·have:b=it:=by simpa using hb
   subst this;obtain⟨_,o,z,_,d⟩:=f;exact⟨o,z,λv q=>by rw[d]at q;cases q⟩
 keep:=λi h h' f k=>by
  obtain⟨⟨c,z⟩,l⟩:=f;exact⟨⟨c,k e 'c' _ z⟩,l.at λo q=>k it 'c' o q⟩
 item:=by
  intro X L U M hc i j8 s σ H E I D f G;subst L U M;obtain⟨⟨c,j⟩,l⟩:=f;obtain⟨xs,x,A,C⟩:=G;obtain⟨O,W,p,hz⟩:=I.tuple A;obtain⟨u,hu,ru⟩:=W.get C;obtain⟨e0,Z,e2,e3,e4,Y⟩:=D e 'c';obtain⟨J,V,f2,F,R,T⟩:=D it 'c';refine nE.nV j jK l (show s.heap.IsTuple a O.toArray from p) (x:=u) (by simpa using hu) λh1 h' sb ho mh ht kp=>?_;refine⟨_,rfl,wpAny_letOwnedTupleGo_enum ho λh2 vV Rl=>?_⟩;have N:e<s.heap.objs.size:=Zo j;have S:it<s.heap.objs.size:=by obtain⟨o,z,_⟩:=l;exact Zo z
  have fresh:H s.heap.objs.size=none:=I.aS.fresh (Zg _);have B:h1.objs.size=s.heap.objs.size:=sb.1;have J0:Inv X j8 σ (upd H s.heap.objs.size (.tup [.int i,x])) {s with heap:=s.heap.push {cls:=.type "tuple",data:=.seq #[.int i s.toks,u]},toks:=s.toks+1}:=
   I.laid (λb o q=>Zd _ q) (Zg _) ⟨by show 2<=sizeLine;decide,[.int i s.toks,u],.cons ⟨_,rfl⟩ (.cons ru .nil),_,Zi _ rfl,rfl,⟨_,rfl⟩,rfl⟩
  have m:(upd H s.heap.objs.size (.tup [.int i,x])) it=none:=by rw[bj (Zu S)];exact J
  have g:(upd H s.heap.objs.size (.tup [.int i,x])) e=none:=by rw[bj (Zu N)];exact e0
  have J1:=J0.turned (it:=it) (h':=h1.push {cls:=.type "tuple",data:=.seq #[.int i s.toks,u]}) (t':=s.toks+1) (λb o hb q=>by
    have q:(s.heap.push {cls:=.type "tuple",data:=.seq #[.int i s.toks,u]}).get? b=some o:=q;by_cases y:b<s.heap.objs.size
    ·have n:s.heap.get? b=some o:=TM q y;exact Zd _ ((sb.2 b hb).trans n)
    ·have Q:b<s.heap.objs.size+1:=by have:=Zo q;rw[Z4]at this;exact this
     have r:b=s.heap.objs.size:=V7 (Wj Q) (VY y);subst r;rw[Zi _ rfl]at q;cases q;have:=Zi h1 (o:={cls:=.type "tuple",data:=.seq #[.int i s.toks,u]}) rfl;rw[B]at this;exact this) m V F R T
  have J2:=J1.turned (it:=e) (h':=h') (t':=s.toks+1) (λb o hb q=>by
    have q:(h1.push {cls:=.type "tuple",data:=.seq #[.int i s.toks,u]}).get? b=some o:=q;by_cases y:b<s.heap.objs.size
    ·have n:h1.get? b=some o:=TM q (by rw[B];exact y);exact kp b o hb n
    ·have Q:b<s.heap.objs.size+1:=by have:=Zo q;rw[Z4,B]at this;exact this
     have r:b=s.heap.objs.size:=V7 (Wj Q) (VY y);subst r;have:=Zi h1 (o:={cls:=.type "tuple",data:=.seq #[.int i s.toks,u]}) rfl;rw[B]at this;rw[this]at q;cases q;exact ht) g Z e3 e4 Y
  have J3:=J2.turned (it:=e) (h':=h2) (t':=s.toks+1) (λb o hb q=>(Rl.2 b hb).trans q) g Z e3 e4 Y;refine⟨.ref s.heap.objs.size,_,J3,rfl,⟨_,x,fresh,λys hy=>by rw[I.iY hy A];exact C,rfl,rfl⟩,⟨⟨u,by
   have:(((i+1:Nat)):Int)=(i:Int)+1:=by lia
   rw[this];exact vV⟩,mh.at λo q=>(Rl.2 it (YK jK)).trans q⟩,λb hb=>?_⟩
  rcases Zz.mp hb with rfl|hb
  ·exact g
  ·have:b=it:=by simpa using hb
   subst this;exact m
 done:=by
  intro X L U M hc i j8 s σ H E I D f G;subst L U M;obtain⟨⟨c,j⟩,l⟩:=f;obtain⟨xs,A,C⟩:=G;obtain⟨O,W,p,hz⟩:=I.tuple A;obtain⟨J,V,f2,F,R,T⟩:=D it 'c';have hl:=W.length;exact nE.next_end (I.ok.hd hc) j l (show s.heap.IsTuple a O.toArray from p) (by simp;exact Aa hl C) λh' r=>⟨rfl,I.turned (t':=s.toks) (λb o hb e=>r b o hb e) J V F R T⟩
 self:=λ_ _ _ _ _ f h=>by
  obtain⟨⟨c,j⟩,_⟩:=f;exact wpAny_pyIter_enum j h
section
variable{X:Cx}{elts:List au}{x1:Nat}{cH:az}
def xF4(K:PySem.W.Frag)(ta:TA):TI:=λd H R=>ta d H λc b=>∃a,c=[.ref a]/\(∃e,bf K b a e)/\R (Az K a) b
theorem Sn{e:au}{ta:TA}{p f:az}(m:Gl X "enumerate")(t:X.mg "enumerate"=none)(B:PA X [e] ta)(hs:starEach [e] X.env=[(false,eval e X.env)]:=by rfl):PI X (.Tuple elts x1 cH) (.Call (.Name "enumerate" p) [e] [] f) (xF4 X.K ta):=by
 intro j s k H R I h;refine Call_ (zT I m t PyProof.Rows.boot_enumerate (Xr (bh (B f j s k H _ I h) λE c ⟨D,i,d,r,n⟩=>?_) hs rfl));obtain⟨a,rfl,⟨G,x⟩,q⟩:=n;obtain⟨u,rfl,l⟩:=iR r;cases l;obtain⟨v,F,pt,C⟩:=d.tuple x;refine nE.q9 (show c.heap.IsTuple a v.toArray from pt) λw g A y=>?_;refine wpAny_pyIter_enum g ?_;have J:Inv X j k i {c with heap:=w}:=d.kept (t':=c.toks) y;refine⟨c.heap.objs.size+1,[c.heap.objs.size+1,c.heap.objs.size],_,_,i,rfl,J,qX5 a _ _ (Nat.succ_ne_self _),⟨⟨.none,g⟩,A⟩,λb hb=>?_,q⟩;rcases Zz.mp hb with rfl|hb
 ·exact d.jo (Wq _) (d.aS.fresh (Wq _))
 ·have:b=c.heap.objs.size:=by simpa using hb
  subst this;exact d.jo (Zg _) (d.aS.fresh (Zg _))
end
section
variable{X:Cx}
def cG(X:Cx)(scope:ax)(b:List (ar×af))(C:af)(a:List ar)(fp:List af)(aC:ae)(aD:Hp):Cx:=
 {X with N:=a++X.N,aC:=aC,aD:=aD,env:=compEnvC scope b C X.env,outer:=X.stack,stack:=X.stack,ex:=fp,fn:=λ_=>false,pn:=[],xe:=λ_ _=>False}
def nL(n:Nat)(q:TI)(g:TG)(r:TT)(te:TE):TE:=λp H Q=>q p H λJ l=>∀D,l D=none->∃W:Nat->Nat->List V->Hp->Prop,(∃m,W 0 m [] (upd l D (.lst []))) /\
 ∀i m a c,W i m a c->c D=some (.lst a)/\a.length<sizeLine/\((J.stop i c/\Q (.ref D) c)\/(J.go i c/\∀y k,J.iK i c y k->∀e:St,e.length=n ->
  g y (e++p) k λj s=>r j s λb f=>if b=true then te j f λv h=>h D=some (.lst a)/\∃d,d<m/\W (i+1) d (a++[v]) (upd h D (.lst (a++[v])))else ∃d,d<m/\W (i+1) d a f))
theorem q58{prog:ag}{w:aj}{A:aq}{R:Result->ae->Prop}{s:ae}{b a iter:au}{e:List au}{scope:ax}{d:az}{it acc:aa}{env:Env}(T:Sem Bool)
  (y:compTurn (.ListComp b [⟨a,iter,e,0⟩] scope d) 0 it acc env=(standAt iter.pos >>= λ_=>pyNext it >>= λr=>match r with
   |none=>pure (.done .next)
   |some v=>letOwnedTupleGo a it v >>= λ_=>assign a env v >>= λ_=>T >>= λok=>(if ok=true then(eval b env >>= λx=>call (.builtin "list.append") [acc,x] >>= λ_=>pure ())else pure ()) >>= λ_=>
     again (.compLoop (.ListComp b [⟨a,iter,e,0⟩] scope d) 0 it acc env)))
  (I:Nat->ae->Prop)
  (f:∀n s,I n s->ah (ai prog w) A (pyNext it) (λr i=>match r with
   |none=>R (.ok .next) i
   |some v=>ah (ai prog w) A (letOwnedTupleGo a it v) (λ_ l=>ah (ai prog w) A (assign a env v) (λ_ t=>ah (ai prog w) A T (λok j=>
     if ok=true then ah (ai prog w) A (eval b env) (λx p=>ah (ai prog w) A (call (.builtin "list.append") [acc,x]) (λ_ q=>∃m,m<n/\I m q) (λ_ _=>False) p) (λ_ _=>False) j
     else ∃m,m<n/\I m j) (λ_ _=>False) t) (λ_ _=>False) l) (λ_ _=>False) i) (λ_ _=>False) s)
  (n:Nat) (h:I n s):codeAny (ai prog w) A (.compLoop (.ListComp b [⟨a,iter,e,0⟩] scope d) 0 it acc env) R s:=by
 refine codeAny_loop rfl I (λn s E=>?_) n h;show ah _ A ((compTurn (.ListComp b [⟨a,iter,e,0⟩] scope d) 0 it acc env).onRaise (λx=>do noteFrame x env;theTreesLotGoes x)) _ _ s;refine wpAny_noted ?_;rw[y];refine Za (WB (Za (Z9 (f n s E) (λr i k=>?_) λ_ _ c=>c.elim)));cases r with
 |none=>exact Zb k
 |some v=>
  refine Za (Z9 k (λ_ l B=>?_) λ_ _ c=>c.elim);refine Za (Z9 B (λ_ t D=>Za (Z9 D (λok j g=>?_) λ_ _ c=>c.elim)) λ_ _ c=>c.elim);cases ok with
  |true=>
   rw[Zn rfl]at g;simp only[XM];exact Za (Za (Z9 g (λx p u=>Za (Z9 u (λ_ q C=>Zb (Zb ⟨rfl,C⟩)) λ_ _ c=>c.elim)) λ_ _ c=>c.elim))
  |false=>
   rw[Zj ZA]at g;simp only[Zy,Z6];exact Za (Zb (Zb ⟨rfl,g⟩))
theorem zq(b a iter:au)(scope:ax)(c:az)(it acc:aa)(env:Env):compTurn (.ListComp b [⟨a,iter,[],0⟩] scope c) 0 it acc env=(standAt iter.pos >>= λ_=>pyNext it >>= λr=>match r with
   |none=>pure (.done .next)
   |some v=>letOwnedTupleGo a it v >>= λ_=>assign a env v >>= λ_=>(pure true:Sem Bool) >>= λok=>(if ok=true then(eval b env >>= λx=>call (.builtin "list.append") [acc,x] >>= λ_=>pure ())else pure ()) >>= λ_=>
     again (.compLoop (.ListComp b [⟨a,iter,[],0⟩] scope c) 0 it acc env)):=by
 rw[compTurn_list1];congr 1
theorem Lc(b a iter c:au)(scope:ax)(d:az)(it acc:aa)(env:Env):compTurn (.ListComp b [⟨a,iter,[c],0⟩] scope d) 0 it acc env=(standAt iter.pos >>= λ_=>pyNext it >>= λr=>match r with
   |none=>pure (.done .next)
   |some v=>letOwnedTupleGo a it v >>= λ_=>assign a env v >>= λ_=>isTrue c env (eval c env) >>= λok=>(if ok=true then(eval b env >>= λx=>call (.builtin "list.append") [acc,x] >>= λ_=>pure ())else pure ()) >>= λ_=>
     again (.compLoop (.ListComp b [⟨a,iter,[c],0⟩] scope d) 0 it acc env)):=by
 rw[compTurn_list];refine XZ λ_=>XZ λr=>?_;cases r with
 |none=>rfl
 |some v=>
  refine XZ λ_=>XZ λ_=>?_;simp only[WG,VC,XM,bind_assoc,Vx];refine XZ λok=>?_;cases ok<;>simp
theorem Rq{M:List (af×ay)}{σ:St}{H:Hp}{s:ae}{h':ao}{tk:Nat}{scope:ax}{n:List (ar×af)}{C:af}{nn:List ar}{fp:List af}{m:ar->Option aa}
  (I:Inv X M σ H s) (E:C=s.heap.objs.size) (keep:∀b o,s.heap.get? b=some o->h'.get? b=some o) (Q:h'.Ns C m) (x:∀b∈fp,gb X M H b) (S:∀b∈fp,b<s.heap.objs.size)
  (R:scope.kind=.function) (r:∀y∈scope.names,y.2≠.cell) (P:∀y∈X.N,scope.names.lookup y≠some .local)
  (k:∀y c,n.lookup y=some c->X.env.cells.lookup y=some c) (N:∀p∈scope.names,p.2=.free->(n.lookup p.1).isSome=true)
  (hfr:∀p∈scope.names,p.2=.free->rg X.env.scope p.1/\X.env.scope.names.lookup p.1≠some .local):
  Inv (cG X scope n C nn fp s H) [] ((nn.map λ_=>none)++σ) H {s with heap:=h',toks:=tk}:=by
 have f:∀y c,n.lookup y=some c->∃v,s.heap.IsCell c v:=λy c e=>I.cell y c (k y c e);have Z:∀y c,n.lookup y=some c->c<s.heap.objs.size:=λy c e=>by
  obtain⟨v,q⟩:=f y c e;exact q.lt
 have J:∀c v,s.heap.IsCell c v->h'.IsCell c v:=λc v ⟨o,e,d⟩=>⟨o,keep c o e,d⟩;have L:∀b∈dC X.stack,∃o,s.heap.get? b=some o:=λb hb=>by
  rcases Zz.mp (I.eV b hb)with e|hb
  ·obtain⟨_,⟨o,_,_,B,_⟩,_⟩:=I.loc;exact⟨o,by rw[e];exact B⟩
  ·obtain⟨_,o,B,_⟩:=I.dW.mem hb;exact⟨o,B⟩
 refine⟨⟨I.ok.mod,R,I.ok.glob,I.ok.blt,WU E.symm,λy z c h1 h2=>I.ok.inj y z c (k y c h1) (k z c h2),λy g=>?_,λy c h _=>Bool.noConfusion h,I.ok.hd,I.ok.frames,.inl rfl,λb hb=>⟨?_,λy c e z=>?_⟩,I.bs,
  ZD I.ok.oh I.sz,λb o e hb=>?_,λb hb U=>?_,I.stack,I.jb⟩,rfl,I.bare,Un.kept keep,⟨m,Q,λi y v h1 h2 a=>?_⟩,λy c e=>?_,?_,λy c e=>?_,λp l=>absurd l (by simp[cG]),I.aS.kept keep,?_⟩
 ·
  have g:(relabel scope X.env).names.lookup y=some .cell\/(relabel scope X.env).names.lookup y=some .free:=g;obtain⟨p,l,w,t⟩:∃p∈scope.names,p.1=y/\p.2=.free:=by
   rcases g with g|g
   ·exact B_ g r (.inl rfl)
   ·exact B_ g r (.inr rfl)
  obtain⟨c,e⟩:=XD.mp (N p l t);exact⟨c,by rw[<- w];exact e⟩
 ·show b≠C;rw[E];exact Zu (S b hb)
 ·exact(x b hb).2.2.2.2.1 y c (k y c e) z
 ·rcases(x b hb).2.2.2.1 with z|z
  ·exact I.ok.ji b o e z
  ·exact absurd (ZQ (Zo (I.ok.bs b o e).1) z) (Yn _)
 ·rcases Zz.mp (I.eV b U)with z|z
  ·exact(x b hb).2.1 z
  ·exact(x b hb).2.2.1 z
 ·
  by_cases T:i<nn.length
  ·rw[Zp (by simpa using T)]at h2;simp at h2
  ·obtain⟨j,rfl⟩:∃j,i=nn.length+j:=⟨i-nn.length,by lia⟩;have h1:X.N[j]?=some y:=by
    have h1:(nn++X.N)[nn.length+j]?=some y:=h1;rw[Zx (Xb _ _),Nat.add_sub_cancel_left]at h1;exact h1
   have h2:σ[j]?=some (some v):=by
    rw[Zx 'c']at h2;simpa using h2
   have a:(relabel scope X.env).names.lookup y=some .local\/(relabel scope X.env).names.lookup y=some .cell\/(relabel scope X.env).names.lookup y=some .free:=a;rcases a with a|a
   ·exact absurd (Rx a) (P y (Zm h1))
   ·obtain⟨p,l,w,t⟩:∃p∈scope.names,p.1=y/\p.2=.free:=by
     rcases a with a|a
     ·exact B_ a r (.inl rfl)
     ·exact B_ a r (.inr rfl)
    obtain⟨K,G⟩:=hfr p l t;rw[w]at K G;obtain⟨m0,_,F⟩:=I.loc;obtain⟨u,O,D⟩:=F j y v h1 h2 K;rcases D with⟨D,_⟩|⟨_,c,V,Y⟩
    ·exact absurd D G
    ·obtain⟨W,A⟩:=XD.mp (N p l t);rw[w]at A;have:=k y W A;rw[V]at this;cases this;refine⟨u,O,.inr ⟨a,c,A,J c _ Y⟩⟩
 ·obtain⟨v,q⟩:=f y c e;exact⟨v,J c v q⟩
 ·show H C=none;exact I.aS.fresh (WU E.symm)
 ·exact I.cX y c (k y c e)
 ·show((nn.map λ_=>none)++σ).length=(nn++X.N).length;simp[I.len]
theorem S5{h:List (af×ay)}{σ σ':St}{H a:Hp}{s s':ae}{h':ao}{scope:ax}{m:List (ar×af)}{C:af}{nn:List ar}{fp:List af}
  (I:Inv X h σ H s) (w:C=s.heap.objs.size) (r:∀b∈fp,gb X h H b) (J:Inv (cG X scope m C nn fp s H) [] σ' a s') (f:Heap.SameBut C s'.heap h'):Inv X h σ a {s' with heap:=h'}:=by
 have g:∀b o,s.heap.get? b=some o->b≠C:=λb o e=>by rw[w];exact Zu (Zo e)
 have B:Un (dC X.stack) fp H a s.heap s'.heap:=J.base;have U:Un (dC X.stack) fp H a s.heap h':=
  ⟨λb o e n hb d=>(f.2 b (g b o e)).trans (B.keep b o e n hb d),λb o e n hb d=>by
   obtain⟨t,q⟩:=B.slot b o e n hb d;exact⟨t,(f.2 b (g b o e)).trans q⟩,B.free,λb o e d=>by
   obtain⟨j,q⟩:=B.there b o e d;exact⟨j,(f.2 b (g b o e)).trans q⟩,B.cg,B.gF,B.gL⟩
 have i:a C=none:=J.free;have K:dQ X.prog X.w a h':=λb o e=>(J.aS b o e).dv (λc u v q=>(f.2 c (by
  rintro rfl;rcases v with z|z
  ·rw[z,e]at i;cases i
  ·rw[i]at z;cases z)).trans q) (λ_ q=>q) λ_ _ q=>q
 refine I.vh (s':={s' with heap:=h'}) (ch:=fp) J.os U K J.bare λb hb=>?_;obtain⟨_,h2,_,l,k,p⟩:=r b hb;exact⟨l,h2,k,p⟩
theorem Ts{use:Option (aa->Sem Unit)}{QQ:aa->ae->Prop}{Q:VK}{w:List (af×ay)}{s:ae}{σ:St}{H:Hp}{nn:List ar}{E:au}{B:List au}{A:az}{f iter:au}{scope:ax}{wi:TI}{g:TG}{tt:TT}{te:TE}(T:Env->Sem Bool)(hc:X.calm=true)(hi:PI X E iter wi)
  (jT:∀it S env,compTurn (.ListComp f [⟨E,iter,B,0⟩] scope A) 0 it S env=(standAt iter.pos >>= λ_=>pyNext it >>= λr=>match r with
   |none=>pure (.done .next)
   |some v=>letOwnedTupleGo E it v >>= λ_=>assign E env v >>= λ_=>T env >>= λok=>(if ok=true then(eval f env >>= λx=>call (.builtin "list.append") [S,x] >>= λ_=>pure ())else pure ()) >>= λ_=>
     again (.compLoop (.ListComp f [⟨E,iter,B,0⟩] scope A) 0 it S env)))
  (n9:∀t C d aC aD,PG (cG X scope t C nn d aC aD) E g)
  (jU:∀y (l σ:St) H R,l.length=nn.length->g y (l++σ) H R->g y (l++σ) H λσ' k=>(∃fU:St,fU.length=nn.length/\σ'=fU++σ)/\R σ' k)
  (w4:∀t C d aC aD (w:List (af×ay)) (s:ae) (σ:St) (H:Hp) (Q:Bool->Hp->Prop),Inv (cG X scope t C nn d aC aD) w σ H s->tt σ H Q->ah (ai X.prog X.w) X.A (T (compEnvC scope t C X.env)) (TP (cG X scope t C nn d aC aD) w σ Q) (λ_ _=>False) s)
  (he:∀t C d aC aD,PE (cG X scope t C nn d aC aD) f te)
  (jD:scope.kind=.function) (jA:∀y∈scope.names,y.2≠.cell) (jB:∀y∈scope.names,y.2=.local->scope.names.lookup y.1=some .local)
  (jF:∀y∈X.N,scope.names.lookup y≠some .local) (hfr:∀p∈scope.names,p.2=.free->rg X.env.scope p.1/\X.env.scope.names.lookup p.1≠some .local)
  (hs:∀x,foldedSetIterable iter X.env x=pure x) (I:Inv X w σ H s) (h:nL nn.length wi g tt te σ H Q)
  (fin:∀(D C:af)(G:Hp)(P:ae)(m4:ar->Option aa),gb X w G C->P.heap.Ns C m4->(∀h',Heap.SameBut C P.heap h'->Inv X w σ G {P with heap:=h'})->Q (.ref D) G->compPost (ai X.prog X.w) X.A X.xe use QQ (.ref D) C (.ok Flow.next) P):
  ah (ai X.prog X.w) X.A (comprehension (.ListComp f [⟨E,iter,B,0⟩] scope A) scope X.env (firstIterPos [⟨E,iter,B,0⟩] A) (newList []) false (eval iter X.env) use) QQ X.xe s:=by
 obtain⟨t,qU,k9,n_⟩:=RG (scope:=scope) (env:=X.env) (λp hp hk=>by
  obtain⟨hv,hn⟩:=hfr p hp hk;refine I.ok.has p.1 ?_;rcases hv with z|z
  ·exact absurd z hn
  ·exact z)
 refine wpAny_comprehension_free (use:=use) rfl hs qU jD jB (bh (hi w s σ H _ I h) λv s1 h1=>bh h1 λHQ a h2=>?_);obtain⟨it,d,tn,J,H2,rfl,I2,F,dz,f2,q⟩:=h2;have hD:H2 a.heap.objs.size=none:=I2.aS.fresh (Zg _);obtain⟨W,⟨m0,w0⟩,turn⟩:=q _ hD;refine ZP (wpAny_newFunctionEnv jA (by intro y hy;simp at hy) (λcT f_ fZ=>?_) jD);dsimp only at f_ fZ ⊢;have I3:Inv X w σ (upd H2 a.heap.objs.size (.lst [])) {a with heap:=a.heap.push {cls:=.type "list",dict:=none,data:=.seq ([]:List aa).toArray}}:=
  I2.laid (t':=a.toks) (λb u e=>Zd _ e) (Zg _) ⟨Zs _,[],0,.nil,Zi _ rfl⟩
 have NR:∀b∈d,b≠a.heap.objs.size:=λb hb=>by
  obtain⟨o,e,_⟩:=F.obj 0 a.heap dz b hb;exact Zu (Zo e)
 have mG:∀b∈d,b<(a.heap.push {cls:=.type "list",dict:=none,data:=.seq ([]:List aa).toArray}).objs.size:=λb hb=>by
  obtain⟨o,e,_⟩:=F.obj 0 a.heap dz b hb;rw[Z4];exact Yl (Zo e)
 have f3:∀b∈d,gb X w (upd H2 a.heap.objs.size (.lst [])) b:=λb hb=>⟨by rw[bj (NR b hb)];exact(f2 b hb).1,(f2 b hb).2⟩;generalize kT:a.heap.push {cls:=.type "list",dict:=none,data:=.seq ([]:List aa).toArray}=K at f_ fZ I3 mG ⊢;have keep:∀b o,K.get? b=some o->cT.get? b=some o:=λb o e=>(fZ.2 b (Zu (Zo e))).trans (Zd _ e);have J0:=Rq (nn:=nn) (tk:=a.toks+([]:List (ar×aa)).length) I3 (C:=K.objs.size) rfl keep f_ f3 mG jD jA jF k9 n_ hfr;generalize j:cG X scope t K.objs.size nn d {a with heap:=K} (upd H2 a.heap.objs.size (.lst []))=Y at J0;have eY:PE Y f te:=by rw[<- j];exact he _ _ _ _ _
 have eG:PG Y E g:=by rw[<- j];exact n9 _ _ _ _ _
 have eT:∀(w:List (af×ay))(s:ae)(σ:St)(H:Hp)(Q:Bool->Hp->Prop),Inv Y w σ H s->tt σ H Q->ah (ai Y.prog Y.w) Y.A (T Y.env) (TP Y w σ Q) Y.xe s:=by rw[<- j];exact w4 _ _ _ _ _
 have eP:Y.prog=X.prog:=by rw[<- j];rfl
 have eW:Y.w=X.w:=by rw[<- j];rfl
 have eK:Y.K=X.K:=by rw[<- j];rfl
 have eA:Y.A=X.A:=by rw[<- j];rfl
 have eC:Y.calm=true:=by rw[<- j];exact hc
 have U:Y.env=compEnvC scope t K.objs.size X.env:=by rw[<- j];rfl
 have eX:Y.xe=λ_ _=>False:=by rw[<- j];rfl
 have eN:Y.N=nn++X.N:=by rw[<- j];rfl
 have N3:Y.ex=d:=by rw[<- j];rfl
 have N1:Y.fs=dC X.stack:=by rw[<- j];rfl
 have NZ:Y.pn=[]:=by rw[<- j];rfl
 have yx:∀{k:Hp},(∀b∈d,k b=none)->∀b∈d,gb Y [] k b:=λhn b hb=>by
  have g:=f3 b hb;refine⟨hn b hb,?_,?_,.inl (by rw[N3];exact hb),?_,λp hp=>absurd hp (by rw[NZ];simp)⟩
  ·rw[U];exact Zu (mG b hb)
  ·rw[N1];intro z;rcases Zz.mp (I3.eV b z)with z|z
   ·exact g.2.1 z
   ·exact g.2.2.1 z
  ·rw[U];exact λy c e=>g.2.2.2.2.1 y c (k9 y c e)
 have M:∀dH:ae,dH={a with heap:=cT,toks:=a.toks+([]:List (ar×aa)).length} ->
   codeAny (ai X.prog X.w) X.A (.compLoop (.ListComp f [⟨E,iter,B,0⟩] scope A) 0 (.ref it) (.ref a.heap.objs.size) (compEnvC scope t K.objs.size X.env))
    (compPost (ai X.prog X.w) X.A X.xe use QQ (.ref a.heap.objs.size) K.objs.size) dH:=by
  rintro dH rfl;refine q58 (T (compEnvC scope t K.objs.size X.env)) (jT _ _ _) (λn s'=>∃i O k l,l.length=nn.length/\Inv Y [] (l++σ) k s'/\tn i s'.heap/\(∀b∈d,k b=none)/\W i n O k) ?_ m0
   ⟨0,[],_,nn.map λ_=>none,by simp,J0,F.keep 0 _ _ dz (λb hb o e=>keep b o (by rw[<- kT];exact Zd _ e)),λb hb=>(f3 b hb).1,w0⟩
  rintro n s3 ⟨i,O,G,l,vJ,I4,mh,vg,w3⟩;obtain⟨Ny,MQ,alt⟩:=turn i n O G w3;rcases alt with⟨stop,qn⟩|⟨go,step⟩
  ·have D1:=F.done Y eP eW eK eC i [] s3 _ G (λ_ _=>False) I4 (yx vg) mh stop;rw[eA]at D1;refine bh D1 λr P ⟨hr,I5⟩=>?_;subst hr;obtain⟨m4,k6,_⟩:=id I5.loc;rw[U]at k6;have NB:G K.objs.size=none:=by
    have:=I5.free;rw[U]at this;exact this
   rw[<- j]at I5;exact fin _ _ G P m4 (I3.jo (Zg _) NB) k6 (λh' sb=>S5 I3 rfl f3 I5 sb) qn
  ·have G1:=F.item Y eP eW eK eC i [] s3 _ G (λ_ _=>False) I4 (yx vg) mh go;rw[eA]at G1;refine bh G1 λr P ⟨u,hr,h4⟩=>?_;subst hr;refine bh h4 λ_ s5 ⟨y,H5,I5,r5,y5,oq,EA⟩=>?_;have EZ:=I5.pinned (yx EA) (F.obj _ _ oq);have S1:=eG _ s5 _ H5 y u _ EZ r5 (jU y l σ H5 _ vJ (step y _ y5 l vJ));rw[eP,eW,eA,U,eX]at S1;refine bh S1 λ_ s6 ⟨IK,H6,I6,⟨zV,yj,e6⟩,q6⟩=>?_;subst e6;have S2:=eT _ s6 _ _ _ I6 q6;rw[eP,eW,eA,U,eX]at S2;refine bh S2 λok s7 ⟨H7,I7,q7⟩=>?_;have N:∀{s9:ae}{L:Hp}{Z:Nat}{zs:List V},Inv Y ([]++xn d s5.heap) (zV++σ) L s9->Z<n->W (i+1) Z zs L->∃m,m<n/\∃i O k l,l.length=nn.length/\Inv Y [] (l++σ) k s9/\tn i s9.heap/\(∀b∈d,k b=none)/\W i m O k:=λ{s9 L Z zs} I9 fz w9=>by
    have pin:∀b∈d,∀ob,s5.heap.get? b=some ob->s9.heap.get? b=some ob/\L b=none:=λb hb ob e=>by
     have z:=I9.pin (b,ob) (ZV _ (ZV _ (B9 hb e)));exact⟨z.1,z.2.1⟩
    refine⟨Z,fz,i+1,zs,L,zV,yj,I9.dG,F.keep _ _ _ oq (λb hb ob e=>(pin b hb ob e).1),λb hb=>?_,w9⟩;obtain⟨ob,e,_⟩:=F.obj _ _ oq b hb;exact(pin b hb ob e).2
   cases ok with
   |true=>
    rw[Zn rfl]at q7;rw[Zn rfl];have S3:=eY _ s7 _ _ _ I7 q7;rw[eP,eW,eA,U,eX]at S3;refine bh S3 λxv s8 ⟨v8,H8,I8,r8,hD8,Z,fz,w8⟩=>?_;have S4:=sZ (X:=Y) _ s8 _ H8 (.ref a.heap.objs.size) [v8] (.ref a.heap.objs.size) [xv] (λ_ L=>L=upd H8 a.heap.objs.size (.lst (O++[v8]))) I8 rfl (.cons r8 .nil) ⟨_,O,v8,rfl,rfl,hD8,MQ,rfl⟩;rw[eP,eW,eA,eX]at S4;refine bh S4 λ_ s9 ⟨v9,L,I9,_,e9⟩=>?_;subst e9;exact N I9 fz w8
   |false=>
    rw[Zj ZA]at q7;rw[Zj ZA];obtain⟨Z,fz,w8⟩:=q7;exact N I7 fz w8
 exact codeAny_compStart_list (M _ rfl) (F.self _ 0 _ _ _ (F.keep 0 _ _ dz (λb hb o e=>keep b o (by rw[<- kT];exact Zd _ e))) (M _ rfl))
theorem BV{nn:List ar}{j:au}{i:List au}{e:az}{a iter:au}{scope:ax}{B:TI}{g:TG}{E:TT}{te:TE}(T:Env->Sem Bool)(hc:X.calm=true)(L:PI X j iter B)
  (Z:∀t d b,compTurn (.ListComp a [⟨j,iter,i,0⟩] scope e) 0 t d b=(standAt iter.pos >>= λ_=>pyNext t >>= λr=>match r with
   |none=>pure (.done .next)
   |some v=>letOwnedTupleGo j t v >>= λ_=>assign j b v >>= λ_=>T b >>= λok=>(if ok=true then(eval a b >>= λx=>call (.builtin "list.append") [d,x] >>= λ_=>pure ())else pure ()) >>= λ_=>
     again (.compLoop (.ListComp a [⟨j,iter,i,0⟩] scope e) 0 t d b)))
  (W:∀f C l k m,PG (cG X scope f C nn l k m) j g)
  (Y:∀y (u c:St) H R,u.length=nn.length->g y (u++c) H R->g y (u++c) H λn V=>(∃A:St,A.length=nn.length/\n=A++c)/\R n V)
  (O:∀f C l k m (w:List (af×ay)) (s:ae) (c:St) (H:Hp) (Q:Bool->Hp->Prop),Inv (cG X scope f C nn l k m) w c H s->E c H Q->ah (ai X.prog X.w) X.A (T (compEnvC scope f C X.env)) (TP (cG X scope f C nn l k m) w c Q) (λ_ _=>False) s)
  (J:∀f C l k m,PE (cG X scope f C nn l k m) a te)
  (M:scope.kind=.function) (G:∀y∈scope.names,y.2≠.cell) (S:∀y∈scope.names,y.2=.local->scope.names.lookup y.1=some .local)
  (F:∀y∈X.N,scope.names.lookup y≠some .local) (hfr:∀p∈scope.names,p.2=.free->rg X.env.scope p.1/\X.env.scope.names.lookup p.1≠some .local)
  (hs:∀x,foldedSetIterable iter X.env x=pure x):PE X (.ListComp a [⟨j,iter,i,0⟩] scope e) (nL nn.length B g E te):=by
 intro w s c H Q I h;rw[eval_ListComp];exact Ts (use:=none) T hc L Z W Y O J M G S F hfr hs I h λD C N s4 K _ U iv q=>⟨K,U,λP sb=>⟨.ref _,N,iv P sb,rfl,q⟩⟩
theorem rO{scope a:ax}{N:List ar}(f:X.N=N)(g:X.env.scope=a)
  (d:scope.names.all (λy=>y.2 != .cell)=true) (i:scope.names.all (λy=>y.2 != .local||scope.names.lookup y.1==some .local)=true) (c:N.all (λy=>scope.names.lookup y != some .local)=true)
  (hfr:scope.names.all (λp=>p.2 != .free||(a.names.lookup p.1==some .cell||a.names.lookup p.1==some .free))=true):
  (∀y∈scope.names,y.2≠.cell)/\(∀y∈scope.names,y.2=.local->scope.names.lookup y.1=some .local)/\(∀y∈X.N,scope.names.lookup y≠some .local)/\(∀p∈scope.names,p.2=.free->rg X.env.scope p.1/\X.env.scope.names.lookup p.1≠some .local):=by
 refine⟨λy b=>?_,λy b h=>?_,λy b=>?_,λp e hk=>?_⟩
 ·have:=Xc.mp d y b;simpa using this
 ·have:=Xc.mp i y b;simpa[h]using this
 ·have:=Xc.mp c y (by rw[<- f];exact b);simpa using this
 ·have:=Xc.mp hfr p e;rw[hk]at this;have z:a.names.lookup p.1=some .cell\/a.names.lookup p.1=some .free:=by simpa using this
  rw[g];refine⟨.inr z,λq=>?_⟩;rcases z with z|z<;>(rw[z]at q;cases q)
theorem qA{y:V}{b σ:St}{H:Hp}{R:St->Hp->Prop}(d:b.length=1)(h:cb 0 y (b++σ) H R):cb 0 y (b++σ) H λa e=>(∃c:St,c.length=1/\a=c++σ)/\R a e:=by
 match b,d with
 |[o],_=>exact⟨⟨[some y],rfl,rfl⟩,h⟩
theorem Dj{K:PySem.W.Frag}{y:V}{c σ:St}{H:Hp}{R:St->Hp->Prop}(l:c.length=2)(h:ee K 2 (cY (cb 0) (cY (cb 1) eh)) y (c++σ) H R):
  ee K 2 (cY (cb 0) (cY (cb 1) eh)) y (c++σ) H λb m=>(∃d:St,d.length=2/\b=d++σ)/\R b m:=by
 obtain⟨t,u,rfl⟩:=L2.zX l
 ·
  obtain⟨a,s,i,f,j,v,r,k,e,p,g,n,q⟩:=h;exact⟨a,s,i,f,j,v,r,k,e,p,g,n,⟨[some v,some e],rfl,rfl⟩,q⟩
theorem Kk{x:ar}{n j:az}{f iter c:au}{scope:ax}{q:TI}{t:TT}{te:TE}(N:List ar)(m:ax)(J:X.N=N)(O:X.env.scope=m)(hc:X.calm=true)(U:X.N.Nodup)(G:PI X (.Name x n) iter q)
  (B:∀e C d b g,PT (cG X scope e C [x] d b g) c t) (D:∀e C d b g,PE (cG X scope e C [x] d b g) f te)
  (K:scope.kind=.function:=by rfl) (A:scope.names.all (λy=>y.2 != .cell)=true:=by decide +kernel) (P:scope.names.all (λy=>y.2 != .local||scope.names.lookup y.1==some .local)=true:=by decide +kernel)
  (r:scope.names.lookup x=some .local:=by rfl) (w:N.all (λy=>scope.names.lookup y != some .local)=true:=by decide +kernel)
  (hfr:scope.names.all (λp=>p.2 != .free||(m.names.lookup p.1==some .cell||m.names.lookup p.1==some .free))=true:=by decide +kernel)
  (hs:∀x,foldedSetIterable iter X.env x=pure x:=by intro _;rfl):PE X (.ListComp f [⟨.Name x n,iter,[c],0⟩] scope j) (nL 1 q (cb 0) t te):=by
 obtain⟨E,S,u,F⟩:=rO J O A P w hfr;refine BV (nn:=[x]) (λa=>isTrue c a (eval c a)) hc G (λL k a=>Lc f _ iter c scope j L k a) (λe C d b g=>?_) (λy V v H R M h=>qA M h) (λe C d b g T s v H Q I h=>B e C d b g T s v H Q I h) D K E S u F hs;have l:(cG X scope e C [x] d b g).env.scope.names.lookup x=some .local:=ZY r;exact mq (i:=0) (Z3.mpr ⟨λz=>u x z r,U⟩) rfl (.inl l) (.inr l)
theorem QB{x y:ar}{h g l:az}{k:Nat}{scope:ax}{a:List (ar×af)}{C:af}{fp:List af}{aC:ae}{aD:Hp}(hc:X.calm=true)(m:X.N.Nodup)(j:x≠y)(c:∀z∈X.N,scope.names.lookup z≠some .local)(e:scope.names.lookup x=some .local)(f:scope.names.lookup y=some .local):
  PG (cG X scope a C [x,y] fp aC aD) (.Tuple [.Name x h,.Name y g] k l) (ee X.K 2 (cY (cb 0) (cY (cb 1) eh))):=by
 have b:(cG X scope a C [x,y] fp aC aD).env.scope.names.lookup x=some .local:=ZY e;have d:(cG X scope a C [x,y] fp aC aD).env.scope.names.lookup y=some .local:=ZY f;have nd:(cG X scope a C [x,y] fp aC aD).N.Nodup:=Z3.mpr ⟨λz=>by
  rcases Zz.mp z with z|z
  ·exact j z
  ·exact c x z e,Z3.mpr ⟨λz=>c y z f,m⟩⟩
 exact pP (X:=cG X scope a C [x,y] fp aC aD) hc (gz (mq (i:=0) nd rfl (.inl b) (.inr b)) (gz (mq (i:=1) nd rfl (.inl d) (.inr d)) pT))
def ow:TT:=λ_ H Q=>Q true H
theorem Sm{x y:ar}{r n m b:az}{k:Nat}{a iter:au}{scope:ax}{l:TI}{te:TE}(N:List ar)(g:ax)(D:X.N=N)(K:X.env.scope=g)(hc:X.calm=true)(T:X.N.Nodup)(B:PI X (.Tuple [.Name x r,.Name y n] k m) iter l)
  (v:∀f C e d i,PE (cG X scope f C [x,y] e d i) a te) (G:x≠y:=by decide)
  (E:scope.kind=.function:=by rfl) (u:scope.names.all (λy=>y.2 != .cell)=true:=by decide +kernel) (L:scope.names.all (λy=>y.2 != .local||scope.names.lookup y.1==some .local)=true:=by decide +kernel)
  (M:scope.names.lookup x=some .local:=by rfl) (P:scope.names.lookup y=some .local:=by rfl) (t:N.all (λy=>scope.names.lookup y != some .local)=true:=by decide +kernel)
  (hfr:scope.names.all (λp=>p.2 != .free||(g.names.lookup p.1==some .cell||g.names.lookup p.1==some .free))=true:=by decide +kernel)
  (hs:∀x,foldedSetIterable iter X.env x=pure x:=by intro _;rfl):PE X (.ListComp a [⟨.Tuple [.Name x r,.Name y n] k m,iter,[],0⟩] scope b) (nL 2 l (ee X.K 2 (cY (cb 0) (cY (cb 1) eh))) ow te):=by
 obtain⟨w,O,q,A⟩:=rO D K u L t hfr;exact BV (nn:=[x,y]) (λ_=>pure true) hc B (λF c j=>zq a _ iter scope b F c j) (λf C e d i=>QB hc T G q M P) (λy U S H R J h=>Dj J h) (λf C e d i V s S H Q I h=>Zb ⟨H,I,h⟩) v E w O q A hs
end
theorem qH6(b a iter:au)(d:List au)(scope:ax)(e:az)(it acc:aa)(env:Env):
  compTurn (.SetComp b [⟨a,iter,d,0⟩] scope e) 0 it acc env=(do
   standAt iter.pos
   match <- pyNext it with
   |none=>pure (.done .next)
   |some v=>
    letOwnedTupleGo a it v
    assign a env v
    let mut ok:=true
    for c in d do
     if ok then ok <- isTrue c env (eval c env)
    if ok then
     (do let v <- eval b env;standAt b.pos;let _ <- call (.builtin "set.add") [acc,v])
    again (.compLoop (.SetComp b [⟨a,iter,d,0⟩] scope e) 0 it acc env)):=by rfl
theorem q59(b a iter c:au)(scope:ax)(d:az)(it acc:aa)(env:Env):compTurn (.SetComp b [⟨a,iter,[c],0⟩] scope d) 0 it acc env=(standAt iter.pos >>= λ_=>pyNext it >>= λr=>match r with
   |none=>pure (.done .next)
   |some v=>letOwnedTupleGo a it v >>= λ_=>assign a env v >>= λ_=>isTrue c env (eval c env) >>= λok=>(if ok=true then(eval b env >>= λx=>standAt b.pos >>= λ_=>call (.builtin "set.add") [acc,x] >>= λ_=>pure ())else pure ()) >>= λ_=>
     again (.compLoop (.SetComp b [⟨a,iter,[c],0⟩] scope d) 0 it acc env)):=by
 rw[qH6];refine XZ λ_=>XZ λr=>?_;cases r with
 |none=>rfl
 |some v=>
  refine XZ λ_=>XZ λ_=>?_;simp only[WG,VC,XM,bind_assoc,Vx];refine XZ λok=>?_;cases ok<;>simp
theorem q60{prog:ag}{w:aj}{A:aq}{R:Result->ae->Prop}{s:ae}{b a iter:au}{e:List au}{scope:ax}{d:az}{it acc:aa}{env:Env}(T:Sem Bool)
  (y:compTurn (.SetComp b [⟨a,iter,e,0⟩] scope d) 0 it acc env=(standAt iter.pos >>= λ_=>pyNext it >>= λr=>match r with
   |none=>pure (.done .next)
   |some v=>letOwnedTupleGo a it v >>= λ_=>assign a env v >>= λ_=>T >>= λok=>(if ok=true then(eval b env >>= λx=>standAt b.pos >>= λ_=>call (.builtin "set.add") [acc,x] >>= λ_=>pure ())else pure ()) >>= λ_=>
     again (.compLoop (.SetComp b [⟨a,iter,e,0⟩] scope d) 0 it acc env)))
  (I:Nat->ae->Prop)
  (f:∀n s,I n s->ah (ai prog w) A (pyNext it) (λr i=>match r with
   |none=>R (.ok .next) i
   |some v=>ah (ai prog w) A (letOwnedTupleGo a it v) (λ_ l=>ah (ai prog w) A (assign a env v) (λ_ t=>ah (ai prog w) A T (λok j=>
     if ok=true then ah (ai prog w) A (eval b env) (λx p=>ah (ai prog w) A (call (.builtin "set.add") [acc,x]) (λ_ q=>∃m,m<n/\I m q) (λ_ _=>False) p) (λ_ _=>False) j
     else ∃m,m<n/\I m j) (λ_ _=>False) t) (λ_ _=>False) l) (λ_ _=>False) i) (λ_ _=>False) s)
  (n:Nat) (h:I n s):codeAny (ai prog w) A (.compLoop (.SetComp b [⟨a,iter,e,0⟩] scope d) 0 it acc env) R s:=by
 refine codeAny_loop rfl I (λn s E=>?_) n h;show ah _ A ((compTurn (.SetComp b [⟨a,iter,e,0⟩] scope d) 0 it acc env).onRaise (λx=>do noteFrame x env;theTreesLotGoes x)) _ _ s;refine wpAny_noted ?_;rw[y];refine Za (WB (Za (Z9 (f n s E) (λr i k=>?_) λ_ _ c=>c.elim)));cases r with
 |none=>exact Zb k
 |some v=>
  refine Za (Z9 k (λ_ l B=>?_) λ_ _ c=>c.elim);refine Za (Z9 B (λ_ t D=>Za (Z9 D (λok j g=>?_) λ_ _ c=>c.elim)) λ_ _ c=>c.elim);cases ok with
  |true=>
   rw[Zn rfl]at g;simp only[XM];exact Za (Za (Z9 g (λx p u=>Za (WB (Za (Z9 u (λ_ q C=>Zb (Zb ⟨rfl,C⟩)) λ_ _ c=>c.elim)))) λ_ _ c=>c.elim))
  |false=>
   rw[Zj ZA]at g;simp only[Zy,Z6];exact Za (Zb (Zb ⟨rfl,g⟩))
def Li(P:ag)(w:aj)(n:Nat)(t:TI)(g:TG)(u:TT)(te:TE):TE:=λs H Q=>t s H λJ r=>∀D,r D=none->∃W:Nat->Nat->List (List Key×af)->Hp->Prop,(∃m,W 0 m [] (upd r D (.ext (dO P w D [])))) /\
 ∀i m a d,W i m a d->fi P w d D a/\a.length<1200/\((J.stop i d/\Q (.ref D) d)\/(J.go i d/\∀y q,J.iK i d y q->∀h:St,h.length=n ->
  g y (h++s) q λp A=>u p A λb k=>if b=true then te p k λv f=>∃l j,v=.ref l/\f l=some (.tup (j.map kV))/\fi P w f D a /\
   ∀c,fi P w (upd f D (.ext (dO P w D c))) D c->(∀x,x∈c.map (·.1)<->x=j\/x∈a.map (·.1))->c.length<=a.length+1->∃e,e<m/\W (i+1) e c (upd f D (.ext (dO P w D c)))else ∃e,e<m/\W (i+1) e a k))
theorem xg5{P:ag}{w:aj}{h:ao}{a:af}(e:h.get? a=some (bI.e_ (!w.params.followText "set-order"))):dO P w a [] h:=by
 obtain⟨o,q,m,t,b,l,j,G,c,_,g,k,_⟩:=(bI.iB (knd:=gy P w) e).ex;rw[e]at b;cases b;cases j;exact⟨_,_,_,_,e,l,rfl,G,c,rfl,g,k,λi n f=>by simp at f,λp d=>nomatch d⟩
theorem xu1{prog:ag}{w:aj}{A:aq}{E:aa->ae->Prop}{s:ae}{Q:aa->ae->Prop}(h:Q (.ref s.heap.objs.size) {s with heap:=s.heap.push (bI.e_ (!w.params.followText "set-order"))}):ah (ai prog w) A (newSet (.type "set")) Q E s:=by
 unfold newSet setsByText;refine Za (Za (YB (Zb ?_)));exact ZP h
theorem q62{prog:ag}{w:aj}{A:aq}{R:Result->ae->Prop}{s:ae}{d a iter:au}{b:List au}{scope:ax}{c:az}{it acc:aa}{env:Env}
  (h0:codeAny (ai prog w) A (.compLoop (.SetComp d [⟨a,iter,b,0⟩] scope c) 0 it acc env) R s)
  (h:ah (ai prog w) A (pyIter it) (λi e=>codeAny (ai prog w) A (.compLoop (.SetComp d [⟨a,iter,b,0⟩] scope c) 0 i acc env) R e) (notedBy (ai prog w) A env λx e=>R (.error x) e) s):
  codeAny (ai prog w) A (.compStart (.SetComp d [⟨a,iter,b,0⟩] scope c) 0 it acc env) R s:=by
 refine codeAny_of_tree ?_;show ah _ _ ((compStart (.SetComp d [⟨a,iter,b,0⟩] scope c) 0 it acc env).onRaise _) _ _ s;refine wpAny_notedAt ?_;unfold compStart;refine Za (YB (wpAny_ite ?_));split
 ·exact Zb ⟨rfl,h0⟩
 ·exact Za (Xn (Za (WB (Za (Z9 h (λi e y=>Zb ⟨rfl,y⟩) λ_ _ x=>x)))))
section
variable{X:Cx}
theorem qX6{use:Option (aa->Sem Unit)}{QQ:aa->ae->Prop}{Q:VK}{w:List (af×ay)}{s:ae}{σ:St}{H:Hp}{nn:List ar}{F:au}{B:List au}{A:az}{f iter:au}{scope:ax}{wi:TI}{g:TG}{tt:TT}{te:TE}(T:Env->Sem Bool)(hc:X.calm=true)(hi:PI X F iter wi)
  (jT:∀it acc env,compTurn (.SetComp f [⟨F,iter,B,0⟩] scope A) 0 it acc env=(standAt iter.pos >>= λ_=>pyNext it >>= λr=>match r with
   |none=>pure (.done .next)
   |some v=>letOwnedTupleGo F it v >>= λ_=>assign F env v >>= λ_=>T env >>= λok=>(if ok=true then(eval f env >>= λx=>standAt f.pos >>= λ_=>call (.builtin "set.add") [acc,x] >>= λ_=>pure ())else pure ()) >>= λ_=>
     again (.compLoop (.SetComp f [⟨F,iter,B,0⟩] scope A) 0 it acc env)))
  (n9:∀t C d aC aD,PG (cG X scope t C nn d aC aD) F g)
  (jU:∀y (l σ:St) H R,l.length=nn.length->g y (l++σ) H R->g y (l++σ) H λσ' k=>(∃fU:St,fU.length=nn.length/\σ'=fU++σ)/\R σ' k)
  (w4:∀t C d aC aD (w:List (af×ay)) (s:ae) (σ:St) (H:Hp) (Q:Bool->Hp->Prop),Inv (cG X scope t C nn d aC aD) w σ H s->tt σ H Q->ah (ai X.prog X.w) X.A (T (compEnvC scope t C X.env)) (TP (cG X scope t C nn d aC aD) w σ Q) (λ_ _=>False) s)
  (he:∀t C d aC aD,PE (cG X scope t C nn d aC aD) f te)
  (jD:scope.kind=.function) (jA:∀y∈scope.names,y.2≠.cell) (jB:∀y∈scope.names,y.2=.local->scope.names.lookup y.1=some .local)
  (jF:∀y∈X.N,scope.names.lookup y≠some .local) (hfr:∀p∈scope.names,p.2=.free->rg X.env.scope p.1/\X.env.scope.names.lookup p.1≠some .local)
  (un:X.A.units+8<cLine) (hs:∀x,foldedSetIterable iter X.env x=pure x) (I:Inv X w σ H s) (h:Li X.prog X.w nn.length wi g tt te σ H Q)
  (fin:∀(D C:af)(K:Hp)(Z:ae)(m4:ar->Option aa),gb X w K C->Z.heap.Ns C m4->(∀h',Heap.SameBut C Z.heap h'->Inv X w σ K {Z with heap:=h'})->Q (.ref D) K->compPost (ai X.prog X.w) X.A X.xe use QQ (.ref D) C (.ok Flow.next) Z):
  ah (ai X.prog X.w) X.A (comprehension (.SetComp f [⟨F,iter,B,0⟩] scope A) scope X.env (firstIterPos [⟨F,iter,B,0⟩] A) (newSet (.type "set")) false (eval iter X.env) use) QQ X.xe s:=by
 obtain⟨t,qU,k9,n_⟩:=RG (scope:=scope) (env:=X.env) (λp hp hk=>by
  obtain⟨hv,hn⟩:=hfr p hp hk;refine I.ok.has p.1 ?_;rcases hv with z|z
  ·exact absurd z hn
  ·exact z)
 refine wpAny_comprehension_free (use:=use) rfl hs qU jD jB (bh (hi w s σ H _ I h) λv s1 h1=>bh h1 λHQ a h2=>?_);obtain⟨it,d,tn,J,H2,rfl,I2,G,dz,f2,q⟩:=h2;have hD:H2 a.heap.objs.size=none:=I2.aS.fresh (Zg _);obtain⟨W,⟨m0,w0⟩,turn⟩:=q _ hD;refine xu1 (wpAny_newFunctionEnv jA (by intro y hy;simp at hy) (λcT f_ fZ=>?_) jD);dsimp only at f_ fZ ⊢;have I3:Inv X w σ (upd H2 a.heap.objs.size (.ext (dO X.prog X.w a.heap.objs.size []))) {a with heap:=a.heap.push (bI.e_ (!X.w.params.followText "set-order"))}:=
  I2.laid (t':=a.toks) (λb u e=>Zd _ e) (Zg _) (TQ (xg5 (Zi _ rfl)))
 have NR:∀b∈d,b≠a.heap.objs.size:=λb hb=>by
  obtain⟨o,e,_⟩:=G.obj 0 a.heap dz b hb;exact Zu (Zo e)
 have mG:∀b∈d,b<(a.heap.push (bI.e_ (!X.w.params.followText "set-order"))).objs.size:=λb hb=>by
  obtain⟨o,e,_⟩:=G.obj 0 a.heap dz b hb;rw[Z4];exact Yl (Zo e)
 have f3:∀b∈d,gb X w (upd H2 a.heap.objs.size (.ext (dO X.prog X.w a.heap.objs.size []))) b:=λb hb=>⟨by rw[bj (NR b hb)];exact(f2 b hb).1,(f2 b hb).2⟩;generalize kT:a.heap.push (bI.e_ (!X.w.params.followText "set-order"))=M at f_ fZ I3 mG ⊢;have keep:∀b o,M.get? b=some o->cT.get? b=some o:=λb o e=>(fZ.2 b (Zu (Zo e))).trans (Zd _ e);have J0:=Rq (nn:=nn) (tk:=a.toks+([]:List (ar×aa)).length) I3 (C:=M.objs.size) rfl keep f_ f3 mG jD jA jF k9 n_ hfr;generalize j:cG X scope t M.objs.size nn d {a with heap:=M} (upd H2 a.heap.objs.size (.ext (dO X.prog X.w a.heap.objs.size [])))=Y at J0;have eY:PE Y f te:=by rw[<- j];exact he _ _ _ _ _
 have eG:PG Y F g:=by rw[<- j];exact n9 _ _ _ _ _
 have eT:∀(w:List (af×ay))(s:ae)(σ:St)(H:Hp)(Q:Bool->Hp->Prop),Inv Y w σ H s->tt σ H Q->ah (ai Y.prog Y.w) Y.A (T Y.env) (TP Y w σ Q) Y.xe s:=by rw[<- j];exact w4 _ _ _ _ _
 have eP:Y.prog=X.prog:=by rw[<- j];rfl
 have U:Y.w=X.w:=by rw[<- j];rfl
 have eK:Y.K=X.K:=by rw[<- j];rfl
 have S:Y.A=X.A:=by rw[<- j];rfl
 have eC:Y.calm=true:=by rw[<- j];exact hc
 have eE:Y.env=compEnvC scope t M.objs.size X.env:=by rw[<- j];rfl
 have eX:Y.xe=λ_ _=>False:=by rw[<- j];rfl
 have eN:Y.N=nn++X.N:=by rw[<- j];rfl
 have N3:Y.ex=d:=by rw[<- j];rfl
 have N1:Y.fs=dC X.stack:=by rw[<- j];rfl
 have NZ:Y.pn=[]:=by rw[<- j];rfl
 have yx:∀{k:Hp},(∀b∈d,k b=none)->∀b∈d,gb Y [] k b:=λhn b hb=>by
  have g:=f3 b hb;refine⟨hn b hb,?_,?_,.inl (by rw[N3];exact hb),?_,λp hp=>absurd hp (by rw[NZ];simp)⟩
  ·rw[eE];exact Zu (mG b hb)
  ·rw[N1];intro z;rcases Zz.mp (I3.eV b z)with z|z
   ·exact g.2.1 z
   ·exact g.2.2.1 z
  ·rw[eE];exact λy c e=>g.2.2.2.2.1 y c (k9 y c e)
 have O:∀dH:ae,dH={a with heap:=cT,toks:=a.toks+([]:List (ar×aa)).length} ->
   codeAny (ai X.prog X.w) X.A (.compLoop (.SetComp f [⟨F,iter,B,0⟩] scope A) 0 (.ref it) (.ref a.heap.objs.size) (compEnvC scope t M.objs.size X.env))
    (compPost (ai X.prog X.w) X.A X.xe use QQ (.ref a.heap.objs.size) M.objs.size) dH:=by
  rintro dH rfl;refine q60 (T (compEnvC scope t M.objs.size X.env)) (jT _ _ _) (λn s'=>∃i V k l,l.length=nn.length/\Inv Y [] (l++σ) k s'/\tn i s'.heap/\(∀b∈d,k b=none)/\W i n V k) ?_ m0
   ⟨0,[],_,nn.map λ_=>none,by simp,J0,G.keep 0 _ _ dz (λb hb o e=>keep b o (by rw[<- kT];exact Zd _ e)),λb hb=>(f3 b hb).1,w0⟩
  rintro n s3 ⟨i,V,K,l,vJ,I4,mh,vg,w3⟩;obtain⟨Ny,MQ,alt⟩:=turn i n V K w3;rcases alt with⟨stop,qn⟩|⟨go,step⟩
  ·have D1:=G.done Y eP U eK eC i [] s3 _ K (λ_ _=>False) I4 (yx vg) mh stop;rw[S]at D1;refine bh D1 λr Z ⟨hr,I5⟩=>?_;subst hr;obtain⟨m4,k6,_⟩:=id I5.loc;rw[eE]at k6;have NB:K M.objs.size=none:=by
    have:=I5.free;rw[eE]at this;exact this
   rw[<- j]at I5;exact fin _ _ K Z m4 (I3.jo (Zg _) NB) k6 (λh' sb=>S5 I3 rfl f3 I5 sb) qn
  ·have G1:=G.item Y eP U eK eC i [] s3 _ K (λ_ _=>False) I4 (yx vg) mh go;rw[S]at G1;refine bh G1 λr Z ⟨u,hr,h4⟩=>?_;subst hr;refine bh h4 λ_ s5 ⟨y,H5,I5,r5,y5,oq,EA⟩=>?_;have EZ:=I5.pinned (yx EA) (G.obj _ _ oq);have S1:=eG _ s5 _ H5 y u _ EZ r5 (jU y l σ H5 _ vJ (step y _ y5 l vJ));rw[eP,U,S,eE,eX]at S1;refine bh S1 λ_ s6 ⟨IK,H6,I6,⟨zV,yj,e6⟩,q6⟩=>?_;subst e6;have S2:=eT _ s6 _ _ _ I6 q6;rw[eP,U,S,eE,eX]at S2;refine bh S2 λok s7 ⟨H7,I7,q7⟩=>?_;have P:∀{N:ae}{H9:Hp}{m':Nat}{zs:List (List Key×af)},Inv Y ([]++xn d s5.heap) (zV++σ) H9 N->m'<n->W (i+1) m' zs H9->∃m,m<n/\∃i V k l,l.length=nn.length/\Inv Y [] (l++σ) k N/\tn i N.heap/\(∀b∈d,k b=none)/\W i m V k:=λ{N H9 m' zs} I9 fz w9=>by
    have pin:∀b∈d,∀ob,s5.heap.get? b=some ob->N.heap.get? b=some ob/\H9 b=none:=λb hb ob e=>by
     have z:=I9.pin (b,ob) (ZV _ (ZV _ (B9 hb e)));exact⟨z.1,z.2.1⟩
    refine⟨m',fz,i+1,zs,H9,zV,yj,I9.dG,G.keep _ _ _ oq (λb hb ob e=>(pin b hb ob e).1),λb hb=>?_,w9⟩;obtain⟨ob,e,_⟩:=G.obj _ _ oq b hb;exact(pin b hb ob e).2
   cases ok with
   |true=>
    rw[Zn rfl]at q7;rw[Zn rfl];have S3:=eY _ s7 _ _ _ I7 q7;rw[eP,U,S,eE,eX]at S3;refine bh S3 λxv s8 ⟨v8,H8,I8,r8,bb,ks,ev,En,hSC,more⟩=>?_;subst ev;cases(show xv=Value.ref bb from r8);have S4:=qM6 (X:=Y) (s:=s8) (E:=Y.xe) (Q:=λ_ N=>∃L,Inv Y ([]++xn d s5.heap) (zV++σ) (upd H8 a.heap.objs.size (.ext (dO Y.prog Y.w a.heap.objs.size L))) N/\fi Y.prog Y.w (upd H8 a.heap.objs.size (.ext (dO Y.prog Y.w a.heap.objs.size L))) a.heap.objs.size L/\(∀x,x∈L.map (·.1)<->x=ks\/x∈V.map (·.1))/\L.length<=V.length+1)
     (by rw[S];exact un) I8 (by rw[eP,U];exact hSC) En MQ λs' L y1 y2 y3 y4=>⟨L,y1,y2,y3,y4⟩
    rw[eP,U,S,eX]at S4;refine bh S4 λ_ N ⟨L,I9,c9,hm9,hl9⟩=>?_;obtain⟨m',fz,w8⟩:=more L c9 hm9 hl9;exact P I9 fz w8
   |false=>
    rw[Zj ZA]at q7;rw[Zj ZA];obtain⟨m',fz,w8⟩:=q7;exact P I7 fz w8
 exact q62 (O _ rfl) (G.self _ 0 _ _ _ (G.keep 0 _ _ dz (λb hb o e=>keep b o (by rw[<- kT];exact Zd _ e))) (O _ rfl))
theorem xg6{nn:List ar}{e:au}{c:List au}{b:az}{a iter:au}{scope:ax}{B:TI}{g:TG}{E:TT}{te:TE}(T:Env->Sem Bool)(un:X.A.units+8<cLine)(hc:X.calm=true)(L:PI X e iter B)
  (Z:∀t i d,compTurn (.SetComp a [⟨e,iter,c,0⟩] scope b) 0 t i d=(standAt iter.pos >>= λ_=>pyNext t >>= λr=>match r with
   |none=>pure (.done .next)
   |some v=>letOwnedTupleGo e t v >>= λ_=>assign e d v >>= λ_=>T d >>= λok=>(if ok=true then(eval a d >>= λx=>standAt a.pos >>= λ_=>call (.builtin "set.add") [i,x] >>= λ_=>pure ())else pure ()) >>= λ_=>
     again (.compLoop (.SetComp a [⟨e,iter,c,0⟩] scope b) 0 t i d)))
  (W:∀j C l k m,PG (cG X scope j C nn l k m) e g)
  (Y:∀y (u f:St) H R,u.length=nn.length->g y (u++f) H R->g y (u++f) H λn V=>(∃A:St,A.length=nn.length/\n=A++f)/\R n V)
  (O:∀j C l k m (w:List (af×ay)) (s:ae) (f:St) (H:Hp) (Q:Bool->Hp->Prop),Inv (cG X scope j C nn l k m) w f H s->E f H Q->ah (ai X.prog X.w) X.A (T (compEnvC scope j C X.env)) (TP (cG X scope j C nn l k m) w f Q) (λ_ _=>False) s)
  (J:∀j C l k m,PE (cG X scope j C nn l k m) a te)
  (M:scope.kind=.function) (G:∀y∈scope.names,y.2≠.cell) (S:∀y∈scope.names,y.2=.local->scope.names.lookup y.1=some .local)
  (F:∀y∈X.N,scope.names.lookup y≠some .local) (hfr:∀p∈scope.names,p.2=.free->rg X.env.scope p.1/\X.env.scope.names.lookup p.1≠some .local)
  (hs:∀x,foldedSetIterable iter X.env x=pure x):PE X (.SetComp a [⟨e,iter,c,0⟩] scope b) (Li X.prog X.w nn.length B g E te):=by
 intro w s f H Q I h;show ah _ _ (comprehension (.SetComp a [⟨e,iter,c,0⟩] scope b) scope X.env (firstIterPos [⟨e,iter,c,0⟩] b) (newSet (.type "set")) false (eval iter X.env)) _ _ _;exact qX6 (use:=none) T hc L Z W Y O J M G S F hfr un hs I h λD C N s4 K _ U iv q=>⟨K,U,λP sb=>⟨.ref _,N,iv P sb,rfl,q⟩⟩
theorem xg7{x:ar}{n j:az}{f iter c:au}{scope:ax}{q:TI}{t:TT}{te:TE}(N:List ar)(m:ax)(un:X.A.units+8<cLine)(J:X.N=N)(O:X.env.scope=m)(hc:X.calm=true)(U:X.N.Nodup)(G:PI X (.Name x n) iter q)
  (B:∀e C d b g,PT (cG X scope e C [x] d b g) c t) (D:∀e C d b g,PE (cG X scope e C [x] d b g) f te)
  (K:scope.kind=.function:=by rfl) (A:scope.names.all (λy=>y.2 != .cell)=true:=by decide +kernel) (P:scope.names.all (λy=>y.2 != .local||scope.names.lookup y.1==some .local)=true:=by decide +kernel)
  (r:scope.names.lookup x=some .local:=by rfl) (w:N.all (λy=>scope.names.lookup y != some .local)=true:=by decide +kernel)
  (hfr:scope.names.all (λp=>p.2 != .free||(m.names.lookup p.1==some .cell||m.names.lookup p.1==some .free))=true:=by decide +kernel)
  (hs:∀x,foldedSetIterable iter X.env x=pure x:=by intro _;rfl):PE X (.SetComp f [⟨.Name x n,iter,[c],0⟩] scope j) (Li X.prog X.w 1 q (cb 0) t te):=by
 obtain⟨E,S,u,F⟩:=rO J O A P w hfr;refine xg6 (nn:=[x]) (λa=>isTrue c a (eval c a)) un hc G (λL k a=>q59 f _ iter c scope j L k a) (λe C d b g=>?_) (λy V v H R M h=>qA M h) (λe C d b g T s v H Q I h=>B e C d b g T s v H Q I h) D K E S u F hs;have l:(cG X scope e C [x] d b g).env.scope.names.lookup x=some .local:=ZY r;exact mq (i:=0) (Z3.mpr ⟨λz=>u x z r,U⟩) rfl (.inl l) (.inr l)
end
end L2
namespace L2
open PySem PySem.Spec PyProof.Rows PySem.W PySem.Builtin PySem.Builtin.ObjectAttr PySem.Builtin.Getset_descriptor
section
variable{K:Frag}{x C:af}
def ExcAt(x C:af)(h:ao):Prop:=∃a b,h.get? x=some a/\a.cls=.ref C/\a.data=.fields b/\b[2]?=some .none
theorem ExcAt.type{M:Model}{h:ao}(I:ExcAt x C h):Looks M h (typeOf (.ref x)) (.ref C):=by
 obtain⟨b,_,h1,h2,_⟩:=I;have z:=(Looks.ld (M:=M) (part:=none) h1).andThen (f:=λo=>pure o.cls) (Looks.now (a:=b.cls));rw[h2]at z;exact z
theorem xu2{a:aa}{R:Result->ae->Prop}(X:K.In s.heap)(I:ExcAt x C s.heap)(b:mroIn K C (.type "object")=some true)(h:R (.ok (.ret (.ref C))) s):
  codeAny (ai prog w) A (.call (.builtin "getset_descriptor.__get__") ⟨[.builtin "object.__class__",.ref x,a],[]⟩) R s:=by
 obtain⟨h1,g,d,f,e⟩:=s;have c:=I.type (M:=ai prog w);have i:=looks_mroIn (M:=ai prog w) X b;refine Vi KF.slot_gs.plain KF.entry_gs ?_;refine KF.slot_gs.check _ _ _ _ _ _ _ _ KF.type_class (KF.args_gs _ _ _) ?_;unfold Builtin.«getset_descriptor.__get__» descrGet;rw[dga_obj];refine Za (Zb ?_);unfold descrGetter descrCheckInstance descrNameAndClass isInstance;simp only[KF.owner_class]
 repeat lk
 refine⟨Code.quiet_builtin _ (by decide +kernel),Y7 KF.entry_class ?_⟩;unfold Builtin.«object.__class__» shownTypeOf
 repeat lk
 exact h
theorem q63{tk:Tok}{Q:Fin->ae->Prop}(X:K.In s.heap)(I:ExcAt x C s.heap)
  (i:findIn K (.ref C) "__class__"=some (some (.builtin "object.__class__"))) (e:specialIn K (.builtin "object.__class__") "__get__"=some (some (.builtin "getset_descriptor.__get__"))) (m:takesIn K (.builtin "object.__class__")=some true)
  (j:mroIn K C (.type "object")=some true) (hc:(clsIn K C).isSome=true) (h:Q (.done (.ret (.ref C))) s):ah (ai prog w) A (Builtin.«object.__getattribute__» ⟨[.ref x,.str "__class__" tk],[]⟩) Q E s:=by
 obtain⟨a,g,d,t,n⟩:=s;have L0:=I.type (M:=ai prog w);have k:Looks (ai prog w) a (Builtin.ObjectAttr.find (.ref x) (.ref C) "__class__") (Builtin.ObjectAttr.Found.bind (.builtin "getset_descriptor.__get__") (.builtin "object.__class__")):=by
  have b:=looks_findIn (M:=ai prog w) X i;have l:Looks (ai prog w) a (Builtin.ObjectAttr.getOf (some (.builtin "object.__class__"))) (some (.builtin "getset_descriptor.__get__")):=looks_specialIn X e;have c:=looks_takesIn (M:=ai prog w) X m;have f:Looks (ai prog w) a (Builtin.ObjectAttr.dataDescriptor? (some (.builtin "object.__class__")) (some (.builtin "getset_descriptor.__get__"))) (some (.builtin "getset_descriptor.__get__",.builtin "object.__class__")):=c.andThen .now;exact b.andThen (l.andThen (f.andThen (Looks.tag .now)))
 unfold Builtin.«object.__getattribute__»
 repeat (first|with_reducible refine L0.at ?_|with_reducible refine k.at ?_|wp_step)
 refine xu2 X I j ?_
 repeat (any_goals (first|assumption|wp_step))
theorem q64{M:Model}{b:aa}{P:Unit->ae->Prop}(X:K.In s.heap)(I:ExcAt x C s.heap)(hb:mroIn K C (.type "BaseException")=some true)(h:P () s):
  ah M A (checkBuiltinCall "BaseException.__getattribute__" ⟨[.ref x,b],[]⟩) P E s:=by
 have hk:builtinKind "BaseException.__getattribute__"=some .slot:=by decide +kernel
 have e:splitId "BaseException.__getattribute__"=some ("BaseException","__getattribute__"):=by decide +kernel
 have a:=F.args_bexc_ga (.ref x) b;obtain⟨f,g,d,t,i⟩:=s;have L0:=I.type (M:=M);have c:=looks_mroIn (M:=M) X hb;simp only[checkBuiltinCall,hk,e];refine Za ?_;unfold isInstance;refine Za (L0.at (c.at ?_))
 repeat (first|assumption|wp_step)
theorem xg8{tk:Tok}{R:Result->ae->Prop}(X:K.In s.heap)(I:ExcAt x C s.heap)
  (b:findIn K (.ref C) "__class__"=some (some (.builtin "object.__class__"))) (a:specialIn K (.builtin "object.__class__") "__get__"=some (some (.builtin "getset_descriptor.__get__"))) (d:takesIn K (.builtin "object.__class__")=some true)
  (c:mroIn K C (.type "object")=some true) (hb:mroIn K C (.type "BaseException")=some true) (hc:(clsIn K C).isSome=true) (h:R (.ok (.ret (.ref C))) s):
  codeAny (ai prog w) A (.call (.builtin "BaseException.__getattribute__") ⟨[.ref x,.str "__class__" tk],[]⟩) R s:=
 Vi F.excAttr_ValueError.ga.plain F.entry_bexc_ga (q64 X I hb (q63 X I b a d c hc h))
theorem q65{Q:Option aa->ae->Prop}(X:K.In s.heap)(I:ExcAt x C s.heap)(l:findIn K (.ref C) "__getattribute__"=some (some (.builtin "BaseException.__getattribute__")))(b:findIn K (.ref C) "__getattr__"=some none)
  (i:findIn K (.ref C) "__class__"=some (some (.builtin "object.__class__"))) (e:specialIn K (.builtin "object.__class__") "__get__"=some (some (.builtin "getset_descriptor.__get__"))) (n:takesIn K (.builtin "object.__class__")=some true)
  (k:mroIn K C (.type "object")=some true) (hb:mroIn K C (.type "BaseException")=some true) (hc:(clsIn K C).isSome=true) (h:Q (some (.ref C)) {s with toks:=s.toks+1}):
  ah (ai prog w) A (getAttr? (.ref x) "__class__") Q E s:=by
 have go:=λ(a:aq) (R:Result->ae->Prop) (tk:Tok)=>xg8 (prog:=prog) (w:=w) (A:=a) (R:=R) (s:={s with toks:=s.toks+1}) (tk:=tk) X I i e n k hb hc;obtain⟨p,g,d,t,r⟩:=s;have L0:=I.type (M:=ai prog w);have f:=looks_findIn (M:=ai prog w) X l;have j:=looks_findIn (M:=ai prog w) X b;have q:=F.excAttr_ValueError.ga.bind (.ref x);have c:(Value.builtin "BaseException.__getattribute__"== Value.builtin "object.__getattribute__")=false:=by decide +kernel
 have m:(onTheHeap (Value.ref C)&&Value.builtin "BaseException.__getattribute__"== Value.builtin "object.__getattribute__")=false:=by rw[c];rfl
 unfold getAttr? getAttrBy? getAttrBy;refine Za (wpAny_mkText (Za (XE (Yo (Za (L0.at (Za (f.at ?_))))))));dsimp only;rw[Zj (by rw[m];exact ZA)];unfold getAttrByItsOwn
 repeat (any_goals (first|assumption|with_reducible refine L0.at ?_|with_reducible refine j.at ?_|wp_step))
 refine go _ _ _ ?_
 repeat (any_goals (first|assumption|wp_step))
structure rq(K:Frag)(C:af):Prop where
 M3:findIn K (.ref C) "__getattribute__"=some (some (.builtin "BaseException.__getattribute__"))
 n9:findIn K (.ref C) "__getattr__"=some none
 ha:findIn K (.ref C) "__class__"=some (some (.builtin "object.__class__"))
 hn:specialIn K (.builtin "object.__class__") "__get__"=some (some (.builtin "getset_descriptor.__get__"))
 ny:takesIn K (.builtin "object.__class__")=some true
 hm:mroIn K C (.type "object")=some true
 hb:mroIn K C (.type "BaseException")=some true
 hc:(clsIn K C).isSome=true
theorem xg9(T:rq K C):KitX K (.ref x) (.ref C) (ExcAt x C) where
 ty:=λ_ _ _ I=>I.type
 it:=λ_ _ X _=>by
  have a:=T.hc;unfold clsIn at a;split at a
  ·rename_i m l b i c;intro r B u p j f;unfold isType loadHead;refine Za (wpAny_loadPart (j _ _ (X _ _ c)) ?_);exact Zb f
  ·cases a
 ne:=λh d t v n y X g=>by
  have a:=T.hc;refine ZX.mpr λq=>?_;have e:C=d:=Value.ref.inj (YT.mp q);subst e;unfold clsIn at a;split at a
  ·rename_i m l b i c;have z:=(X _ _ c).symm.trans g;cases z
  ·cases a
 ca:=λX I k=>q65 X I T.M3 T.n9 T.ha T.hn T.ny T.hm T.hb T.hc k
end
end L2
namespace L2
open PySem PySem.Spec PyProof.Rows PySem.W
section
variable{K:Frag}{h:ao}{C:af}{bmB:List aa}{newId:String}
theorem xF6(X:K.In h)(q:excIn K C bmB newId=true):∃n N nm I bs P sn a w b d T R Z y H i,
  h.get? C=some (excClassObj nm I C N bs n P sn a w b d T R Z y H newId)/\h.Ns N i/\i "__init__"=none/\OwnTail h bmB n:=by
 unfold excIn at q;split at q
 ·rename_i d S Q G;split at q
  ·rename_i C1 E m f g p B k e u;simp only[Vd,YT,Wm]at q;obtain⟨⟨⟨⟨⟨O,v⟩,r⟩,F⟩,c⟩,j⟩:=q;subst O v;obtain⟨s,t,a3,V,U,M,Y,W,x,A,L⟩:=S;dsimp only at e r c j;subst e r;obtain⟨l⟩:=Q;have D:l=[m,f,g,p,some (.builtin B),k]:=u;subst D;have J:=isNs_of_in X c;exact⟨E,V,s,U,t,M,Y,W,x,A,d,m,f,g,p,k,_,X _ _ G,.of_isNs J,nsMap_none_of_in X c j,tail_of_in X F⟩
  ·cases q
 ·cases q
end
abbrev N9:List aa:=[.type "ValueError",.type "Exception",.type "BaseException",.type "object"]
section
variable{X:Cx}{x:ar}{C:af}{E:XK}{uc:au}{rest:List au}{t:TA}{np dN pos:az}
def xF7(cls:aa)(E:XK)(t:TA):TS:=λ_ a H=>t a H λb c=>b.length<=sizeLine/\E cls none c
theorem xh0(i:Gl X x)(k:X.mg x=some (.ref C))(v:excIn X.K C N9 "ValueError.__new__"=true)(hc:X.calm=true)(J:Px X E)(K:PA X (uc::rest) t)(w:(x==("__debug__":ar))=false:=by decide)
  (b:starEach (uc::rest) X.env=(false,eval uc X.env)::starEach rest X.env:=by rfl) (p:(backTo dN (starEach rest X.env)).any (·.1)=false:=by rfl):
  PS X (.Raise (some (.Call (.Name x np) (uc::rest) [] dN)) none pos) (xF7 (.ref C) E t):=by
 intro d s f H D I h;obtain⟨bm,N,nm,l,bs,B,sn,sub,ab,col,dd,k0,k1,k2,k3,k5,mN,L,M,G,T⟩:=xF6 I.ok.mod.rV v;refine wpAny_Raise_call_subU (C:=C) (nm:=nm) (q:=l) (N:=N) (bs:=bs) (bm:=bm) (hdct:=B) (sn:=sn) (sub:=sub) (ab:=ab) (col:=col) (dd:=dd) (k0:=k0) (k1:=k1) (k2:=k2) (k3:=k3) (k5:=k5) (mN:=mN)
  F.excBase_ValueError 'b' F.excBase_ValueError (T.hasType F.excBase_ValueError.hasBase) (I.ok.hd hc) (by rw[b];show(false||(backTo dN (starEach rest X.env)).any (·.1))=false;rw[p];rfl) G (BO I i k ⟨rfl,?_⟩ w)
 have c:=K dN d s f H _ I h;rw[b]at c ⊢;refine Calls.evalArgs_plain (Z9 c (λP u ⟨O,m,a,r,g,A⟩=>?_) λ_ _ y=>y);exact⟨rfl,by rw[<- r.length];exact g,a.bk _ _ L,M.keeps a.bk,T.keeps a.bk,λn e j=>J d f m u n e _ _ a j A⟩
end
section
variable{X:Cx}{j8:List (af×ay)}{σ:St}{H:Hp}{s:ae}
def zG(X:Cx)(j8:List (af×ay))(E:XK):Cx:={X with
 pn:=X.pn++j8
 xe:=λe d=>∃(x:af)(cls:aa)(B:ao)(a:Hp)(c:St),e=.ref x/\Inv X j8 c a d/\Over B X.stack x cls .none d.heap /\
  (∀b o,X.aC.heap.get? b=some o->b∉dC X.stack->∃ob,B.get? b=some ob)/\(∀b o,a b=some o->∃ob,B.get? b=some ob)/\(∀p∈X.pn++j8,∃ob,B.get? p.1=some ob)/\a x=none/\E cls none a}
def Im(X:Cx)(x:af):Cx:={X with A:=X.A.mark (some (.ref x)),calm:=false,xe:=λ_ _=>False}
theorem Inv.AH(I:Inv X j8 σ H s)(E:XK):Inv (zG X j8 E) [] σ H s:=
 ⟨⟨I.ok.mod,I.ok.kind,I.ok.glob,I.ok.blt,I.ok.above,I.ok.inj,I.ok.has,I.ok.uh,I.ok.hd,I.ok.frames,I.ok.su,I.ok.Au,I.ok.bs,I.ok.oh,I.ok.ji,I.ok.lJ,I.ok.dW,I.ok.qX⟩,I.os,I.bare,I.base,I.loc,I.cell,I.free,I.cX,
  λp a=>I.pin p (by simpa[zG]using a),I.aS,I.len⟩
theorem Inv.g9{E:XK}{a:List (af×ay)}(I:Inv (zG X j8 E) a σ H s):Inv X j8 σ H s:=
 ⟨⟨I.ok.mod,I.ok.kind,I.ok.glob,I.ok.blt,I.ok.above,I.ok.inj,I.ok.has,I.ok.uh,I.ok.hd,I.ok.frames,I.ok.su,I.ok.Au,I.ok.bs,I.ok.oh,I.ok.ji,I.ok.lJ,I.ok.dW,I.ok.qX⟩,I.os,I.bare,I.base,I.loc,I.cell,I.free,I.cX,
  λp b=>I.pin p (Xf _ b),I.aS,I.len⟩
theorem Inv.Rg(I:Inv X j8 σ H s)(x:af):Inv (Im X x) j8 σ H s:=
 ⟨⟨I.ok.mod,I.ok.kind,I.ok.glob,I.ok.blt,I.ok.above,I.ok.inj,I.ok.has,I.ok.uh,λz=>Bool.noConfusion z,I.ok.frames,I.ok.su,I.ok.Au,I.ok.bs,I.ok.oh,I.ok.ji,I.ok.lJ,I.ok.dW,I.ok.qX⟩,I.os,I.bare,I.base,I.loc,I.cell,I.free,I.cX,I.pin,I.aS,I.len⟩
theorem Inv.HI{x:af}(hA:X.calm=true->X.A.handled=none)(I:Inv (Im X x) j8 σ H s):Inv X j8 σ H s:=
 ⟨⟨I.ok.mod,I.ok.kind,I.ok.glob,I.ok.blt,I.ok.above,I.ok.inj,I.ok.has,I.ok.uh,hA,I.ok.frames,I.ok.su,I.ok.Au,I.ok.bs,I.ok.oh,I.ok.ji,I.ok.lJ,I.ok.dW,I.ok.qX⟩,I.os,I.bare,I.base,I.loc,I.cell,I.free,I.cX,I.pin,I.aS,I.len⟩
theorem TL{E:XK}(k:X.ex=[]):uJ (jz X.prog X.w) (zG X j8 E) E:=by
 intro y σ H s e D I h;obtain⟨x,c,f,rfl,m,hb,⟨B,U,C,r,d,j,u⟩,A⟩:=h;have v:Inv (zG X j8 E) y σ f D:=I.vh m U C hb (λb z=>absurd z 'c');have a:∀b,b≠X.env.locals->b∉X.fs->b∉dC X.stack:=λb h1 h2 i=>by
  rcases Zz.mp (I.g9.eV b i)with z|z
  ·exact h1 z
  ·exact h2 z
 refine⟨x,c,B,f,σ,rfl,v.g9,r,λb o z hb=>?_,j,λp n=>?_,u,A⟩
 ·obtain⟨g,q⟩:=I.g9.base.there b o z (by rw[k];simp);exact d b g q hb
 ·obtain⟨t,_,w,l,_⟩:=I.g9.pin p n;exact d p.1 p.2 t (a p.1 w l)
theorem Inv.uB{B h2:ao}{tk:Nat}(I:Inv X j8 σ H s)(R:X.ex=[])(F1:B.StaysIn s.heap)(M:B.StaysIn h2)(A:s.heap.UpToSlots h2)
  (K:∀b o,X.aC.heap.get? b=some o->b∉dC X.stack->∃ob,B.get? b=some ob) (F:∀b o,H b=some o->∃ob,B.get? b=some ob) (W:∀p∈X.pn++j8,∃ob,B.get? p.1=some ob):Inv X j8 σ H {s with heap:=h2,toks:=tk}:=by
 have same:∀b ob o,B.get? b=some ob->s.heap.get? b=some o->h2.get? b=some o:=λb ob o E N=>by
  have G:=F1 b ob E;have g:=M b ob E;rw[N]at G;cases G;exact g
 have J:∀c v,s.heap.IsCell c v->h2.IsCell c v:=λc v ⟨o,e,d⟩=>by
  obtain⟨h,q⟩:=A c o e (λvs z=>by rw[d]at z;cases z);exact⟨_,q,d⟩
 have a:∀b∈dC X.stack,∀o,s.heap.get? b=some o->∃h,h2.get? b=some {o with slots:=h}:=λb hb o e=>by
  obtain⟨_,C,D,d⟩:=I.stack.mem hb;rw[e]at D;cases D;exact A b o e d
 have j:∀b,b∈X.fs->b∈dC X.stack:=λb hb=>by
  rcases I.ok.su with z|⟨z,_⟩
  ·rw[z];exact hb
  ·rw[z];show b∈(X.env::X.outer).filterMap (·.frame);rw[YD];split
   ·exact hb
   ·exact Zq _ hb
 have Y:∀b o,X.aC.heap.get? b=some o->b≠X.env.locals:=λb o e=>Zu (ZQ (Zo e) I.ok.above);have w:∀b o,X.aC.heap.get? b=some o->b∉X.fs->b∉dC X.stack:=λb o e h2 t=>by
  rcases Zz.mp (I.eV b t)with z|z
  ·exact Y b o e z
  ·exact h2 z
 have lA:∀b:af,b∉X.ex:=λb=>by rw[R];simp
 refine⟨I.ok,I.os,I.bare,⟨λb o e n hb f=>?_,λb o e n hb f=>?_,I.base.free,λb o e f=>?_,I.base.cg,I.base.gF,I.base.gL⟩,?_,λy c e=>?_,I.free,I.cX,λp L=>?_,λb o e=>?_,I.len⟩
 ·obtain⟨ob,z⟩:=K b o e (w b o e hb);exact same b ob o z (I.base.keep b o e n hb f)
 ·obtain⟨h,q⟩:=I.base.slot b o e n hb f;obtain⟨P,g⟩:=a b (j b hb) _ q;exact⟨P,g⟩
 ·obtain⟨C,q⟩:=I.base.there b o e f;by_cases hb:b∈dC X.stack
  ·obtain⟨h,g⟩:=a b hb C q;exact⟨_,g⟩
  ·obtain⟨ob,z⟩:=K b o e hb;exact⟨ob,M b ob z⟩
 ·obtain⟨m,T,hl⟩:=I.loc;refine⟨m,A.ns T,λi y v h1 h2 t=>?_⟩;obtain⟨u,r,l⟩:=hl i y v h1 h2 t;refine⟨u,r,?_⟩;rcases l with l|⟨k,c,e,z⟩
  ·exact .inl l
  ·exact .inr ⟨k,c,e,J c _ z⟩
 ·obtain⟨v,z⟩:=I.cell y c e;exact⟨v,J c v z⟩
 ·obtain⟨U,O,V,S,Q⟩:=I.pin p L;obtain⟨ob,z⟩:=W p L;exact⟨same p.1 ob p.2 z U,O,V,S,Q⟩
 ·refine(I.aS b o e).dv (λc u Z q=>?_) (λ_ q=>q) λ_ _ q=>q;rcases Z with z|z
  ·obtain⟨ob,x⟩:=F b o e;rw[z]at q ⊢;exact same b ob u x q
  ·obtain⟨ob,x⟩:=F c _ z;exact same c ob u x q
theorem Inv.yZ{x C:af}{B:ao}(I:Inv X j8 σ H s)(M:X.stack=X.env::X.outer)(hfr:X.env.frame=some X.env.locals)(a:H x=none)(P:Over B X.stack x (.ref C) .none s.heap)
  (N:∀b o,X.aC.heap.get? b=some o->b∉dC X.stack->∃ob,B.get? b=some ob) (U:∀p∈X.pn++j8,∃ob,B.get? p.1=some ob):Inv X j8 σ (upd H x (.ext (ExcAt x C))) s:=by
 obtain⟨fB,w,E,A,j,T,oT,Y,f,O,h,_,i,_⟩:=P;have t:x∉dC X.stack:=λK=>by
  obtain⟨_,o,e,d⟩:=E.mem K;rw[f]at e;cases e;exact d j h
 have V:X.env.locals≠x:=λz=>t (by
  rw[M];show x∈(X.env::X.outer).filterMap (·.frame);rw[YD,hfr,z];exact ZC)
 have J:∀b o,X.aC.heap.get? b=some o->b≠x:=λb o e z=>by
  subst z;obtain⟨ob,q⟩:=N b o e t;rw[w]at q;cases q
 refine⟨I.ok,I.os,I.bare,⟨I.base.keep,I.base.slot,λb o e n R=>?_,I.base.there,λb D e=>?_,λb o u e=>?_,λb L e=>?_⟩,I.loc,I.cell,?_,λy c e=>?_,λp r=>?_,λb o e=>?_,I.len⟩
 ·rw[bj (J b o e)];exact I.base.free b o e n R
 ·have z:=I.base.cg b D e;rw[bj (cK z a)];exact z
 ·have z:=I.base.gF b o u e;rw[bj (cK z a)];exact z
 ·obtain⟨m,z⟩:=I.base.gL b L e;exact⟨m,by rw[bj (cK z a)];exact z⟩
 ·rw[bj V];exact I.free
 ·rw[bj (λz=>?_)]
  ·exact I.cX y c e
  ·obtain⟨v,o,q,d⟩:=I.cell y c e;rw[z,f]at q;cases q;rw[h]at d;cases d
 ·obtain⟨Q,F,S⟩:=I.pin p r;obtain⟨ob,q⟩:=U p r;refine⟨Q,?_,S⟩;rw[bj (λz=>by rw[z,w]at q;cases q)];exact F
 ·by_cases hb:b=x
  ·subst hb;rw[aZ]at e;cases e;refine⟨⟨A,j,f,O,h,i⟩,⟨A,f⟩,λh1 h2 ⟨l,g,G,W⟩ k=>⟨l,g,k l G,W⟩⟩
  ·rw[bj hb]at e;exact(I.aS b o e).dv (λc u _ q=>q) (λc q=>by rw[bj (cK q a)];exact q) λc D q=>by rw[bj (cK q a)];exact q
end
section
variable{X:Cx}
def EL:V->Option aa
 |.ty n=>some (.type n)
 |.ref a=>some (.ref a)
 |_=>none
theorem xu3{c:V}{u b:aa}(r:RelV c u)(e:EL c=some b):u=b:=by
 cases c with
 |ty n=>cases e;exact r
 |ref a=>cases e;exact r
 |_=>cases e
def OS(K:Frag)(H:Hp)(x:V)(t:aa):Prop:=∃a C,x=.ref a/\H a=some (.ext (ExcAt a C))/\rq K C/\t=.ref C
inductive mQ(K_:PySem.W.Frag)(xs:List V)(H:Hp)(Q:VK):Prop
 |mk(x:_)(c:_)(t:_)(cv:_)(b:_)(aT:xs=[x,c])(eR:EL c=some cv)(dX:(gS K_ H x t\/OS K_ H x t))(aR:kitOne K_ t cv=some b)(dB:Q (.bl b) H)
theorem zy:gZ X (.builtin "isinstance") (mQ X.K):=by
 intro n s v H w l Q I r h;obtain⟨x,c,t,k,b,rfl,i,f,hk,q⟩:=h;obtain⟨u,m,rfl,d,g⟩:=Jh r;cases xu3 g i;rcases f with ty|⟨a,C,rfl,e,T,rfl⟩
 ·exact q22 I d ty hk λj=>⟨.bl b,H,I.tok _,rfl,q⟩
 ·cases(show u=Value.ref a from d);have p:ExcAt a C s.heap:=(I.aS a _ e).1;exact kia_one (xg9 T) I.g_ p hk (λz=>nomatch z) λj=>⟨.bl b,H,I.tok _,rfl,q⟩
theorem SY{d:List (af×ay)}{σ:St}{H:Hp}{s s':ae}{f:ay}{c:List af}(I:Inv X d σ H s)(mv:Moved c (λa b=>b=a) {s with heap:=s.heap.push f} s')(k:∀b o,s.heap.get? b=some o->b∈c->False):Inv X d σ H s':=by
 obtain⟨h',l,m,t',n⟩:=s';obtain⟨g,j,i,h,p⟩:=mv;cases(show l=s.gens from j);cases(show m=s.drawn from i);cases(show n=s.os from h);exact I.kept (h':=h') (t':=t') λb o e=>g b o (λz=>k b o e z) (Zd _ e)
inductive l5(xs:List V)(H:Hp)(Q:VK):Prop
 |mk(p:af)(bs:List Bool)(aT:xs=[.ref p])(eR:H p=some (.lst (bs.map V.bl)))(dX:Q (.bl (bs.all id)) H)
theorem Kj(hc:X.calm=true):gZ X (.builtin "all") l5:=by
 intro N s R H S L Q I r h;obtain⟨p,bs,rfl,F,q⟩:=h;obtain⟨u,rfl,E⟩:=iR r;cases E;obtain⟨z,c,n,w,t⟩:=I.aS p _ F;have l:s.heap.IsList p c.toArray:=⟨_,t,rfl,_,rfl⟩;have m:c.length=bs.length:=by have:=w.length;simpa using this.symm
 have y:p≠s.heap.objs.size:=Zu (Zo t);refine call_all_walk (Wg l ?_);refine⟨s.heap.objs.size,_,_,_,_,_,λi=>bs.getD i true,rfl,Walks.list (A:=X.A.in1) (I.ok.hd hc) s.heap.objs.size p y c.toArray,⟨⟨_,Zi _ rfl,rfl,rfl⟩,l.at λo e=>Zd _ e⟩,?_,?_⟩
 ·intro i v P O K G d;have g:c[i]?=some v:=by simpa using G
  have a:i<bs.length:=by rw[<- m];exact(cf g).1
  obtain⟨M,f,B⟩:=w.get (x:=V.bl (bs[i])) (i:=i) (by simp[a]);rw[g]at f;cases f;cases(show v=Value.bool bs[i]from B);have D:bs.getD i true=bs[i]:=by simp[List.getD,a]
  dsimp only at d;rw[D]at d;exact Yd d
 ·intro h' J k;refine⟨.bl (bs.all id),H,I.kept (h':=h') (t':=J) (λb o e=>k b o (λz=>?_) (Zd _ e)),?_,q⟩
  ·have:b=s.heap.objs.size:=by simpa using z
   exact Yn _ (by rw[this]at e;exact Zo e)
  ·have C:c.toArray.size=bs.length:=by simpa using m
   rw[C];show Value.bool _=Value.bool _;congr 1;rw[Ye,Xc,Xc];constructor
   ·intro z b hb;obtain⟨i,a,e⟩:=ZL.mp hb;have:=z i (ZR.mpr a);simpa[List.getD,a,e]using this
   ·intro z i a;have j:=ZR.mp a;have:=z bs[i] (Yx j);simpa[List.getD,j]using this
inductive lZ(xs:List V)(H:Hp)(Q:VK):Prop
 |mk(z:_)(n:_)(aT:xs=[.str z])(eR:PySem.intText? z=some n)(dX:z.length<=640)(aR:Q (.int n) H)
theorem SX:gZ X (.type "int") lZ:=by
 intro f s d H e c Q I r h;obtain⟨z,n,rfl,b,a,q⟩:=h;obtain⟨u,rfl,t,rfl⟩:=iR r;exact KIN.call_text b a ⟨.int n,H,I.tok _,⟨_,rfl⟩,q⟩
inductive l0(xs:List V)(H:Hp)(Q:VK):Prop
 |mk(p:af)(bs:List Bool)(aT:xs=[.ref p])(eR:H p=some (.lst (bs.map V.bl)))(dX:Q (.bl (bs.any id)) H)
theorem Ki(hc:X.calm=true):gZ X (.builtin "any") l0:=by
 intro N s R H S L Q I r h;obtain⟨p,bs,rfl,F,q⟩:=h;obtain⟨u,rfl,E⟩:=iR r;cases E;obtain⟨z,c,n,y,w⟩:=I.aS p _ F;have m:s.heap.IsList p c.toArray:=⟨_,w,rfl,_,rfl⟩;have t:c.length=bs.length:=by have:=y.length;simpa using this.symm
 have B:p≠s.heap.objs.size:=Zu (Zo w);refine call_any_walk (Wg m ?_);refine⟨s.heap.objs.size,_,_,_,_,_,λi=>bs.getD i true,rfl,Walks.list (A:=X.A.in1) (I.ok.hd hc) s.heap.objs.size p B c.toArray,⟨⟨_,Zi _ rfl,rfl,rfl⟩,m.at λo e=>Zd _ e⟩,?_,?_⟩
 ·intro i v P O K G f;have j:c[i]?=some v:=by simpa using G
  have a:i<bs.length:=by rw[<- t];exact(cf j).1
  obtain⟨M,g,d⟩:=y.get (x:=V.bl (bs[i])) (i:=i) (by simp[a]);rw[j]at g;cases g;cases(show v=Value.bool bs[i]from d);have D:bs.getD i true=bs[i]:=by simp[List.getD,a]
  dsimp only at f;rw[D]at f;exact Yd f
 ·intro h' J k;refine⟨.bl (bs.any id),H,I.kept (h':=h') (t':=J) (λb o e=>k b o (λz=>?_) (Zd _ e)),?_,q⟩
  ·have:b=s.heap.objs.size:=by simpa using z
   exact Yn _ (by rw[this]at e;exact Zo e)
  ·have C:c.toArray.size=bs.length:=by simpa using t
   rw[C];show Value.bool _=Value.bool _;congr 1;rw[Ye,ZW,ZW];constructor
   ·rintro⟨i,a,e⟩;have l:=ZR.mp a;refine⟨bs[i],Yx l,?_⟩;simpa[List.getD,l]using e
   ·rintro⟨b,hb,e⟩;obtain⟨i,a,d⟩:=ZL.mp hb;refine⟨i,ZR.mpr a,?_⟩;have:bs.getD i true=bs[i]:=by simp[List.getD,a]
    rw[this,d];exact e
def best(a:List Int):Nat->Int
 |0=>a.getD 0 0
 |k+1=>if a.getD (k+1) 0>best a k then a.getD (k+1) 0 else best a k
theorem Sl(a:List Int):∀k,a.getD (argBest (λi j=>decide (a.getD i 0>a.getD j 0)) k) 0=best a k/\argBest (λi j=>decide (a.getD i 0>a.getD j 0)) k<=k
 |0=>⟨rfl,Zg _⟩
 |k+1=>by
  obtain⟨h1,h2⟩:=Sl a k;unfold argBest best;rw[<- h1];by_cases b:a.getD (k+1) 0>a.getD (argBest (λi j=>decide (a.getD i 0>a.getD j 0)) k) 0
  ·rw[Zn (Zv b),Zn b];exact⟨rfl,Zg _⟩
  ·rw[Zj (by simpa using b),Zj b];exact⟨rfl,VT h2⟩
inductive lW(xs:List V)(H:Hp)(Q:VK):Prop
 |mk(p:af)(ns:List Int)(aT:xs=[.ref p])(eR:H p=some (.lst (ns.map V.int)))(dX:ns≠[])(aR:Q (.int (best ns (ns.length-1))) H)
theorem q67(hc:X.calm=true):gZ X (.builtin "max") lW:=by
 intro U s Z H xs S Q I r h;obtain⟨p,c,rfl,J,L,q⟩:=h;obtain⟨u,rfl,G⟩:=iR r;cases G;obtain⟨z,d,n,D,l⟩:=I.aS p _ J;have B:s.heap.IsList p d.toArray:=⟨_,l,rfl,_,rfl⟩;have C:d.length=c.length:=by have:=D.length;simpa using this.symm
 have E:p≠s.heap.objs.size:=Zu (Zo l);have w:d.toArray.size=c.length:=by simpa using C
 have k:0<c.length:=List.length_pos_iff.mpr L;have a:∀(i:Nat)(v:aa),d.toArray[i]?=some v->∃t,v=.int (c.getD i 0) t:=λi v g=>by
  have y:d[i]?=some v:=by simpa using g
  have f:i<c.length:=by rw[<- C];exact(cf y).1
  obtain⟨T,m,t,F⟩:=D.get (x:=V.int (c[i])) (i:=i) (by simp[f]);rw[y]at m;cases m;exact⟨t,by rw[F];simp[List.getD,f]⟩
 refine call_max_walkS (Wg B ?_);refine⟨s.heap.objs.size,_,_,_,_,_,_,λi j=>decide (c.getD i 0>c.getD j 0),rfl,(Walks.list (A:=X.A.in1) (I.ok.hd hc) s.heap.objs.size p E d.toArray).toS,⟨⟨_,Zi _ rfl,rfl,rfl⟩,B.at λo e=>Zd _ e⟩,?_,by rw[w];exact k,?_,?_⟩
 ·intro b hb;rw[Z4];rcases Zz.mp hb with rfl|hb
  ·exact Yb _
  ·have:b=p:=by simpa using hb
   subst this;exact Yl (Zo l)
 ·intro i j M P N Y R f O K;obtain⟨t,rfl⟩:=a i M f;obtain⟨W,rfl⟩:=a j P O;exact gt_int K
 ·intro v N g mv;rw[w]at g;obtain⟨t,rfl⟩:=a _ v g;rw[(Sl c (c.length-1)).1];refine⟨.int _,H,SY I mv (λb o e hb=>?_),⟨t,rfl⟩,q⟩;have:b=s.heap.objs.size:=by simpa using hb
  exact Yn _ (by rw[this]at e;exact Zo e)
theorem xP0{P:ag}{w:aj}{k:Key}{v:aa}(h:(gy P w).is k v=true):RelV (kV k) v:=by
 rcases rP (show xJ k v=true from h)with⟨i,t,rfl,rfl⟩|⟨x,t,rfl,rfl⟩
 ·exact⟨t,rfl⟩
 ·exact⟨t,rfl⟩
theorem Hv:∀{a:List V}{b:List aa},a.length=b.length->(∀(i:Nat) x v,a[i]?=some x->b[i]?=some v->RelV x v)->Vals a b
 |[],[],_,_=>.nil
 |[],_::_,h,_=>by simp at h
 |_::_,[],h,_=>by simp at h
 |x::a,u::b,h,f=>.cons (f 0 x u rfl rfl) (Hv (by simpa using h) λi y v d c=>f (i+1) y v (by simpa using d) (by simpa using c))
inductive jy(xs:List V)(H:Hp)(Q:VK):Prop
 |mk(d:af)(kvs:List (Key×V))(aT:xs=[.ref d])(eR:H d=some (.dK kvs))(dX:∀l,H l=none->Q (.ref l) (upd H l (.lst (kvs.map λkv=>kV kv.1))))
theorem qX8(hc:X.calm=true):gZ X (.type "list") jy:=by
 intro P s R H S N Q I r h;obtain⟨d,kvs,rfl,K,q⟩:=h;obtain⟨u,rfl,w⟩:=iR r;cases w;obtain⟨z,E,j,b,C⟩:=Jf I.aS K;obtain⟨ep,G⟩:=C.dictAt;have t:=b.length;refine kdl_call (kdl_dict (knd:=gy X.prog X.w) (kvs:=j) (ep:=ep) E) (I.ok.hd hc) G (by rw[<- t];exact z) λO M g c L F m=>?_;refine⟨.ref s.heap.objs.size,_,I.laid (a:=s.heap.objs.size) (o:=.lst (kvs.map λe=>kV e.1)) (t':=M) L (Zg _) ⟨by simpa using z,g.toList,c,?_,by simpa using F⟩,rfl,q _ I.fresh⟩;refine Hv (by simp[t,m.1]) λi x v p J=>?_;rw[Zf]at p;obtain⟨e,D,rfl⟩:=Zh.mp p;obtain⟨k,y,hk,f⟩:=m.2 i v (by simpa using J);have B:j[i]?=some (k,y):=hk;have A:e.1=k:=by
  have n:(kvs.map (·.1))[i]?=some e.1:=by rw[Zf,D];rfl
  have l:(j.map (·.1))[i]?=some k:=by rw[Zf,B];rfl
  rw[b.keys]at n;rw[n]at l;exact ZK l
 rw[A];exact xP0 f
inductive iG(xs:List V)(H:Hp)(Q:VK):Prop
 |mk(n:Int)(aT:xs=[.int n])(eR:∀r,H r=none->Q (.ref r) (upd H r (.uz 0 n)))
theorem qH9:gZ X (.type "range") iG:=by
 intro g s d H f c Q I r h;obtain⟨n,rfl,q⟩:=h;obtain⟨u,rfl,t,rfl⟩:=iR r;exact call_range_1 ⟨.ref s.heap.objs.size,_,I.laid (a:=s.heap.objs.size) (o:=.uz 0 n) (λb o e=>Zd _ e) (Zg _) ⟨_,_,_,Zi _ rfl⟩,rfl,q _ I.fresh⟩
inductive jx(xs:List V)(H:Hp)(Q:VK):Prop
 |mk(r:af)(n:Nat)(aT:xs=[.ref r])(eR:H r=some (.uz 0 (n:Int)))(dX:n<=1000000)(aR:∀l,H l=none->Q (.ref l) (upd H l (.lst ((List.range n).map λ(i:Nat)=>V.int (i:Int)))))
theorem qX9(hc:X.calm=true):gZ X (.type "list") jx:=by
 intro G s J H K D Q I B h;obtain⟨r,n,rfl,y,F,q⟩:=h;obtain⟨u,rfl,k⟩:=iR B;cases k;obtain⟨t,u,v,l⟩:=I.aS r _ y;refine call_list_range (a:=0) (b:=n) (c:=1) (n:=n) (I.ok.hd hc) l (small_one 'a' 'a' 'a' 'a') (by rw[rangeSize_one];split<;>lia) 'a' λE C d c p w f=>?_;refine⟨.ref s.heap.objs.size,_,I.laid (a:=s.heap.objs.size) (o:=.lst ((List.range n).map λ(i:Nat)=>V.int (i:Int))) (t':=C) p (Zg _) ⟨?_,d.toList,c,?_,by simpa using w⟩,rfl,q _ I.fresh⟩
 ·rw[Ze,Yk,Xu];lia
 ·refine Hv (by simp[f.1]) λi x v g m=>?_;rw[Zf]at g;obtain⟨j,A,rfl⟩:=Zh.mp g;have e:j=i:=by
   obtain⟨_,e⟩:=cf A;simpa using e.symm
  subst e;obtain⟨t',rfl⟩:=f.2 j v (by simpa using m);exact⟨t',by simp⟩
end
namespace iE
theorem noFill:fillsNumberSlot (.type "tuple") "mul"=pure false:=
 PySem.fillsNumberSlot_seq (id:= "tuple.__mul__") (r:=some (.builtin "tuple.__rmul__")) F.slot_tuple_mul.lookup (by decide +kernel) F.slot_tuple_rmul.lookup (by decide +kernel)
theorem rep:seqRepeat? (.type "tuple")=pure (some (.builtin "tuple.__mul__")):=by
 unfold seqRepeat?
 rw[PySem.seqSlot_of (T:= "tuple") (name:= "__mul__") (id:= "tuple.__mul__") F.slot_tuple_mul.lookup (by decide +kernel),PySem.seqSlot_of (T:= "tuple") (name:= "__rmul__") (id:= "tuple.__rmul__") F.slot_tuple_rmul.lookup (by decide +kernel)]
 rfl
theorem declines(a:Int)(t:Tok)(l:af)(items:Array aa)(n:Nat)(c:Option af)(e:Array (Option aa)):
  Meets (Builtin.«int.__rmul__» ⟨[.int a t,.ref l],[]⟩) (λ_ R s=>s.heap.get? l=some {cls:=.type "tuple",dict:=c,data:=.seq items n,slots:=e}/\R (.ok (.ret Value.notImplemented)) s):=
 .of_wp λb w A R s h=>by
  obtain⟨f,g,d,j,k⟩:=s;obtain⟨i,h⟩:=h
  wp_walk
  exact⟨_,rfl,h⟩
theorem mul(k:Int)(t:Tok)(l:af)(items:Array aa)(n:Nat)(q:Option af)(v:Array (Option aa))(h1:1<k)(h2:k<=1000)(hs:items.size=1):
  Meets (Builtin.«tuple.__mul__» ⟨[.ref l,.int k t],[]⟩) (λ_ R s=>s.heap.get? l=some {cls:=.type "tuple",dict:=q,data:=.seq items n,slots:=v} /\
   R (.ok (.ret (.ref s.heap.objs.size))) {s with heap:=s.heap.push {cls:=.type "tuple",data:=.seq ((List.replicate k.toNat items).foldl (·++·) #[])}}):=
 .of_wp λb w A R s h=>by
  obtain⟨C,g,d,D,B⟩:=s;obtain⟨E,h⟩:=h;have e:(decide (k < -2^63)||decide (k>=2^63))=false:=by simp;lia
  have c:items.isEmpty=false:=by
   cases he:items.isEmpty with
   |false=>rfl
   |true=>rw[Array.isEmpty_iff.mp he]at hs;cases hs
  have i:(items.isEmpty||k==1)=false:=by rw[c];simp;lia
  have j:(decide (k<=0)||items.isEmpty)=false:=by rw[c];simp;lia
  have y:¬((items.size:Int)*k>(2^63-1)/8):=by rw[hs];lia
  have p:Builtin.Tuple.tupleTooMany ((items.size:Int)*k)=false:=by
   rw[hs];show decide (((1:Nat):Int)*k>(sizeLine:Int))=false;rw[Xu];exact ZM 'a'
  wp_walk
  refine ZU (λz=>by rw[e]at z;cases z) λ_=>?_
  wp_walk
  refine ZU (λz=>by rw[i]at z;cases z) λ_=>?_;refine ZU (λz=>by rw[j]at z;cases z) λ_=>?_;refine ZU (λz=>absurd z y) λ_=>?_;refine ZU (λz=>by rw[p]at z;cases z) λ_=>?_
  wp_walk
  refine ZU (λz=>absurd z ?_) λ_=>?_
  ·have f:∀(m:Nat)(a:Array aa),(List.foldl (λu x=>u++x) a (List.replicate m items)).size=a.size+m:=λm=>by
    induction m with
    |zero=>intro a;rfl
    |succ m r=>
     intro a;rw[XN,Xk,r,Array.size_append,hs];exact qu
   rw[f,Xu];simp;lia
  wp_walk
  exact⟨_,rfl,h⟩
end iE
section
variable{X:Cx}
theorem xu4:fj X (binaryOp .Mult) (λx y H Q=>∃(l:af)(k:Int)(v:V),x=.ref l/\y=.int k/\H l=some (.tup [v])/\1<k/\k<=1000/\∀p,H p=none->Q (.ref p) (upd H p (.tup (List.replicate k.toNat v)))):=by
 intro Y s Z H x y v u Q I O R h;obtain⟨l,k,G,rfl,rfl,M,h1,h2,q⟩:=h;cases O;obtain⟨t,rfl⟩:=R;obtain⟨_,N,r,o,g,B,⟨n,W⟩,w⟩:=I.aS l _ M;obtain⟨K,E,C,D⟩:=o
 replace B:K=.type "tuple":=B
 replace w:C=.seq N.toArray n:=w
 subst B w;cases r with
 |cons L P=>
  cases P;rename_i d;have J:List.foldl (λj A=>j++A) #[] (List.replicate k.toNat #[d])=(List.replicate k.toNat d).toArray:=by
   have f:∀(m:Nat)(c:List aa),List.foldl (λj A=>j++A) c.toArray (List.replicate m #[d])=(c++List.replicate m d).toArray:=λm=>by
    induction m with
    |zero=>intro c;simp
    |succ m i=>
     intro c;rw[XN,Xk,show c.toArray++#[d]=(c++[d]).toArray by simp,i];simp[XN]
   have:=f k.toNat [];simpa using this
  refine wpAny_binaryOp_repeat_ref (T:= "tuple") (U:= "int") 'b' ⟨_,g,rfl⟩ (λS=>typeIs_int S k t) iE.noFill F.fills_int_mul F.slot_int_rmul iE.rep F.slot_int_index.lookup
   (call_meets F.slot_int_rmul (typeIs_int s k t) F.entry_int_rmul (F.args_int_rmul_2 _ _) (iE.declines k t l _ n E D)
    ⟨g,rfl,⟨_,g,rfl⟩,call_meets F.slot_tuple_mul ⟨_,g,rfl⟩ F.entry_tuple_mul (F.args_tuple_mul_2 _ _) (iE.mul k t l _ n E D h1 h2 rfl) ⟨g,?_⟩⟩)
  rw[J];refine⟨.ref _,_,I.laid (a:=s.heap.objs.size) (o:=.tup (List.replicate k.toNat G)) (t':=s.toks) (λb o e=>Zd _ e) (Zg _) ⟨?_,List.replicate k.toNat d,?_,_,Zi _ rfl,rfl,⟨_,rfl⟩,rfl⟩,rfl,q _ I.fresh⟩
  ·rw[W7,Xu];lia
  ·generalize k.toNat=m
   induction m with
   |zero=>exact .nil
   |succ m i=>exact .cons L i
end
end L2
namespace Qf
abbrev Row:=List Nat
def mx:List Nat->Nat
 |[]=>0
 |a::l=>max a (mx l)
theorem Cw{x:Nat}:∀{l:List Nat},x∈l->x<=mx l
 |a::l,h=>by
  rcases Zz.mp h with rfl|h
  ·exact Nat.le_max_left _ _
  ·exact ZD (Cw h) (Nat.le_max_right _ _)
theorem QA{b:Nat}:∀{l:List Nat},(∀x∈l,x<=b)->mx l<=b
 |[],_=>Zs _
 |a::l,h=>Nat.max_le.mpr ⟨h a ZC,QA λx c=>h x (Zq _ c)⟩
theorem Lb{f g:Nat->Nat}{l:List Nat}(h:∀x∈l,f x=g x):mx (l.map f)=mx (l.map g):=by
 rw[YF h]
def Qz(p:Nat)(r:Row):Prop:=r.length=4/\∀x∈r,x<p+2
def dY(rows:List Row):Prop:=∀p r,rows[p]?=some r->Qz p r
def xu5(a:List Nat)(r:Row):List Nat:=a++[1+mx (r.map (a.getD · 0))]
def gR(rows:List Row):List Nat:=rows.foldl xu5 [0,0]
def dp(rows:List Row)(x:Nat):Nat:=(gR rows).getD x 0
theorem Gg(rows:List Row)(r:Row):gR (rows++[r])=gR rows++[1+mx (r.map (dp rows))]:=by
 unfold gR dp gR;rw[List.foldl_append]
 rfl
theorem Sk{P:List Row->Prop}(h0:P [])(h1:∀l a,P l->P (l++[a]))(l:List Row):P l:=by
 have:∀m:List Row,P m.reverse:=λm=>by
  induction m with
  |nil=>exact h0
  |cons a m b=>rw[List.reverse_cons];exact h1 _ _ b
 have h:=this l.reverse
 rwa [List.reverse_reverse]at h
theorem BU(rows:List Row):(gR rows).length=rows.length+2:=by
 induction rows using Sk with
 |h0=>rfl
 |h1 l a b=>rw[Gg,Zl,b,Zl];simp
theorem qY0{rows:List Row}{r:Row}{x:Nat}(h:x<rows.length+2):dp (rows++[r]) x=dp rows x:=by
 unfold dp;rw[Gg,Zt,Zt,Zp (by rw[BU];exact h)]
theorem qY1{rows:List Row}{r:Row}:dp (rows++[r]) (rows.length+2)=1+mx (r.map (dp rows)):=by
 unfold dp;rw[Gg,Zt,Zx (by rw[BU];exact Zg _),BU];simp only[Vv,List.getElem?_cons_zero,Option.getD_some]
 rfl
theorem KD{rows more:List Row}{x:Nat}(h:x<rows.length+2):dp (rows++more) x=dp rows x:=by
 induction more using Sk with
 |h0=>simp
 |h1 l a b=>
  rw[<- ZG,qY0 (by simp;lia),b]
theorem zP{rows:List Row}{x:Nat}(h:x<2):dp rows x=0:=by
 have:=KD (rows:=[]) (more:=rows) (x:=x) (by simpa using h);rw[List.nil_append]at this;rw[this]
 match x,h with
 |0,_=>rfl
 |1,_=>rfl
theorem q69{rows:List Row}{p:Nat}{r:Row}(a:rows[p]?=some r):rows=rows.take p++[r]++rows.drop (p+1):=by
 have c:=(cf a).1;have b:=(cf a).2;rw[<- b,XF c,YG]
theorem pO{rows:List Row}(ok:dY rows){p:Nat}{r:Row}(a:rows[p]?=some r):dp rows (p+2)=1+mx (r.map (dp rows)):=by
 have c:=(cf a).1;have b:(rows.take p).length=p:=by simp;exact Jn c
 have e:=q69 a;have h1:dp rows (p+2)=dp (rows.take p++[r]) (p+2):=by
  have:=KD (rows:=rows.take p++[r]) (more:=rows.drop (p+1)) (x:=p+2) (by simp;lia);rw[<- e]at this;exact this
 have h2:=qY1 (rows:=rows.take p) (r:=r);rw[b]at h2;rw[h1,h2];congr 1;refine Lb λx f=>?_;have d:=(ok p r a).2 x f;have:=KD (rows:=rows.take p) (more:=[r]++rows.drop (p+1)) (x:=x) (by rw[b];exact d);rw[<- ZG,<- e]at this;exact this.symm
def cA(rows:List Row):Nat->List Nat->Nat->List Nat
 |0,e,_=>e
 |d+1,e,x=>if x<2\/x-2∈e then e else(rows.getD (x-2) []).foldl (cA rows d) e++[x-2]
theorem Gf{f:List Nat->Nat->List Nat}(h:∀e x,∃s,f e x=e++s):∀(l:List Nat)(e:List Nat),∃s,l.foldl f e=e++s
 |[],e=>⟨[],by simp⟩
 |a::l,e=>by
  obtain⟨s,d⟩:=h e a;obtain⟨c,b⟩:=Gf h l (f e a);exact⟨s++c,by rw[Xk,b,d,ZG]⟩
theorem Hu(rows:List Row):∀(d:Nat)(e:List Nat)(x:Nat),∃s,cA rows d e x=e++s
 |0,e,x=>⟨[],by simp[cA]⟩
 |d+1,e,x=>by
  unfold cA;split
  ·exact⟨[],by simp⟩
  ·obtain⟨s,a⟩:=Gf (Hu rows d) (rows.getD (x-2) []) e;exact⟨s++[x-2],by rw[a,ZG]⟩
structure eD(rows:List Row)(e:List Nat):Prop where
 nd:e.Nodup
 lt:∀p∈e,p<rows.length
 ch:∀(i p:Nat),e[i]?=some p->∀q∈rows.getD p [],q<2\/∃j:Nat,j<i/\e[j]?=some (q-2)
theorem xB(rows:List Row):eD rows []:=⟨XQ,λp a=>(nomatch a),λi p h=>by simp at h⟩
theorem TK{e s:List Nat}{j a:Nat}(h:e[j]?=some a):(e++s)[j]?=some a:=by
 have:=(cf h).1;rw[Zp this];exact h
theorem rN{rows:List Row}(ok:dY rows):∀(d:Nat)(e:List Nat)(x:Nat),eD rows e->x<rows.length+2->dp rows x<=d->eD rows (cA rows d e x)/\(x<2\/x-2∈cA rows d e x)
 |0,e,x,B,r,I=>by
  refine⟨B,?_⟩;by_cases h:x<2
  ·exact .inl h
  ·exfalso;obtain⟨p,rfl⟩:∃p,x=p+2:=⟨x-2,xX h⟩;have C:rows[p]?=some (rows[p]'(qw r)):=by simp[show p<rows.length from qw r]
   rw[pO ok C]at I;lia
 |d+1,e,x,B,r,I=>by
  unfold cA;split
  ·rename_i h;exact⟨B,h⟩
  ·rename_i h;obtain⟨h1,h2⟩:=not_or.mp h;obtain⟨p,rfl⟩:∃p,x=p+2:=⟨x-2,by lia⟩;rw[WP]at h2 ⊢;have R:p<rows.length:=by exact qw r
   have C:rows[p]?=some rows[p]:=by simp[R]
   have O:rows.getD p []=rows[p]:=by simp[List.getD,R]
   rw[O];have Am:=pO ok C;have rk:=ok p _ C;have key:∀(l:List Nat)(f:List Nat),(∀q∈l,q<p+2/\dp rows q<=d)->eD rows f->eD rows (l.foldl (cA rows d) f)/\(∀q∈l,q<2\/q-2∈l.foldl (cA rows d) f)/\(∀a∈l.foldl (cA rows d) f,a∈f\/a<p):=λl=>by
    induction l with
    |nil=>exact λf _ D=>⟨D,λq g=>(nomatch g),λa c=>.inl c⟩
    |cons q l ih=>
     intro f T D;obtain⟨Q,G⟩:=T q ZC;obtain⟨p1,m1⟩:=rN ok d f q D (md Q r) G;obtain⟨p2,X,n2⟩:=ih (cA rows d f q) (λw k=>T w (Zq _ k)) p1;obtain⟨s,hs⟩:=Gf (Hu rows d) l (cA rows d f q);refine⟨p2,λw k=>?_,λa c=>?_⟩
     ·rcases Zz.mp k with rfl|k
      ·rcases m1 with z|z
       ·exact .inl z
       ·rw[Xk,hs];exact .inr (Xf _ z)
      ·exact X w k
     ·rcases n2 a c with z|z
      ·
       have m:∀(v:Nat)(A:List Nat)(y:Nat),y<rows.length+2->∀a∈cA rows v A y,a∈A\/a+2<=y:=λv=>by
        induction v with
        |zero=>exact λA y _ a c=>.inl c
        |succ v F=>
         intro A y hy a c;unfold cA at c;split at c
         ·exact .inl c
         ·rename_i W;obtain⟨Y,hh2⟩:=not_or.mp W;rcases YQ.mp c with c|c
          ·have M:y-2<rows.length:=by lia
           have H:rows.getD (y-2) []=rows[y-2]:=by simp[List.getD,M]
           rw[H]at c;have K:=ok (y-2) rows[y-2] (by simp[M]);have kk:∀(u:List Nat)(t:List Nat),(∀q∈u,q<y-2+2)->∀a∈u.foldl (cA rows v) t,a∈t\/a+2<=y:=λu=>by
            induction u with
            |nil=>exact λt _ a c=>.inl c
            |cons S u V=>
             intro t N a c;rcases V _ (λw k=>N w (Zq _ k)) a c with z|z
             ·have G:=N S ZC;rcases F t S (qp M G) a z with z|z
              ·exact .inl z
              ·exact .inr 'a'
             ·exact .inr z
           exact kk _ _ K.2 a c
          ·have:a=y-2:=by simpa using c
           exact .inr 'a'
       rcases m d f q (md Q r) a z with z|z
       ·exact .inl z
       ·exact .inr 'a'
      ·exact .inr z
   obtain⟨J,k2,Z⟩:=key rows[p] e (λq g=>⟨rk.2 q g,by
    have:dp rows q<=mx (rows[p].map (dp rows)):=Cw (ZF.mpr ⟨q,g,rfl⟩);exact Jk Am this I⟩) B
   refine⟨⟨?_,?_,?_⟩,.inr (ZV _ 'c')⟩
   ·rw[XB];refine⟨J.nd,by simp,λa c b hb=>?_⟩;have:b=p:=by simpa using hb
    subst this;intro z;subst z;rcases Z a c with z|z
    ·exact h2 z
    ·exact Yn _ z
   ·intro a c;rcases YQ.mp c with c|c
    ·exact J.lt a c
    ·have:a=p:=by simpa using c
     lia
   ·intro i a n q g;by_cases P:i<(rows[p].foldl (cA rows d) e).length
    ·rw[Zp P]at n;rcases J.ch i a n q g with z|⟨j,L,E⟩
     ·exact .inl z
     ·exact .inr ⟨j,L,TK E⟩
    ·rw[Zx (u7 P)]at n;have U:i-(rows[p].foldl (cA rows d) e).length=0:=by
      have:=(cf n).1;simp at this;exact this
     rw[U]at n;have:a=p:=by simpa using n.symm
     subst this;rw[O]at g;rcases k2 q g with z|z
     ·exact .inl z
     ·obtain⟨j,L,E⟩:=ZL.mp z;exact .inr ⟨j,by lia,TK (by simp[L,E])⟩
theorem cR{c:Type}{l:List c}:l.Nodup<->∀i j:Nat,i<j->j<l.length->l[i]?≠l[j]?:=by
 unfold List.Nodup;rw[VM];constructor
 ·intro h i j b a z;rw[Zc (md b a),Zc a]at z;exact h i j (md b a) a b (ZK z)
 ·intro h i j d a b z;refine h i j b a ?_;rw[Zc d,Zc a,z]
def nm(E:List Nat)(q:Nat):Nat:=if q<2 then q else E.idxOf (q-2)+2
theorem nc{E:List Nat}{q:Nat}(h:q<2):nm E q=q:=Zn h
theorem nQ{E:List Nat}{q:Nat}(h:¬q<2):nm E q=E.idxOf (q-2)+2:=Zj h
def sd(E:List Nat)(q:Nat):Prop:=q<2\/q-2∈E
theorem Pt{E:List Nat}(nd:E.Nodup){i a:Nat}(h:E[i]?=some a):E.idxOf a=i:=by
 obtain⟨c,b⟩:=cf h;rw[<- b];exact nd.idxOf_getElem _ _
theorem zO{E:List Nat}{a:Nat}(h:a∈E):E[E.idxOf a]?=some a:=by
 have b:=Wn h;rw[Zc b];congr 1;exact List.getElem_idxOf b
theorem xG0{E:List Nat}{q r:Nat}(d:sd E q)(c:sd E r)(h:nm E q=nm E r):q=r:=by
 by_cases h1:q<2
 ·rw[nc h1]at h;by_cases h2:r<2
  ·rwa [nc h2]at h
  ·rw[nQ h2]at h;lia
 ·rw[nQ h1]at h;by_cases h2:r<2
  ·rw[nc h2]at h;exact QW h2 h
  ·rw[nQ h2]at h;have a:=zO (d.resolve_left h1);have b:=zO (c.resolve_left h2);have e:E.idxOf (q-2)=E.idxOf (r-2):=by exact Q4 h
   rw[e,b]at a;have:=ZK a;lia
def told(rows:List Row)(E:List Nat):List Row:=E.map λp=>(rows.getD p []).map (nm E)
theorem rM(rows:List Row)(E:List Nat):(told rows E).length=E.length:=by simp[told]
theorem xx{rows:List Row}{E:List Nat}{i p:Nat}(h:E[i]?=some p):(told rows E)[i]?=some ((rows.getD p []).map (nm E)):=by
 unfold told;rw[Zf,h];rfl
theorem Cn{rows:List Row}{E:List Nat}(b:eD rows E){i p:Nat}(h:E[i]?=some p){q:Nat}(c:q∈rows.getD p []):sd E q/\nm E q<i+2:=by
 rcases b.ch i p h q c with z|⟨j,d,a⟩
 ·exact⟨.inl z,by rw[nc z];exact Jo z⟩
 ·have e:q-2∈E:=Zm a;refine⟨.inr e,?_⟩;by_cases z:q<2
  ·rw[nc z];exact Jo z
  ·rw[nQ z,Pt b.nd a];exact qv d
theorem nh{rows:List Row}{p:Nat}(h:p<rows.length):rows[p]?=some (rows.getD p []):=by
 simp[List.getD,h]
theorem K3{rows:List Row}(ok:dY rows){E:List Nat}(d:eD rows E):dY (told rows E):=by
 intro i r a;have c:i<E.length:=by
  have:=(cf a).1
  rwa [rM]at this
 have b:E[i]?=some E[i]:=Zc c;rw[xx b]at a;have g:=ZK a;subst g;have e:=d.lt _ (Yx c);refine⟨?_,λx h=>?_⟩
 ·rw[Ze];exact(ok _ _ (nh e)).1
 ·obtain⟨q,f,rfl⟩:=ZF.mp h;exact(Cn d b f).2
theorem qY2{rows:List Row}{E:List Nat}(d:eD rows E)(nd:rows.Nodup):(told rows E).Nodup:=by
 rw[cR];intro i j r f;rw[rM]at f;have p:i<E.length:=by exact md r f
 have g:E[i]?=some E[i]:=Zc p;have k:E[j]?=some E[j]:=Zc f;rw[xx g,xx k];intro z;have z:=ZK z;have key:∀l m:List Nat,(∀q∈l,sd E q)->(∀q∈m,sd E q)->l.map (nm E)=m.map (nm E)->l=m:=λl=>by
  induction l with
  |nil=>intro m _ _ h;cases m with
   |nil=>rfl
   |cons b m=>simp at h
  |cons a l x=>intro m h1 h2 h;cases m with
   |nil=>simp at h
   |cons b m=>
    rw[Zw,Zw]at h;injection h with h3 h4
    rw[xG0 (h1 a ZC) (h2 b ZC) h3,x m (λq c=>h1 q (Zq _ c)) (λq c=>h2 q (Zq _ c)) h4]
 have e:=key _ _ (λq c=>(Cn d g c).1) (λq c=>(Cn d k c).1) z;have t:=d.lt _ (Yx p);have u:=d.lt _ (Yx f);have n:=nh t;have v:=nh u;rw[e,<- v]at n;have:E[i]=E[j]:=by
  by_cases s:E[i]=E[j]
  ·exact s
  ·exfalso;rcases Nat.lt_or_gt_of_ne s with w|w
   ·exact(cR.mp nd) _ _ w u n
   ·exact(cR.mp nd) _ _ w t n.symm
 have:=(cR.mp d.nd) i j r f;rw[g,k]at this;exact this (by rw[‹E[i]=E[j]›])
def nJ(r:Row):Prop:=r=[0,0,0,0]\/r=[1,1,1,1]
instance(r:Row):Decidable (nJ r):=by unfold nJ;infer_instance
theorem K2{f:Nat->Nat}{c:Nat}(h:∀q,f q=c->q=c):∀{l:List Nat}{k:Nat},l.map f=List.replicate k c->l=List.replicate k c
 |[],0,_=>rfl
 |[],k+1,z=>by simp[List.replicate]at z
 |a::l,0,z=>by simp at z
 |a::l,k+1,z=>by
  rw[Zw,XN]at z;injection z with z1 z2
  rw[h a z1,K2 h z2,XN]
theorem Sj{E:List Nat}{c:Nat}(hc:c<2)(q:Nat)(h:nm E q=c):q=c:=by
 by_cases z:q<2
 ·rwa [nc z]at h
 ·rw[nQ z]at h;exact QW hc h
theorem qI1{rows:List Row}{E:List Nat}(e:eD rows E)(a:∀r∈rows,¬nJ r):∀r∈told rows E,¬nJ r:=by
 intro r d;obtain⟨p,c,rfl⟩:=ZF.mp d;have b:rows.getD p []∈rows:=Zm (nh (e.lt p c));intro z;rcases z with z|z
 ·exact a _ b (.inl (K2 (k:=4) (Sj 'b') z))
 ·exact a _ b (.inr (K2 (k:=4) (Sj 'b') z))
theorem xu6{rows:List Row}(ok:dY rows){E:List Nat}(a:eD rows E):∀q,sd E q->dp (told rows E) (nm E q)=dp rows q:=by
 intro q
 induction q using Nat.strongRecOn with
 |ind q g=>
  intro h;by_cases z:q<2
  ·rw[nc z,zP z,zP z]
  ·have d:=h.resolve_left z;have b:=a.lt _ d;have e:=zO d;rw[nQ z,pO (K3 ok a) (xx e)];have i:dp rows q=1+mx ((rows.getD (q-2) []).map (dp rows)):=by
    have:=pO ok (nh b)
    rwa [show q-2+2=q from nX z]at this
   rw[i,Ym];congr 1;refine Lb λx c=>?_;have f:=(ok _ _ (nh b)).2 x c;exact g x (nW f z) (Cn a e c).1
theorem Si{rows:List Row}(ok:dY rows){E:List Nat}(k:eD rows E):∀(d:Nat)(e:List Nat)(y:Nat),cA rows d e y <+: E->cA (told rows E) d (List.range e.length) (nm E y)=List.range (cA rows d e y).length
 |0,e,y,_=>rfl
 |d+1,e,y,f=>by
  have m:e <+: E:=by
   obtain⟨s,b⟩:=Hu rows (d+1) e y;rw[b]at f;exact Vr (VD _ _) f
  have n:∀{a:Nat},a∈E->(a∈e<->E.idxOf a<e.length):=λ{a} w=>by
   obtain⟨s,b⟩:=m;constructor
   ·intro j;rw[<- b,VU,Zn j];exact Wn j
   ·intro v;have:=zO w;rw[<- b,Zp (by rw[b];exact v)]at this;exact Zm this
  unfold cA at f ⊢;by_cases h:y<2\/y-2∈e
  ·rw[Zn h,Zn];rcases h with h|h
   ·exact .inl (by rw[nc h];exact h)
   ·by_cases z:y<2
    ·exact .inl (by rw[nc z];exact z)
    ·right;rw[nQ z,WP,ZR];exact(n (m.subset h)).mp h
  ·rw[Zj h]at f ⊢;obtain⟨h1,h2⟩:=not_or.mp h;have p:y-2∈E:=f.subset 'c';rw[nQ h1,WP];have u:¬(E.idxOf (y-2)+2<2\/E.idxOf (y-2)∈List.range e.length):=by
    rw[ZR];rintro(z|z)
    ·exact Q5 z
    ·exact h2 ((n p).mpr z)
   rw[Zj u];have r:(told rows E).getD (E.idxOf (y-2)) []=(rows.getD (y-2) []).map (nm E):=by
    have:=xx (rows:=rows) (zO p);rw[Zt,this];rfl
   rw[r];have key:∀(l:List Nat)(c:List Nat),l.foldl (cA rows d) c <+: E->(l.map (nm E)).foldl (cA (told rows E) d) (List.range c.length)=List.range (l.foldl (cA rows d) c).length:=λl=>by
    induction l with
    |nil=>exact λc _=>rfl
    |cons q l t=>
     intro c g;rw[Zw,Xk,Xk];have:cA rows d c q <+: E:=by
      obtain⟨s,b⟩:=Gf (Hu rows d) l (cA rows d c q);rw[Xk,b]at g;exact Vr (VD _ _) g
     rw[Si ok k d c q this];exact t _ g
   have i:(rows.getD (y-2) []).foldl (cA rows d) e <+: E:=Vr (VD _ _) f;rw[key _ e i,Zl];have:E.idxOf (y-2)=((rows.getD (y-2) []).foldl (cA rows d) e).length:=by
    refine Pt k.nd ?_;obtain⟨s,b⟩:=f;rw[<- b,ZG,Zx (Zg _),Vv]
    rfl
   rw[this];exact Y8.symm
structure Canon(n top:Nat)(rows:List Row):Prop where
 size:n<=12
 iQ:dY rows
 kr:top<rows.length+2
 deep:dp rows top<=n
 mW:∀r∈rows,¬nJ r
 unlike:rows.Nodup
 ends:cA rows n [] top=List.range rows.length
theorem qY3{n x:Nat}{rows:List Row}(e:n<=12)(ok:dY rows)(f:x<rows.length+2)(c:dp rows x<=n)(d:∀r∈rows,¬nJ r)(nd:rows.Nodup):
  Canon n (nm (cA rows n [] x) x) (told rows (cA rows n [] x)):=by
 obtain⟨a,b⟩:=rN ok n [] x (xB rows) f c;refine⟨e,K3 ok a,?_,?_,qI1 a d,qY2 a nd,?_⟩
 ·rw[rM];by_cases z:x<2
  ·rw[nc z];exact Jo z
  ·rw[nQ z];have:=Wn (b.resolve_left z);exact qv this
 ·rw[xu6 ok a x b];exact c
 ·rw[rM];exact Si ok a n [] x (List.prefix_refl _)
def ex(q:Nat):Nat:=if q<2 then 1-q else q
theorem Qy(q:Nat):ex (ex q)=q:=by
 by_cases h:q<2
 ·have:ex q=1-q:=Zn h;rw[this];unfold ex;rw[Zn Jp];lia
 ·have:ex q=q:=Zj h;rw[this,this]
theorem Qx{q b:Nat}(h:q<b+2):ex q<b+2:=by unfold ex;split<;>lia
def fI(rows:List Row):List Row:=rows.map (·.map ex)
theorem xu7(rows:List Row):fI (fI rows)=rows:=by
 unfold fI;rw[Ym]
 conv=>rhs;rw[<- Ub rows]
 refine YF λr _=>?_;show(r.map ex).map ex=r;rw[Ym]
 conv=>rhs;rw[<- Ub r]
 exact YF λq _=>Qy q
theorem Sh(rows:List Row)(p:Nat):(fI rows).getD p []=(rows.getD p []).map ex:=by
 unfold fI;rw[Zt,Zt,Zf];cases rows[p]?<;>rfl
theorem Lh{rows:List Row}(ok:dY rows):dY (fI rows):=by
 intro p r a;unfold fI at a;rw[Zf]at a;obtain⟨c,b,rfl⟩:=Zh.mp a;refine⟨by rw[Ze];exact(ok p c b).1,λx e=>?_⟩;obtain⟨q,d,rfl⟩:=ZF.mp e;exact Qx ((ok p c b).2 q d)
theorem xG3{rows:List Row}(ok:dY rows):∀q,q<rows.length+2->dp (fI rows) (ex q)=dp rows q:=by
 intro q
 induction q using Nat.strongRecOn with
 |ind q d=>
  intro e;by_cases z:q<2
  ·rw[zP z,zP (by unfold ex;rw[Zn z];exact Jp)]
  ·have a:q-2<rows.length:=by exact tM e z
   have g:ex q=q-2+2:=by unfold ex;rw[Zj z];exact xX z
   have h:(fI rows)[q-2]?=some ((rows.getD (q-2) []).map ex):=by
    rw[<- Sh];exact nh (by simpa[fI]using a)
   rw[g,pO (Lh ok) h,Ym];have c:=pO ok (nh a);rw[show q-2+2=q from nX z]at c;rw[c];congr 1;refine Lb λx f=>?_;have b:=(ok _ _ (nh a)).2 x f;exact d x (nW b z) (qp a b)
theorem TJ(rows:List Row):∀(d:Nat)(e:List Nat)(x:Nat),cA (fI rows) d e (ex x)=cA rows d e x
 |0,_,_=>rfl
 |d+1,e,x=>by
  unfold cA;by_cases z:x<2
  ·have b:ex x<2:=by unfold ex;rw[Zn z];exact Jp
   rw[Zn (.inl b),Zn (.inl z)]
  ·have a:ex x=x:=by unfold ex;rw[Zj z]
   rw[a,Sh,List.foldl_map];have:(λ(e:List Nat) (q:Nat)=>cA (fI rows) d e (ex q))=cA rows d:=by
    funext e q;exact TJ rows d e q
   rw[this]
theorem SW{n top:Nat}{rows:List Row}(c:Canon n top rows):Canon n (ex top) (fI rows):=by
 have d:(fI rows).length=rows.length:=by simp[fI]
 refine⟨c.size,Lh c.iQ,by rw[d];exact Qx c.kr,by rw[xG3 c.iQ _ c.kr];exact c.deep,?_,?_,by rw[TJ,d];exact c.ends⟩
 ·intro r l z;obtain⟨b,g,rfl⟩:=ZF.mp l;refine c.mW b g ?_;have a:∀{s:Row},b.map ex=s->b=s.map ex:=λ{s} h=>by
   rw[<- h,Ym]
   conv=>lhs;rw[<- Ub b]
   exact YF λq _=>(Qy q).symm
  rcases z with z|z
  ·exact .inr (a z)
  ·exact .inl (a z)
 ·have:=c.unlike;rw[cR]at this ⊢;intro i j m f h;rw[d]at f;refine this i j m f ?_;have h2:(fI (fI rows))[i]?=(fI (fI rows))[j]?:=by
   have e:∀k:Nat,(fI (fI rows))[k]?=((fI rows)[k]?).map (List.map ex):=λk=>Zf ..;rw[e,e,h]
  rwa [xu7]at h2
end Qf
namespace L2
open PySem PySem.Spec PyProof.Rows
section
variable{X:Cx}
theorem FZ{i0:Nat}{m:ar}{A L:az}{nn:List ar}{j:au}{d:List au}{c:az}{a iter:au}{scope:ax}{M:TI}{g:TG}{S:TT}{te:TE}(T:Env->Sem Bool)(hc:X.calm=true)(hi:PI X j iter M)
  (jT:∀B k f,compTurn (.ListComp a [⟨j,iter,d,0⟩] scope c) 0 B k f=(standAt iter.pos >>= λ_=>pyNext B >>= λr=>match r with
   |none=>pure (.done .next)
   |some v=>letOwnedTupleGo j B v >>= λ_=>assign j f v >>= λ_=>T f >>= λok=>(if ok=true then(eval a f >>= λx=>call (.builtin "list.append") [k,x] >>= λ_=>pure ())else pure ()) >>= λ_=>
     again (.compLoop (.ListComp a [⟨j,iter,d,0⟩] scope c) 0 B k f)))
  (n9:∀l C fp n q,PG (cG X scope l C nn fp n q) j g)
  (jU:∀y (E i:St) H R,E.length=nn.length->g y (E++i) H R->g y (E++i) H λw H'=>(∃K:St,K.length=nn.length/\w=K++i)/\R w H')
  (w4:∀l C fp n q (u:List (af×ay)) (s:ae) (i:St) (H:Hp) (Q:Bool->Hp->Prop),Inv (cG X scope l C nn fp n q) u i H s->S i H Q->ah (ai X.prog X.w) X.A (T (compEnvC scope l C X.env)) (TP (cG X scope l C nn fp n q) u i Q) (λ_ _=>False) s)
  (he:∀l C fp n q,PE (cG X scope l C nn fp n q) a te)
  (jD:scope.kind=.function) (Y:∀y∈scope.names,y.2≠.cell) (jB:∀y∈scope.names,y.2=.local->scope.names.lookup y.1=some .local)
  (W:∀y∈X.N,scope.names.lookup y≠some .local) (hfr:∀p∈scope.names,p.2=.free->rg X.env.scope p.1/\X.env.scope.names.lookup p.1≠some .local)
  (hs:∀x,foldedSetIterable iter X.env x=pure x) (J:X.N.Nodup) (Z:X.N[i0]?=some m) (U:X.env.scope.names.lookup m=some .local) (w5:swapsWith (.ListComp a [⟨j,iter,d,0⟩] scope c) (some (.Name m A)) L.line X.env=pure true):
  PS X (.Assign [.Name m A] (.ListComp a [⟨j,iter,d,0⟩] scope c) L) (ja (nL nn.length M g S te) (cb i0)):=by
 intro u s i H EE I h;rw[exec_Assign_Name_used _ _ _ _ w5];refine Za (WB (Za ?_));show ah _ X.A (do let _ <- comprehension (.ListComp a [⟨j,iter,d,0⟩] scope c) scope X.env _ (newList []) false (eval iter X.env) (some (assign (.Name m A) X.env))) _ _ s;refine Za (Z9 (Ts (use:=some (assign (.Name m A) X.env)) (QQ:=λ_ V=>SP X u EE .next V) T hc hi jT n9 jU w4 he jD Y jB W hfr hs I h λD C N F m4 t P iv qn=>?_) (λ_ V hq=>Zb (Zb hq)) λ_ _ e=>e);have IX:Inv X u i N F:=iv F.heap (W0 _ _);obtain⟨oC,esC,epC,G,rC⟩:=id P;have IP:=IX.pinned (fp:=[C]) (λb hb=>by
  have:b=C:=by simpa using hb
  subst this;exact t) (λb hb=>by
  have:b=C:=by simpa using hb
  subst this;exact⟨oC,G,λv z=>by rw[rC.1]at z;cases z⟩)
 show ah _ X.A (assign (.Name m A) X.env (.ref D)) _ _ F;refine wpAny_assign_Name (Ga (v:=.ref D) IP J Z (.inl U) rfl (λs5 O=>?_) (.inr U));have pC:=O.pin (C,oC) (ZV _ (ZV _ (B9 'c' G)));refine⟨m4,P.at' (λo e=>by rw[G]at e;cases e;exact pC.1),λh' sb=>⟨_,N,?_,qn⟩⟩;exact O.dG.turned (t':=s5.toks) (λb o hb e=>(sb.2 b hb).trans e) t.1 t.2.1 t.2.2.2.1 t.2.2.2.2.1 t.2.2.2.2.2
theorem K1{i0:Nat}{g:ar}{w q:az}{x:ar}{j b:az}{a iter:au}{scope:ax}{r:TI}{te:TE}(N:List ar)(m:ax)(L:X.N=N)(S:X.env.scope=m)(hc:X.calm=true)(v:X.N.Nodup)(D:X.N[i0]?=some g)(U:X.env.scope.names.lookup g=some .local)(J:PI X (.Name x j) iter r)
  (E:∀e C d c f,PE (cG X scope e C [x] d c f) a te)
  (M:scope.kind=.function:=by rfl) (B:scope.names.all (λy=>y.2 != .cell)=true:=by decide +kernel) (T:scope.names.all (λy=>y.2 != .local||scope.names.lookup y.1==some .local)=true:=by decide +kernel)
  (t:scope.names.lookup x=some .local:=by rfl) (A:N.all (λy=>scope.names.lookup y != some .local)=true:=by decide +kernel)
  (hfr:scope.names.all (λp=>p.2 != .free||(m.names.lookup p.1==some .cell||m.names.lookup p.1==some .free))=true:=by decide +kernel)
  (hs:∀x,foldedSetIterable iter X.env x=pure x:=by intro _;rfl) (G:swapsWith (.ListComp a [⟨.Name x j,iter,[],0⟩] scope b) (some (.Name g w)) q.line X.env=pure true:=by rfl):
  PS X (.Assign [.Name g w] (.ListComp a [⟨.Name x j,iter,[],0⟩] scope b) q) (ja (nL 1 r (cb 0) ow te) (cb i0)):=by
 obtain⟨F,V,u,K⟩:=rO L S B T A hfr;refine FZ (nn:=[x]) (λ_=>pure true) hc J (λO k n=>zq a _ iter scope b O k n) (λe C d c f=>?_) (λy Y W H R P h=>qA P h) (λe C d c f Z s W H Q I h=>Zb ⟨H,I,h⟩) E M F V u K hs v D U G;have l:(cG X scope e C [x] d c f).env.scope.names.lookup x=some .local:=ZY t;exact mq (i:=0) (Z3.mpr ⟨λz=>u x z t,v⟩) rfl (.inl l) (.inr l)
end
end L2
namespace L2
open PySem PySem.Spec PyProof.Rows PySem.W
section
variable{X:Cx}
def EX(z:ar):It:=⟨λi _=>i<z.cps.size,λi H x a=>a=H/\∃c,z.cps[i]?=some c/\x=.str ⟨#[c]⟩,λi _=>z.cps.size<=i⟩
theorem Sg{P:ag}{w:aj}{K:PySem.W.Frag}{x:ar}{R:az}(it:af)(z:ar)(t:Tok)(kind:String)(Z:kind="str_ascii_iterator" \/ kind="str_iterator")
  (W:∀A:aq,A.handled=none->Walks P w A it [it] [it] z.cps.size (SignAt z) (λi h=>h.IsStrIter it kind z t i)):Turn P w K (.Name x R) (EX z) [it] it (λi h=>i<=z.cps.size/\h.IsStrIter it kind z t i) where
 mem:=by simp
 obj:=λi h a b hb=>by
  have e:b=it:=by simpa using hb
  subst e;obtain⟨_,o,e,c,d⟩:=a;exact⟨o,e,λv q=>by rw[d]at q;cases q⟩
 keep:=λi h B a k=>⟨a.1,by
  obtain⟨_,o,e,r⟩:=a;exact⟨o,k it 'c' o e,r⟩⟩
 item:=by
  intro X p F y G i M s N H E I g a l;subst p F y;obtain⟨m,L,V,j,C,D⟩:=g it 'c';have f:i<z.cps.size:=l;refine(W X.A (I.ok.hd G)).item i s _ _ f a.2 λv B O hv Y n=>?_;obtain⟨c,u,T,rfl⟩:=hv;have S:Inv X M N H {s with heap:=B,toks:=O}:=I.turned (λb o hb e=>n b o (by simpa using hb) e) m L j C D;exact⟨_,rfl,Zb ⟨.str ⟨#[c]⟩,H,S,⟨_,rfl⟩,⟨rfl,c,T,rfl⟩,⟨f,Y⟩,λb hb=>(g b hb).1⟩⟩
 done:=by
  intro X p F y G i M s N H E I g a l;subst p F y;obtain⟨m,L,V,j,C,D⟩:=g it 'c';have U:i=z.cps.size:=V7 a.1 l;subst U;exact(W X.A (I.ok.hd G)).done s _ _ a.2 λB O n=>⟨rfl,I.turned (λb o hb e=>n b o (by simpa using hb) e) m L j C D⟩
 self:=λA i s Q E a h=>by
  rcases Z with J|J
  ·subst J;exact wpAny_pyIter_striter_ascii a.2 h
  ·subst J;exact wpAny_pyIter_striter_wide a.2 h
def Mj(te:TE):TI:=λb H R=>te b H λx a=>∃z,x=.str z/\R (EX z) a
theorem Pq{e:au}{te:TE}{x:ar}{i:az}(j:PE X e te):PI X (.Name x i) e (Mj te):=by
 intro g s l H R I h;refine bh (j g s l H _ I h) λv a ⟨y,d,c,k,z,m,q⟩=>?_;subst m;obtain⟨t,rfl⟩:=k;have f:∀b∈[a.heap.objs.size],gb X g d b:=λb hb=>by
  have e:b=a.heap.objs.size:=by simpa using hb
  subst e;exact c.jo (Zg _) (c.aS.fresh (Zg _))
 cases ha:z.cps.all (·<128)with
 |true=>
  refine wpAny_pyIter_ascii ha ?_;exact⟨a.heap.objs.size,[a.heap.objs.size],_,_,d,rfl,c.kept (t':=a.toks) (λb o e=>Zd _ e),Sg _ z t "str_ascii_iterator" (.inl rfl) (λA hA=>Walks.strAscii hA _ z t),⟨Zs _,_,Zi _ rfl,rfl,rfl⟩,f,q⟩
 |false=>
  refine wpAny_pyIter_wide ha ?_;exact⟨a.heap.objs.size,[a.heap.objs.size],_,_,d,rfl,c.kept (t':=a.toks) (λb o e=>Zd _ e),Sg _ z t "str_iterator" (.inr rfl) (λA hA=>Walks.strWide hA _ z t),⟨Zs _,_,Zi _ rfl,rfl,rfl⟩,f,q⟩
def EY(a:Int)(n:Nat):It:=⟨λi _=>i<n,λi H x b=>b=H/\x=.int (a-i),λi _=>n<=i⟩
theorem q73{P:ag}{w:aj}{K:PySem.W.Frag}{x:ar}{D:az}(it:af)(c:Int)(n:Nat):Turn P w K (.Name x D) (EY c n) [it] it (λi h=>IsRangeIter h it (c+(i:Nat)*(-1)) ((n:Int)-(i:Nat)) (-1)) where
 mem:=by simp
 obj:=λi h a b hb=>by
  have e:b=it:=by simpa using hb
  subst e;exact⟨_,a,λv z=>by
   have M:Data.fields _=Data.cell v:=z;cases M⟩
 keep:=λi h p a k=>k it 'c' _ a
 item:=by
  intro X l u m y i B s C H E I d a g;subst l u m;obtain⟨j,A,J,f,q,r⟩:=d it 'c';refine(Walks.range (prog:=X.prog) (w:=X.w) (I.ok.hd y) it c (-1) n).item i s _ _ g a λv p Q N L G=>?_;obtain⟨t,rfl⟩:=N;have F:Inv X B C H {s with heap:=p,toks:=Q}:=I.turned (λb o hb e=>G b o (by simpa using hb) e) j A f q r;refine⟨_,rfl,Zb ⟨.int (c-i),H,F,⟨t,?_⟩,⟨rfl,rfl⟩,L,λb hb=>(d b hb).1⟩⟩;rw[show c+(i:Int)*(-1)=c-i by lia]
 done:=by
  intro X l u m y i B s C H E I d a g;subst l u m;obtain⟨j,A,J,f,q,r⟩:=d it 'c';exact wpAny_pyNext_range_end (I.ok.hd y) a (by have:n<=i:=g;exact Q_ this) λp O=>⟨rfl,I.turned (t':=s.toks) (λb o hb e=>O b o hb e) j A f q r⟩
 self:=λ_ _ _ _ _ a h=>wpAny_pyIter_rangeiter a h
def xP1(ta:TA):TI:=λc H R=>ta c H λa b=>∃i j:Int,a=[.int i,.int j,.int (-1)]/\(-1000000<=i/\i<=1000000/\-1000000<=j/\j<=1000000)/\R (EY i (i-j).toNat) b
theorem RE(a b:Int):Builtin.Range.rangeSize a b (-1)=(((a-b).toNat:Nat):Int):=by
 unfold Builtin.Range.rangeSize;rw[Zj 'b'];by_cases h:a>b
 ·rw[Zn h,show(-(-1:Int))=1 by decide,Int.ediv_one];lia
 ·rw[Zj h];lia
theorem qY4{a b:Int}(h1:-1000000<=a)(h2:a<=1000000)(d:-1000000<=b)(c:b<=1000000):Builtin.Range.small a b (-1)=true:=by
 unfold Builtin.Range.small;rw[RE];simp only[Builtin.Range.rangeFitsLong,Vd,Vn,Y6,YT,show ¬((-1:Int)>0) by decide,Z6];lia
theorem xu8{a b c:au}{ta:TA}{p f w:az}{x:ar}(A:Gl X "range")(G:X.mg "range"=none)(N:PA X [a,b,c] ta)
  (hs:starEach [a,b,c] X.env=[(false,eval a X.env),(false,eval b X.env),(false,eval c X.env)]:=by rfl) (m:starEach [b,c] X.env=[(false,eval b X.env),(false,eval c X.env)]:=by rfl):
  PI X (.Name x w) (.Call (.Name "range" p) [a,b,c] [] f) (xP1 ta):=by
 intro u s v H R I h;refine Call_ (zT I A G boot_range (Xr (bh (N f u s v H _ I h) λQ d ⟨P,n,y,E,D⟩=>?_) (by rw[hs,m]) (by rw[m];rfl)));obtain⟨i,j,e,⟨L,K,M,O⟩,q⟩:=D;subst e;cases E with
 |cons r g=>
  cases g with
  |cons J g=>
   cases g with
   |cons F g=>
    cases g;obtain⟨t,rfl⟩:=r;obtain⟨t',rfl⟩:=J;obtain⟨k,rfl⟩:=F;refine call_range_3 'b' ?_ (Or.inl (PyProof.noPylong_small 'a'));refine wpAny_pyIter_range (IsRange.new ..) ?_ ?_
    ·exact qY4 L K M O
    ·have l:Inv X u v n {d with heap:=d.heap.push {cls:=.type "range",data:=.fields #[.int i t,.int j t',.int (-1) k]}}:=y.kept (t':=d.toks) λb o e=>Zd _ e;refine⟨(d.heap.push {cls:=.type "range",data:=.fields #[.int i t,.int j t',.int (-1) k]}).objs.size,[(d.heap.push {cls:=.type "range",data:=.fields #[.int i t,.int j t',.int (-1) k]}).objs.size],_,_,n,rfl,
      l.kept (t':=d.toks) λb o e=>Zd _ e,q73 _ i (i-j).toNat,?_,λb hb=>?_,q⟩
     ·have B:i+((0:Nat):Int)*(-1)=i:=by simp
      have C:(((i-j).toNat:Nat):Int)-((0:Nat):Int)=Builtin.Range.rangeSize i j (-1):=by rw[RE];simp
      rw[B,C];exact Zi _ rfl
     ·have e:b=(d.heap.push {cls:=.type "range",data:=.fields #[.int i t,.int j t',.int (-1) k]}).objs.size:=by simpa using hb
      subst e;exact l.jo (Zg _) (l.aS.fresh (Zg _))
def xP2(te:TE)(c d:TG):TS:=λD a H=>te a H λx b=>c x a b λe f=>d x e f D.nx
theorem xu9{b a e:au}{te:TE}{f i:TG}{c:az}(m:PE X e te)(h1:PG X b f)(h2:PG X a i)(hw:swappedStores [b,a] e X.env=pure none:=by rfl)
  (k:(assignEach [b,a] X.env).map (·.2)=[assign b X.env,assign a X.env]:=by rfl):PS X (.Assign [b,a] e c) (xP2 te f i):=by
 intro d s j H D I h;refine wpAny_Assign_two (bh (m d s j H _ I h) λv n ⟨x,t,l,g,r⟩=>?_) k hw;refine bh (h1 d n j t x v _ l g r) λ_ u ⟨w,A,p,y⟩=>?_;exact bh (h2 d u w A x v _ p g y) λ_ B q=>q
def xG4:TE:=λ_ H Q=>∀p,H p=none->Q (.ref p) (upd H p (.dK []))
theorem xh1{b:az}:PE X (.Dict [] [] b) xG4:=λd s c H Q I h=>by
 have hb:sysModules<s.heap.objs.size:=WZ 'b' (I.mod.glob.keeps I.bk).lt;exact wpAny_Dict_empty ⟨.ref s.heap.objs.size,_,I.laid (a:=s.heap.objs.size) (o:=.dK []) (t':=s.toks) (λ_ _ q=>Zd _ q) (Zg _) ⟨Zs _,YC.mpr (YK (Zu hb)),[],.nil,Heap.DictOf.new _⟩,rfl,h _ (I.aS.fresh (Zg _))⟩
end
end L2
namespace L2
open PySem PySem.Spec PyProof.Rows
theorem xh2{a:TI}{te:TE}:Fj a te=nL 1 a (cb 0) ow te:=by
 funext σ H Q;unfold Fj nL;congr 1;funext J H1;refine propext (Xd λD=>Xd λ_=>exists_congr λW=>WH λ_=>Xd λi=>Xd λm=>Xd λf=>Xd λe=>Xd λ_=>WH λ_=>WH λ_=>or_congr_right (WH λ_=>Xd λy=>Xd λd=>Xd λ_=>⟨λh c b=>?_,λh=>?_⟩))
 ·match c,b with
  |[o],_=>
   unfold cb ow;dsimp only;rw[Zn rfl];exact h
 ·have z:=h [none] rfl;unfold cb ow at z;dsimp only at z;rw[Zn rfl]at z;exact z
section
variable{X:Cx}
theorem nS{x:ar}{m b:az}{a iter:au}{scope:ax}{n:TI}{te:TE}(N:List ar)(j:ax)(D:X.N=N)(J:X.env.scope=j)(hc:X.calm=true)(O:X.N.Nodup)(B:PI X (.Name x m) iter n)(v:∀e C d c f,PE (cG X scope e C [x] d c f) a te)
  (E:scope.kind=.function:=by rfl) (u:scope.names.all (λy=>y.2 != .cell)=true:=by decide +kernel) (K:scope.names.all (λy=>y.2 != .local||scope.names.lookup y.1==some .local)=true:=by decide +kernel)
  (q:scope.names.lookup x=some .local:=by rfl) (t:N.all (λy=>scope.names.lookup y != some .local)=true:=by decide +kernel)
  (hfr:scope.names.all (λp=>p.2 != .free||(j.names.lookup p.1==some .cell||j.names.lookup p.1==some .free))=true:=by decide +kernel)
  (hs:∀x,foldedSetIterable iter X.env x=pure x:=by intro _;rfl):PE X (.ListComp a [⟨.Name x m,iter,[],0⟩] scope b) (Fj n te):=by
 obtain⟨w,L,r,A⟩:=rO D J u K t hfr;rw[xh2];refine BV (nn:=[x]) (λ_=>pure true) hc B (λF g k=>zq a _ iter scope b F g k) (λe C d c f=>?_) (λy P M H R G h=>qA G h) (λe C d c f S s M H Q I h=>Zb ⟨H,I,h⟩) v E w L r A hs;have l:(cG X scope e C [x] d c f).env.scope.names.lookup x=some .local:=ZY q;exact mq (i:=0) (Z3.mpr ⟨λz=>r x z q,O⟩) rfl (.inl l) (.inr l)
end
end L2
namespace L2
open PySem
theorem cw{H:Hp}{a b:af}{o u:HO}(e:H a=some o)(c:H b=none):upd H b u a=some o:=by rw[bj (cK e c)];exact e
theorem bo{H:Hp}{a:af}{o:HO}(h:H a=none):aG H (upd H a o):=λb u e=>cw e h
def fJ(H a:Hp):Prop:=∀b u,H b=some (.tup u)->a b=some (.tup u)
theorem aG.cg{H a:Hp}(s:aG H a):fJ H a:=λb u e=>s b _ e
structure Goes(J:It)(H:Hp)(n:Nat)(item:Nat->V->Hp->Prop):Prop where
 go:∀i H2,i<n->aG H H2->J.go i H2
 yl:∀i H2 y H3,i<n->aG H H2->J.iK i H2 y H3->aG H2 H3/\item i y H3
 st:∀H2,aG H H2->J.stop n H2
theorem rL{K:PySem.W.Frag}{H:Hp}{a:af}{xs:List V}(b:H a=some (.tup xs)):Goes (uo K a) H xs.length (λi y _=>xs[i]?=some y) where
 go:=λi c d s=>⟨xs,xs[i],bf.of (s _ _ b),by simp[d]⟩
 yl:=λi c y f d s h=>by
  obtain⟨e,h⟩:=h;subst e;exact⟨aG.refl _,h xs (bf.of (s _ _ b))⟩
 st:=λc s=>⟨xs,bf.of (s _ _ b),Zg _⟩
theorem uR{K:PySem.W.Frag}{H:Hp}{a:af}{xs:List V}(b:H a=some (.lst xs)):Goes (oN K a) H xs.length (λi y _=>xs[i]?=some y) where
 go:=λi c d s=>⟨xs,xs[i],bZ.of (s _ _ b),by simp[d]⟩
 yl:=λi c y f d s h=>by
  obtain⟨e,h⟩:=h;subst e;exact⟨aG.refl _,h xs (bZ.of (s _ _ b))⟩
 st:=λc s=>⟨xs,bZ.of (s _ _ b),Zg _⟩
theorem Sf{H:Hp}{n:Nat}:Goes (mf 0 n) H n (λi y _=>y=.int (i:Int)) where
 go:=λi a b s=>b
 yl:=λi a y c b s h=>by
  obtain⟨e,h⟩:=h;subst e;exact⟨aG.refl _,by rw[h,Vw]⟩
 st:=λa s=>Zg n
theorem q74{K:PySem.W.Frag}{H:Hp}{a:af}{xs:List V}(b:H a=some (.tup xs)):Goes (Az K a) H xs.length (λi y c=>∃p x,y=.ref p/\xs[i]?=some x/\c p=some (.tup [.int i,x])) where
 go:=λi d e s=>⟨xs,xs[i],bf.of (s _ _ b),by simp[e]⟩
 yl:=λi d y c e s h=>by
  obtain⟨p,x,f,g,rfl,rfl⟩:=h;exact⟨bo f,p,x,rfl,g xs (bf.of (s _ _ b)),aZ⟩
 st:=λd s=>⟨xs,bf.of (s _ _ b),Zg _⟩
theorem pX{J:It}{H:Hp}{n:Nat}{item:Nat->V->Hp->Prop}{te:TE}{σ:St}{Fin:Hp->Prop}{D:af}(A:H D=none)(d:Nat->V->Hp->Prop)(G:Goes J H n item)(hsz:n<sizeLine)
  (mono:∀i y C a,i<n->fJ C a->d i y C->d i y a)
  (step:∀i x a,i<n->item i x a->aG H a->∀E:VK,(∀y f,aG a f->d i y f->E y f)->te (some x::σ) a E)
  (fin:∀c a,aG H a->a D=some (.lst c)->c.length=n->(∀i y,c[i]?=some y->d i y a)->Fin a):
  ∃W:Nat->Nat->List V->Hp->Prop,(∃m,W 0 m [] (upd H D (.lst []))) /\
   ∀i m p a,W i m p a->a D=some (.lst p)/\p.length<sizeLine/\((J.stop i a/\Fin a)\/(J.go i a/\∀y f,J.iK i a y f ->
    te (some y::σ) f λv g=>g D=some (.lst p)/\∃w,w<m/\W (i+1) w (p++[v]) (upd g D (.lst (p++[v]))))):=by
 refine⟨λi m c a=>i<=n/\m=n-i/\c.length=i/\a D=some (.lst c)/\aG H a/\∀j y,c[j]?=some y->d j y a,⟨n,Zs _,rfl,rfl,aZ,bo A,λj y h=>by simp at h⟩,?_⟩;rintro i m c a ⟨O,rfl,F,t,l,q⟩;refine⟨t,by lia,?_⟩;by_cases K:i=n
 ·subst K;exact .inl ⟨G.st a l,fin c a l t F q⟩
 ·refine .inr ⟨G.go i a 'a' l,λy f M=>?_⟩;obtain⟨r,L⟩:=G.yl i a y f 'a' l M;refine step i y f 'a' L (l.trans r) _ λv g s N=>?_;have B:=s _ _ (r _ _ t);refine⟨B,n-(i+1),by lia,by lia,rfl,by rw[Zl,F];rfl,aZ,?_,?_⟩
  ·intro b o e;rw[bj (cK e A)];exact s _ _ (r _ _ (l _ _ e))
  ·have I:fJ g (upd g D (.lst (c++[v]))):=λb u e=>by
    have:b≠D:=λz=>by subst z;rw[B]at e;cases e
    rw[bj this];exact e
   intro j z k;by_cases P:j<i
   ·rw[Zp 'a']at k;exact mono j z g _ 'a' I (mono j z a g 'a' (r.trans s).cg (q j z k))
   ·rw[Zx 'a']at k;have:j-c.length=0:=by
     have:=(cf k).1;simp at this;lia
    rw[this]at k;have:z=v:=by simpa using k.symm
    subst this;have:j=i:=by lia
    subst this;exact mono _ _ g _ 'a' I N
theorem Tq{J:It}{H:Hp}{n k:Nat}{item:Nat->V->Hp->Prop}{g:TG}{F:TT}{te:TE}{σ:St}{Fin:Hp->Prop}{D:af}(B:H D=none)(d:Nat->Bool)(val:Nat->V)(G:Goes J H n item)(hsz:n<sizeLine)
  (step:∀i x a,i<n->item i x a->aG H a->∀f:St,f.length=k->∀(I:Hp->Prop)(E:VK),(d i=false->∀c,aG a c->I c)->(d i=true->∀c,aG a c->E (val i) c) ->
   g x (f++σ) a λr s=>F r s λb q=>if b=true then te r q E else I q)
  (fin:∀a,aG H a->a D=some (.lst (((List.range n).filter d).map val))->Fin a):
  ∃W:Nat->Nat->List V->Hp->Prop,(∃m,W 0 m [] (upd H D (.lst []))) /\
   ∀i m j a,W i m j a->a D=some (.lst j)/\j.length<sizeLine/\((J.stop i a/\Fin a)\/(J.go i a/\∀y c,J.iK i a y c->∀f:St,f.length=k ->
    g y (f++σ) c λr s=>F r s λb q=>if b=true then te r q λv C=>C D=some (.lst j)/\∃l,l<m/\W (i+1) l (j++[v]) (upd C D (.lst (j++[v])))else ∃l,l<m/\W (i+1) l j q)):=by
 refine⟨λi m A a=>i<=n/\m=n-i/\A=((List.range i).filter d).map val/\a D=some (.lst A)/\aG H a,⟨n,Zs _,rfl,rfl,aZ,bo B⟩,?_⟩;rintro i m A a ⟨R,rfl,w,u,h⟩;have S:A.length<=i:=by
  rw[w,Ze];exact ZD (Yr _ _) 'c'
 refine⟨u,by lia,?_⟩;by_cases K:i=n
 ·subst K;exact .inl ⟨G.st a h,fin a h (w▸u)⟩
 ·refine .inr ⟨G.go i a 'a' h,λy c P f O=>?_⟩;obtain⟨t,N⟩:=G.yl i a y c 'a' h P;refine step i y c 'a' N (h.trans t) f O _ _ (λQ s p=>?_) (λM s p=>?_)
  ·refine⟨n-(i+1),by lia,by lia,rfl,?_,p _ _ (t _ _ u),(h.trans t).trans p⟩;rw[w,Y8,Xy];simp[Q]
  ·have L:=p _ _ (t _ _ u);refine⟨L,n-(i+1),by lia,by lia,rfl,?_,aZ,λb o e=>?_⟩
   ·rw[w,Y8,Xy];simp[M]
   ·rw[bj (cK e B)];exact p _ _ (t _ _ (h _ _ e))
theorem u_{X:Cx}(K:PySem.W.Frag)(h:X.K=K):oK X (xh K):=h▸pR
theorem rW{X:Cx}(K:PySem.W.Frag)(h:X.K=K):oK X (xf K):=h▸fQ
theorem ip{X:Cx}(K:PySem.W.Frag)(h:X.K=K):gZ X (.type "tuple") (d_ K):=h▸qC5
theorem xM{X:Cx}{c l:au}{a:TE}(K:PySem.W.Frag)(h:X.K=K)(b:PE X l a):PI X c l (Dt K a):=h▸sU b
end L2
namespace L2
open PySem PySem.Spec PyProof.Rows PySem.W
def gK(h:ao)(d:af)(tab:Array DictEntry)(ep:Nat):Prop:=∃o,h.get? d=some o/\o.ExactDict/\o.data=.dict tab ep
theorem gK.dv{h h':ao}{d:af}{tab:Array DictEntry}{ep:Nat}(x:gK h d tab ep)(k:∀o,h.get? d=some o->h'.get? d=some o):gK h' d tab ep:=let ⟨o,ho,r⟩:=x;⟨o,k o ho,r⟩
theorem gK.ty{s:ae}{d:af}{tab:Array DictEntry}{ep:Nat}(x:gK s.heap d tab ep):s.TypeIs (.ref d) "dict":=let ⟨o,ho,hc,_⟩:=x;⟨o,ho,hc.1⟩
theorem gK.lt{h:ao}{d:af}{tab:Array DictEntry}{ep:Nat}(x:gK h d tab ep):d<h.objs.size:=let ⟨_,ho,_⟩:=x;Zo ho
section
variable{d it:af}{tab:Array DictEntry}{ep i:Nat}
theorem q75{Q:aa->ae->Prop}(c:(d==sysModules)=false)(x:gK s.heap d tab ep)
  (q:Q (.ref s.heap.objs.size) {s with heap:=s.heap.push {cls:=.type "dict_keyiterator",data:=.fields #[.ref d,.int 0 0,.int tab.size 0,.int ep 0]}}):ah (ai prog w) A (pyIter (.ref d)) Q E s:=by
 obtain⟨o,a,e,b⟩:=id x;refine VW x.ty F.slot_dict_iter (Z0 F.slot_dict_iter x.ty F.entry_dict_iter ?_ (F.args_dict_iter_1 _));show ah _ _ (Builtin.Dict.dictSlotNone _ _ >>= _) _ _ _;unfold Builtin.Dict.dictSlotNone;refine Za (Za (wpAny_notOrdered_dict x.ty (Zb ?_)));show ah _ _ (Builtin.Dict.showsAll d >>= _) _ _ s;unfold Builtin.Dict.showsAll;rw[Zj (by rw[c];decide)];refine Za (Zb (Za (W1 a b (Za (wpAny_dictEpoch a b ?_)))));refine Za (ZP (Zb ⟨_,rfl,"dict_keyiterator",_,⟨_,Zi _ rfl,rfl⟩,Y1.lookup,?_⟩));simpa[rawInt]using q
theorem q76{Q:Option aa->ae->Prop}(st:s.heap.IsKeyIter it d i tab.size ep)(x:gK s.heap d tab ep)(j:i<tab.size)
  (q:∀c,c.IsKeyIter it d (i+1) tab.size ep->Heap.SameBut it s.heap c->Q (some tab[i].key) {s with heap:=c}):ah (ai prog w) A (pyNext (.ref it)) Q E s:=by
 obtain⟨o,b,h,a⟩:=id st;obtain⟨l,e,k,f⟩:=id x;unfold pyNext;refine Za (XE (Z7 (name:=Str.ofString "__next__") st.typeIs Y1 (Z0 Y1 st.typeIs F.entry_dict_keyiterator_next ?_ (F.args_dict_keyiterator_next_1 _))));refine Za (Zb (Za (Za ?_)))
 first|(refine Za (Xg st.typeIs (Zb (Za (Ws b a ?_)))))|(refine Za (XG st.typeIs (Zb (Za (Ws b a ?_)))))
 simp only[show Builtin.Dict_items.ownsTuple "dict_keyiterator"=false by decide,Zy,Z6];show ah _ _ (if(Value.ref d==Value.none)=true then _ else _) _ _ s;rw[Zj (show ¬((Value.ref d==Value.none)=true) by exact ZA)];refine Za (Zb (Za (W1 e f ?_)));rw[Zj 'c'];refine Za (Zb (Za (wpAny_dictEpoch e f ?_)));rw[Zj 'c'];refine Zb ?_;simp only[show ¬((i:Int)<0)from x8,Z6,ZI,ZT j];refine Za ?_
 first|(refine Za (Xg st.typeIs (Zb (Za (W9 st.typeIs ?_)))))|(refine Za (XG st.typeIs (Zb (Za (W9 st.typeIs ?_)))))
 show ah _ _ (setField (.ref it) 1 (rawInt ((i:Int)+1)) >>= _) _ _ s;refine Za (YZ b a 'c' ?_);have g:(s.heap.update it (Obj.mapFields (·.setIfInBounds 1 (rawInt ((i:Int)+1))))).IsKeyIter it d (i+1) tab.size ep:=⟨_,Z8 _ b (YW (Z1 a _)),(Wl ..).trans h,by rw[Z1 a];simp[rawInt]⟩;refine Za (Yo (Za (W9 (s:={s with heap:=s.heap.update it (Obj.mapFields (·.setIfInBounds 1 (rawInt ((i:Int)+1))))}) g.typeIs ?_)));show ah _ _ (pure tab[i].key) _ _ _;exact Zb (Zb ⟨_,rfl,Zb (q _ g (Yt ..))⟩)
theorem xh3{Q:Option aa->ae->Prop}(j:A.handled=none)(st:s.heap.IsKeyIter it d tab.size tab.size ep)(x:gK s.heap d tab ep)
  (q:∀f,Heap.ExtBut it s.heap f->Q none {s with heap:=f}):ah (ai prog w) A (pyNext (.ref it)) Q E s:=by
 obtain⟨o,c,l,e⟩:=id st;obtain⟨n,g,k,h⟩:=id x;unfold pyNext;refine Za (XE (Z7 (name:=Str.ofString "__next__") st.typeIs Y1 (Z0 Y1 st.typeIs F.entry_dict_keyiterator_next ?_ (F.args_dict_keyiterator_next_1 _))));refine Za (Zb (Za (Za ?_)))
 first|(refine Za (Xg st.typeIs (Zb (Za (Ws c e ?_)))))|(refine Za (XG st.typeIs (Zb (Za (Ws c e ?_)))))
 simp only[show Builtin.Dict_items.ownsTuple "dict_keyiterator"=false by decide,Zy,Z6];show ah _ _ (if(Value.ref d==Value.none)=true then _ else _) _ _ s;rw[Zj (show ¬((Value.ref d==Value.none)=true) by exact ZA)];refine Za (Zb (Za (W1 g h ?_)));rw[Zj 'c'];refine Za (Zb (Za (wpAny_dictEpoch g h ?_)));rw[Zj 'c'];refine Zb ?_;simp only[show ¬((tab.size:Int)<0)from x8,Z6,ZI,XX (Zg tab.size)];refine Za ?_
 first|(refine Za (Xg st.typeIs (Zb ?_)))|(refine Za (XG st.typeIs (Zb ?_)))
 show ah _ _ (setField (.ref it) 0 .none >>= _) _ _ s;refine Za (YZ c e 'c' ?_);show ah _ _ (newExc (.type "StopIteration") [] >>= _) _ _ _;refine Za ?_;simp only[newExc,newTuple];refine Za (ZP ?_ (by size_fits));refine Za (m:=firstArgMember _ _) (VS (a:=Value.none) (by first|rfl|(simp only[firstArgMember];rfl)) (ZP ?_ (by size_fits)));simp only[raiseNew];refine Za (wpAny_handled ?_);rw[show A.in1.handled=none by exact j];refine Za (Zb (wpAny_throw ?_));refine Za (XR (T:= "StopIteration") (b:=true) ⟨_,Zi _ rfl,rfl⟩ isSubtype_stop ?_);exact Zb (q _ (((Yt ..).extBut.push _).push _))
theorem qY5(j:A.handled=none)(l:d≠it):Walks prog w A it [it,d] [it] tab.size (λi v=>∃e,tab[i]?=some e/\v=e.key) (λi h=>h.IsKeyIter it d i tab.size ep/\gK h d tab ep) where
 sub:=λb hb=>by simp at hb;simp[hb]
 frame:=λ_ _ _ a k=>⟨a.1.at λo e=>k it 'c' o e,a.2.dv λo e=>k d 'c' o e⟩
 item:=λi s Q E g a q=>q76 a.1 a.2 g λc n f=>q _ c s.toks ⟨tab[i],by simp[g],rfl⟩ ⟨n,a.2.dv λo e=>f.extBut d o l e⟩ λb o hb e=>f.extBut b o (λh=>hb (by simp[h])) e
 done:=λs Q E a q=>xh3 j a.1 a.2 λc m=>q c s.toks λb o hb e=>m b o (λh=>hb (by simp[h])) e
 self:=λ_ _ _ _ a q=>wpAny_pyIter_keyiter a.1 q
theorem xh4(b:(d==sysModules)=false):KdlSrc prog w "dict" d d tab.size (λi v=>∃e,tab[i]?=some e/\v=e.key) (λh=>gK h d tab ep) where
 type:=λ_ x=>x.ty
 there:=λ_ x=>⟨x.lt,x.lt⟩
 keep:=λ_ _ x k=>x.dv λo e=>k d (.inl rfl) o e
 notList:=by decide
 notTuple:=by decide
 hint:=λ_ _ _ _ x q=>kdl_hint_dict x.ty q
 iter:=λ_ _ a x=>⟨_,_,(λ_ _ q=>q75 b x q),qY5 a (Zu x.lt),⟨⟨_,Zi _ rfl,rfl,rfl⟩,x.dv λo e=>Zd _ e⟩⟩
theorem q77(c:(d==sysModules)=false):MeetsIn prog w (Builtin.«dict.__len__» ⟨[.ref d],[]⟩) (λ_ R s=>∃tab ep,gK s.heap d tab ep/\R (.ok (.ret (.int tab.size s.toks))) {s with toks:=s.toks+1}):=
 .of_wp λA R s ⟨tab,ep,⟨o,a,e,b⟩,q⟩=>by
  show ah _ _ (dictSize d >>= _) _ _ s;unfold dictSize;refine Za (Za (W1 a b (Zb ?_)));show ah _ _ (Builtin.Dict.pendingCount d >>= _) _ _ s;exact Za (wpAny_pendingCount_other c (wpAny_ret_mkInt (by rw[V4];exact q)))
theorem xh5{Q:aa->ae->Prop}(b:(d==sysModules)=false)(x:gK s.heap d tab ep)(a:(tab.size:Int)<2^63)(q:Q (.int tab.size (s.toks+1)) {s with toks:=s.toks+1+1}):
  ah (ai prog w) A (call (.builtin "len") [.ref d]) Q E s:=by
 refine Calls.call_function_entry kind_len plain_len entry_len (args_len1 _) ?_;unfold Builtin.«len»;refine Za (m:=oneArg "len" _) (Zb ?_);refine Za (m:=callSpecial? (.ref d) (Str.ofString "__len__")) (Z7 (name:=Str.ofString "__len__") x.ty F.slot_dict_len (call_meetsIn F.slot_dict_len x.ty F.entry_dict_len (F.args_dict_len_1 _) (q77 b) ⟨tab,ep,x,?_⟩));show ah _ _ _ _ _ {s with toks:=s.toks+1};refine Za (Yo (Zb (Za (wpAny_letGo ?_))));show ah _ _ (if((tab.size:Nat):Int)<0 then _ else _) _ _ _;rw[Zj x8];show ah _ _ (if((tab.size:Nat):Int)>=2^63 then _ else _) _ _ _;rw[Zj 'a'];exact Za (wpAny_mkInt (Zb ⟨_,rfl,q⟩))
end
section
variable{X:Cx}
inductive lY(xs:List V)(H:Hp)(Q:VK):Prop
 |mk(d:_)(kvs:_)(aT:xs=[V.ref d])(eR:H d=some (.dT kvs))(dX:Q (.int kvs.length) H)
theorem q78:gZ X (.builtin "len") lY:=by
 intro w s x H A v Q I r h;obtain⟨d,a,rfl,p,q⟩:=h;obtain⟨u,rfl,i⟩:=iR r;cases i;obtain⟨z,j,y,f,o,b,t,k,m,n,c,l⟩:=(show a_ X.prog X.w H s.heap d (.dT a)from I.aS d _ p);have g:b.size=a.length:=(size_of_entries c).trans (X8 f).symm;have e:(b.size:Int)<2^63:=by rw[g];rw[Xu]at z;lia
 refine xh5 j ⟨o,k,m,n⟩ e ⟨.int a.length,H,I.tok _,?_,q⟩;rw[g];exact⟨_,rfl⟩
end
section
variable{T:String}{r d:af}{n:Nat}{P:Nat->aa->Prop}{OK:ao->Prop}
theorem qN0{Q:List aa->ae->Prop}(K:KdlSrc prog w T r d n P OK)(k:A.handled=none)(i:OK s.heap)(p:n<=sizeLine)
  (j:∀(f:ao) g c,(∀b o,s.heap.get? b=some o->f.get? b=some o)->ItemsOf P c n->Q c.toList {s with heap:=f,toks:=g}):ah (ai prog w) A (collect (.ref r)) Q E s:=by
 have h:=K.there _ i;unfold collect;refine Za (wpAny_runValue (Y7 F.entry_proto_collect ?_));rw[Y4 F.plain_proto_collect _];refine Za (ZP ?_);refine Zb ⟨Wa F.plain_list_iadd _,Y7 F.entry_list_iadd ?_⟩;rw[Y4 F.plain_list_iadd _];have q:(s.heap.push {cls:=.type "list",data:=.seq ([]:List aa).toArray}).get? s.heap.objs.size=some {cls:=.type "list",data:=.seq ([]:List aa).toArray}:=Zi _ rfl;refine kdl_extend (R:=wants (λv m=>ah (ai prog w) A (match v with|.ref a=>(do let ob <- load a;match ob.data with|.seq t _=>pure t.toList|_=>unsupported "internal:collect")|_=>unsupported "internal:collect") Q E m) E) (s:={s with heap:=s.heap.push {cls:=.type "list",data:=.seq ([]:List aa).toArray}}) K k (K.keep _ _ i λb _ o e=>Zd _ e) s.heap.objs.size (XU h.1) (XU h.2) _ _ q (λf g c x hk u l=>?_) p;refine Za (wpAny_load u ?_);exact Zb (j f g c (λb o e=>hk b o (Zu (Zo e)) (Zd _ e)) l)
theorem qz8{Q₁:aa->ae->Prop}(K:KdlSrc prog w T r d n P OK)(p:A.handled=none)(l:OK s.heap)(k:n<=sizeLine)
  (h:∀(c:ao) g a,(∀b o,s.heap.get? b=some o->c.get? b=some o)->ItemsOf P a n->Q₁ (.ref c.objs.size) {s with heap:=c.push {cls:=.type "tuple",data:=.seq a},toks:=g}):
  codeAny (ai prog w) A (.call (.builtin "tuple.__new__") ⟨[.type "tuple",.ref r],[]⟩) (wants Q₁ E) s:=by
 refine codeAny_of_tree ?_;refine Za (VS (F.newCall_tuple_1 _) (Zb ⟨Wa F.plain_tuple_new _,Y7 F.entry_tuple_new ?_⟩));rw[Y4 F.plain_tuple_new _];have m:=sub_tuple_self;have i:=init_tuple_lookup;have q:=madeHere_tuple;have f:=K.type s l;have t:=K.notTuple
 wp_walk using WW f,qN0 (A:=A.in1) K p l k
 intro c g a hk j;show ah _ _ (Builtin.Tuple.tupleExact a.toList.toArray >>= λv=>ret v) _ _ _;unfold Builtin.Tuple.tupleExact;refine Za (ZP ?_ (by show a.toList.toArray.size<=sizeLine;simp only[Array.toArray_toList];rw[j.1];exact k));refine Zb ?_;have e:a.toList.toArray=a:=by simp
 rw[e];exact h c g a hk j
theorem q79{Q:aa->ae->Prop}(K:KdlSrc prog w T r d n P OK)(j:A.handled=none)(m:OK s.heap)(l:n<=sizeLine)
  (h:∀(e:ao) i c,(∀b o,s.heap.get? b=some o->e.get? b=some o)->ItemsOf P c n->Q (.ref e.objs.size) {s with heap:=e.push {cls:=.type "tuple",data:=.seq c},toks:=i}):
  ah (ai prog w) A (call (.type "tuple") [.ref r]) Q E s:=by
 refine callType_codes (Q₁:=λa f=>f.TypeIs a "tuple" /\ Q a f) F.called_tuple (F.typeCall_tuple_1 _) F.entry_object_init
  (qz8 K j m l λe i c hk k=>⟨⟨_,Zi _ rfl,rfl⟩,h e i c hk k⟩) λa f g=>?_
 exact⟨g.1,F.args_object_init_2 a _,object_init_meets F.called_tuple.init.lookup F.called_tuple.made 'b' prog w A.in1 _ f ⟨g.1,rfl,g.2⟩⟩
end
section
variable{X:Cx}
theorem qI3(hc:X.calm=true):gZ X (.type "tuple") (λG H Q=>∃(d:af)(c:List (List Key×V)),G=[.ref d]/\H d=some (.dT c) /\
  ∀(l:af)(bs:List af),H l=none->bs.length=c.length->(∀(i:Nat) b n,bs[i]?=some b->c[i]?=some n->H b=some (.tup (n.1.map kV)))->Q (.ref l) (upd H l (.tup (bs.map V.ref)))):=by
 intro j8 s σ H G us Q I r h;obtain⟨d,c,rfl,Y,q⟩:=h;obtain⟨u,rfl,K⟩:=iR r;cases K;obtain⟨z,O,f,k,o,tab,ep,P,U,W,j,T⟩:=(show a_ X.prog X.w H s.heap d (.dT c)from I.aS d _ Y);have hl:c.length=f.length:=X8 k;have L:tab.size=f.length:=size_of_entries j;refine q79 (xh4 (tab:=tab) (ep:=ep) O) (I.ok.hd hc) ⟨o,P,U,W⟩ 'a' λt J g Z F=>?_;have at_:∀(i:Nat) p y,c[i]?=some p->f[i]?=some y->H y.2.1=some (.tup (p.1.map kV)):=by
  have w:∀{l:List (List Key×V)}{m:List (List Key×af×aa)},Paired (λ(p:List Key×V) (q:List Key×af×aa)=>p.1=q.1/\H q.2.1=some (.tup (p.1.map kV))/\RelV p.2 q.2.2) l m->∀(i:Nat) p y,l[i]?=some p->m[i]?=some y->H y.2.1=some (.tup (p.1.map kV)):=by
   intro l m R
   induction R with
   |nil=>intro i p y h1;simp at h1
   |cons M a2 S=>
    intro i p y h1 h2;cases i with
    |zero=>simp at h1 h2;subst h1;subst h2;exact M.2.1
    |succ i=>exact S i p y (by simpa using h1) (by simpa using h2)
  exact w k
 have E:(f.map (·.2.1)).length=c.length:=by rw[Ze,hl]
 have B:=I.kept (t':=J) Z;have hf:H t.objs.size=none:=B.aS.fresh (Zg _);refine⟨.ref t.objs.size,_,B.laid (a:=t.objs.size) (o:=.tup ((f.map (·.2.1)).map V.ref)) (t':=J) (λb o e=>Zd _ e) (Zg _) (show a_ X.prog X.w _ _ _ (.tup ((f.map (·.2.1)).map V.ref))from⟨by rw[Ze,E];exact z,g.toList,?_,by have:=cV.new t g.toList.toArray;simpa using this⟩),rfl,q _ _ hf E λi b n D N=>?_⟩
 ·refine Hv (by simp[F.1,L]) λi x v h1 h2=>?_;rw[Zf,Zf]at h1;obtain⟨b,hb,rfl⟩:=Zh.mp h1;obtain⟨y,A,rfl⟩:=Zh.mp hb;obtain⟨e,C,rfl⟩:=F.2 i v (by simpa using h2);rw[entry_at j i,A]at C;have:=ZK C;subst this
  rfl
 ·rw[Zf]at D;obtain⟨y,A,rfl⟩:=Zh.mp D;exact at_ i n y N A
open Classical in
noncomputable def rE(h:ao)(d:PyData)(w:aa):Bool:=decide (∃(e:PyData)(bs:List af),Reads h w e bs/\e.canLay0=true/\PyData.eqv e d=true)
open Classical in
theorem xh6{h:ao}{d d':PyData}{w:aa}{bs:List af}(f:Reads h w d' bs)(c:d'.canLay0=true):rE h d w=PyData.eqv d' d:=by
 unfold rE;cases hb:PyData.eqv d' d with
 |true=>exact Zv ⟨d',bs,f,c,hb⟩
 |false=>
  refine ZM λ⟨e,a,g,_,b⟩=>?_;have:=SeqAt.Reads.unique d' e w bs a c f g;rw[<- this,hb]at b;cases b
theorem KZ{A:List (af×ay)}{s:ae}{σ:St}{H:Hp}{v:aa}{d:PyData}{as:List af}(I:Inv X A σ H s)(un:X.A.units+64<cLine)(j:Reads s.heap v d as)(i:d.canLay0=true)(dd:d.depth<=50):
  ∀{n:List V}{c:List PyData}{g:List aa},aM H n c->Vals n g->PyData.canLayAll0 c=true->(∀w∈g,SeqAt.EqAt X.A.in1 s w v (rE s.heap d w))/\g.any (rE s.heap d)=c.any λe=>PyData.eqv e d
 |_,_,_,.nil,.nil,_=>⟨λw a=>(nomatch a),rfl⟩
 |_,l::f,B::x,.cons y h,.cons u q,p=>by
  have b:l.canLay0=true/\PyData.canLayAll0 f=true:=by simpa[PyData.canLayAll0]using p
  obtain⟨t,r⟩:=KZ I un j i dd h q b.2;obtain⟨bs,k⟩:=y.reads I.aS u;have m:=xh6 (d:=d) k b.1;refine⟨λw a=>?_,?_⟩
  ·rcases Zz.mp a with rfl|a
   ·rw[m];exact SeqAt.eqAt_reads l d X.A.in1 s w v bs as k j b.1 i (by
     have:X.A.in1.units=X.A.units+1:=rfl;lia)
   ·exact t w a
  ·rw[X9,X9,m,r]
inductive rj(x:V)(y:V)(H:Hp)(Q:VK):Prop
 |mk(p:af)(xs:List V)(ds:List PyData)(d:PyData)(aT:y=.ref p)(eR:H p=some (.tup xs))(dX:aM H xs ds)(aR:aX H x d)(dB:d.canLay0=true)(EJ:PyData.canLayAll0 ds=true)(e6_:d.depth<=50)(e7_:Q (.bl (ds.any λe=>PyData.eqv e d)) H)
theorem xG5{k:Nat}(A:aV k X.A):fj X (compareOp .In) rj:=by
 intro F s G H x y v u Q I g t h;obtain⟨p,J,E,d,rfl,i,e,m,b,c,f,q⟩:=h;cases t;obtain⟨as,j⟩:=m.reads I.aS g;obtain⟨a,C,l,D⟩:=I.tuple (bf.of i);have un:=A.units;obtain⟨r,B⟩:=KZ (X:=X) I un j b f e C c;refine SeqAt.in_tupleAt (rE s.heap d) l (λw n=>r w (by simpa using n)) ⟨.bl _,H,I,rfl,?_⟩;rw[show a.toArray.any (rE s.heap d)=a.any (rE s.heap d) by simp,B];exact q
end
theorem bV:Slot "set_iterator" "__next__" "set_iterator.__next__":=
 .of (owner:= "set_iterator") (n:= "__next__") (by rw[typeLookup_type,Va];kernel_rfl) (by decide +kernel) (by decide +kernel) (by decide +kernel) (by first|exact .inl (by decide +kernel)|exact .inr (by decide +kernel)) (by rw[VE];kernel_rfl)
theorem RF:entryFor table "set_iterator.__next__"=some Builtin.«set_iterator.__next__»:=entryFor_of_tree (by kernel_rfl)
theorem RD(a:aa):argsOk "set_iterator.__next__" ⟨[a],[]⟩:=by unfold argsOk;kernel_rfl
theorem RC:Slot "set_iterator" "__iter__" "set_iterator.__iter__":=
 .of (owner:= "set_iterator") (n:= "__iter__") (by rw[typeLookup_type,Va];kernel_rfl) (by decide +kernel) (by decide +kernel) (by decide +kernel) (by first|exact .inl (by decide +kernel)|exact .inr (by decide +kernel)) (by rw[VE];kernel_rfl)
theorem qA0(a:aa):argsOk "set_iterator.__iter__" ⟨[a],[]⟩:=by unfold argsOk;kernel_rfl
theorem qA1:entryFor table "set.__iter__"=some Builtin.«frozenset.__iter__»:=entryFor_alias (id':= "frozenset.__iter__") (by kernel_rfl) rfl (by decide +kernel) (by kernel_rfl)
theorem qx9:entryFor table "set_iterator.__iter__"=some Builtin.«dict_keyiterator.__iter__»:=entryFor_alias (id':= "dict_keyiterator.__iter__") (by kernel_rfl) rfl (by decide +kernel) (by kernel_rfl)
theorem Kw{b:Type}:∀{l:List b}{i:Nat}(h:i<l.length),(l[i]::l.eraseIdx i).Perm l
 |x::l,0,_=>.refl _
 |x::l,i+1,h=>by
  have a:i<l.length:=by simpa using h
  show(l[i]::x::l.eraseIdx i).Perm (x::l);exact(List.Perm.swap _ _ _).trans ((Kw a).cons _)
theorem iP:Slot "set" "__len__" "set.__len__":=
 .of (owner:= "set") (n:= "__len__") (by rw[typeLookup_type,Va];kernel_rfl) (by decide +kernel) (by decide +kernel) (by decide +kernel) (by first|exact .inl (by decide +kernel)|exact .inr (by decide +kernel)) (by rw[VE];kernel_rfl)
theorem SV{d:Type}(next:Nat->Nat):∀(a k:Nat)(left:List d)(b:Array d),left.length=a->(pickOrder.go next a k left b).toList.Perm (b.toList++left)
 |0,k,left,b,h=>by
  have:left=[]:=YM.mp h;subst this;unfold pickOrder.go;rw[Xj]
 |a+1,k,left,b,h=>by
  unfold pickOrder.go;have c:next k%left.length<left.length:=YH _ 'a'
  rw[Zc c];dsimp only;refine(SV next a (k+1) (left.eraseIdx (next k%left.length)) (b.push left[next k%left.length]) (by rw[VF c];lia)).trans ?_;rw[Wo,ZG];refine ZS _ ?_;exact(Kw c)
theorem RB{a:Type}(next:Nat->Nat)(xs:Array a):(pickOrder next xs).toList.Perm xs.toList:=by
 unfold pickOrder;have:=SV next xs.size 0 xs.toList #[] 'c'
 simpa using this
section
theorem qI5{a:Source}{n:Nat}{Q:Nat->ae->Prop}(b:0<n)(h:∀i d,i<n->Q i {s with drawn:=d}):ah (ai prog w) A (choose a n) Q E s:=λc p _=>by
 show Sem.wp _ _ (.choose a n .pure) _ _ _ _;rw[Sem.wp_choose];exact⟨by lia,h _ _ (YH _ b)⟩
theorem SU{f:Type}:∀(n:Nat)(a:List f)(s:ae)(Q:List f->ae->Prop),a.length=n->(∀c d,c.Perm a->Q c {s with drawn:=d})->ah (ai prog w) A (drawOrder n a) Q E s
 |0,a,s,Q,b,h=>by
  have:a=[]:=YM.mp b;subst this;exact Zb (h [] s.drawn (.refl _))
 |n+1,[],s,Q,b,h=>by simp at b
 |n+1,x::a,s,Q,b,h=>by
  show ah _ _ (choose .order (x::a).length >>= _) _ _ _;refine Za (qI5 'c' λi d e=>?_);rw[Zc e];refine Za (SU n ((x::a).eraseIdx i) _ _ (by rw[VF e];simpa using b) λc j g=>?_);exact Zb (h _ _ ((g.cons _).trans (Kw e)))
def gH(h:ao)(a:af)(es:Array (Int×aa))(ep:Nat)(t:av):Prop:=∃o,h.get? a=some o/\o.ExactSet/\o.data=.set es ep t
theorem gH.dv{h h':ao}{a:af}{es:Array (Int×aa)}{ep:Nat}{t:av}(x:gH h a es ep t)(k:∀o,h.get? a=some o->h'.get? a=some o):gH h' a es ep t:=let ⟨o,ho,r⟩:=x;⟨o,k o ho,r⟩
theorem gH.ty{s:ae}{a:af}{es:Array (Int×aa)}{ep:Nat}{t:av}(x:gH s.heap a es ep t):s.TypeIs (.ref a) "set":=let ⟨o,ho,hc,_⟩:=x;⟨o,ho,hc.1⟩
theorem gH.lt{h:ao}{a:af}{es:Array (Int×aa)}{ep:Nat}{t:av}(x:gH h a es ep t):a<h.objs.size:=let ⟨_,ho,_⟩:=x;Zo ho
def gW(h:ao)(it:af)(first:aa)(i:Nat)(a:af)(n ep:Nat):Prop:=∃o,h.get? it=some o/\o.cls=.type "set_iterator" /\ o.data=.fields #[first,.int i 0,.ref a,.int n 0,.int ep 0]
theorem gW.ty{s:ae}{it:af}{first:aa}{i:Nat}{a:af}{n ep:Nat}(x:gW s.heap it first i a n ep):s.TypeIs (.ref it) "set_iterator":=let ⟨o,ho,hc,_⟩:=x;⟨o,ho,hc⟩
inductive Md(w:aj)(a:af)(es:Array (Int×aa))(ep:Nat)(t:av):(ao->Prop)->(Nat->aa)->List aa->Prop
 |text (b:w.params.followText "set-order"=true):Md w a es ep t (λ_=>True) (λ_=>.int 0 0) ((pickOrder (w.params.setOrder a ep) es).toList.map (·.2))
 |plain (b:w.params.followText "set-order"=false) (nd:(!t.plain&&decide (es.size>1))=false) (led:t.led=true) (sl:Nat->Nat) (s0:sl 0=0) (bl:∀i,i<=es.size->SetTable.below t.place (sl i)=i) (sn:∀i j,t.place[i]?=some j->sl (i+1)=j+1):Md w a es ep t (λ_=>True) (λi=>.int (sl i) 0) (es.toList.map (·.2))
 |draw (b:w.params.followText "set-order"=false) (tp:af) (ps:List Nat) (pp:ps.Perm (List.range es.size)):Md w a es ep t (λh=>h.IsTuple tp (ps.map λ(i:Nat)=>Value.int i 0).toArray) (λ_=>.ref tp) (ps.map λi=>(es.getD i (0,.none)).2)
variable{it a:af}{es:Array (Int×aa)}{ep i:Nat}{t:av}{OK:ao->Prop}{fst:Nat->aa}{ord:List aa}
theorem q80{Q:Option aa->ae->Prop}(m:Md w a es ep t OK fst ord)(st:gW s.heap it (fst i) i a es.size ep)(x:gH s.heap a es ep t)(p:t.fits es.size=true)(ok:OK s.heap){v:aa}(I:ord[i]?=some v)
  (q:∀n,gW n it (fst (i+1)) (i+1) a es.size ep->Heap.SameBut it s.heap n->Q (some v) {s with heap:=n}):ah (ai prog w) A (pyNext (.ref it)) Q E s:=by
 obtain⟨o,F,R,B⟩:=id st;obtain⟨oa,u,X,r⟩:=id x;unfold pyNext;refine Za (XE (Z7 (name:=Str.ofString "__next__") st.ty bV (Z0 bV st.ty RF ?_ (RD _))));refine Za (Zb (Za (Ws F B ?_)));show ah _ _ (setEntries a >>= _) _ _ s;refine Za (Vs u r p ?_);rw[Zj 'c'];refine Za (Zb ?_);have P:∀{J:aa->ae->Prop}(c:ae) (C:ay) (f:aa),c.heap.get? it=some C->C.cls=.type "set_iterator"->C.data=.fields #[f,.int i 0,.ref a,.int es.size 0,.int ep 0]->f=fst (i+1)->Heap.SameBut it s.heap c.heap->c={s with heap:=c.heap} ->
   ah (ai prog w) A.in1 (setField (.ref it) 1 (rawInt ((i:Int)+1)) >>= λ_=>ret v) (λl c=>∃v,l=Fin.done (Flow.ret v)/\ah (ai prog w) A (pure (some v)) Q E c) J c:=λc C f T yr K Z sb H=>by
  refine Za (YZ T K 'c' (Zb ⟨v,rfl,Zb ?_⟩));rw[H];refine q _ ⟨_,Z8 _ T (YW (Z1 K _)),(Wl ..).trans yr,?_⟩ (sb.trans (Yt ..));rw[Z1 K,Z];simp[rawInt]
 have d:∀{J:aa->ae->Prop}(y:Nat),Value.int y 0=fst (i+1)->ah (ai prog w) A.in1 (setField (.ref it) 0 (rawInt y) >>= λ_=>setField (.ref it) 1 (rawInt ((i:Int)+1)) >>= λ_=>ret v) (λl c=>∃v,l=Fin.done (Flow.ret v)/\ah (ai prog w) A (pure (some v)) Q E c) J s:=λy e=>by
  refine Za (YZ F B 'c' ?_);exact P {s with heap:=s.heap.update it (Obj.mapFields (·.setIfInBounds 0 (rawInt y)))} _ (.int y 0) (Z8 _ F (YW (Z1 B _))) ((Wl ..).trans R) (by rw[Z1 B];simp[rawInt]) e (Yt ..) rfl
 cases m with
 |text b=>
  show ah _ _ (setNext a 0 ((i:Nat):Int).toNat ((ep:Nat):Int).toNat >>= _) _ _ s;rw[ZI,ZI];unfold setNext;refine Za (Za (Yg u r p ?_));dsimp only;unfold setsByText;refine Za (Za (YB (Zb ?_)));refine ZU (λ_=>?_) (λh=>absurd b h);rw[Zj 'c'];unfold setWalk;refine Za (Za (Yg u r p ?_));dsimp only;unfold setsByText;refine Za (Za (YB (Zb ?_)));refine ZU (λ_=>?_) (λh=>absurd b h);refine Za (YB (Zb (Zb ?_)));have g:((pickOrder (w.params.setOrder a ep) es).toList.map (·.2))[i]?=some v:=I;rw[Zf,YX]at g;obtain⟨e,D,rfl⟩:=Zh.mp g;show ah _ _ (match Option.map (λe=>(e.2,0)) (pickOrder (w.params.setOrder a ep) es)[i]? with|some (x,next)=>_|none=>_) _ _ s;rw[D];exact d 0 rfl
 |plain b nd G sl s0 bl sn=>
  show ah _ _ (setNext a ((sl i:Nat):Int).toNat ((i:Nat):Int).toNat ((ep:Nat):Int).toNat >>= _) _ _ s;rw[ZI,ZI,ZI];unfold setNext;refine Za (Za (Yg u r p ?_));dsimp only;unfold setsByText;refine Za (Za (YB (Zb ?_)));refine ZU (λh=>absurd (show w.params.followText "set-order"=true from h) (by rw[b];exact ZA)) (λ_=>?_);refine ZU (λh=>absurd (show(!t.plain&&decide (es.size>1))=true from h) (by rw[nd];exact ZA)) (λ_=>?_);have g:(es.toList.map (·.2))[i]?=some v:=I;rw[Zf,YX]at g;obtain⟨e,D,rfl⟩:=Zh.mp g;have N:=(ZH.mp D).1;have Y:t.place.size=es.size:=by
   have:=p;unfold SetTable.fits at this;simp at this;exact this.1
  obtain⟨j,S⟩:∃j,t.place[i]?=some j:=⟨_,ZT (LW N Y)⟩;refine Za ?_;refine ZU (λh=>?_) (λ_=>Zb (Zb ?_))
  ·have n:(!t.led&&!es.isEmpty)=true:=h;rw[G]at n;cases n
  ·rw[bl i (x6 N),D,S];exact d (j+1) (by show Value.int _ 0=Value.int _ 0;rw[sn i j S])
 |draw b L O W=>
  obtain⟨ot,V,kZ,nt,Al⟩:=id ok;show ah _ _ (seqItems? (.ref L) >>= _) _ _ s;refine Za (Wr V Al ?_);have g:(O.map λi=>(es.getD i (0,.none)).2)[i]?=some v:=I;rw[Zf]at g;obtain⟨k,hk,rfl⟩:=Zh.mp g;have M:k<es.size:=ZR.mp (W.mem_iff.mp (Zm hk));have U:(O.map λ(i:Nat)=>Value.int i 0).toArray[((i:Nat):Int).toNat]?=some (.int k 0):=by rw[ZI,Wb,Zf,hk];rfl
  have ex:es[k]?=some (es.getD k (0,.none)):=by rw[ZT M];simp[Array.getD,M]
  dsimp only;rw[U];show ah _ _ (setNextDrawn a ((k:Nat):Int).toNat ((ep:Nat):Int).toNat >>= _) _ _ s;rw[ZI,ZI];unfold setNextDrawn;refine Za (Za (Yg u r p ?_));dsimp only;rw[Zj 'c'];rw[ex];refine Zb ?_;exact P s o (.ref L) F R B rfl (W0 _ _) rfl
theorem xh7{Q:Option aa->ae->Prop}(D:A.handled=none)(m:Md w a es ep t OK fst ord)(st:gW s.heap it (fst es.size) es.size a es.size ep)(x:gH s.heap a es ep t)(n:t.fits es.size=true)(ok:OK s.heap)
  (q:∀j,Heap.ExtBut it s.heap j->Q none {s with heap:=j}):ah (ai prog w) A (pyNext (.ref it)) Q E s:=by
 obtain⟨o,g,Y,f⟩:=id st;obtain⟨V,l,J,k⟩:=id x;unfold pyNext;refine Za (XE (Z7 (name:=Str.ofString "__next__") st.ty bV (Z0 bV st.ty RF ?_ (RD _))));refine Za (Zb (Za (Ws g f ?_)));show ah _ _ (setEntries a >>= _) _ _ s;refine Za (Vs l k n ?_);rw[Zj 'c'];refine Za (Zb ?_);have c:∀(d:ae)(p:ay)(B:Array aa),d.heap.get? it=some p->p.data=.fields B->B.size=5->Heap.SameBut it s.heap d.heap->d={s with heap:=d.heap} ->
   ah (ai prog w) A.in1 (setField (.ref it) 2 .none >>= λ_=>newExc (.type "StopIteration") [] >>= λe=>raiseNew e) (λc d=>∃v,c=Fin.done (Flow.ret v)/\ah (ai prog w) A (pure (some v)) Q E d) (λe d=>ah (ai prog w) A (isInstance e (.type "StopIteration") >>= λb=>if b=true then pure none else throw e) Q E d) d:=λd p B N L W O u=>by
  refine Za (YZ N L 'a' ?_);refine Za ?_;simp only[newExc,newTuple];refine Za (ZP ?_ (by size_fits));refine Za (m:=firstArgMember _ _) (VS (a:=Value.none) (by first|rfl|(simp only[firstArgMember];rfl)) (ZP ?_ (by size_fits)));simp only[raiseNew];refine Za (wpAny_handled ?_);rw[show A.in1.handled=none by exact D];refine Za (Zb (wpAny_throw ?_));refine Za (XR (T:= "StopIteration") (b:=true) ⟨_,Zi _ rfl,rfl⟩ isSubtype_stop ?_);rw[u];exact Zb (q _ (((O.trans (Yt ..)).extBut.push _).push _))
 cases m with
 |text b=>
  show ah _ _ (setNext a 0 ((es.size:Nat):Int).toNat ((ep:Nat):Int).toNat >>= _) _ _ s;rw[ZI,ZI];unfold setNext;refine Za (Za (Yg l k n ?_));dsimp only;unfold setsByText;refine Za (Za (YB (Zb ?_)));refine ZU (λ_=>?_) (λh=>absurd b h);rw[Zj 'c'];unfold setWalk;refine Za (Za (Yg l k n ?_));dsimp only;unfold setsByText;refine Za (Za (YB (Zb ?_)));refine ZU (λ_=>?_) (λh=>absurd b h);refine Za (YB (Zb (Zb ?_)));have y:(pickOrder (w.params.setOrder a ep) es)[es.size]?=none:=by
   rw[VG];have:=(RB (w.params.setOrder a ep) es).length_eq;simp at this;exact Df this
  show ah _ _ (match Option.map (λe=>(e.2,0)) (pickOrder (w.params.setOrder a ep) es)[es.size]? with|some (x,next)=>_|none=>_) _ _ s;rw[y];exact c s o _ g f rfl (W0 _ _) rfl
 |plain b nd r M S bl Z=>
  show ah _ _ (setNext a ((M es.size:Nat):Int).toNat ((es.size:Nat):Int).toNat ((ep:Nat):Int).toNat >>= _) _ _ s;rw[ZI,ZI,ZI];unfold setNext;refine Za (Za (Yg l k n ?_));dsimp only;unfold setsByText;refine Za (Za (YB (Zb ?_)));refine ZU (λh=>absurd (show w.params.followText "set-order"=true from h) (by rw[b];exact ZA)) (λ_=>?_);refine ZU (λh=>absurd (show(!t.plain&&decide (es.size>1))=true from h) (by rw[nd];exact ZA)) (λ_=>?_);have y:es[es.size]?=none:=XX (Zg _);refine Za ?_;refine ZU (λh=>?_) (λ_=>Zb (Zb ?_))
  ·have j:(!t.led&&!es.isEmpty)=true:=h;rw[r]at j;cases j
  ·rw[bl es.size (Zg _),y];exact c s o _ g f rfl (W0 _ _) rfl
 |draw b F C I=>
  obtain⟨U,H,R,X,K⟩:=id ok;show ah _ _ (seqItems? (.ref F) >>= _) _ _ s;refine Za (Wr H K ?_);have P:C.length=es.size:=by rw[I.length_eq,Yk]
  have G:(C.map λ(i:Nat)=>Value.int i 0).toArray[((es.size:Nat):Int).toNat]?=none:=by rw[ZI,VG];simp;exact Df P
  dsimp only;rw[G];show ah _ _ (setField (.ref it) 0 (rawInt 0) >>= _) _ _ s;refine Za (YZ g f 'c' ?_);exact c {s with heap:=s.heap.update it (Obj.mapFields (·.setIfInBounds 0 (rawInt 0)))} _ _ (Z8 _ g (YW (Z1 f _))) (Z1 f _) 'c' (Yt ..) rfl
end
theorem Inv.Dm{X:Cx}{a:List (af×ay)}{σ:St}{H:Hp}{s:ae}{h':ao}{t':Nat}{d':Drawn}(I:Inv X a σ H s)(k:∀b u,s.heap.get? b=some u->h'.get? b=some u):Inv X a σ H {s with heap:=h',drawn:=d',toks:=t'}:=
 I.call (ch:=[]) (g':=s.gens) (Un.kept k) (I.aS.kept k) I.bare (λb hb=>nomatch hb)
section
variable{it a:af}{es:Array (Int×aa)}{ep:Nat}{t:av}{OK:ao->Prop}{fst:Nat->aa}{ord:List aa}
theorem qY6(x:A.handled=none)(m:Md w a es ep t OK fst ord)(l:ord.length=es.size)(p:t.fits es.size=true)(B:a≠it)(f:List af)(D:it∉f)(u:∀h d:ao,OK h->(∀b∈f,∀o,h.get? b=some o->d.get? b=some o)->OK d):
  Walks prog w A it (it::a::f) [it] es.size (λi v=>ord[i]?=some v) (λi h=>gW h it (fst i) i a es.size ep/\gH h a es ep t/\OK h) where
 sub:=λb hb=>by simp at hb;simp[hb]
 frame:=λ_ _ _ c k=>⟨(let ⟨o,ho,r⟩:=c.1;⟨o,k it 'c' o ho,r⟩),c.2.1.dv λo e=>k a 'c' o e,u _ _ c.2.2 λb hb o e=>k b (by simp[hb]) o e⟩
 item:=λi s Q E j c q=>by
  have n:ord[i]?=some (ord[i]'(LW j l)):=Zc (LW j l);refine q80 m c.1 c.2.1 p c.2.2 n λd y g=>q _ d s.toks n ⟨y,c.2.1.dv λo e=>g.extBut a o B e,u _ _ c.2.2 λb hb o e=>g.extBut b o (λz=>D (by rw[<- z];exact hb)) e⟩ λb o hb e=>g.extBut b o (λh=>hb (by simp[h])) e
 done:=λs Q E c q=>xh7 x m c.1 c.2.1 p c.2.2 λd C=>q d s.toks λb o hb e=>C b o (λh=>hb (by simp[h])) e
 self:=λ_ _ _ _ c q=>by
  refine VW c.1.ty RC (Z0 RC c.1.ty qx9 ?_ (qA0 _));show ah _ _ (ret (.ref it)) _ _ _;exact Zb ⟨_,rfl,"set_iterator",_,c.1.ty,bV.lookup,q⟩
theorem xh8{Q:Bool->ae->Prop}(e:s.TypeIs (.ref a) "set")(h:Q false s):ah (ai prog w) A (Builtin.List.listLengthHint (.ref a)) Q E s:=by
 unfold Builtin.List.listLengthHint;refine Za (X5 e iP.lookup ?_);generalize c:("set.__len__":String)=d
 wp_delta
 rw[show splitId d=some ("set","__len__")from by subst c;decide +kernel];subst c;refine Za (XR (T:= "set") (b:=true) e (by rw[VE];kernel_rfl) ?_);refine ZU (λf=>absurd f 'b') (λ_=>?_);refine ZU (λ_=>?_) (λf=>absurd (by decide +kernel) f);refine Za (WW e ?_);exact Zb h
structure Om(prog:ag)(w:aj)(A:aq)(a:af)(es:Array (Int×aa))(ep:Nat)(t:av)(s s':ae)(it:af)(vs:List aa):Prop where
 perm:vs.Perm (es.toList.map (·.2))
 new:s.heap.objs.size<=it
 keep:∀b o,s.heap.get? b=some o->s'.heap.get? b=some o
 same:∃d,s'={s with heap:=s'.heap,drawn:=d}
 wk:∃mH St,it∉mH/\(∀b∈mH,s.heap.objs.size<=b/\b<s'.heap.objs.size)/\it<s'.heap.objs.size/\Walks prog w A it (it::a::mH) [it] es.size (λi v=>vs[i]?=some v) St/\St 0 s'.heap
theorem pq{Q:aa->ae->Prop}{A':aq}(Z:A'.handled=none)(x:gH s.heap a es ep t)(y:t.fits es.size=true)(hn:es.size<=sizeLine)(hl:t.led=!w.params.followText "set-order")(hr:(!t.plain&&decide (es.size>1))=true\/bI.gT t.place)
  (q:∀it vs C,Om prog w A' a es ep t s C it vs->Q (.ref it) C):ah (ai prog w) A (pyIter (.ref a)) Q E s:=by
 obtain⟨o,n,hc,I⟩:=id x;have Nt:=x.lt;refine VW x.ty PySem.F.slot_set_iter (Z0 PySem.F.slot_set_iter x.ty qA1 ?_ (PySem.F.args_set_iter_1 _));refine Za (Zb ?_);show ah _ _ (Builtin.Frozenset.sizeOf a >>= _) _ _ _;unfold Builtin.Frozenset.sizeOf;refine Za (Za (Vs n I y (Zb ?_)));unfold setDrawn setsByText;refine Za (Za (Yg n I y ?_));dsimp only;refine Za (Za (YB (Zb (Zb ?_))));have last:∀(c:ae)(first:aa)(OK:ao->Prop)(fst:Nat->aa)(ord:List aa)(p:List af)(d:Drawn),c={s with heap:=c.heap,drawn:=d}->(∀b o,s.heap.get? b=some o->c.heap.get? b=some o)->s.heap.objs.size<=c.heap.objs.size->Md w a es ep t OK fst ord->fst 0=first->OK c.heap->ord.Perm (es.toList.map (·.2))->(∀b∈p,s.heap.objs.size<=b/\b<c.heap.objs.size)->(∀h f:ao,OK h->(∀b∈p,∀o,h.get? b=some o->f.get? b=some o)->OK f) ->
   ah (ai prog w) A.in1 (setEpoch a >>= λe=>newFields "set_iterator" [first,rawInt 0,.ref a,rawInt es.size,rawInt e] >>= λv=>ret v) (λK C=>∃v,K=.done (.ret v)/\∃T u,C.TypeIs v T/\typeLookup (.type T) "__next__"=pure (some u)/\Q v C) E c:=λc first OK fst ord p d e1 U S m ef ok D F W=>by
  have V:=U _ _ n;refine Za (wpAny_setEpoch_of V I y ?_);refine Za (ZP (Zb ⟨_,rfl,"set_iterator",_,⟨_,Zi _ rfl,rfl⟩,bV.lookup,?_⟩));have yB:ord.length=es.size:=by rw[D.length_eq,Ze,Ys]
  refine q c.heap.objs.size ord _ ⟨D,S,λb o e=>Zd _ (U b o e),⟨d,by rw[e1]⟩,p,_,λz=>Yn _ (F _ z).2,λb hb=>⟨(F b hb).1,by rw[Z4];exact Yl (F b hb).2⟩,by rw[Z4];exact Yb _,qY6 Z m yB y (Zu (ZQ Nt S)) p (λz=>Yn _ (F _ z).2) W,?_⟩;exact⟨⟨_,Zi _ rfl,rfl,by rw[ef];simp[rawInt]⟩,⟨o,Zd _ V,hc,I⟩,W _ _ ok λb _ o e=>Zd _ e⟩
 by_cases hb:w.params.followText "set-order"=true
 ·refine ZU (λh=>?_) (λ_=>?_)
  ·have f:(!w.params.followText "set-order"&&(!t.plain&&decide (es.size>1)))=true:=h;rw[hb]at f;cases f
  ·refine Za (Zb ?_);exact last s (.int 0 0) _ _ _ [] s.drawn rfl (λ_ _ e=>e) (Zg _) (.text hb) rfl trivial ((RB _ _).map _) (λb hb=>nomatch hb) (λ_ _ _ _=>trivial)
 ·have G:w.params.followText "set-order"=false:=ZX.mpr hb;have L:t.led=true:=by rw[hl,G];rfl
  refine ZU (λh=>?_) (λh=>?_)
  ·refine Za (SU es.size (List.range es.size) _ _ 'c' λg d M=>Za ?_);have jI:g.length=es.size:=by rw[M.length_eq,Yk]
   refine wpAny_newTuple ?_ (by rw[Ze];exact xZ jI hn);have hT:(s.heap.push (seqObj "tuple" (g.map λ(i:Nat)=>Value.int i 0).toArray 0)).get? s.heap.objs.size=some (seqObj "tuple" (g.map λ(i:Nat)=>Value.int i 0).toArray 0):=Zi _ rfl;have er:((List.range es.size).map λi=>(es.getD i (0,.none)).2)=es.toList.map (·.2):=by
    refine List.ext_getElem 'c' λi h1 h2=>?_;have O:i<es.size:=by simpa using h1
    simp[Array.getD,O]
   have D:(g.map λi=>(es.getD i (0,.none)).2).Perm (es.toList.map (·.2)):=by rw[<- er];exact M.map _
   exact last {s with heap:=s.heap.push (seqObj "tuple" (g.map λ(i:Nat)=>Value.int i 0).toArray 0),drawn:=d} (.ref s.heap.objs.size) _ _ _ [s.heap.objs.size] d rfl (λb o e=>Zd _ e) (by rw[Z4];exact Wq _) (.draw G s.heap.objs.size g M) rfl ⟨_,hT,rfl,0,rfl⟩ D
    (λb hb=>by rw[WN.mp hb,Z4];exact⟨Zg _,Yb _⟩) (λh f ⟨o,n,r⟩ k=>⟨o,k _ 'c' o n,r⟩)
  ·refine Za (Zb ?_);have nd:(!t.plain&&decide (es.size>1))=false:=by
    have f:¬(!w.params.followText "set-order"&&(!t.plain&&decide (es.size>1)))=true:=h;rw[G]at f;simpa using f
   have N:bI.gT t.place:=by
    rcases hr with z|z
    ·rw[nd]at z;cases z
    ·exact z
   have DK:t.place.size=es.size:=by
    have:=y;unfold SetTable.fits at this;simp at this;exact this.1
   refine last s (.int 0 0) _ _ _ [] s.drawn rfl (λ_ _ e=>e) (Zg _) (.plain G nd L (λi=>if i=0 then 0 else t.place.getD (i-1) 0+1) rfl (λi O=>?_) (λi j hj=>?_)) rfl trivial (List.Perm.refl _) (λb hb=>nomatch hb) (λ_ _ _ _=>trivial)
   ·obtain⟨X,l,H⟩:=bI.fh N (if i=0 then 0 else t.place.getD (i-1) 0+1);generalize SetTable.below t.place (if i=0 then 0 else t.place.getD (i-1) 0+1)=B at X l H;by_cases P:i=0
    ·subst P;rw[Zn rfl]at l;by_cases Y:B=0
     ·exact Y
     ·exact absurd (l 0 'a' 'a') (Y0 _)
    ·rw[Zj P]at l H;have J:i-1<t.place.size:=by lia
     have eg:t.place.getD (i-1) 0=t.place[i-1]:=by simp[Array.getD,J]
     rw[eg]at l H;rcases XA B i with z|z|z
     ·have:=H (i-1) J 'a';lia
     ·exact z
     ·have R:i<t.place.size:=by lia
      have q1:=l i R z;have q2:=N (i-1) i J R 'a';lia
   ·show(if i+1=0 then 0 else t.place.getD (i+1-1) 0+1)=j+1;rw[Zj 'a',WP];obtain⟨h1,h2⟩:=ZH.mp hj;simp[Array.getD,h1,h2]
theorem qN2{Q:List aa->ae->Prop}(R:A.handled=none)(x:gH s.heap a es ep t)(hf:t.fits es.size=true)(N:es.size<=sizeLine)(hl:t.led=!w.params.followText "set-order")(hr:(!t.plain&&decide (es.size>1))=true\/bI.gT t.place)
  (Y:∀f M n d,f.Perm (es.toList.map (·.2))->(∀b o,s.heap.get? b=some o->M.get? b=some o)->Q f {s with heap:=M,drawn:=d,toks:=n}):ah (ai prog w) A (collect (.ref a)) Q E s:=by
 have P:=x.lt;unfold collect;refine Za (wpAny_runValue (Y7 PySem.F.entry_proto_collect ?_));rw[Y4 PySem.F.plain_proto_collect _];show ah _ A.in1 (newList [] >>= λl=>again (.builtin "list.__iadd__" ⟨[l,.ref a],[]⟩)) _ _ s;refine Za (ZP ?_);refine Zb ⟨Wa PySem.F.plain_list_iadd _,Y7 PySem.F.entry_list_iadd ?_⟩;rw[Y4 PySem.F.plain_list_iadd _];have X:(s.heap.push (seqObj "list" #[] 0)).get? s.heap.objs.size=some (seqObj "list" #[] 0):=Zi _ rfl;show ah _ A.in1 (Builtin.List.listExtendWith (.ref s.heap.objs.size) (.ref a) (.ref s.heap.objs.size)) _ _ {s with heap:=s.heap.push (seqObj "list" #[] 0)};have B:gH (s.heap.push (seqObj "list" #[] 0)) a es ep t:=x.dv λo e=>Zd _ e;unfold Builtin.List.listExtendWith;refine Za (WW (T:= "set") (s:={s with heap:=s.heap.push (seqObj "list" #[] 0)}) B.ty ?_);have h1:Builtin.List.listSameRef (.ref s.heap.objs.size) (.ref a)=false:=by simp[Builtin.List.listSameRef,XU P]
 simp only[h1,show(Value.type "set"== Value.type "list")=false by decide,show(Value.type "set"== Value.type "tuple")=false by decide,Bool.or_false,Zy,Z6];refine Za (pq (A':=A.in1) (s:={s with heap:=s.heap.push (seqObj "list" #[] 0)}) R B hf N hl hr λit f g I=>?_);obtain⟨H,Z,C,⟨d,S⟩,mH,St,wI,r,D9,W,O⟩:=I;have hz:(s.heap.push (seqObj "list" #[] 0)).objs.size=s.heap.objs.size+1:=Z4 ..;have G:s.heap.objs.size+1<=it:=by rw[<- hz];exact Z
 have D:s.heap.objs.size∉it::a::mH:=by
  intro z;rcases Zz.mp z with z|z
  ·exact absurd z (Zu G)
  ·rcases Zz.mp z with z|z
   ·exact absurd z (XU P)
   ·have:=(r _ z).1;rw[hz]at this;exact absurd this (Nat.not_le.mpr (Yb _))
 have x2:gH g.heap a es ep t:=B.dv λo e=>C _ _ e;have p:=C _ _ X;have key:∀(h:ao)(c n:Nat),St 0 h->(∀b o,b≠s.heap.objs.size->g.heap.get? b=some o->h.get? b=some o)->h.get? s.heap.objs.size=some (seqObj "list" #[] c) ->
   codeAny (ai prog w) A (.builtin "list.extend.loop" ⟨[.ref s.heap.objs.size,.ref it,.ref s.heap.objs.size],[]⟩) (wants (λv m=>ah (ai prog w) A (match v with|.ref a=>(do let ob <- load a;match ob.data with|.seq xs _=>pure xs.toList|_=>unsupported "internal:collect")|_=>unsupported "internal:collect") Q E m) E) {s with heap:=h,drawn:=d,toks:=n}:=by
  intro h c n kJ hk u;refine codeAny_extend_loopS W.toS N s.heap.objs.size D (.ref s.heap.objs.size) es.size 0 _ #[] c rfl (Zs _) kJ u (ItemsOf.nil _) λm k c' J V L=>?_;rw[Moved.eq_with J];show ah _ A (load s.heap.objs.size >>= _) _ _ _;refine Za (wpAny_load V ?_);have ev:k.toList=f:=by
   have y:f.length=es.size:=by rw[H.length_eq,Ze,Ys]
   refine Wp λi=>?_;rw[YX];by_cases j:i<k.size
   ·have:=L.2 i k[i] (ZT j);rw[ZT j,this]
   ·rw[XX (u7 j),YI (by rw[y,<- L.1];exact u7 j)]
  refine Zb ?_;show Q k.toList _;rw[ev];refine Y f m.heap m.toks d H λb o e=>?_;have hb:=Zo e;have U:g.heap.get? b=some o:=C _ _ (Zd _ e);refine J.heap b o (λz=>?_) (hk b o (Zu hb) U);rcases Zz.mp z with z|z
  ·exact Zu hb z
  ·exact Zu (ZQ (Yl hb) G) (WN.mp z)
 rw[S];refine Za (Yo (xh8 (s:={s with heap:=g.heap,drawn:=d}) x2.ty ?_));refine ZU (λ_=>?_) (λ_=>Zb ⟨Wa VO _,key _ 0 _ O (λb o _ e=>e) p⟩);refine Za (Xn ?_);refine Za ?_;show ah _ _ (updateSeq s.heap.objs.size (·.push .none) >>= λ_=>updateSeq s.heap.objs.size (·.pop)) _ _ _;refine Za (wpAny_updateSeq p rfl ?_);have K:=Z8 (Obj.mapSeq (·.push Value.none)) p rfl;refine wpAny_updateSeq (hz:=by seq_fits) K rfl ?_;have q:=Z8 (Obj.mapSeq (·.pop)) K rfl;refine Zb ⟨Wa VO _,key _ _ _ ?_ (λb o hb e=>?_) q⟩
 ·refine W.frame 0 _ _ O λb hb o e=>?_;have F:b≠s.heap.objs.size:=λh=>D (h▸hb);exact(ZJ _ _ (YK F)).trans ((ZJ _ _ (YK F)).trans e)
 ·exact(ZJ _ _ (YK hb)).trans ((ZJ _ _ (YK hb)).trans e)
end
end L2
namespace PyProof.Rows
open PySem
def NK:Bool->Keyed->Array Keyed->Nat->Nat->Nat->StateT aw Sem (Option Nat):=sortPriv% PySem.Builtin.gallop
def KL(prog:ag)(w:aj)(A:aq)(s:ae)(Pv:aa->Prop)(kd:SortKind):Prop:=
 ∀(E:aa->ae->Prop)(x y:aa)(Q:Bool->ae->Prop),Pv x->Pv y->(∀b,Q b s)->ah (ai prog w) A (keyLt' kd x y) Q E s
def AP(Pv:aa->Prop)(a:Array Keyed):Prop:=∀q∈a.toList,Pv q.1
section
variable{Pv:aa->Prop}
theorem AP.at_{a:Array Keyed}(h:AP Pv a){i:Nat}(b:i<a.size):Pv a[i].1:=h a[i] 'c'
theorem AP.perm{a b:Array Keyed}(h:AP Pv b)(p:a.Perm b):AP Pv a:=λq c=>h q ((Wt.mp p).mem_iff.mp c)
theorem AP.ext{a:Array Keyed}(h:AP Pv a)(i j:Nat):AP Pv (a.extract i j):=λq b=>by
 rw[Array.toList_extract,List.extract_eq_drop_take]at b;exact h q (List.mem_of_mem_drop (List.mem_of_mem_take b))
end
structure gU(st aJ:aw):Prop where
 perm:(arrOf aJ).Perm (arrOf st)
 kind:kindOf aJ=kindOf st
 fail:failedOf aJ=failedOf st
 pend:pendingOf aJ=pendingOf st
theorem gU.refl(st:aw):gU st st:=⟨.refl _,rfl,rfl,rfl⟩
theorem gU.trans{a b c:aw}(h:gU a b)(k:gU b c):gU a c:=⟨k.perm.trans h.perm,k.kind.trans h.kind,k.fail.trans h.fail,k.pend.trans h.pend⟩
theorem gU.size{a b:aw}(h:gU a b):(arrOf b).size=(arrOf a).size:=h.perm.size_eq
theorem gU.rev{st a:aw}(h:gU st a)(i j k:Nat):gU st (setArr a (mirror (arrOf a) i j k)):=h.trans ⟨mirror_perm _ _ _ _,rfl,rfl,rfl⟩
section
variable{Pv:aa->Prop}{kd:SortKind}
theorem BK(d:KL prog w A s Pv kd){st:aw}{x y:Keyed}{Q:Option Bool->aw->Prop}(hk:kindOf st=kd)(a:Pv x.1)(c:Pv y.1)(h:∀b,Q (some b) st):wpS (ai prog w) A E s (lt' x y) Q st:=by
 rw[lt'_eq];refine Zr (Vg ?_);rw[hk];exact Zr (V0 (XE (d _ _ _ _ a c λb=>⟨rfl,ZB (h b)⟩)))
theorem iq{st:aw}{a:Array Keyed}{i:Nat}(b:i<a.size){Q:Keyed->aw->Prop}(h:Q a[i] st):wpS (ai prog w) A E s (elem' a i) Q st:=by
 rw[elem'_eq,getElem?_pos a i b];exact ZB h
theorem Se(d:KL prog w A s Pv kd){st:aw}{i j:Nat}{Q:Option Bool->aw->Prop}(hk:kindOf st=kd)(h0:AP Pv (arrOf st))(c:i<(arrOf st).size)(a:j<(arrOf st).size)(h:∀b,Q (some b) st):wpS (ai prog w) A E s (ltAt' i j) Q st:=by
 rw[ltAt'_eq];refine Zr (Vg ?_);exact Zr (iq c (Zr (iq a (BK d hk (h0.at_ c) (h0.at_ a) h))))
theorem zx(G:KL prog w A s Pv kd){left:Bool}{key:Keyed}{p:Array Keyed}{base n hint:Nat}{st:aw}{Q:Option Nat->aw->Prop}(hk:kindOf st=kd)(K:Pv key.1)(L:AP Pv p)(T:base+n<=p.size)(N:hint<n)(h:∀c,c<=n->Q (some c) st):
  wpS (ai prog w) A E s (NK left key p base n hint) Q st:=by
 have C:∀(i:Nat)(k:Option Bool->aw->Prop),i<n->(∀b,k (some b) st)->wpS (ai prog w) A E s (elem' p (base+i) >>= λx=>if left=true then lt' x key else lt' key x >>= λr=>pure (Option.map (λx=>!x) r)) k st:=λi k a H=>by
  have hb:base+i<p.size:=by lia
  refine Zr (iq hb ?_);cases left with
  |true=>exact BK G hk (L.at_ hb) K H
  |false=>exact Zr (BK G hk K (L.at_ hb) λb=>ZB (H (!b)))
 have fin:∀d a,d<=a->a<=n->∀(f:Nat->Option (Option Nat)×Nat×Nat->StateT aw Sem (ForInStep (Option (Option Nat)×Nat×Nat)))(g:Option (Option Nat)×Nat×Nat->StateT aw Sem (Option Nat)),
   (∀x d a k,d<a->a<=n->k (ForInStep.yield (none,d+(a-d)/2+1,a)) st->k (ForInStep.yield (none,d,d+(a-d)/2)) st->wpS (ai prog w) A E s (f x (none,d,a)) k st) ->
   (∀x d a,d>=a->f x (none,d,a)=pure (ForInStep.done (none,d,a)))->(∀d a,g (none,d,a)=pure (some a))->wpS (ai prog w) A E s (forIn [:n] (none,d,a) f >>= g) Q st:=by
  intro d a h1 h2 f g S R O;refine Zr (WD (Xe (I:=λx e j=>j=st/\∃d a,e=(none,d,a)/\d<=a/\a<=n) (Q:=λe j=>j=st/\∃d a,e=(none,d,a)/\a<=n) ?step ?fin ⟨rfl,d,a,rfl,h1,h2⟩) ?post)
  case post=>
   rintro e j ⟨rfl,d,a,rfl,M⟩;rw[O];exact ZB (h a M)
  case fin=>
   rintro e j ⟨rfl,d,a,rfl,q,m⟩;exact⟨rfl,d,a,rfl,m⟩
  case step=>
   rintro x e j _ J ⟨rfl,d,a,rfl,q,m⟩;by_cases u:d>=a
   ·rw[R x d a u];exact ZB ⟨rfl,d,a,rfl,m⟩
   ·exact S x d a _ 'a' m ⟨rfl,_,_,rfl,by lia,m⟩ ⟨rfl,_,_,rfl,by lia,by lia⟩
 have go:∀(x d a:Nat)(k:ForInStep (Option (Option Nat)×Nat×Nat)->aw->Prop),d<a->a<=n->k (ForInStep.yield (none,d+(a-d)/2+1,a)) st->k (ForInStep.yield (none,d,d+(a-d)/2)) st ->
   ∀F:Option Bool->StateT aw Sem (ForInStep (Option (Option Nat)×Nat×Nat)),(∀b:Bool,F (some b)=if b=true then pure (ForInStep.yield (none,d+(a-d)/2+1,a))else pure (ForInStep.yield (none,d,d+(a-d)/2))) ->
   wpS (ai prog w) A E s ((elem' p (base+(d+(a-d)/2)) >>= λx=>if left=true then lt' x key else lt' key x >>= λr=>pure (Option.map (λx=>!x) r)) >>= F) k st:=by
  intro x d a k D B t y F P;refine Zr (C _ _ 'a' λb=>?_);rw[P];cases b with
  |true=>exact ZB t
  |false=>exact ZB y
 refine Zr (C hint _ N λr=>?_);cases r with
 |true=>
  dsimp only;rw[Zn rfl];refine Zr (WD (Xe (I:=λx e j=>j=st/\∃l o,e=(none,l,o)/\l<o/\hint+l<n) (Q:=λe j=>j=st/\∃l o,e=(none,l,o)/\l<o/\hint+l<n) ?step ?fin ⟨rfl,0,1,rfl,by decide,by lia⟩) ?post)
  case fin=>
   rintro e j h;exact h
  case step=>
   rintro x e j _ J ⟨rfl,l,o,rfl,q,m⟩;dsimp only;by_cases v:o>=n-hint
   ·rw[Zn v];exact ZB ⟨rfl,l,o,rfl,q,m⟩
   ·rw[Zj v];refine Zr (C (hint+o) _ 'a' λb=>?_);cases b with
    |true=>exact ZB ⟨rfl,o,2*o+1,rfl,by lia,by lia⟩
    |false=>exact ZB ⟨rfl,l,o,rfl,q,m⟩
  case post=>
   rintro e j ⟨rfl,l,o,rfl,q,m⟩;dsimp only;refine fin (hint+l+1) (hint+min o (n-hint)) 'a' 'a' _ _ (λx d a k D B t y=>?_) (λx d a u=>?_) (λd a=>rfl)
   ·dsimp only;rw[Zj 'a'];exact go x d a k D B t y _ (λb=>rfl)
   ·dsimp only;rw[Zn u]
 |false=>
  dsimp only;rw[Zj 'b'];refine Zr (WD (Xe (I:=λx e j=>j=st/\∃l o,e=(none,l,o)/\l<o/\l<=hint) (Q:=λe j=>j=st/\∃l o,e=(none,l,o)/\l<o/\l<=hint) ?step ?fin ⟨rfl,0,1,rfl,by decide,by lia⟩) ?post)
  case fin=>
   rintro e j h;exact h
  case step=>
   rintro x e j _ J ⟨rfl,l,o,rfl,q,m⟩;dsimp only;by_cases v:o>=hint+1
   ·rw[Zn v];exact ZB ⟨rfl,l,o,rfl,q,m⟩
   ·rw[Zj v];refine Zr (C (hint-o) _ 'a' λb=>?_);cases b with
    |true=>exact ZB ⟨rfl,l,o,rfl,q,m⟩
    |false=>exact ZB ⟨rfl,o,2*o+1,rfl,by lia,by lia⟩
  case post=>
   rintro e j ⟨rfl,l,o,rfl,q,m⟩;dsimp only;refine fin (hint+1-min o (hint+1)) (hint-l) 'a' 'a' _ _ (λx d a k D B t y=>?_) (λx d a u=>?_) (λd a=>rfl)
   ·dsimp only;rw[Zj 'a'];exact go x d a k D B t y _ (λb=>rfl)
   ·dsimp only;rw[Zn u]
theorem xh9(t:KL prog w A s Pv kd){st:aw}{d n ok:Nat}{Q:Bool->aw->Prop}(hk:kindOf st=kd)(h0:AP Pv (arrOf st))(y:d+n<=(arrOf st).size)(h:∀a,gU st a->Q true a):wpS (ai prog w) A E s (binarySort' d n ok) Q st:=by
 refine Zr (WD (Xe (I:=λk c a=>c=(none,())/\gU st a) (Q:=λc a=>c=(none,())/\gU st a) ?step (λc a h=>h) ⟨rfl,gU.refl _⟩) ?post)
 case post=>
  rintro c a ⟨rfl,m⟩;exact ZB (h a m)
 case step=>
  rintro k c j v u ⟨rfl,f⟩;have i:d+k<(arrOf j).size:=by rw[f.size];lia
  refine Zr (WD (Xe (I:=λx c e=>e=j/\∃l r,c=(none,l,r)/\l<=r/\r<=k) (Q:=λc e=>e=j/\∃l r,c=(none,l,r)/\l<=r/\r<=k) ?Dp (λc e h=>h) ⟨rfl,0,k,rfl,Zs _,Zg _⟩) ?Dq)
  case Dp=>
   rintro x c e _ B ⟨rfl,l,r,rfl,p,g⟩;dsimp only;by_cases q:l>=r
   ·rw[Zn q];exact ZB ⟨rfl,l,r,rfl,p,g⟩
   ·rw[Zj q];refine Zr (Se t (f.kind.trans hk) (h0.perm f.perm) i (show d+(l+r)/2<_ by lia) λb=>?_);cases b with
    |true=>exact ZB ⟨rfl,l,(l+r)/2,rfl,by lia,by lia⟩
    |false=>exact ZB ⟨rfl,(l+r)/2+1,r,rfl,by lia,g⟩
  case Dq=>
   rintro c e ⟨rfl,l,r,rfl,p,g⟩;dsimp only;refine Zr (m:=moveDown' (d+k) (d+l)) ?_;rw[moveDown'_eq];exact XH (ZB ⟨rfl,f.trans ⟨bubble_perm _ _ _,rfl,rfl,rfl⟩⟩)
theorem FY{st:aw}{i j:Nat}{Q:Unit->aw->Prop}(h:Q () (setArr st (mirror (arrOf st) i j ((j-i)/2)))):wpS (ai prog w) A E s (reverseSlice' i j) Q st:=by
 rw[reverseSlice'_eq];exact XH h
theorem Sd{st:aw}{a b:Nat}{Q:Option (Option Nat)×Nat->aw->Prop}(j:a<=b)(h:∀n,a<=n->n<=b->Q (none,n) st)(f:Nat->Option (Option Nat)×Nat->StateT aw Sem (ForInStep (Option (Option Nat)×Nat)))
  (k:∀x n (i:ForInStep (Option (Option Nat)×Nat)->aw->Prop),a<=n->n<b->i (.done (none,n)) st->i (.yield (none,n+1)) st->wpS (ai prog w) A E s (f x (none,n)) i st):wpS (ai prog w) A E s (forIn [a:b] (none,a) f) Q st:=by
 refine WD (Xe (I:=λx c d=>d=st/\c=(none,x)/\a<=x/\x<=b) (Q:=λc d=>d=st/\∃n,c=(none,n)/\a<=n/\n<=b) ?step ?fin ⟨rfl,rfl,Zg _,j⟩) ?post
 case post=>
  rintro c d ⟨rfl,n,rfl,e,g⟩;exact h n e g
 case fin=>
  rintro c d ⟨rfl,rfl,e,g⟩;exact⟨rfl,_,rfl,e,g⟩
 case step=>
  rintro x c d h1 h2 ⟨rfl,rfl,e,g⟩;exact k x x _ h1 h2 ⟨rfl,x,rfl,e,g⟩ ⟨rfl,rfl,by lia,h2⟩
theorem xv0{c:Prop}{P G:aw->Prop}(a:(∀m,P m->G m)->c)(b:∀m,P m->G m):c:=a b
theorem xi0(T:KL prog w A s Pv kd){st:aw}{d g:Nat}{Q:Option Nat->aw->Prop}(hk:kindOf st=kd)(h0:AP Pv (arrOf st))(hn:d+g<=(arrOf st).size)(h1:1<=g)
  (h:∀m M,1<=m->m<=g->gU st M->Q (some m) M):wpS (ai prog w) A E s (countRun' d g) Q st:=by
 have e:∀{l:aw}(m:gU st l){i j:Nat}{t:Option Bool->aw->Prop},i<g->j<g->(∀b,t (some b) l)->wpS (ai prog w) A E s (ltAt' (d+i) (d+j)) t l:=λ{l} m {i j t} Z hj q=>Se T (m.kind.trans hk) (h0.perm m.perm) (by rw[m.size];lia) (by rw[m.size];lia) q;refine Zr (Sd h1 (λn L N=>?_) _ (λx n t R y D H=>?_))
 ·dsimp only;by_cases J:n=g
  ·rw[Zn (by simp[J])];exact ZB (h n st L N (gU.refl _))
  ·rw[Zj (by simp[J])];refine' xv0 (P:=λl=>gU st l) (G:=_) (λkey=>?ka) (λl mv=>?kb)
   case ka=>
    by_cases u:n>1
    case pos=>
     rw[Zn u];rw[show d+n-1=d+(n-1) by lia];refine Zr (e (gU.refl _) (i:=0) (j:=n-1) 'a' 'a' λb=>?_);cases b with
     |true=>exact ZB (h n st L N (gU.refl _))
     |false=>
      dsimp only;rw[Zj 'b'];refine Zr (FY ?_);have mv:=(gU.refl st).rev d (d+n) ((d+n-d)/2);generalize setArr st (mirror (arrOf st) d (d+n) ((d+n-d)/2))=l at mv ⊢;exact key l mv
    case neg=>
     rw[Zj u];exact key st (gU.refl _)
   case kb=>
    refine Zr (V0 (Xn ⟨rfl,?_⟩));refine Zr (WD (Xe (I:=λx c p=>∃q,c=(none,x,q)/\gU st p/\n+1<=x/\x<=g) (Q:=λc p=>∃m q,c=(none,m,q)/\gU st p/\n+1<=m/\m<=g) ?step ?fin ⟨0,rfl,mv,Zg _,by lia⟩) ?post)
    case fin=>
     rintro c p ⟨q,rfl,S,X,W⟩;exact⟨_,q,rfl,S,X,W⟩
    case step=>
     rintro x c p a b ⟨q,rfl,f,K,B⟩;dsimp only;rw[show d+x-1=d+(x-1) by lia];refine Zr (e f b 'a' λV=>?_);cases V with
     |false=>
      dsimp only;rw[Zj 'b'];refine Zr (e f 'a' b λU=>?_);cases U with
      |false=>
       dsimp only;rw[Zj 'b'];exact ZB ⟨q+1,rfl,f,by lia,by lia⟩
      |true=>exact ZB ⟨x,q,rfl,f,K,B⟩
     |true=>
      dsimp only;rw[Zn rfl];by_cases r:q>0
      ·rw[Zn r];exact Zr (FY (ZB ⟨0,rfl,f.rev _ _ _,by lia,by lia⟩))
      ·rw[Zj r];exact ZB ⟨0,rfl,f,by lia,by lia⟩
    case post=>
     rintro c p ⟨m,q,rfl,f,K,B⟩;dsimp only;by_cases r:q>0
     case' neg=>
      rw[Zj r];have v:=f;generalize p=F at v ⊢
     case' pos=>
      rw[Zn r];refine Zr (FY ?_);have v:=f.rev (d+m-(q+1)) (d+m) ((d+m-(d+m-(q+1)))/2);generalize setArr p (mirror (arrOf p) (d+m-(q+1)) (d+m) ((d+m-(d+m-(q+1)))/2))=F at v ⊢
     all_goals
      refine Zr (FY ?_);have C:=v.rev d (d+m) ((d+m-d)/2);generalize setArr F (mirror (arrOf F) d (d+m) ((d+m-d)/2))=O at C ⊢;refine Zr (Sd B (λk k1 Y=>?_) _ (λx k t R y D H=>?_))
      ·exact ZB (h k O 'a' Y C)
      ·dsimp only;rw[show d+k-1=d+(k-1) by lia];refine Zr (e C y 'a' λb=>?_);cases b with
       |true=>exact ZB D
       |false=>exact ZB H
 ·dsimp only;rw[show d+n-1=d+(n-1) by lia];refine Zr (e (gU.refl _) y 'a' λb=>?_);cases b with
  |true=>exact ZB D
  |false=>exact ZB H
end
def LS:Array Keyed->Array Keyed->StateT aw Sem (Array Keyed):=sortPriv% PySem.Builtin.mergeLo
abbrev ou(st:aw)(g:Nat):aw:=SortSt.mk' (kindOf st) (arrOf st) (pendingOf st) g (failedOf st)
def Oe{a:Type}{b:Type _}(f:a->b)(x:a):b:=f x
def Od{b a:Type}{c:Type _}(f:b->a->c)(x:b)(y:a):c:=f x y
section
variable{M:Model}{A:aq}{E:aa->ae->Prop}{s:ae}{σ α:Type}
theorem xw{c:Prop}[Decidable c]{x y:StateT σ Sem α}{Q:α->σ->Prop}{st:σ}(h:c)(k:wpS M A E s x Q st):wpS M A E s (if c then x else y) Q st:=by rw[Zn h];exact k
theorem xu{c:Prop}[Decidable c]{x y:StateT σ Sem α}{Q:α->σ->Prop}{st:σ}(h:¬c)(k:wpS M A E s y Q st):wpS M A E s (if c then x else y) Q st:=by rw[Zj h];exact k
theorem sS{c:Prop}[Decidable c]{x y:StateT σ Sem α}{Q:α->σ->Prop}{st:σ}(h:c->wpS M A E s x Q st)(k:¬c->wpS M A E s y Q st):wpS M A E s (if c then x else y) Q st:=
 if e:c then xw e (h e)else xu e (k e)
theorem km{i j:Nat}{x y:StateT σ Sem α}{Q:α->σ->Prop}{st:σ}(h:i=j->wpS M A E s x Q st)(k:i≠j->wpS M A E s y Q st):wpS M A E s (if(i==j)=true then x else y) Q st:=
 sS (λe=>h (YT.mp e)) λe=>k λz=>e (YT.mpr z)
theorem zp{d l:Type}{a b:Nat}{f:Nat->d->StateT σ Sem (ForInStep d)}{k:d->StateT σ Sem l}{j:l->σ->Prop}(I:Nat->d->σ->Prop){Q:d->σ->Prop}
  (step:∀(i:Nat)(c:d)(st:σ),a<=i->i<b->I i c st->wpS M A E s (Od f i c) (λr h=>match r with|ForInStep.done e=>Q e h|ForInStep.yield e=>I (i+1) e h) st)
  (fin:∀(c:d)(st:σ),I (max a b) c st->Q c st){c:d}{st:σ}(g:I a c st) (post:∀e h,Q e h->wpS M A E s (Oe k e) j h):wpS M A E s (forIn [a:b] c f >>= k) j st:=Zr (WD (Xe I step fin g) post)
end
theorem UJ{c:Prop}{P G:Nat->Prop}(a:(∀m,P m->G m)->c)(b:∀m,P m->G m):c:=a b
theorem Dl{c:Prop}{P G:Nat->Array Keyed->Prop}(a:(∀m o,P m o->G m o)->c)(b:∀m o,P m o->G m o):c:=a b
theorem Je{a:Type}(l m n:List a):(l++(m++n)).Perm (m++(l++n)):=by
 rw[<- ZG,<- ZG];exact W2 n Xz
theorem zF{a:Array Keyed}{i j:Nat}:(a.extract i j).toList=(a.toList.drop i).take (j-i):=by
 rw[Array.toList_extract,List.extract_eq_drop_take]
theorem Pp{a:Array Keyed}{i:Nat}(h:i<a.size):a.toList.drop i=[a[i]]++a.toList.drop (i+1):=by
 rw[Wx (by simpa using h)];simp
theorem Po{a:Array Keyed}{i k:Nat}:a.toList.drop i=(a.extract i (i+k)).toList++a.toList.drop (i+k):=by
 rw[zF,<- W3,show i+k-i=k by lia,YG]
theorem Fi{a:Array Keyed}{i:Nat}:(a.extract i a.size).toList=a.toList.drop i:=by
 rw[zF,Xs 'c']
def M0(a b out:Array Keyed)(ia ib:Nat):Prop:=(out.toList++(a.toList.drop ia++b.toList.drop ib)).Perm (a.toList++b.toList)
abbrev R0(a b out:Array Keyed):Prop:=out.toList.Perm (a.toList++b.toList)
section
variable{a b out:Array Keyed}{ia ib:Nat}
theorem M0.ta(m:M0 a b out ia ib)(h:ia<a.size):M0 a b (out.push a[ia]) (ia+1) ib:=by
 unfold M0 at m ⊢;rw[Pp h]at m;simpa using m
theorem M0.tb(m:M0 a b out ia ib)(h:ib<b.size):M0 a b (out.push b[ib]) ia (ib+1):=by
 unfold M0 at m ⊢;rw[Pp h]at m;refine List.Perm.trans ?_ m;rw[Wo,ZG];exact ZS _ (Je _ _ _)
theorem M0.as(m:M0 a b out ia ib)(k:Nat):M0 a b (out++a.extract ia (ia+k)) (ia+k) ib:=by
 unfold M0 at m ⊢;rw[Po (k:=k)]at m;simpa[ZG]using m
theorem M0.bs(m:M0 a b out ia ib)(k:Nat):M0 a b (out++b.extract ib (ib+k)) ia (ib+k):=by
 unfold M0 at m ⊢;rw[Po (a:=b) (k:=k)]at m;refine List.Perm.trans ?_ m;rw[Yh,ZG];exact ZS _ (Je _ _ _)
theorem M0.done(m:M0 a b out ia ib):R0 a b (out++a.extract ia a.size++b.extract ib b.size):=by
 unfold M0 at m;show(out++a.extract ia a.size++b.extract ib b.size).toList.Perm _;rw[Yh,Yh,Fi,Fi,ZG];exact m
theorem M0.last(m:M0 a b out ia ib):R0 a b (out++b.extract ib b.size++a.extract ia a.size):=by
 unfold M0 at m;show(out++b.extract ib b.size++a.extract ia a.size).toList.Perm _;rw[Yh,Yh,Fi,Fi,ZG];exact(ZS _ Xz).trans m
end
structure L0(a b:Array Keyed)(st:aw)(x:Nat)(out:Array Keyed)(ia ib:Nat)(aJ:aw):Prop where
 g:∃g,aJ=ou st g
 m:M0 a b out ia ib
 y1:ia+1<a.size
 y2:ib<b.size
 y3:x<=ia+ib
def D0(a b:Array Keyed)(st:aw)(o:Option (Array Keyed))(c:aw):Prop:=∃r,o=some r/\(∃g,c=ou st g)/\R0 a b r
theorem L0.of{a b out:Array Keyed}{st:aw}{x g ia ib:Nat}(m:M0 a b out ia ib)(h1:ia+1<a.size)(h2:ib<b.size)(c:x<=ia+ib):L0 a b st x out ia ib (ou st g):=⟨⟨g,rfl⟩,m,h1,h2,c⟩
theorem L0.mono{a b out:Array Keyed}{st c:aw}{x y ia ib:Nat}(j:L0 a b st x out ia ib c)(h:y<=x):L0 a b st y out ia ib c:=⟨j.g,j.m,j.y1,j.y2,ZD h j.y3⟩
section
variable{Pv:aa->Prop}{kd:SortKind}
theorem xi2(M:KL prog w A s Pv kd){st:aw}{a b:Array Keyed}{Q:Array Keyed->aw->Prop}(V:kindOf st=kd)(ka:AP Pv a)(kb:AP Pv b)(na:0<a.size)(nb:0<b.size)(h:∀out g,R0 a b out->Q out (ou st g)):wpS (ai prog w) A E s (LS a b) Q st:=by
 have hk:∀g,kindOf (ou st g)=kd:=λg=>V;refine Zr (V0 (Xn ⟨rfl,?_⟩));refine Zr (iq nb ?_);have D:M0 a b #[b[0]] 0 1:=M0.tb (out:=#[]) (ib:=0) (by unfold M0;simp) nb;refine km (λe=>ZB (h _ (gallopOf st) D.done)) λe0=>?_;refine km (λe=>ZB (h _ (gallopOf st) D.last)) λe1=>?_;refine Zr (Vg ?_);refine zp (I:=λx c f=>L0 a b st x c.2.1 c.2.2.1 c.2.2.2.1 f) (Q:=λc f=>D0 a b st c.1 f) ?step ?fin (L0.of (g:=gallopOf st) (ia:=0) (ib:=1) D 'a' 'a' (Zs _)) ?post
 case post=>
  rintro⟨u,R⟩ f ⟨r,e,⟨g,rfl⟩,H⟩;cases(show u=some r from e);exact ZB (h r g H)
 case fin=>
  rintro c f ⟨_,m,l,i,n⟩;lia
 case step=>
  rintro x c f _ hx ⟨⟨g,rfl⟩,D,l,i,n⟩;refine zp (I:=λy c f=>L0 a b st (x+y) c.2.1 c.2.2.1 c.2.2.2.1 f) (Q:=λc f=>c.1=none/\L0 a b st (x+1) c.2.1 c.2.2.1 c.2.2.2.1 f\/D0 a b st c.1 f) ?step ?fin ⟨⟨g,rfl⟩,D,l,i,by lia⟩ ?post
  case fin=>
   rintro c f ⟨_,m,l,i,n⟩;lia
  case step=>
   rintro y c f _ Z ⟨⟨g,rfl⟩,m,l,i,n⟩;have p:c.2.2.1<a.size:=by lia
   refine Zr (iq i (Zr (iq p (Zr (BK M (hk g) (kb.at_ i) (ka.at_ p) λbw=>?_)))));refine sS (λ_=>?_) λ_=>?_
   ·refine Zr (iq i ?_);have t:=m.tb i;refine km (λe=>ZB (.inr ⟨_,rfl,⟨_,rfl⟩,t.done⟩)) λe=>?_;have j:L0 a b st (x+(y+1)) (c.2.1.push b[c.2.2.2.1]) c.2.2.1 (c.2.2.2.1+1) (ou st g):=⟨⟨g,rfl⟩,t,l,by lia,by lia⟩;exact sS (λ_=>ZB (.inl ⟨rfl,j.mono 'a'⟩)) λ_=>ZB j
   ·refine Zr (iq p ?_);have t:=m.ta p;refine km (λe=>ZB (.inr ⟨_,rfl,⟨_,rfl⟩,t.last⟩)) λe=>?_;have j:L0 a b st (x+(y+1)) (c.2.1.push a[c.2.2.1]) (c.2.2.1+1) c.2.2.2.1 (ou st g):=⟨⟨g,rfl⟩,t,by lia,i,by lia⟩;exact sS (λ_=>ZB (.inl ⟨rfl,j.mono 'a'⟩)) λ_=>ZB j
  case post=>
   rintro⟨u,R⟩ f (⟨e,⟨g,rfl⟩,m,l,i,n⟩|⟨r,e,L,H⟩)
   ·cases(show u=none from e);refine Zr (V0 (Xn ⟨rfl,?_⟩));refine zp (I:=λy c f=>L0 a b st (x+1+y) c.2.1 c.2.2.1 c.2.2.2.1 f) (Q:=λc f=>c.1=none/\L0 a b st (x+1) c.2.1 c.2.2.1 c.2.2.2.1 f\/D0 a b st c.1 f) ?step ?fin ⟨⟨g,rfl⟩,m,l,i,n⟩ ?post
    case fin=>
     rintro c f ⟨_,m,l,i,n⟩;lia
    case post=>
     rintro⟨u,R⟩ f (⟨e,⟨g,rfl⟩,m,l,i,n⟩|⟨r,e,L,H⟩)
     ·cases(show u=none from e);exact Zr (XH (ZB ⟨⟨_,rfl⟩,m,l,i,n⟩))
     ·cases(show u=some r from e);exact ZB ⟨r,rfl,L,H⟩
    case step=>
     rintro y c f _ Z ⟨⟨g,rfl⟩,t,l,i,n⟩;refine' UJ (P:=λ_=>True) (G:=_) (λkey=>?ka) (λm _=>?kb)
     case ka=>
      by_cases F:c.2.2.2.2.1>1
      case neg=>
       refine xu F ?_;generalize c.2.2.2.2.1=X;exact key X trivial
      case pos=>exact xw F (key _ trivial)
     case kb=>
      refine Zr (XH ?_);refine Zr (iq i ?_);refine Zr (zx M (hk m) (kb.at_ i) ka 'a' 'a' λk v0=>?_);refine' Dl (P:=λq B=>q+1<a.size/\c.2.2.1<=q/\M0 a b B q c.2.2.2.1) (G:=_) (λkey=>?kc) (λq B N=>?kd)
      case kc=>
       by_cases F:k>0
       case neg=>
        refine xu F ?_;have v:=key c.2.2.1 c.2.1 ⟨l,Zg _,t⟩;generalize c.2.2.1=ia at v ⊢;generalize c.2.1=out at v ⊢;exact v
       case pos=>
        refine xw F ?_;have C:=t.as k;refine km (λe=>ZB (.inr ⟨_,rfl,⟨_,rfl⟩,C.last⟩)) λe2=>?_;refine km (λe=>ZB (.inr ⟨_,rfl,⟨_,rfl⟩,C.done⟩)) λW=>?_;exact key _ _ ⟨by lia,by lia,C⟩
      case kd=>
       obtain⟨hz,vK,C⟩:=N;have p:q<a.size:=by lia
       refine Zr (iq i ?_);have O:=C.tb i;refine km (λe=>ZB (.inr ⟨_,rfl,⟨_,rfl⟩,O.done⟩)) λW=>?_;refine Zr (iq p ?_);refine Zr (zx M (hk m) (ka.at_ p) kb 'a' 'a' λd Ee=>?_);refine' Dl (P:=λJ B=>J<b.size/\c.2.2.2.1+1<=J/\M0 a b B q J) (G:=_) (λkey=>?ke) (λJ Y N=>?kf)
       case ke=>
        by_cases S:d>0
        case neg=>
         refine xu S ?_;have v:=key (c.2.2.2.1+1) (B.push b[c.2.2.2.1]) ⟨by lia,Zg _,O⟩;generalize B.push b[c.2.2.2.1]=out at v ⊢;generalize c.2.2.2.1+1=ib at v ⊢;exact v
        case pos=>
         refine xw S ?_;have K:=O.bs d;refine km (λe=>ZB (.inr ⟨_,rfl,⟨_,rfl⟩,K.done⟩)) λe4=>?_;exact key _ _ ⟨by lia,by lia,K⟩
       case kf=>
        obtain⟨U,g2,K⟩:=N;refine Zr (iq p ?_);have T:=K.ta p;refine km (λe=>ZB (.inr ⟨_,rfl,⟨_,rfl⟩,T.last⟩)) λe5=>?_;have j:L0 a b st (x+1+(y+1)) (Y.push a[q]) (q+1) J (ou st m):=⟨⟨m,rfl⟩,T,by lia,U,by lia⟩;exact sS (λ_=>ZB (.inl ⟨rfl,j.mono 'a'⟩)) λ_=>ZB j
   ·cases(show u=some r from e);exact ZB ⟨r,rfl,L,H⟩
end
def LU:Array Keyed->Array Keyed->StateT aw Sem (Array Keyed):=sortPriv% PySem.Builtin.mergeHi
theorem Pn{a:Array Keyed}{n:Nat}(h:n<a.size):a.toList.take (n+1)=a.toList.take n++[a[n]]:=by
 rw[W4 (by simpa using h)];simp
theorem Pm{a:Array Keyed}{i n:Nat}(h:i<=n):a.toList.take n=a.toList.take i++(a.extract i n).toList:=by
 rw[zF,<- List.take_add,show i+(n-i)=n by lia]
theorem Fh{a:Array Keyed}{n:Nat}:(a.extract 0 n).toList=a.toList.take n:=by rw[zF];simp
def H0(a b out:Array Keyed)(na nb:Nat):Prop:=(a.toList.take na++(b.toList.take nb++out.toList)).Perm (a.toList++b.toList)
section
variable{a b out:Array Keyed}{na nb:Nat}
theorem Qw{c:Type}(x y z w:List c):(x++(y++(z++w.reverse))).Perm (x++w++(y++z)):=by
 rw[ZG];refine ZS _ ?_;refine List.Perm.trans ?_ (Xz (l₁:=y++z));rw[<- ZG];exact ZS _ (W5 _)
theorem H0.as(m:H0 a b out na nb){k:Nat}(hk:k<=na):H0 a b (out++(a.extract k na).reverse) k nb:=by
 unfold H0 at m ⊢;rw[Pm hk]at m;rw[Yh,Wu];exact(Qw _ _ _ _).trans m
theorem H0.bs(m:H0 a b out na nb){k:Nat}(hk:k<=nb):H0 a b (out++(b.extract k nb).reverse) na k:=by
 unfold H0 at m ⊢;rw[Pm (a:=b) hk,ZG]at m;rw[Yh,Wu];refine List.Perm.trans (ZS _ (ZS _ ?_)) m;exact Xz.trans (W2 _ (W5 _))
theorem H0.ta(m:H0 a b out na nb)(h0:0<na)(c:na<=a.size):H0 a b (out.push (a[na-1]'(by lia))) (na-1) nb:=by
 unfold H0 at m ⊢;have e:na=na-1+1:=by lia
 rw[e,Pn (show na-1<a.size by lia)]at m;rw[Wo];exact(Qw _ _ _ [_]).trans m
theorem H0.tb(m:H0 a b out na nb)(h0:0<nb)(c:nb<=b.size):H0 a b (out.push (b[nb-1]'(by lia))) na (nb-1):=by
 unfold H0 at m ⊢;have e:nb=nb-1+1:=by lia
 rw[e,Pn (show nb-1<b.size by lia),ZG]at m;rw[Wo];exact List.Perm.trans (ZS _ (ZS _ Xz)) m
theorem H0.done(m:H0 a b out na nb):R0 a b (a.extract 0 na++b.extract 0 nb++out.reverse):=by
 show(a.extract 0 na++b.extract 0 nb++out.reverse).toList.Perm _;rw[Yh,Yh,Fh,Fh,Wu,ZG];exact(ZS _ (ZS _ (W5 _))).trans m
theorem H0.first(m:H0 a b out na nb):R0 a b (b.extract 0 nb++a.extract 0 na++out.reverse):=by
 show(b.extract 0 nb++a.extract 0 na++out.reverse).toList.Perm _;rw[Yh,Yh,Fh,Fh,Wu,ZG];exact(Je _ _ _).trans ((ZS _ (ZS _ (W5 _))).trans m)
end
theorem Dk{d:Prop}{P:Nat->Array Keyed->Prop}{G:Nat->Array Keyed->Nat->Prop}(a:(∀m o c,P m o->G m o c)->d)(b:∀m o c,P m o->G m o c):d:=a b
structure U0(a b:Array Keyed)(st:aw)(x na nb:Nat)(out:Array Keyed)(aJ:aw):Prop where
 g:∃g,aJ=ou st g
 m:H0 a b out na nb
 y1:0<na
 y2:na<=a.size
 y3:1<nb
 y4:nb<=b.size
 y5:x+na+nb<=a.size+b.size
theorem U0.of{a b out:Array Keyed}{st:aw}{x g na nb:Nat}(m:H0 a b out na nb)(h1:0<na)(h2:na<=a.size)(d:1<nb)(c:nb<=b.size)(e:x+na+nb<=a.size+b.size):U0 a b st x na nb out (ou st g):=⟨⟨g,rfl⟩,m,h1,h2,d,c,e⟩
theorem U0.mono{a b out:Array Keyed}{st c:aw}{x y na nb:Nat}(j:U0 a b st x na nb out c)(h:y<=x):U0 a b st y na nb out c:=by
 obtain⟨e,f,g,i,d,k,l⟩:=j;exact⟨e,f,g,i,d,k,by lia⟩
section
variable{Pv:aa->Prop}{kd:SortKind}
theorem xi4(R:KL prog w A s Pv kd){st:aw}{a b:Array Keyed}{Q:Array Keyed->aw->Prop}(wM:kindOf st=kd)(ka:AP Pv a)(kb:AP Pv b)(pa:0<a.size)(pb:0<b.size)(h:∀out g,R0 a b out->Q out (ou st g)):wpS (ai prog w) A E s (LU a b) Q st:=by
 have hk:∀g,kindOf (ou st g)=kd:=λg=>wM;refine Zr (V0 (Xn ⟨rfl,?_⟩));refine Zr (iq (show a.size-1<a.size by lia) ?_);have J:H0 a b #[a[a.size-1]] (a.size-1) b.size:=H0.ta (out:=#[]) (by unfold H0;rw[Xs 'c',Xs 'c'];simp) pa (Zg _);refine km (λe=>ZB (h _ (gallopOf st) J.done)) λe0=>?_;refine km (λe=>ZB (h _ (gallopOf st) J.first)) λe1=>?_;refine Zr (Vg ?_);refine zp (I:=λx c f=>U0 a b st x c.2.1 c.2.2.1 c.2.2.2.1 f) (Q:=λc f=>D0 a b st c.1 f) ?step ?fin (U0.of (g:=gallopOf st) (na:=a.size-1) (nb:=b.size) J 'a' 'a' 'a' (Zg _) 'a') ?post
 case post=>
  rintro⟨v,U⟩ f ⟨r,e,⟨g,rfl⟩,L⟩;cases(show v=some r from e);exact ZB (h r g L)
 case fin=>
  rintro c f ⟨_,m,i,n,p,l,q⟩;lia
 case step=>
  rintro x c f _ hx ⟨⟨g,rfl⟩,J,i,n,p,l,q⟩;refine zp (I:=λy c f=>U0 a b st (x+y) c.2.1 c.2.2.1 c.2.2.2.1 f) (Q:=λc f=>c.1=none/\U0 a b st (x+1) c.2.1 c.2.2.1 c.2.2.2.1 f\/D0 a b st c.1 f) ?step ?fin (U0.of (g:=g) J i n p l 'a') ?post
  case fin=>
   rintro c f ⟨_,m,i,n,p,l,q⟩;lia
  case step=>
   rintro y c f _ hy ⟨⟨g,rfl⟩,m,i,n,p,l,q⟩;have B:c.2.1-1<a.size:=by lia
   have C:c.2.2.1-1<b.size:=by lia
   refine Zr (iq C (Zr (iq B (Zr (BK R (hk g) (kb.at_ C) (ka.at_ B) λbw=>?_)))));refine sS (λ_=>?_) λ_=>?_
   ·refine Zr (iq B ?_);have u:=m.ta i n;refine km (λe=>ZB (.inr ⟨_,rfl,⟨_,rfl⟩,u.done⟩)) λe=>?_;have j:=U0.of (st:=st) (g:=g) (x:=x+(y+1)) u 'a' 'a' p l 'a';exact sS (λ_=>ZB (.inl ⟨rfl,j.mono 'a'⟩)) λ_=>ZB j
   ·refine Zr (iq C ?_);have u:=m.tb 'a' l;refine km (λe=>ZB (.inr ⟨_,rfl,⟨_,rfl⟩,u.first⟩)) λe=>?_;have j:=U0.of (st:=st) (g:=g) (x:=x+(y+1)) u i n 'a' 'a' 'a';exact sS (λ_=>ZB (.inl ⟨rfl,j.mono 'a'⟩)) λ_=>ZB j
  case post=>
   rintro⟨v,U⟩ f (⟨e,⟨g,rfl⟩,m,i,n,p,l,q⟩|⟨r,e,O,L⟩)
   ·cases(show v=none from e);refine Zr (V0 (Xn ⟨rfl,?_⟩));refine zp (I:=λy c f=>U0 a b st (x+1+y) c.2.1 c.2.2.1 c.2.2.2.1 f) (Q:=λc f=>c.1=none/\U0 a b st (x+1) c.2.1 c.2.2.1 c.2.2.2.1 f\/D0 a b st c.1 f) ?step ?fin (U0.of (g:=g) m i n p l q) ?post
    case fin=>
     rintro c f ⟨_,m,i,n,p,l,q⟩;lia
    case post=>
     rintro⟨v,U⟩ f (⟨e,⟨g,rfl⟩,m,i,n,p,l,q⟩|⟨r,e,O,L⟩)
     ·cases(show v=none from e);exact Zr (XH (ZB ⟨⟨_,rfl⟩,m,i,n,p,l,q⟩))
     ·cases(show v=some r from e);exact ZB ⟨r,rfl,O,L⟩
    case step=>
     rintro y c f _ hy ⟨⟨g,rfl⟩,u,i,n,p,l,q⟩;have C:c.2.2.1-1<b.size:=by lia
     refine' UJ (P:=λ_=>True) (G:=_) (λkey=>?ka) (λm _=>?kb)
     case ka=>
      by_cases K:c.2.2.2.2.1>1
      case neg=>
       refine xu K ?_;generalize c.2.2.2.2.1=mg;exact key mg trivial
      case pos=>exact xw K (key _ trivial)
     case kb=>
      refine Zr (XH ?_);refine Zr (iq C ?_);refine Zr (zx R (hk m) (kb.at_ C) ka 'a' 'a' λk V=>?_);refine' Dk (P:=λF D=>0<F/\F<=c.2.1/\H0 a b D F c.2.2.1) (G:=_) (λkey=>?kc) (λF D cn S=>?kd)
      case kc=>
       by_cases K:c.2.1-k>0
       case neg=>
        refine xu K ?_;have t:=key c.2.1 c.2.2.2.1 (c.2.1-k) ⟨i,Zg _,u⟩;generalize c.2.1-k=kk at t ⊢;generalize c.2.1=na at t ⊢;generalize c.2.2.2.1=out at t ⊢;exact t
       case pos=>
        refine xw K ?_;have M:=u.as V;refine km (λe=>ZB (.inr ⟨_,rfl,⟨_,rfl⟩,M.done⟩)) λe2=>?_;exact key _ _ (c.2.1-k) ⟨by lia,V,M⟩
      case kd=>
       obtain⟨Z,vK,M⟩:=S;have B:F-1<a.size:=by lia
       refine Zr (iq C ?_);have T:=M.tb 'a' l;refine km (λe=>ZB (.inr ⟨_,rfl,⟨_,rfl⟩,T.first⟩)) λe3=>?_;refine Zr (iq B ?_);refine Zr (zx R (hk m) (ka.at_ B) kb 'a' 'a' λd W=>?_);refine' Dk (P:=λN D=>1<N/\N<=c.2.2.1-1/\H0 a b D F N) (G:=_) (λkey=>?ke) (λN CD dn S=>?kf)
       case ke=>
        by_cases X:c.2.2.1-1-d>0
        case neg=>
         refine xu X ?_;have t:=key (c.2.2.1-1) (D.push b[c.2.2.1-1]) (c.2.2.1-1-d) ⟨by lia,Zg _,T⟩;generalize D.push b[c.2.2.1-1]=out at t ⊢;generalize c.2.2.1-1-d=dd at t ⊢;generalize c.2.2.1-1=nb at t ⊢;exact t
        case pos=>
         refine xw X ?_;have H:=T.bs W;refine km (λe=>ZB (.inr ⟨_,rfl,⟨_,rfl⟩,H.first⟩)) λe4=>?_;refine km (λe=>ZB (.inr ⟨_,rfl,⟨_,rfl⟩,H.done⟩)) λe5=>?_;exact key _ _ (c.2.2.1-1-d) ⟨by lia,W,H⟩
       case kf=>
        obtain⟨g1,g2,H⟩:=S;refine Zr (iq B ?_);have Y:=H.ta Z 'a';refine km (λe=>ZB (.inr ⟨_,rfl,⟨_,rfl⟩,Y.done⟩)) λe5=>?_;have j:=U0.of (st:=st) (g:=m) (x:=x+1+(y+1)) Y 'a' 'a' g1 'a' 'a';exact sS (λ_=>ZB (.inl ⟨rfl,j.mono 'a'⟩)) λ_=>ZB j
   ·cases(show v=some r from e);exact ZB ⟨r,rfl,O,L⟩
end
def p5(xs:Array Keyed)(b:Nat)(l:List (Keyed×Nat)):Array Keyed:=l.foldl (λa x=>a.setIfInBounds (b+x.2) x.1) xs
theorem SS(a:Nat):∀(l:List Keyed)(o:Nat)(b:Array Keyed),a+o+l.length<=b.size->(p5 b a (l.zipIdx o)).toList=b.toList.take (a+o)++(l++b.toList.drop (a+o+l.length))
 |[],o,b,_=>by
  show b.toList=_;rw[List.nil_append,Xl,V4,YG]
 |p::l,o,b,h=>by
  simp only[Z5]at h ⊢;have e:p5 b a ((p::l).zipIdx o)=p5 (b.setIfInBounds (a+o) p) a (l.zipIdx (o+1)):=rfl;have d:a+o<b.toList.length:=by simp;lia
  rw[e,SS a l (o+1) _ (by simp;lia),VH,List.set_eq_take_append_cons_drop,Zn d,show a+(o+1)=a+o+1 by lia];have c:(b.toList.take (a+o)++[p]).length=a+o+1:=by rw[Zl,Yc,Nat.min_eq_left 'a'];rfl
  rw[show b.toList.take (a+o)++p::b.toList.drop (a+o+1)=(b.toList.take (a+o)++[p])++b.toList.drop (a+o+1) by simp,List.take_left' c,<- W3,List.drop_left' c,W3,show a+o+1+l.length=a+o+(l.length+1) by lia];simp
section
variable{Pv:aa->Prop}{kd:SortKind}
theorem xi5{Q:PUnit->aw->Prop}{st a:aw}(h:Q ⟨⟩ a):wpS (ai prog w) A E s (set a:StateT aw Sem PUnit) Q st:=by
 unfold wpS;rw[StateT.run_set];exact Zb ⟨rfl,h⟩
theorem xi6(l:KL prog w A s Pv kd){st:aw}{i a na pw nb p:Nat}{Q:Bool->aw->Prop}(hk:kindOf st=kd)(h0:AP Pv (arrOf st))(m:failedOf st=none)
  (H:(pendingOf st)[i]?=some (a,na,pw)) (G:(pendingOf st)[i+1]?=some (a+na,nb,p)) (n:0<na) (D:0<nb) (hsz:a+na+nb<=(arrOf st).size)
  (h:∀f,(arrOf f).Perm (arrOf st)->kindOf f=kd->failedOf f=none->pendingOf f=((pendingOf st).setIfInBounds i (a,na+nb,pw)).eraseIdxIfInBounds (i+1)->Q true f):wpS (ai prog w) A E s (mergeAt' i) Q st:=by
 have v:a+na<(arrOf st).size:=by lia
 have B:a+na-1<(arrOf st).size:=by lia
 refine Zr (Vg ?_);dsimp only;rw[H,G];refine Zr (xi5 ?_);refine Zr (iq v ?_);refine Zr (zx (st:=SortSt.mk' (kindOf st) (arrOf st) (((pendingOf st).setIfInBounds i (a,na+nb,pw)).eraseIdxIfInBounds (i+1)) (gallopOf st) (failedOf st)) l hk (h0.at_ v) h0 (show a+na<=(arrOf st).size by lia) n λk I=>?_);dsimp only;by_cases t:na-k=0
 ·rw[Zn (by simp only[YT];exact t)];exact ZB (h _ (.refl _) hk m rfl)
 rw[Zj (by simp only[YT];exact t)];rw[show a+k+(na-k)-1=a+na-1 by lia];refine Zr (iq B ?_);refine Zr (zx (st:=SortSt.mk' (kindOf st) (arrOf st) (((pendingOf st).setIfInBounds i (a,na+nb,pw)).eraseIdxIfInBounds (i+1)) (gallopOf st) (failedOf st)) l hk (h0.at_ B) h0 hsz (show nb-1<nb by lia) λd J=>?_);dsimp only;by_cases u:d=0
 ·rw[Zn (by simp only[YT];exact u)];exact ZB (h _ (.refl _) hk m rfl)
 rw[Zj (by simp only[YT];exact u)];have x:∀b g,R0 ((arrOf st).extract (a+k) (a+na)) ((arrOf st).extract (a+na) (a+na+d)) b->Q (failedOf st).isNone (SortSt.mk' (kindOf st) (p5 (arrOf st) (a+k) b.toList.zipIdx) (((pendingOf st).setIfInBounds i (a,na+nb,pw)).eraseIdxIfInBounds (i+1)) g (failedOf st)):=λb g r=>by
  have e:(failedOf st).isNone=true:=by rw[m];rfl
  rw[e];refine h _ ?_ hk m rfl;have F:b.toList.length=na-k+d:=by
   rw[r.length_eq,Zl];simp only[Ys,VI];lia
  refine Wt.mpr ?_;show(p5 (arrOf st) (a+k) b.toList.zipIdx).toList.Perm _;rw[SS (a+k) b.toList 0 _ 'a',F];have cat:((arrOf st).extract (a+k) (a+na)).toList++((arrOf st).extract (a+na) (a+na+d)).toList=((arrOf st).toList.drop (a+k)).take (na-k+d):=by
   rw[zF,zF,show a+na-(a+k)=na-k by lia,show a+na+d-(a+na)=d by lia,List.take_add,W3,show a+k+(na-k)=a+na by lia]
  have C:(arrOf st).toList=(arrOf st).toList.take (a+k)++(((arrOf st).toList.drop (a+k)).take (na-k+d)++(arrOf st).toList.drop (a+k+(na-k+d))):=by
   rw[<- W3 (i:=na-k+d) (j:=a+k),YG,YG]
  refine List.Perm.trans ?_ (List.Perm.of_eq C.symm);refine ZS _ (W2 _ ?_);rw[<- cat];exact r
 have y:0<((arrOf st).extract (a+k) (a+na)).size:=by rw[VI];lia
 have q:0<((arrOf st).extract (a+na) (a+na+d)).size:=by rw[VI];lia
 by_cases c:na-k<=d
 ·rw[Zn c];refine Zr (xi2 (st:=SortSt.mk' (kindOf st) (arrOf st) (((pendingOf st).setIfInBounds i (a,na+nb,pw)).eraseIdxIfInBounds (i+1)) (gallopOf st) (failedOf st)) l hk (h0.ext _ _) (h0.ext _ _) y q λb g r=>?_);exact Zr (XH (Zr (Vg (ZB (x b g r)))))
 ·rw[Zj c];refine Zr (xi4 (st:=SortSt.mk' (kindOf st) (arrOf st) (((pendingOf st).setIfInBounds i (a,na+nb,pw)).eraseIdxIfInBounds (i+1)) (gallopOf st) (failedOf st)) l hk (h0.ext _ _) (h0.ext _ _) y q λb g r=>?_);exact Zr (XH (Zr (Vg (ZB (x b g r)))))
end
def Rn:List (Nat×Nat×Nat)->Nat->Nat->Prop
 |[],a,b=>a=b
 |r::c,a,b=>r.1=a/\0<r.2.1/\Rn c (a+r.2.1) b
theorem Rn.app:∀{p q:List (Nat×Nat×Nat)}{a b:Nat},Rn (p++q) a b<->∃m,Rn p a m/\Rn q m b
 |[],q,a,b=>⟨λh=>⟨a,rfl,h⟩,λ⟨m,e,h⟩=>by cases e;exact h⟩
 |r::p,q,a,b=>⟨λ⟨h1,h2,f⟩=>by
   obtain⟨m,d,c⟩:=Rn.app.mp f;exact⟨m,⟨h1,h2,d⟩,c⟩,λ⟨m,⟨h1,h2,d⟩,c⟩=>⟨h1,h2,Rn.app.mpr ⟨m,d,c⟩⟩⟩
theorem Rn.le:∀{p:List (Nat×Nat×Nat)}{a b:Nat},Rn p a b->a+p.length<=b
 |[],a,b,h=>by cases h;simp
 |r::p,a,b,⟨h1,h2,c⟩=>by
  have:=c.le;simp only[Z5];lia
theorem Rn.mod{f:Nat×Nat×Nat->Nat×Nat×Nat}(c:∀x,(f x).1=x.1/\(f x).2.1=x.2.1):∀{p:List (Nat×Nat×Nat)}{i a b:Nat},Rn p a b->Rn (p.modify i f) a b
 |[],i,a,b,h=>by cases i<;>exact h
 |r::p,0,a,b,⟨h1,h2,d⟩=>⟨by rw[(c r).1];exact h1,by rw[(c r).2];exact h2,by rw[(c r).2];exact d⟩
 |r::p,i+1,a,b,⟨h1,h2,d⟩=>⟨h1,h2,d.mod c⟩
theorem xG7{b:Type}{l:List b}{i:Nat}(h:i+1<l.length):∃a x y post,l=a++x::y::post/\a.length=i:=by
 refine⟨l.take i,l[i],l[i+1],l.drop (i+2),?_,by simp;lia⟩;rw[<- Wx,<- Wx,YG]
theorem Ez{p:Array (Nat×Nat×Nat)}{a post:List (Nat×Nat×Nat)}{x y v:Nat×Nat×Nat}{i:Nat}(h:p.toList=a++x::y::post)(c:a.length=i):((p.setIfInBounds i v).eraseIdxIfInBounds (i+1)).toList=a++v::post:=by
 have d:p.size=i+(post.length+2):=by
  have:=Yi List.length h;simp at this;lia
 rw[Array.eraseIdxIfInBounds,dif_pos (by simp;lia),Array.toList_eraseIdx,VH,h];subst c;have b:(a++x::y::post).set a.length v=a++v::y::post:=by
  rw[List.set_append_right _ _ (Zg _)];simp
 rw[b,List.eraseIdx_append_of_length_le 'a'];simp
structure mO(kd:SortKind)(a₀:Array Keyed)(st:aw)(lo:Nat):Prop where
 perm:(arrOf st).Perm a₀
 kind:kindOf st=kd
 fail:failedOf st=none
 runs:Rn (pendingOf st).toList 0 lo
section
variable{Pv:aa->Prop}{kd:SortKind}{a₀:Array Keyed}
theorem mO.mv{st b:aw}{a:Nat}(d:mO kd a₀ st a)(m:gU st b):mO kd a₀ b a:=⟨m.perm.trans d.perm,m.kind.trans d.kind,m.fail.trans d.fail,by rw[m.pend];exact d.runs⟩
theorem mO.merge(I:KL prog w A s Pv kd)(h0:AP Pv a₀){st:aw}{j i:Nat}{Q:Bool->aw->Prop}(d:mO kd a₀ st j)(D:j<=a₀.size)(C:i+1<(pendingOf st).size)
  (h:∀a,mO kd a₀ a j->(pendingOf a).size+1=(pendingOf st).size->Q true a):wpS (ai prog w) A E s (mergeAt' i) Q st:=by
 obtain⟨H,⟨b,c,p⟩,⟨N,g,L⟩,post,e,f⟩:=xG7 (l:=(pendingOf st).toList) (by simpa using C);have r:=d.runs;rw[e]at r;obtain⟨m,G,x,t,n,u,k⟩:=Rn.app.mp r;simp only at x t n u k;subst x n;have O:=k.le;have sz:(arrOf st).size=a₀.size:=d.perm.size_eq;have M:(pendingOf st)[i]?=some (b,c,p):=by
  rw[<- YX,e,Zx 'a',f,Vv];rfl
 have K:(pendingOf st)[i+1]?=some (b+c,g,L):=by
  rw[<- YX,e,Zx 'a',f,Nat.add_sub_cancel_left];rfl
 refine xi6 I d.kind (h0.perm d.perm) d.fail M K t u 'a' λa B J F q=>h a ⟨B.trans d.perm,J,F,?_⟩ ?_
 ·rw[q,Ez e f];refine Rn.app.mpr ⟨b,G,rfl,by show 0<c+g;lia,?_⟩
  rwa [VX]at k
 ·have:=Yi List.length (Ez (v:=(b,c+g,p)) e f);rw[<- q]at this;have y:=Yi List.length e;simp at this y;lia
theorem q81(p:KL prog w A s Pv kd)(h0:AP Pv a₀){st:aw}{Q:Unit->aw->Prop}(d:mO kd a₀ st 0)
  (h:∀a,(arrOf a).Perm a₀->failedOf a=none->Q () a):wpS (ai prog w) A E s sortRuns' Q st:=by
 rw[sortRuns'_eq];refine Zr (Vg ?_);dsimp only;have sz:(arrOf st).size=a₀.size:=d.perm.size_eq;simp only[sz];generalize minRun' a₀.size a₀.size 0=t;refine Zr (WD (Xe (I:=λx c a=>∃b,c=(none,b)/\mO kd a₀ a b/\x<=b/\b<=a₀.size)
  (Q:=λc a=>c=(none,a₀.size)/\mO kd a₀ a a₀.size) ?step ?fin ⟨0,rfl,d,Zg _,Zs _⟩) ?post)
 case fin=>
  rintro c a ⟨b,rfl,d,h1,h2⟩;have:b=a₀.size:=by lia
  subst this;exact⟨rfl,d⟩
 case post=>
  rintro c a ⟨rfl,d⟩;dsimp only;refine Zr (WD (Xe (I:=λx c a=>c=(none,())/\mO kd a₀ a a₀.size) (Q:=λc a=>c=(none,())/\mO kd a₀ a a₀.size) ?AQ (λc a h=>h) ⟨rfl,d⟩) ?CC)
  case CC=>
   rintro c a ⟨rfl,d⟩;exact ZB (h a d.perm d.fail)
  case AQ=>
   rintro x c a _ G ⟨rfl,d⟩;refine Zr (Vg ?_);by_cases j:(pendingOf a).size<=1
   ·rw[Zn j];exact ZB ⟨rfl,d⟩
   ·rw[Zj j];refine Zr (d.merge p h0 (Zg _) ?_ λg i K=>?_)
    ·have key:∀c:Bool,(if c=true then(pendingOf a).size-2-1 else(pendingOf a).size-2)+1<(pendingOf a).size:=λc=>by cases c<;>simp<;>lia
     exact key _
    ·simp only[YY,Zy,Z6];exact ZB ⟨rfl,i⟩
 case step=>
  rintro x c a _ G ⟨b,rfl,d,h1,h2⟩;dsimp only;by_cases j:b>=a₀.size
  ·rw[Zn j];have:b=a₀.size:=by lia
   subst this;exact ZB ⟨rfl,d⟩
  ·rw[Zj j];have L:(arrOf a).size=a₀.size:=d.perm.size_eq;have push:∀(n:Nat)(g:aw),1<=n->mO kd a₀ g b->mO kd a₀ (setPending g ((pendingOf g).push (b,n,0))) (b+n):=λn g k i=>
    ⟨i.perm,i.kind,i.fail,by
     rw[Wo];exact Rn.app.mpr ⟨b,i.runs,rfl,by show 0<n;lia,rfl⟩⟩
   refine Zr (xi0 p d.kind (h0.perm d.perm) 'a' 'a' λm g H J mv=>?_);dsimp only;by_cases C:m<t
   case' neg=>
    rw[Zj C];have r:=d.mv mv;have k:1<=m:=H;have l:b+m<=a₀.size:=by lia
    obtain⟨n,q⟩:∃n,n=m:=⟨_,rfl⟩;simp only[<- q]at k l ⊢
   case' pos=>
    rw[Zn C];refine Zr (V0 (Xn ⟨rfl,?_⟩));have v:b+min (a₀.size-b) t<=(arrOf g).size:=by rw[mv.size];lia
    refine Zr (xh9 p (mv.kind.trans d.kind) (h0.perm (mv.perm.trans d.perm)) v λM u=>?_);simp only[YY,Zy,Z6];have r:=d.mv (mv.trans u);obtain⟨n,q⟩:∃n,n=min (a₀.size-b) t:=⟨_,rfl⟩;have k:1<=n:=by lia
    have l:b+n<=a₀.size:=by lia
    simp only[<- q];clear q v u
   all_goals
    refine Zr (Vg ?_);split
    ·refine Zr (WD (Xe (I:=λx c e=>c=(none,())/\mO kd a₀ e b) (Q:=λc e=>c=(none,())/\mO kd a₀ e b) ?_ (λc e h=>h) ⟨rfl,r⟩) ?_)
     ·rintro y c e _ _ ⟨rfl,f⟩;refine Zr (Vg ?_);split
      ·rename_i B;split
       ·exact ZB ⟨rfl,f⟩
       ·have D:(pendingOf e).size>1:=by
         by_cases z:(pendingOf e).size>1
         ·exact z
         ·rw[Zj z]at B;cases B
        refine Zr (f.merge p h0 h2 'a' λN F _=>?_);simp only[YY,Zy,Z6];exact ZB ⟨rfl,F⟩
      ·exact ZB ⟨rfl,f⟩
     ·rintro c e ⟨rfl,f⟩;refine Zr (XH (Zr (XH (ZB ⟨_,rfl,push _ _ k ⟨f.perm,f.kind,f.fail,?_⟩,by lia,l⟩))));rw[Array.toList_modify];refine Rn.mod ?_ f.runs;exact λ_=>⟨rfl,rfl⟩
    ·exact Zr (XH (ZB ⟨_,rfl,push _ _ k r,by lia,l⟩))
end
def TI(h:ao)(v:aa):Prop:=∃a o b n,v=.ref a/\h.get? a=some o/\o.cls=.type "tuple" /\ o.data=.seq b n/\b.toList≠[]/\∀u∈b.toList,∃i t,u=.int i t
theorem TI.keep{h h':ao}{v:aa}(k:∀b o,h.get? b=some o->o.cls=.type "tuple"->h'.get? b=some o)(x:TI h v):TI h' v:=by
 obtain⟨a,o,i,n,e,g,c,f,d⟩:=x;exact⟨a,o,i,n,e,k _ _ g c,c,f,d⟩
theorem TH:∀{us:List aa},(∀u∈us,∃i t,u=.int i t)->us.mapM typeOf=pure (us.map λ_=>Value.type "int")
 |[],_=>by simp
 |u::us,h=>by
  rw[List.mapM_cons,TH (us:=us) λq a=>h q (by simp[a])];obtain⟨i,t,rfl⟩:=h u 'c';show(pure (Value.type "int") >>= _)=_;simp
theorem xP3{us:List aa}(h0:us≠[])(h:∀u∈us,∃i t,u=.int i t):oneTypeOnly' us.toArray=pure (some (Value.type "int")):=by
 rw[oneTypeOnly'_eq,List.mapM_toArray,TH h];simp only[map_pure,Vx];cases us with
 |nil=>exact absurd rfl h0
 |cons u us=>
  have b:((u::us).map λ_=>Value.type "int").toArray[0]?=some (Value.type "int"):=by simp
  have a:(((u::us).map λ_=>Value.type "int").toArray.all λx=>x==Value.type "int")=true:=by
   simp only[List.all_toArray,List.all_map,Xc];intro _ _
   rfl
  rw[b];dsimp only;rw[a]
  rfl
theorem Sb:∀{c:List aa}{Q:List (Option aa)->ae->Prop},(∀v∈c,TI s.heap v)->(∀b:List aa,b.length=c.length->(∀u∈b,∃i t,u=.int i t)->Q (b.map some) s)->ah (ai prog w) A (c.mapM firstOfTuple') Q E s
 |[],Q,_,h=>by rw[List.mapM_nil];exact Zb (h [] rfl 'c')
 |v::c,Q,f,h=>by
  rw[List.mapM_cons];obtain⟨a,o,g,n,rfl,e,j,l,p,k⟩:=f v 'c';refine Za (m:=firstOfTuple' (.ref a)) (Za (WW (T:= "tuple") ⟨o,e,j⟩ ?_));rw[Zj 'c'];refine Za (listItems_at e l (Zb (Za (Sb (λu d=>f u (by simp[d])) λb y d=>Zb ?_))));cases hx:g.toList with
  |nil=>exact absurd hx p
  |cons u r=>
   have ex:g[0]?=some u:=by rw[<- YX,hx];rfl
   rw[ex];refine h (u::b) (by simp[y]) λq x=>?_;rcases Zz.mp x with rfl|z
   ·exact k q (by rw[hx];simp)
   ·exact d q z
theorem xG8{vs:List aa}{Q:SortKind->ae->Prop}(h0:vs≠[])(d:∀v∈vs,TI s.heap v)(h:Q (tuples' true) s):ah (ai prog w) A (keyKind' vs.toArray) Q E s:=by
 rw[keyKind'_eq,List.mapM_toArray];simp only[bind_map_left];refine Za (Sb d λa c b=>?_);rw[Zn 'c'];refine Za (Xn ?_);have e:(a.map some).toArray.filterMap id=a.toArray:=by
  rw[List.filterMap_toArray];congr 1;rw[List.filterMap_map];exact List.filterMap_some
 have h1:a≠[]:=λz=>h0 (YM.mp (by rw[<- c,z];rfl));rw[e,xP3 h1 b];simp only[Vx];exact Zb h
theorem L_:KL prog w A s (TI s.heap) (tuples' true):=by
 intro E x y Q M N r;obtain⟨p,o,Z,n,rfl,G,U,J,_,K⟩:=M;obtain⟨T,S,X,Y,rfl,P,V,D,_,O⟩:=N;refine Za (listItems_at G J ?_);refine Za (listItems_at P D ?_);have go:∀(f d:List aa)(i:Nat),(∀u∈f,∃i t,u=.int i t)->(∀u∈d,∃i t,u=.int i t)->∀(F:(aa×aa)×Nat->Option Bool×Unit->Sem (ForInStep (Option Bool×Unit)))(R:Option Bool×Unit->ae->Prop),
   (∀i j t u k g,g (.yield (none,())) s->(∀b,g (.done (some b,())) s)->ah (ai prog w) A (F ((.int i t,.int j u),k) (none,())) g E s)->(∀b,R (some b,()) s)->R (none,()) s->ah (ai prog w) A (forIn ((f.zip d).zipIdx i) (none,()) F) R E s:=by
  intro f
  induction f with
  |nil=>intro d i _ _ F R h h1 h2;rw[List.zip_nil_left,List.zipIdx_nil,VC];exact Zb h2
  |cons v f L=>
   intro d i B l F R h h1 h2;cases d with
   |nil=>rw[List.zip_nil_right,List.zipIdx_nil,VC];exact Zb h2
   |cons u d=>
    obtain⟨a,t,rfl⟩:=B v 'c';obtain⟨b,W,rfl⟩:=l u 'c';rw[WQ,List.zipIdx_cons,WG];refine Za (h _ _ _ _ _ _ ?_ λc=>?_)
    ·exact L d (i+1) (λq z=>B q (by simp[z])) (λq z=>l q (by simp[z])) F R h h1 h2
    ·exact Zb (h1 c)
 refine Za (go _ _ 0 K O _ _ (λi j t u k g I C=>?_) (λb=>?_) ?_)
 ·dsimp only;refine Za (wpAny_eqBool_int ?_);by_cases e:i=j
  ·rw[YT.mpr e];exact Zb I
  ·rw[YC.mpr e];refine Za ?_;by_cases m:k=0
   ·subst m;exact oneLt_int (Zb (C _))
   ·have H:(true&&k==0)=false:=by simp[m]
    rw[H];show ah (ai prog w) A (oneLt' false _ _) _ E s;rw[oneLt'_eq];simp only[Zy,Z6,Vx];exact Za (wpAny_lt_int (Yd (Zb (C _))))
 ·exact Zb (r b)
 ·exact Zb (r _)
theorem xv2{p:af}{vs:List aa}{n:Nat}{P:Fin->ae->Prop}(f:s.heap.get? p=some (seqObj "list" vs.toArray n))(C:∀v∈vs,TI s.heap v)(hz:vs.length<=sizeLine)
  (h:∀i:Array aa,i.toList.Perm vs->P (.done (.ret .none)) {s with heap:=sortedHeap s.heap p vs i}):ah (ai prog w) A (Builtin.«list.sort» ⟨[.ref p],[]⟩) P E s:=by
 have lt:=Zo f;obtain⟨x,t⟩:∃c,(s.heap.update p (Obj.mapSeq λ_=>#[])).get? p=some (seqObj "list" #[] c):=⟨_,get?_update_seq f (λ_=>#[])⟩;have D:∀b o,b≠p->s.heap.get? b=some o->(((s.heap.update p (Obj.mapSeq λ_=>#[])).push (seqObj "tuple" vs.toArray 0)).push (seqObj "list" #[] 0)).get? b=some o:=λb o hb q=>by
  have m:=Zo q;rw[W6 _ _ _ (by rw[size_push',Ve];exact Zu (Yl m)),W6 _ _ _ (by rw[Ve];exact Zu m),Heap.get?_update_ne _ _ _ _ hb];exact q
 have j:(((s.heap.update p (Obj.mapSeq λ_=>#[])).push (seqObj "tuple" vs.toArray 0)).push (seqObj "list" #[] 0)).get? p=some (seqObj "list" #[] x):=by
  rw[W6 _ _ _ (by rw[size_push',Ve];exact Zu (Yl lt)),W6 _ _ _ (by rw[Ve];exact Zu lt)];exact t
 have r:∀v∈vs,TI (((s.heap.update p (Obj.mapSeq λ_=>#[])).push (seqObj "tuple" vs.toArray 0)).push (seqObj "list" #[] 0)) v:=λv q=>(C v q).keep λb o e c=>D b o (by rintro rfl;rw[f]at e;cases e;simp at c) e;rw[list_sort_plain];refine Za (listItems_at f rfl (Za (listUpdate_at f rfl (Za (seqEpoch_at t rfl (Za (wpAny_newTuple (Za (wpAny_newList (Yo ?_) (Zs _))) (by simpa using hz))))) (by simpa using hz) (Zs _))));dsimp only;by_cases d:vs.toArray.size<2
 ·rw[Zn d,Zn d];refine Za (Zb ?_);rw[StateT.run_pure];refine Za (Zb ?_);dsimp only;have e:(vs.toArray.zip vs.toArray).map (·.2)=vs.toArray:=by
   apply Array.toList_inj.mp;simp[List.map_snd_zip]
  refine Za (seqEpoch_at j rfl (Za (listUpdate_at j rfl ?_ (Zs _) (by show((vs.toArray.zip vs.toArray).map (·.2)).size<=_;rw[e];simp;lia))));simp only[bne_self_eq_false,Zy,Z6];refine Zb ?_;rw[e];exact h _ 'c'
 ·rw[Zj d,Zj d];refine Za (xG8 (λz=>d (by rw[z];decide)) r ?_);generalize u:((s.heap.update p (Obj.mapSeq λ_=>#[])).push (seqObj "tuple" vs.toArray 0)).push (seqObj "list" #[] 0)=h1 at *;have y:AP (TI h1) (vs.toArray.zip vs.toArray):=λq k=>by
   have k:q∈vs.zip vs:=by simpa using k
   exact r _ (Vk (show(q.1,q.2)∈vs.zip vs from k)).1
  refine Za (Z9 (q81 (kd:=tuples' true) (Pv:=TI h1) (a₀:=vs.toArray.zip vs.toArray) (st:=SortSt.mk' (tuples' true) (vs.toArray.zip vs.toArray) #[] 7 none)
   (Q:=λ_ g=>(arrOf g).Perm (vs.toArray.zip vs.toArray)/\failedOf g=none) (L_ (s:={s with heap:=h1})) y ⟨Array.Perm.refl _,rfl,rfl,rfl⟩ λg a b=>⟨a,b⟩) ?_ λ_ _ e=>e)
  rintro⟨⟨⟩,g⟩ G ⟨rfl,B,F⟩;dsimp only;have l:((arrOf g).map (·.2)).toList.Perm vs:=by
   rw[Array.toList_map];have z:=(Wt.mp B).map Prod.snd;rw[Array.toList_zip]at z
   rwa [List.map_snd_zip (Zg _)]at z
  refine Za (seqEpoch_at j rfl (Za (listUpdate_at j rfl ?_ (Zs _) ?_)))
  ·rw[F];simp only[bne_self_eq_false,Zy,Z6];refine Zb ?_;subst u;exact h _ l
  ·refine ZD (WU ?_) (VT hz);have:=l.length_eq;rw[Ys]at this;exact this
theorem xi7{x:aa}{Pv:List aa->Prop}{Q:aa->ae->Prop}(g:∀a,Pv a->(∀v∈a,TI s.heap v)/\a.length<=sizeLine)
  (hc:∀j:List aa->ae->Prop,(∀(a:List aa)(k:ao)(f:Nat)(d:Drawn),Pv a->(∀b o,s.heap.get? b=some o->k.get? b=some o)->j a {s with heap:=k,drawn:=d,toks:=f})->ah (ai prog w) A.in1 (collect x) j E s)
  (h:∀(a:List aa)(out:Array aa)(h1 h2:ao)(f:Nat)(d:Drawn)(c:Nat),Pv a->(∀b o,s.heap.get? b=some o->h1.get? b=some o)->(∀b o,h1.get? b=some o->h2.get? b=some o)->h2.get? h1.objs.size=some (seqObj "list" out c)->out.toList.Perm a->Q (.ref h1.objs.size) {s with heap:=h2,drawn:=d,toks:=f}):
  ah (ai prog w) A (call (.builtin "sorted") [x]) Q E s:=by
 refine Calls.call_function_entry kind_sorted plain_sorted entry_sorted (args_sorted1 _) ?_;unfold Builtin.«sorted»;refine Za (m:=checkCount "sorted" 1 1 _) (Zb (Za (hc _ λa h1 f d pv l=>Za (wpAny_newList ?_ (g a pv).2))));obtain⟨g,p⟩:=g a pv;have i:(h1.push (seqObj "list" a.toArray 0)).get? h1.objs.size=some (seqObj "list" a.toArray 0):=Zi _ rfl;have r:∀b o,s.heap.get? b=some o->(h1.push (seqObj "list" a.toArray 0)).get? b=some o:=λb o e=>Zd _ (l b o e);refine Za (Yo (Z0 (s:={s with heap:=h1.push (seqObj "list" a.toArray 0),drawn:=d,toks:=f}) slot_list_sort ⟨_,i,rfl⟩ entry_list_sort (xv2 i (λv q=>(g v q).keep λb o e _=>r b o e) p λout n=>⟨_,rfl,Zb ⟨_,rfl,?_⟩⟩) (args_list_sort _)));obtain⟨c,hc⟩:=sortedHeap_at (out:=out) i;refine h a out h1 _ f d c pv l (λb o e=>?_) hc n;have lt:=Zo e;rw[sortedHeap_old (Zu lt) (by rw[size_push'];exact Yl lt)];exact Zd _ e
end PyProof.Rows
namespace L2
open PySem PySem.Spec PyProof.Rows
open Classical in
theorem Sa{g:Type}:∀{M L:List g},M.Nodup->(∀x∈M,x∈L)->L.length=M.length->L.Perm M
 |[],L,_,_,h=>by rw[YM.mp h]
 |a::M,L,nd,b,h=>by
  obtain⟨f,e⟩:=Z3.mp nd;have c:=b a ZC;refine(List.perm_cons_erase c).trans (List.Perm.cons a (Sa e (λx d=>?_) ?_))
  ·exact(List.mem_erase_of_ne λz=>f (by rw[<- z];exact d)).mpr (b x (Zq _ d))
  ·rw[List.length_erase_of_mem c,h]
   rfl
section
variable{X:Cx}
theorem q83{P:ag}{w:aj}{H:Hp}{a:af}{ps:List (List Key×af)}(c:fi P w H a ps):(ps.map λp=>Value.ref p.2).Nodup:=by
 have nd:=c.nd;have d:=c.tl;clear c
 induction ps with
 |nil=>exact XQ
 |cons p ps k=>
  obtain⟨j,g⟩:=Z3.mp (show(p.1::ps.map (·.1)).Nodup from nd);refine Z3.mpr ⟨λz=>?_,k g λq b=>d q (Zq _ b)⟩;obtain⟨q,b,e⟩:=ZF.mp z;have e:q.2=p.2:=by injection e
  have h1:=d q (Zq _ b);rw[e,d p ZC]at h1;have h2:p.1.map kV=q.1.map kV:=by injection (ZK h1)
  have i:p.1=q.1:=by
   refine WR (f:=kV) (λx y h=>?_) |>.mp h2
   cases x<;>cases y<;>cases h<;>rfl
  exact j (ZF.mpr ⟨q,b,i.symm⟩)
theorem SR:∀a:List (List Key×af),Vals (a.map λp=>V.ref p.2) (a.map λp=>Value.ref p.2)
 |[]=>.nil
 |p::a=>.cons rfl (SR a)
theorem Tp{us:List aa}{xs:List V}{d:List aa}(p:d.Perm us)(r:Vals xs us):∃a,Vals a d/\a.Perm xs:=by
 induction p generalizing xs with
 |nil=>exact⟨xs,r,.refl _⟩
 |cons u p i=>
  cases r with
  |cons h r=>
   obtain⟨a,m,j⟩:=i r;exact⟨_::a,.cons h m,j.cons _⟩
 |swap u v l=>
  cases r with
  |cons h r=>
   cases r with
   |cons h2 r=>exact⟨_::_::_,.cons h2 (.cons h r),List.Perm.swap _ _ _⟩
 |trans p q c b=>
  obtain⟨s,g,k⟩:=b r;obtain⟨f,n,e⟩:=c g;exact⟨f,n,e.trans k⟩
theorem SQ:∀{b:List Int}{c:List aa},Vals (b.map V.int) c->∀u∈c,∃i t,u=.int i t
 |[],_,r,u,a=>by rw[XW]at r;cases r;exact nomatch a
 |n::b,_,r,u,a=>by
  rw[Zw]at r;cases r with
  |cons h r=>
   rcases Zz.mp a with rfl|z
   ·obtain⟨t,e⟩:=h;exact⟨n,t,e⟩
   ·exact SQ r u z
theorem qJ0(hc:X.calm=true):gZ X (.builtin "sorted") (λR H Q=>∃(r:af)(f:List (List Key×af)),R=[.ref r]/\fi X.prog X.w H r f/\f.length<=1200/\(∀p∈f,∃k:List Int,k≠[]/\H p.2=some (.tup (k.map V.int))) /\
  ∀q y,H q=none->y.Perm (f.map λp=>V.ref p.2)->Q (.ref q) (upd H q (.lst y))):=by
 intro j8 s σ H R y Q I m h;obtain⟨r,f,rfl,c,hsz,T,q⟩:=h;obtain⟨u,rfl,S⟩:=iR m;cases S;obtain⟨⟨o,w,ep,t,A,k8,E,G,hf,wL,hm,N,kK,vF⟩,_⟩:=(show a_ X.prog X.w H s.heap r (.ext _)from I.aS r _ c.at_);have g:bI.cP t w.size:=by have:=G.gr;rw[Yj]at this;exact this
 have My:(w.toList.map (·.2)).Perm (f.map λp=>Value.ref p.2):=by
  refine Sa (q83 c) (λx hx=>?_) (by rw[Ze,Ze,Ys,N]);obtain⟨p,B,rfl⟩:=ZF.mp hx;obtain⟨i,e,L,e2⟩:=vF p B;exact ZF.mpr ⟨e,by rw[<- YX]at L;exact Zm L,e2⟩
 have F:=SR f;have W:w.size<=sizeLine:=by rw[N];show _<=16777216;lia
 refine xi7 (Pv:=λj=>j.Perm (f.map λp=>Value.ref p.2)) (λj pv=>⟨λv D=>?_,by rw[pv.length_eq,Ze];show _<=16777216;lia⟩) (λQ' k'=>qN2 (I.ok.hd hc) ⟨o,A,k8,E⟩ g.fits W wL (.inr G.ri) λj h' l d D kp=>k' j h' l d (D.trans My) kp) λj C h1 h2 l d cc pv k1 k2 Z Y=>?_
 ·obtain⟨p,B,rfl⟩:=ZF.mp (pv.mem_iff.mp D);obtain⟨k,n0,t⟩:=T p B;obtain⟨_,aQ,m,o,A,hc,n,E⟩:=(show a_ X.prog X.w H s.heap p.2 (.tup (k.map V.int))from I.aS p.2 _ t);have P:=m.length;refine⟨p.2,o,_,n,rfl,A,hc,E,λz=>n0 ?_,λu U=>SQ m u (by simpa using U)⟩;have z:aQ=[]:=by simpa using z
  rw[z,Ze]at P;exact YM.mp P
 ·obtain⟨xs0,r0,M⟩:=Tp pv F;obtain⟨O,r',K⟩:=Tp Y r0;have J:=I.Dm (t':=l) (d':=d) k1;refine⟨.ref _,_,J.laid (a:=h1.objs.size) (o:=.lst O) (t':=l) (λb o z=>k2 b o z) (Zg _) ⟨?_,C.toList,cc,r',by simpa using Z⟩,rfl,q _ O (J.aS.fresh (Zg _)) (K.trans M)⟩;rw[(K.trans M).length_eq,Ze];show _<=16777216;lia
end
theorem fi.same{P:ag}{w:aj}{H b:Hp}{a:af}{ps:List (List Key×af)}(c:fi P w H a ps)(s:aG H b):fi P w b a ps:=⟨s _ _ c.at_,c.nd,λp d=>s _ _ (c.tl p d)⟩
theorem qY8{P:ag}{w:aj}{J:It}{H:Hp}{n k:Nat}{item:Nat->V->Hp->Prop}{g:TG}{Q:TT}{te:TE}{σ:St}{Fin:Hp->Prop}{D:af}(L:H D=none)(l:Nat->Bool)(key:Nat->List Key)(G:Goes J H n item)(hsz:n<1200)
  (step:∀i x d,i<n->item i x d->aG H d->∀q:St,q.length=k->∀(R:Hp->Prop)(O:VK),(l i=false->∀h,aG d h->R h)->(l i=true->∀h b,aG d h->h b=some (.tup ((key i).map kV))->O (.ref b) h) ->
   g x (q++σ) d λB C=>Q B C λb A=>if b=true then te B A O else R A)
  (fin:∀d f,aG H d->fi P w d D f->(∀x,x∈f.map (·.1)<->∃i,i<n/\l i=true/\key i=x)->f.length<=n->Fin d):
  ∃W:Nat->Nat->List (List Key×af)->Hp->Prop,(∃m,W 0 m [] (upd H D (.ext (dO P w D [])))) /\
   ∀i m f d,W i m f d->fi P w d D f/\f.length<1200/\((J.stop i d/\Fin d)\/(J.go i d/\∀y h,J.iK i d y h->∀q:St,q.length=k ->
    g y (q++σ) h λB C=>Q B C λb A=>if b=true then te B A λv I=>∃N M,v=.ref N/\I N=some (.tup (M.map kV))/\fi P w I D f /\
     ∀s,fi P w (upd I D (.ext (dO P w D s))) D s->(∀x,x∈s.map (·.1)<->x=M\/x∈f.map (·.1))->s.length<=f.length+1->∃t,t<m/\W (i+1) t s (upd I D (.ext (dO P w D s)))else ∃t,t<m/\W (i+1) t f A)):=by
 refine⟨λi m f d=>i<=n/\m=n-i/\fi P w d D f/\aG H d/\f.length<=i/\∀x,x∈f.map (·.1)<->∃j,j<i/\l j=true/\key j=x,⟨n,Zs _,rfl,⟨aZ,XQ,λp Z=>nomatch Z⟩,bo L,Zg _,λx=>⟨λz=>(nomatch z),λ⟨j,hj,_⟩=>absurd hj (Y0 _)⟩⟩,?_⟩;rintro i m f d ⟨hi,rfl,c,r,hl,K⟩;refine⟨c,by lia,?_⟩;by_cases S:i=n
 ·subst S;exact .inl ⟨G.st d r,fin d f r c K hl⟩
 ·refine .inr ⟨G.go i d 'a' r,λy h hy q Y=>?_⟩;obtain⟨E,X⟩:=G.yl i d y h 'a' r hy;refine step i y h 'a' X (r.trans E) q Y _ _ (λwB C u=>?_) (λT C b u hb=>?_)
  ·refine⟨n-(i+1),by lia,by lia,rfl,c.same (E.trans u),(r.trans E).trans u,by lia,λx=>(K x).trans ⟨λ⟨j,h1,h2⟩=>⟨j,by lia,h2⟩,λ⟨j,h1,h2,F⟩=>⟨j,?_,h2,F⟩⟩⟩;by_cases z:j=i
   ·rw[z,wB]at h2;cases h2
   ·lia
  ·refine⟨b,key i,rfl,hb,c.same (E.trans u),λs c' U lF=>⟨n-(i+1),by lia,by lia,rfl,c',λa o e=>?_,by lia,λx=>(U x).trans ⟨?_,?_⟩⟩⟩
   ·rw[bj (cK e L)];exact u _ _ (E _ _ (r _ _ e))
   ·rintro(rfl|z)
    ·exact⟨i,Yb _,T,rfl⟩
    ·obtain⟨j,h1,h2⟩:=(K x).mp z;exact⟨j,by lia,h2⟩
   ·rintro⟨j,h1,h2,F⟩;by_cases z:j=i
    ·exact .inl (by rw[<- F,z])
    ·exact .inr ((K x).mpr ⟨j,by lia,h2,F⟩)
end L2
namespace L2
open PySem
theorem xF{J:It}{H:Hp}{n k:Nat}{item:Nat->V->Hp->Prop}{g:TG}{U:TT}{te:TE}{σ:St}{Fin:Hp->Prop}{D:af}(P:H D=none)(c:Nat->Bool)(p:Nat->V->Hp->Prop)(G:Goes J H n item)(hsz:n<sizeLine)
  (mono:∀i y S a,fJ S a->p i y S->p i y a)
  (step:∀i x a,i<n->item i x a->aG H a->∀s:St,s.length=k->∀(X:Hp->Prop)(T:VK),(c i=false->∀f,aG a f->X f)->(c i=true->∀v f,aG a f->p i v f->T v f) ->
   g x (s++σ) a λK l=>U K l λb I=>if b=true then te K I T else X I)
  (fin:∀d a,aG H a->a D=some (.lst d)->d.length=((List.range n).filter c).length->(∀(m:Nat) y j,d[m]?=some y->((List.range n).filter c)[m]?=some j->p j y a)->Fin a):
  ∃W:Nat->Nat->List V->Hp->Prop,(∃m,W 0 m [] (upd H D (.lst []))) /\
   ∀i m B a,W i m B a->a D=some (.lst B)/\B.length<sizeLine/\((J.stop i a/\Fin a)\/(J.go i a/\∀y f,J.iK i a y f->∀s:St,s.length=k ->
    g y (s++σ) f λK l=>U K l λb I=>if b=true then te K I λv R=>R D=some (.lst B)/\∃F,F<m/\W (i+1) F (B++[v]) (upd R D (.lst (B++[v])))else ∃F,F<m/\W (i+1) F B I)):=by
 refine⟨λi m d a=>i<=n/\m=n-i/\d.length=((List.range i).filter c).length/\a D=some (.lst d)/\aG H a/\∀(m:Nat) y j,d[m]?=some y->((List.range i).filter c)[m]?=some j->p j y a,⟨n,Zs _,rfl,rfl,aZ,bo P,λm y j h=>by simp at h⟩,?_⟩;rintro i m d a ⟨r,rfl,E,M,w,C⟩;have j9:d.length<=i:=by
  rw[E];exact ZD (Yr _ _) 'c'
 refine⟨M,xU hsz r j9,?_⟩;by_cases q:i=n
 ·subst q;exact .inl ⟨G.st a w,fin d a w M E C⟩
 ·refine .inr ⟨G.go i a (mB r q) w,λy f hy s ho=>?_⟩;obtain⟨A,it⟩:=G.yl i a y f (mB r q) w hy;refine step i y f (mB r q) it (w.trans A) s ho _ _ (λwB l t=>?_) (λqE v l t r4=>?_)
  ·have L:(List.range (i+1)).filter c=(List.range i).filter c:=by
    rw[Y8,Xy];simp[wB]
   refine⟨n-(i+1),qx r q,qz r q,rfl,by rw[L];exact E,t _ _ (A _ _ M),(w.trans A).trans t,λm y j h1 h2=>?_⟩;rw[L]at h2;exact mono j y a l (A.trans t).cg (C m y j h1 h2)
  ·have Q:=t _ _ (A _ _ M);have L:(List.range (i+1)).filter c=(List.range i).filter c++[i]:=by
    rw[Y8,Xy];simp[qE]
   have Y:fJ l (upd l D (.lst (d++[v]))):=λb u e=>by
    have:b≠D:=λz=>by subst z;rw[Q]at e;cases e
    rw[bj this];exact e
   refine⟨Q,n-(i+1),qx r q,qz r q,rfl,by rw[L,Zl,Zl,E];rfl,aZ,λb o e=>?_,λm z j h1 h2=>?_⟩
   ·rw[bj (cK e P)];exact t _ _ (A _ _ (w _ _ e))
   ·rw[L]at h2;by_cases N:m<d.length
    ·rw[Zp N]at h1;rw[Zp (qm N E)]at h2;exact mono j z l _ Y (mono j z a l (A.trans t).cg (C m z j h1 h2))
    ·have O:m=d.length:=by
      have:=(cf h1).1;simp at this;exact xV this N
     rw[Zx 'a',O]at h1;rw[Zx 'a',O,E]at h2;have e1:z=v:=by simpa using h1.symm
     have Z:j=i:=by simpa using h2.symm
     rw[e1,Z];exact mono i v l _ Y r4
section
variable{X:Cx}
theorem Di{K:PySem.W.Frag}{y:V}{c σ:St}{H:Hp}{R:St->Hp->Prop}(p:c.length=4)(h:ee K 4 (cY (cb 0) (cY (cb 1) (cY (cb 2) (cY (cb 3) eh)))) y (c++σ) H R):
  ee K 4 (cY (cb 0) (cY (cb 1) (cY (cb 2) (cY (cb 3) eh)))) y (c++σ) H λb t=>(∃d:St,d.length=4/\b=d++σ)/\R b t:=by
 obtain⟨C,D,E,F,rfl⟩:=L2.zW p
 ·
  obtain⟨a,B,k,i,m,v,r,n,f,A,j,g,u,w,e,s,l,x,q⟩:=h;exact⟨a,B,k,i,m,v,r,n,f,A,j,g,u,w,e,s,l,x,⟨[some v,some f,some g,some e],rfl,rfl⟩,q⟩
theorem Qv{x y u v:ar}{D s j w m:az}{k:Nat}{scope:ax}{c:List (ar×af)}{C:af}{fp:List af}{aC:ae}{aD:Hp}(hc:X.calm=true)(E:X.N.Nodup)(r:[x,y,u,v].Nodup)(A:∀z∈X.N,scope.names.lookup z≠some .local)
  (n:scope.names.lookup x=some .local) (q:scope.names.lookup y=some .local) (l:scope.names.lookup u=some .local) (p:scope.names.lookup v=some .local):
  PG (cG X scope c C [x,y,u,v] fp aC aD) (.Tuple [.Name x D,.Name y s,.Name u j,.Name v w] k m) (ee X.K 4 (cY (cb 0) (cY (cb 1) (cY (cb 2) (cY (cb 3) eh))))):=by
 have d:(cG X scope c C [x,y,u,v] fp aC aD).env.scope.names.lookup x=some .local:=ZY n;have g:(cG X scope c C [x,y,u,v] fp aC aD).env.scope.names.lookup y=some .local:=ZY q;have f:(cG X scope c C [x,y,u,v] fp aC aD).env.scope.names.lookup u=some .local:=ZY l;have h:(cG X scope c C [x,y,u,v] fp aC aD).env.scope.names.lookup v=some .local:=ZY p;have nd:(cG X scope c C [x,y,u,v] fp aC aD).N.Nodup:=by
  show([x,y,u,v]++X.N).Nodup;rw[XB];refine⟨r,E,λa B b hb e=>?_⟩;subst e;have t:scope.names.lookup a=some .local:=by
   have:a=x\/a=y\/a=u\/a=v:=by simpa using B
   rcases this with rfl|rfl|rfl|rfl<;>assumption
  exact A a hb t
 exact pP (X:=cG X scope c C [x,y,u,v] fp aC aD) hc (gz (mq (i:=0) nd rfl (.inl d) (.inr d)) (gz (mq (i:=1) nd rfl (.inl g) (.inr g)) (gz (mq (i:=2) nd rfl (.inl f) (.inr f)) (gz (mq (i:=3) nd rfl (.inl h) (.inr h)) pT))))
theorem xi8{x y u v:ar}{w q l r n b:az}{k:Nat}{a iter:au}{scope:ax}{m:TI}{te:TE}(N:List ar)(g:ax)(K:X.N=N)(P:X.env.scope=g)(hc:X.calm=true)(hN:X.N.Nodup)(J:PI X (.Tuple [.Name x w,.Name y q,.Name u l,.Name v r] k n) iter m)
  (E:∀f C e d i,PE (cG X scope f C [x,y,u,v] e d i) a te) (Y:[x,y,u,v].Nodup:=by decide)
  (L:scope.kind=.function:=by rfl) (B:scope.names.all (λy=>y.2 != .cell)=true:=by decide +kernel) (S:scope.names.all (λy=>y.2 != .local||scope.names.lookup y.1==some .local)=true:=by decide +kernel)
  (T:scope.names.lookup x=some .local:=by rfl) (W:scope.names.lookup y=some .local:=by rfl) (D:scope.names.lookup u=some .local:=by rfl) (V:scope.names.lookup v=some .local:=by rfl) (A:N.all (λy=>scope.names.lookup y != some .local)=true:=by decide +kernel)
  (hfr:scope.names.all (λp=>p.2 != .free||(g.names.lookup p.1==some .cell||g.names.lookup p.1==some .free))=true:=by decide +kernel)
  (hs:∀x,foldedSetIterable iter X.env x=pure x:=by intro _;rfl):PE X (.ListComp a [⟨.Tuple [.Name x w,.Name y q,.Name u l,.Name v r] k n,iter,[],0⟩] scope b) (nL 4 m (ee X.K 4 (cY (cb 0) (cY (cb 1) (cY (cb 2) (cY (cb 3) eh))))) ow te):=by
 obtain⟨F,U,t,G⟩:=rO K P B S A hfr;exact BV (nn:=[x,y,u,v]) (λ_=>pure true) hc J (λM c j=>zq a _ iter scope b M c j) (λf C e d i=>Qv hc hN Y t T W D V) (λy os Z H R O h=>Di O h) (λf C e d i j8 s Z H Q I h=>Zb ⟨H,I,h⟩) E L F U t G hs
end
end L2
namespace L2
open PySem PySem.Spec PyProof.Rows
structure bU(prog:ag)(w:aj)(K:Type)[DecidableEq K] where
 is:ao->K->aa->Prop
 hash:K->Int
 draws:K->Nat
 lvl:Nat
 inj:∀{h:ao}{v:aa}{x y:K},is h x v->is h y v->x=y
 keeps:∀{h h':ao}{k:K}{v:aa}{d:af}{o:ay}{es ep},is h k v->h.get? d=some o->o.data=.dict es ep->Heap.SameBut d h h'->is h' k v
 pyHash:∀{A:aq}{E:aa->ae->Prop}{s:ae}{k:K}{v:aa}{Q:Int->ae->Prop},A.units+lvl<cLine->is s.heap k v->Q (hash k) {s with toks:=s.toks+draws k}->ah (ai prog w) A (PySem.pyHash v) Q E s
 eqBool:∀{A:aq}{E:aa->ae->Prop}{s:ae}{x y:K}{v u:aa}{Q:Bool->ae->Prop},A.units+lvl<cLine->is s.heap x v->is s.heap y u->Q (decide (x=y)) s->ah (ai prog w) A (PySem.eqBool v u) Q E s
 quiet:∀{n:Nat}{A:aq}{E:aa->ae->Prop}{s:ae}{k:K}{v:aa}{Q:Bool->ae->Prop},lvl<=n->is s.heap k v->Q true s->ah (ai prog w) A (eqIsQuiet n v) Q E s
section
variable{K:Type}[DecidableEq K]
def CG(knd:KeyKind prog w K):bU prog w (List K) where
 is _ ks v:=∃k,ks=[k]/\knd.is k v=true
 hash ks:=match ks with|k::_=>knd.hash k|[]=>0
 draws _:=1
 lvl:=0
 inj:=λ⟨k,e,h⟩ ⟨c,b,a⟩=>by rw[e,b,knd.inj _ _ _ h a]
 keeps:=λh _ _ _=>h
 pyHash:=λ_ ⟨k,e,h⟩ q=>by subst e;exact knd.pyHash h q
 eqBool:=λ_ ⟨k,e,h⟩ ⟨c,b,a⟩ q=>by
  subst e b;refine knd.eqBool h a ?_;have:decide (k=c)=decide ([k]=[c]):=by simp
  rw[this];exact q
 quiet:=λ_ ⟨k,e,h⟩ q=>by
  rw[eqIsQuiet_byValue _ (knd.byValue _ _ h)];exact Zb q
inductive cy(h:ao):(Nat->bU prog w K)->List K->List aa->Prop
 |nil {kd}:cy h kd [] []
 |cons {kd:Nat->bU prog w K}{k:K}{v:aa}{ks:List K}{vs:List aa}:(kd 0).is h k v->cy h (λi=>kd (i+1)) ks vs->cy h kd (k::ks) (v::vs)
def nP:(Nat->bU prog w K)->List K->List Int
 |_,[]=>[]
 |a,k::b=>(a 0).hash k::nP (λi=>a (i+1)) b
def sR:(Nat->bU prog w K)->List K->Nat
 |_,[]=>0
 |a,k::b=>(a 0).draws k+sR (λi=>a (i+1)) b
theorem cy.inj{h:ao}{kd:Nat->bU prog w K}{x y:List K}{vs:List aa}(d:cy h kd x vs)(a:cy h kd y vs):x=y:=by
 induction d generalizing y with
 |nil=>cases a;rfl
 |@cons kd k v e vs h1 _ b=>
  cases a with
  |cons h2 c=>rw[(kd 0).inj h1 h2,b c]
theorem cy.keeps{h h':ao}{d:af}{o:ay}{es ep} (a:h.get? d=some o) (e:o.data=.dict es ep) (hs:Heap.SameBut d h h'){kd:Nat->bU prog w K}{x:List K}{vs:List aa}(c:cy h kd x vs):cy h' kd x vs:=by
 induction c with
 |nil=>exact .nil
 |@cons kd k v f vs h1 _ b=>exact .cons ((kd 0).keeps h1 a e hs) b
def cm(kd:Nat->bU prog w K)(h:ao)(c:List K)(v:aa):Prop:=∃a o b n,v=.ref a/\h.get? a=some o/\o.cls=.type "tuple" /\ o.data=.seq b n/\cy h kd c b.toList
theorem cm.inj{kd:Nat->bU prog w K}{h:ao}{v:aa}{x y:List K}(i:cm kd h x v)(j:cm kd h y v):x=y:=by
 obtain⟨a,o,b,n,rfl,f,_,k,m⟩:=i;obtain⟨r,d,p,q,e,l,_,c,g⟩:=j;cases e;obtain rfl:o=d:=ZK (f.symm.trans l);rw[k]at c;injection c with h1 _
 subst h1;exact m.inj g
theorem cm.keeps{kd:Nat->bU prog w K}{h h':ao}{j:List K}{v:aa}{d:af}{o:ay}{es ep} (x:cm kd h j v) (f:h.get? d=some o) (i:o.data=.dict es ep) (hs:Heap.SameBut d h h'):cm kd h' j v:=by
 obtain⟨a,e,b,n,rfl,g,k,c,m⟩:=x;have l:a≠d:=by
  rintro rfl;obtain rfl:e=o:=ZK (g.symm.trans f);rw[i]at c;exact nomatch c
 exact⟨a,e,b,n,rfl,(hs.2 a l).trans g,k,c,m.keeps f i hs⟩
def Jd(kd:Nat->bU prog w K)(a:List K):Int:=reduceHash (Builtin.Tuple.tupleHashOf (nP kd a))
theorem xv4{kd:Nat->bU prog w K}{l:Nat}(N:∀i,(kd i).lvl<=l){c:List K}{v:aa}{Q:Int->ae->Prop}(H:A.units+(l+1)<cLine)(hk:cm kd s.heap c v)(h:Q (Jd kd c) {s with toks:=s.toks+(sR kd c+1)}):
  ah (ai prog w) A (pyHash v) Q E s:=by
 obtain⟨a,o,r,n,rfl,G,M,L,I⟩:=hk;have j:s.TypeIs (.ref a) "tuple":=⟨o,G,M⟩;unfold pyHash
 first|unfold pyHashByItsType|skip
 first|refine Za (wpAny_cRoomFor_or (.inr (x_ H)) ?_)|skip
 refine Za (X5 j Wh.lookup ?_);show ah _ _ (if(some (Value.builtin "tuple.__hash__")==some Value.none)=true then _ else _) Q E s;rw[Zj (by rw[beq_builtin_none];exact ZA)];refine Za (X5 j Wh.lookup ?_);show ah _ _ (callSpecialIfBoundUnlessNone? (.ref a) "__hash__" _ >>= _) Q E s;refine Za (wpAny_callSpecialIfBoundUnlessNone?_slot j Wh (Z0 Wh j F.entry_tuple_hash ?_ (F.args_tuple_hash_1 _)));show ah _ _ (Builtin.Tuple.tupleItemsOf (.ref a) >>= _) _ _ s;refine Za (VJ G L ?_);refine Za ?_;rw[<- WM];refine XO _
  (λe (b:Array Int) y=>∃(d:Nat->bU prog w K)(left:List K)(t:Nat),(∀i,(d i).lvl<=l)/\cy s.heap d left e/\b.toList++nP d left=nP kd c/\y={s with toks:=t}/\t+sR d left=s.toks+sR kd c)
  _ ?_ ?_ _ _ ⟨kd,c,s.toks,N,I,rfl,rfl,rfl⟩
 ·rintro x e b y ⟨d,left,t,g,u,hb,rfl,p⟩;cases u with
  |@cons _ k _ f _ h1 D=>
   refine Za ((d 0).pyHash ?_ h1 ?_)
   ·have:=g 0;show A.units+1+(d 0).lvl<cLine;lia
   ·have C:(b.push ((d 0).hash k)).toList++nP (λi=>d (i+1)) f=nP kd c:=by rw[<- hb];simp[nP]
    have B:t+(d 0).draws k+sR (λi=>d (i+1)) f=s.toks+sR kd c:=by rw[<- p];simp[sR,VX]
    first
     |exact Zb ⟨_,f,_,λi=>g (i+1),D,C,rfl,B⟩
     |exact Za (Zb (Zb ⟨_,f,_,λi=>g (i+1),D,C,rfl,B⟩))
 ·rintro b y ⟨d,left,t,g,u,hb,rfl,p⟩;cases u;have J:b.toList=nP kd c:=by rw[<- hb];simp[nP]
  have q:t=s.toks+sR kd c:=by rw[<- p];rfl
  subst q;show ah _ _ (retInt (Builtin.Tuple.tupleHashOf b.toList)) _ _ _;rw[J];refine wpAny_ret_mkInt ?_;show ah _ _ (if(decide (-(2:Int)^63<=Builtin.Tuple.tupleHashOf (nP kd c))&&decide (Builtin.Tuple.tupleHashOf (nP kd c)<2^63))=true then _ else _) Q E _;unfold Jd reduceHash at h;by_cases m:(decide (-(2:Int)^63<=Builtin.Tuple.tupleHashOf (nP kd c))&&decide (Builtin.Tuple.tupleHashOf (nP kd c)<2^63))=true
  ·rw[Zn m];rw[Zn m]at h;exact Zb (by simpa[VX]using h)
  ·rw[Zj m];rw[Zj m]at h;exact Za (Xn (Zb (by simpa[VX]using h)))
theorem xi9{kd:Nat->bU prog w K}{l:Nat}(hl:∀i,(kd i).lvl<=l)(hu:A.units+l<cLine){x y:List K}{a b:af}{P:Fin->ae->Prop}(Z:cm kd s.heap x (.ref a))(hy:cm kd s.heap y (.ref b))(h:P (.done (.ret (.bool (decide (x=y))))) s):
  ah (ai prog w) A (Builtin.«tuple.__eq__» ⟨[.ref a,.ref b],[]⟩) P E s:=by
 obtain⟨a',oa,t,na,T,V,_,U,I⟩:=Z;obtain⟨b',ob,n,nb,eb,O,G,W,C⟩:=hy;cases T;cases eb;have D:s.TypeIs (.ref b) "tuple":=⟨ob,O,G⟩;show ah _ _ (isInstance (.ref b) (.type "tuple") >>= _) _ _ s;refine Za (XR D isSubtype_tuple_tuple ?_);simp only[YY,Zy,Z6];refine Za (VJ V U ?_);refine Za (VJ O W ?_);refine Za ?_;refine XO _
  (λc r q=>r.1=none/\q=s/\∃(e:Nat->bU prog w K)(k m:List K)(g f:List aa),c=List.zip g f/\(∀i,(e i).lvl<=l)/\cy s.heap e k g/\cy s.heap e m f/\decide (k=m)=decide (x=y)/\(g.length==f.length)=(t.size==n.size))
  _ ?_ ?_ _ _ ⟨rfl,rfl,kd,x,y,t.toList,n.toList,rfl,hl,I,C,rfl,by simp⟩
 ·rintro⟨u,v⟩ c r q ⟨J,rfl,e,k,m,g,f,d,B,H,j,p,F⟩;cases H with
  |nil=>simp at d
  |@cons _ N u' M Jj h1 Y=>
   cases j with
   |nil=>simp at d
   |@cons _ R v' Q S h2 Mm=>
    simp only[WQ,Xo,Prod.mk.injEq]at d;obtain⟨⟨rfl,rfl⟩,rfl⟩:=d;refine Za ((e 0).eqBool (x:=N) (y:=R) (by have:=B 0;lia) h1 h2 ?_);by_cases hk:N=R
    ·subst hk;rw[Zv rfl];simp only[YY,Zy,Z6];refine Zb ⟨rfl,rfl,_,M,Q,Jj,S,rfl,λi=>B (i+1),Y,Mm,?_,by simpa using F⟩;rw[<- p];by_cases L:M=Q
     ·simp[L]
     ·simp[L]
    ·rw[ZM hk];simp only[VB,XM];have hf:decide (x=y)=false:=by rw[<- p];simp[hk]
     rw[hf]at h;exact Za (Zb (Zb (Zb h)))
 ·rintro⟨r1,r2⟩ q ⟨J,rfl,e,k,m,g,f,d,B,H,j,p,F⟩;simp only at J;subst J;refine Zb ?_;have X:(t.size==n.size)=decide (x=y):=by
   rw[<- p,<- F];cases H with
   |nil=>
    cases j with
    |nil=>simp
    |cons _ _=>simp
   |cons _ _=>
    cases j with
    |nil=>simp
    |cons _ _=>simp at d
  show P (.done (.ret (.bool (t.size==n.size)))) q;rw[X];exact h
theorem cm.typeIs{kd:Nat->bU prog w K}{d:List K}{a:af}(x:cm kd s.heap d (.ref a)):s.TypeIs (.ref a) "tuple":=by
 obtain⟨f,o,_,_,e,b,c,_⟩:=x;cases e;exact⟨o,b,c⟩
theorem xv5{kd:Nat->bU prog w K}{l:Nat}(j:∀i,(kd i).lvl<=l){x y:List K}{v u:aa}{Q:Bool->ae->Prop}(g:A.units+(l+1)<cLine)(c:cm kd s.heap x v)(d:cm kd s.heap y u)(h:Q (decide (x=y)) s):
  ah (ai prog w) A (eqBool v u) Q E s:=by
 obtain⟨a,rfl⟩:∃a,v=.ref a:=let ⟨a,_,_,_,e,_⟩:=c;⟨a,e⟩;obtain⟨b,rfl⟩:∃a,u=.ref a:=let ⟨a,_,_,_,e,_⟩:=d;⟨a,e⟩;unfold eqBool
 try with_reducible refine Yo ?_
 show ah _ _ (if(Value.ref a==Value.ref b)=true then _ else _) Q E s;by_cases f:(Value.ref a==Value.ref b)=true
 ·rw[Zn f];have e:a=b:=by have:=eq_of_beq f;injection this
  subst e;obtain rfl:=c.inj d;exact Za (Xn (Zb (by simpa using h)))
 ·rw[Zj f];exact Za (wpAny_richCompare_same_room (op:=.Eq) c.typeIs d.typeIs F.slot_tuple_eq
   (Z0 F.slot_tuple_eq c.typeIs F.entry_tuple_eq (xi9 j (by show A.units+1+l<cLine;lia) c d ⟨_,rfl,(λe=>nomatch e),Yd h⟩) (F.args_tuple_eq_2 _ _)) (x_ g))
theorem xH0{kd:Nat->bU prog w K}{l n:Nat}(B:∀i,(kd i).lvl<=l)(u:l<=n){k:List K}{v:aa}{Q:Bool->ae->Prop}(hk:cm kd s.heap k v)(h:Q true s):ah (ai prog w) A (eqIsQuiet (n+1) v) Q E s:=by
 obtain⟨a,o,c,m,rfl,p,y,x,q⟩:=hk;have j:s.TypeIs (.ref a) "tuple":=⟨o,p,y⟩;unfold eqIsQuiet;refine Za (X5 j F.slot_tuple_eq.lookup ?_);show ah _ _ (isInstance (.ref a) (.type "tuple") >>= _) _ _ s;refine Za (XR j isSubtype_tuple_tuple ?_);simp only[YY,Zy,Z6];refine Za (Wr p x ?_);refine Za ?_;show ah _ _ (forIn c _ _) _ _ s;rw[<- WM];refine XO _ (λb r f=>r.1=none/\f=s/\∃(d:Nat->bU prog w K)(left:List K),(∀i,(d i).lvl<=l)/\cy s.heap d left b) _ ?_ ?_ _ _ ⟨rfl,rfl,kd,k,B,q⟩
 ·rintro v b r f ⟨e,rfl,d,left,g,t⟩;cases t with
  |cons h1 h2=>
   refine Za ((d 0).quiet (ZD (g 0) u) h1 ?_);simp only[YY,Zy,Z6];exact Zb ⟨rfl,rfl,_,_,λi=>g (i+1),h2⟩
 ·rintro⟨C,D⟩ f ⟨e,rfl,_⟩;simp only at e;subst e;exact Zb h
def posK(kd:Nat->bU prog w K)(l:Nat)(b:∀i,(kd i).lvl<=l):bU prog w (List K) where
 is:=cm kd
 hash:=Jd kd
 draws ks:=sR kd ks+1
 lvl:=l+1
 inj:=cm.inj
 keeps:=cm.keeps
 pyHash:=λa hk h=>xv4 b a hk h
 eqBool:=λa c d h=>xv5 b a c d h
 quiet:=λ{n} _ _ _ _ _ _ e hk h=>by
  obtain⟨m,rfl⟩:∃m,n=m+1:=⟨n-1,by lia⟩;exact xH0 b 'a' hk h
def bU.hk(b:bU prog w K)(h8:b.lvl<=8):HeapKind prog w K where
 is h k a:=b.is h k (.ref a)
 hash:=b.hash
 draws:=b.draws
 room A:=A.units+b.lvl<cLine
 inj:=b.inj
 keeps:=b.keeps
 pyHash:=λc hk h=>b.pyHash c hk h
 eqBool:=λc d e h=>b.eqBool c d e h
 quiet:=λhk h=>b.quiet h8 hk h
end
structure Ay(K:Type)[DecidableEq K] where
 knd:∀(P:ag)(w:aj),bU P w K
 tl:Hp->K->af->Prop
 lv:Nat
 l8:∀P w,(knd P w).lvl=lv
 h8:lv<=8
 of:∀{P:ag}{w:aj}{H:Hp}{h:ao}{k:K}{b:af},dQ P w H h->tl H k b->(knd P w).is h k (.ref b)
 mono:∀{H H':Hp}{k:K}{b:af},(∀b xs,H b=some (.tup xs)->H' b=some (.tup xs))->tl H k b->tl H' k b
section
variable{K:Type}[DecidableEq K](nk:Ay K)
def Ay.hk(P:ag)(w:aj):HeapKind P w K:=(nk.knd P w).hk (by rw[nk.l8];exact nk.h8)
def Jc(P:ag)(w:aj)(a:af)(xs:List (K×af×aa)):ao->Prop:=λh=>∃o b c,h.get? a=some o/\o.ExactDict/\o.data=.dict b c/\b.toList=xs.map (entryOfKey (nk.hk P w))/\(xs.map (·.1)).Nodup
abbrev KN(H:Hp):List (K×V)->List (K×af×aa)->Prop:=Paired λp q=>p.1=q.1/\nk.tl H p.1 q.2.1/\RelV p.2 q.2.2
def c7(P:ag)(w:aj)(H:Hp)(a:af)(kvs:List (K×V)):Prop:=∃b,H a=some (.ext (Jc nk P w a b))/\KN nk H kvs b/\kvs.length<=sizeLine/\(a==sysModules)=false
variable{nk}
theorem KN.val{H:Hp}{kvs:List (K×V)}{xs:List (K×af×aa)}(r:KN nk H kvs xs)(k:K):eB (bY kvs k) ((atKey xs k).map (·.2)):=by
 induction r with
 |nil=>exact True.intro
 |@cons p q f c h t d=>
  obtain⟨h1,_,h2⟩:=h;by_cases e:p.1=k
  ·have a:q.1=k:=h1.symm.trans e;have b:atKey (q::c) k=some q.2:=by simp[atKey,Xm,a]
   rw[nU e,b];exact h2
  ·have a:¬q.1=k:=λz=>e (h1.trans z);have b:atKey (q::c) k=atKey c k:=by simp[atKey,Xm,a]
   rw[mw e,b];exact d
theorem KN.pL{H:Hp}{kvs:List (K×V)}{xs:List (K×af×aa)}(r:KN nk H kvs xs)(k:K){y:V}{u:aa}(b:RelV y u):
  KN nk H (kvs.map λa=>if a.1=k then(a.1,y)else a) (xs.map (putAt k u)):=by
 induction r with
 |nil=>exact .nil
 |@cons p q g f h t d=>
  rw[Zw,Zw];refine .cons ?_ d;obtain⟨h1,h2,c⟩:=h;unfold putAt;by_cases e:p.1=k
  ·rw[Zn e,Zn (h1.symm.trans e)];exact⟨h1,h2,b⟩
  ·rw[Zj e,Zj (λz=>e (h1.trans z))];exact⟨h1,h2,c⟩
theorem KN.put{H:Hp}{kvs:List (K×V)}{xs:List (K×af×aa)}(r:KN nk H kvs xs)(k:K){b:af}{y:V}{u:aa}(hb:nk.tl H k b)(a:RelV y u):KN nk H (putK kvs k y) (storedH xs k b u):=by
 have e:(kvs.any λc=>decide (c.1=k))=(atKey xs k).isSome:=by
  rw[sY,(r.val k).cS,Wk]
 unfold putK storedH;rw[e];by_cases q:(atKey xs k).isSome=true
 ·rw[Zn q,Zn q];exact r.pL k a
 ·rw[Zj q,Zj q];exact Paired.snoc r ⟨rfl,hb,a⟩
theorem c7.mono{P:ag}{w:aj}{H d:Hp}{a:af}{kvs:List (K×V)}(h:c7 nk P w H a kvs)(f:∀b c,H b=some (.tup c)->d b=some (.tup c))(g:∀o,H a=some o->d a=some o):c7 nk P w d a kvs:=by
 obtain⟨c,h1,h2,e⟩:=h;exact⟨c,g _ h1,Paired.qh h2 λ_ _ z=>⟨z.1,nk.mono f z.2.1,z.2.2⟩,e⟩
theorem KY{P:ag}{w:aj}{H:Hp}{h:ao}{a:af}{kvs:List (K×V)}(ok:dQ P w H h)(e:c7 nk P w H a kvs):kvs.length<=sizeLine/\(a==sysModules)=false/\∃c,KN nk H kvs c/\h.DictOfH (nk.hk P w) a c:=by
 obtain⟨c,h1,r,z,y⟩:=e;obtain⟨⟨o,i,f,g,n,j,s,u⟩,_⟩:=(show a_ P w H h a (.ext _)from ok a _ h1);refine⟨z,y,c,r,o,i,f,g,n,j,s,λx b=>?_,u⟩;have all:∀{l:List (K×V)}{m:List (K×af×aa)},KN nk H l m->∀x∈m,(nk.hk P w).is h x.1 x.2.1:=by
  intro l m q
  induction q with
  |nil=>intro x b;exact nomatch b
  |@cons p q v A d t k=>
   intro x b;rcases Zz.mp b with e|b
   ·subst e;exact nk.of ok (by rw[<- d.1];exact d.2.1)
   ·exact k x b
 exact all r x b
section
variable{X:Cx}
theorem Jb{A:aq}{P:ag}{w:aj}(a:A.units+10<cLine):(nk.hk P w).room A.in1:=by
 show A.units+1+(nk.knd P w).lvl<cLine;rw[nk.l8];have:=nk.h8;lia
inductive lQ(nk:Ay K)(X:Cx)(x:V)(y:V)(H:Hp)(Q:VK):Prop
 |mk(a b:af)(k:K)(kvs:List (K×V))(aT:x=.ref b)(eR:y=.ref a)(dX:c7 nk X.prog X.w H a kvs)(aR:nk.tl H k b)(dB:Q (.bl (!(bY kvs k).isSome)) H)
theorem q84(d:X.A.units+10<cLine):fj X (compareOp .NotIn) (lQ nk X):=by
 intro n s p H x y v u Q I i l h;obtain⟨a,b,k,g,rfl,rfl,m,hb,q⟩:=h;cases(show v=Value.ref b from i);cases(show u=Value.ref a from l);obtain⟨z,j,r,c,f⟩:=KY I.aS m;refine wpAny_notIn_heap (Jb d) (nk.of I.aS hb) j f ?_;have e:=(c.val k).cS;rw[Wk]at e;rw[<- e];exact⟨.bl _,H,I.tok _,rfl,q⟩
inductive om(nk:Ay K)(X:Cx)(x:V)(y:V)(H:Hp)(Q:VK):Prop
 |mk(a b:af)(k:K)(kvs:List (K×V))(v:V)(aT:x=.ref a)(eR:y=.ref b)(dX:c7 nk X.prog X.w H a kvs)(aR:nk.tl H k b)(dB:bY kvs k=some v)(EJ:Q v H)
theorem xv8(g:X.A.units+10<cLine):oK X (om nk X):=by
 intro c d F s G H x y v u Q I m B h l;obtain⟨a,b,k,i,z,rfl,rfl,C,hb,r,q⟩:=h;cases(show v=Value.ref a from m);cases(show u=Value.ref b from B);obtain⟨_,E,D,e,f⟩:=KY I.aS C;obtain⟨w,t,A⟩:=eB.some_of (v:=z) (o:=(atKey D k).map (·.2)) (by rw[<- r];exact e.val k);obtain⟨p,n,j⟩:=Zh.mp t;refine WX (x:=w) f.typeIs VN.lookup (wpAny_getItem_heap (Jb g) (nk.of I.aS hb) f n ?_) l;rw[j];exact⟨rfl,z,H,I.tok _,A,q⟩
theorem xj0(y:X.A.units+10<cLine):zb X (λo i v H Q=>∃(a b:af)(k:K)(d:List (K×V)),o=.ref a/\i=.ref b/\c7 nk X.prog X.w H a d/\nk.tl H k b/\d.length<sizeLine/\∀p,(∀c u,H c=some u->c≠a->p c=some u)->c7 nk X.prog X.w p a (putK d k v)->Q p):=by
 intro j8 s σ H o i v O iv u Q I T D rv h;obtain⟨a,b,k,d,rfl,rfl,r,hb,Z,q⟩:=h;cases(show O=Value.ref a from T);cases(show iv=Value.ref b from D);obtain⟨z,Y,t,f,P⟩:=KY I.aS r;obtain⟨_,e,_⟩:=id r;have B:t.length<=sizeLine:=by rw[<- X8 f];exact z
 have F:(putK d k v).length<=sizeLine:=by have:=Ca d k v;exact xW Z this
 have A:∀{ob:HO}(c:af) (m:List V),H c=some (.tup m)->upd H a ob c=some (.tup m):=λc m g=>by
  rw[bj (i5 g e (λz=>nomatch z))];exact g
 refine wpAny_setItem_heap (hsz:=B) (Jb y) (nk.of I.aS hb) P λh' N S=>⟨upd H a (.ext (Jc nk X.prog X.w a (storedH t k b u))),?_,q _ (λc u g n=>by rw[bj n];exact g) ⟨_,aZ,Paired.qh (f.put k hb rv) λ_ _ z=>⟨z.1,nk.mono A z.2.1,z.2.2⟩,F,Y⟩⟩;obtain⟨j,L,w,l,h2,x,M,_,J⟩:=N;refine BM I (by rw[e];exact True.intro) S ⟨j,l⟩ ⟨⟨j,L,w,l,h2,x,M,J⟩,⟨j,l⟩,λh1 R ⟨C,U,E,G,W⟩ k2=>⟨C,U,E,k2 _ G,W⟩⟩
def xH1(P:ag)(w:aj)(nk:Ay K):TE:=λ_ H Q=>∀p,H p=none->∀a,(∀c u,H c=some u->a c=some u)->a p≠none->c7 nk P w a p []->Q (.ref p) a
theorem xj1{d:az}:PE X (.Dict [] [] d) (xH1 X.prog X.w nk):=λn s p H Q I h=>by
 have b:=I.aS.fresh (Zg s.heap.objs.size);refine wpAny_Dict_empty ⟨.ref s.heap.objs.size,upd H s.heap.objs.size (.ext (Jc nk X.prog X.w s.heap.objs.size [])),?_,rfl,h _ b _ (λc u e=>by rw[bj (cK e b)];exact e) (by rw[aZ];exact λz=>nomatch z) ⟨[],aZ,.nil,Zs _,YC.mpr (YK (Zu I.big))⟩⟩;exact I.laid (a:=s.heap.objs.size) (t':=s.toks) (λ_ _ q=>Zd _ q) (Zg _) ⟨⟨_,#[],0,Zi _ rfl,⟨rfl,rfl,rfl⟩,rfl,rfl,XQ⟩,⟨_,Zi _ rfl⟩,λh1 j ⟨f,k,g,i,l⟩ m=>⟨f,k,g,m _ i,l⟩⟩
end
end
def Lg{prog:ag}{w:aj}{K:Type}[DecidableEq K](knd:KeyKind prog w K):bU prog w K where
 is _ k v:=knd.is k v=true
 hash:=knd.hash
 draws _:=1
 lvl:=0
 inj:=λh a=>knd.inj _ _ _ h a
 keeps:=λh _ _ _=>h
 pyHash:=λ_ h q=>knd.pyHash h q
 eqBool:=λ_ h a q=>knd.eqBool h a q
 quiet:=λ_ h q=>by
  rw[eqIsQuiet_byValue _ (knd.byValue _ _ h)];exact Zb q
theorem TF{P:ag}{w:aj}{h:ao}:∀{a:List Key}{b:List aa},Vals (a.map kV) b->cy h (λ_=>Lg (gy P w)) a b
 |[],_,r=>by rw[XW]at r;cases r;exact .nil
 |k::a,_,r=>by
  rw[Zw]at r;cases r with
  |cons h t=>exact .cons (uT h) (TF t)
end L2
namespace Pr
open PySem L2
abbrev zN:aA:=top 12
abbrev xl:aA:=top 13
abbrev Cv:aA:=top 14
abbrev pJ:aA:=top 15
abbrev BJ:aA:=top 16
abbrev Cm:aA:=top 17
abbrev FV:aA:=top 18
abbrev Ht:aA:=pV (top 19) 0
abbrev Ck:aA:=pV (top 19) 1
abbrev Cu:aA:=top 22
abbrev Ct:aA:=top 23
abbrev G4:aA:=top 24
abbrev GZ:aA:=top 25
abbrev zE:aA:=top 26
abbrev GY:aA:=top 27
abbrev GV:aA:=top 28
abbrev BI:aA:=top 30
abbrev pI:aA:=top 31
abbrev Cs:aA:=top 32
abbrev FU:aA:=top 33
abbrev Cj:aA:=top 34
abbrev zM:aA:=top 35
abbrev Cr:aA:=top 37
abbrev Ci:aA:=top 38
abbrev Fg:aA:=top 39
abbrev zo:aA:=top 42
abbrev FQ:aA:=top 43
abbrev zL:aA:=top 44
abbrev Hs:aA:=top 45
abbrev Ge:aA:=top 46
abbrev uN:aA:=top 48
abbrev zm:aA:=top 49
abbrev BS:aA:=top 50
abbrev BH:aA:=top 54
abbrev xA:aA:=top 55
abbrev FJ:aA:=top 56
abbrev zl:aA:=top 57
abbrev GU:aA:=top 58
abbrev Hr:aA:=top 59
abbrev tO:aA:=top 61
abbrev xk:aA:=top 62
abbrev Cg:aA:=top 63
abbrev tP:aA:=top 64
abbrev Cf:aA:=top 65
abbrev zK:aA:=top 66
abbrev n5:aA:=top 67
abbrev uM:aA:=top 68
abbrev zJ:aA:=top 69
abbrev Cq:aA:=top 70
abbrev Hq:aA:=top 71
abbrev xt:aA:=top 72
abbrev zI:aA:=top 73
abbrev BZ:aA:=top 74
abbrev Gj:aA:=top 75
abbrev Cp:aA:=top 76
abbrev GQ:aA:=top 77
abbrev jl:aA:=top 78
end Pr
namespace L2
open PySem PySem.Spec PyProof.Rows
theorem cM{N P:List ar}{h:ax}(a:h.kind=.function:=by rfl)(b:h.isCoroutine=false:=by rfl)(c:h.isGenerator=false:=by rfl)(d:N.Nodup:=by decide +kernel)(e:N.take P.length=P:=by rfl)(f:∀x∈P,h.names.lookup x=some .local\/h.names.lookup x=some .cell:=by decide +kernel)(g:∀y∈h.names,y.2≠.free:=by decide +kernel):aE N P h:=⟨a,b,c,d,e,f,g⟩
section
variable{X:Cx}
theorem dk(i:Nat){x:ar}{e:au}{te:TE}{b a:az}(g:X.N.Nodup)(d:PE X e te)(h:X.N[i]?=some x:=by rfl)(f:Loc X.env.scope x:=by first|left;rfl|right;rfl)(hs:swapsWith e (some (.Name x a)) b.line X.env=pure false:=by rfl)(c:X.fn x=true\/X.env.scope.names.lookup x=some .local:=by first|left;rfl|right;rfl|assumption):PS X (.Assign [.Name x a] e b) (ja te (cb i)):=PM g h f d hs c
theorem gh(i:Nat){x:ar}{a:az}(d:X.N.Nodup)(e:X.N[i]?=some x:=by rfl)(c:Loc X.env.scope x:=by first|left;rfl|right;rfl)(b:X.fn x=true\/X.env.scope.names.lookup x=some .local:=by first|left;rfl|right;rfl|assumption):PG X (.Name x a) (cb i):=mq d e c b
theorem bz{k:Nat}{f:af}{b:ak}{ps:List ar}{sp:Sp}{x:ar}{p a:az}{e:au}{es:List au}{t:TA}(F:aB X.prog X.w X.K X.mg X.base aK k f b ps sp)(d:aV k X.A)(j:X.mg x=some (.ref f))(hk:PySem.W.keepIn X.K (.ref f)=true)(hb:Binds X.K b ps [])(h:PA X (e::es) t)(g:Gl X x:=by rfl)(l:(x==("__debug__":ar))=false:=by decide)(c:starEach (e::es) X.env=(false,eval e X.env)::starEach es X.env:=by rfl)(i:(backTo a (starEach es X.env)).any (·.1)=false:=by rfl):
  PE X (.Call (.Name x p) (e::es) [] a) (Fm sp [] E0 t):=xy F d g j hk hb .nil Fl h l c i
theorem cI{r:R2}{a b:au}{c:az}{ta tb:TE}(d:oK X r)(e:PE X a ta)(hb:PE X b tb)(hs:TZ b:=by intro _ _;rfl):PE X (.Subscript a b c) (AL r ta tb):=QH d e hb hs
end
end L2
namespace Pr
open PySem L2 Qf
structure fk(mg:ar->Option aa):Prop where
 Ac:mg "isinstance"=none
 int:mg "int"=none
 bool:mg "bool"=none
 tuple:mg "tuple"=none
 list:mg "list"=none
 set:mg "set"=none
 len:mg "len"=none
 all:mg "all"=none
 any:mg "any"=none
 enum:mg "enumerate"=none
 range:mg "range"=none
 max:mg "max"=none
 min:mg "min"=none
structure mU(mg:ar->Option aa):Prop where
 first:∃t,mg "FIRST"=some (.int 2 t)
 full:∃t,mg "FULL"=some (.int 1 t)
 great:∃t,mg "GREATEST_SIZE"=some (.int 12 t)
def vN(r:List Nat):List V:=r.map λn:Nat=>V.int (n:Int)
theorem g7(r:List Nat):(vN r).length=r.length:=Ze ..
theorem rH{r:List Nat}{i:Nat}{x:V}(h:(vN r)[i]?=some x):∃n:Nat,r[i]?=some n/\x=.int (n:Int):=by
 unfold vN at h;rw[Zf]at h;obtain⟨n,h1,h2⟩:=Zh.mp h;exact⟨n,h1,h2.symm⟩
theorem Ff{r:List Nat}{i n:Nat}(h:r[i]?=some n):(vN r)[i]?=some (.int (n:Int)):=by
 unfold vN;rw[Zf,h];rfl
theorem xj{r:List Nat}{i n:Nat}(h:r[i]?=some n):ui (vN r) (i:Int)=some (.int (n:Int)):=uP (Ff h)
theorem rG(r:List Nat):vN r=(r.map λn:Nat=>(n:Int)).map V.int:=by unfold vN;rw[Ym];rfl
def cD(H:Hp)(p:af)(rows:List Row):Prop:=∃bs:List af,H p=some (.tup (bs.map V.ref))/\bs.length=rows.length/\∀(i:Nat) b r,bs[i]?=some b->rows[i]?=some r->H b=some (.tup (vN r))
theorem cD.mono{H a:Hp}{p:af}{rows:List Row}(h:cD H p rows)(t:fJ H a):cD a p rows:=by
 obtain⟨bs,h1,h2,c⟩:=h;exact⟨bs,t _ _ h1,h2,λi b r e d=>t _ _ (c i b r e d)⟩
theorem cD.same{H a:Hp}{p:af}{rows:List Row}(h:cD H p rows)(t:aG H a):cD a p rows:=h.mono t.cg
def hV(H:Hp)(p:af)(rows:List Row):Prop:=∃bs:List af,(H p=some (.tup (bs.map V.ref))\/H p=some (.lst (bs.map V.ref)))/\bs.length=rows.length/\∀(i:Nat) b r,bs[i]?=some b->rows[i]?=some r->H b=some (.tup (vN r))
theorem cD.zs{H:Hp}{p:af}{rows:List Row}(h:cD H p rows):hV H p rows:=let ⟨bs,a,b,c⟩:=h;⟨bs,.inl a,b,c⟩
theorem hV.same{H a:Hp}{p:af}{rows:List Row}(h:hV H p rows)(s:aG H a):hV a p rows:=by
 obtain⟨bs,h1,h2,c⟩:=h;exact⟨bs,h1.imp (s _ _) (s _ _),h2,λi b r e d=>s _ _ (c i b r e d)⟩
def xg(K:PySem.W.Frag):R2:=λx y H Q=>xh K x y H Q\/xf K x y H Q
theorem UL{X:Cx}(K:PySem.W.Frag)(h:X.K=K):oK X (xg K):=(u_ K h).or (rW K h)
theorem xv9:aE ["thing"] ["thing"] (bq zN):=cM
inductive oX(vs:List V)(H:Hp)(Q:VK):Prop
 |mk(i:Int)(e0:vs=[.int i])(e1:Q (.bl true) H)
def Ho:Sp:=λa H Q _=>oX a H Q
theorem La{f:af}{b:ak}(F:aO K "is_whole" "is_whole" zN f b)(B:fk mg):aB P w K mg base aK 1 f b ["thing"] Ho:=by
 refine F.ok xv9 (λc H Q E h=>?_) (λe A a s H c Q E d h=>?_)
 ·obtain⟨i,rfl,_⟩:=h
  rfl
 ·obtain⟨i,rfl,q⟩:=h;refine⟨_,cN (cx (sW (dw zy (by rfl) B.Ac YA (aF (pv 0) (aF (zr (v:=.ty "int") (by rfl) B.int Wd rfl) aI)))
   (uK (xD2 (dw zy (by rfl) B.Ac YA (aF (pv 0) (aF (zr (v:=.ty "bool") (by rfl) B.bool PyProof.Rows.boot_bool rfl) aI))))))),?_⟩
  exact⟨_,rfl,_,_,_,_,true,rfl,rfl,.inl (.int i),rfl,_,rfl,dy ⟨_,rfl,_,_,_,_,false,rfl,rfl,.inl (.int i),rfl,_,rfl,q⟩⟩
theorem xH2:aE ["thing"] ["thing"] (bq Cu):=cM
inductive sC(vs:List V)(H:Hp)(Q:VK):Prop
 |mk(n:Nat)(e0:vs=[.int n])(e1:n<=12)(e2:Q (.bl true) H)
def Lf:Sp:=λa H Q _=>sC a H Q
theorem xw0{f c:af}{i a:ak}(F:aO K "is_size" "is_size" Cu f i)(B:fk mg)(T:mU mg)(j:mg "is_whole"=some (.ref c))(g:aO K "is_whole" "is_whole" zN c a)(m:Binds K a ["thing"] []):aB P w K mg base aK 2 f i ["thing"] Lf:=by
 have l:aB P w K mg base aK 1 c a ["thing"] Ho:=La g B;obtain⟨u,b⟩:=T.great;refine F.ok xH2 (λk H Q E h=>?_) (λr A d s H k Q E p h=>?_)
 ·obtain⟨x,rfl,_⟩:=h
  rfl
 ·obtain⟨n,rfl,t,q⟩:=h;refine⟨_,cN (cx (sW (bz l p j g.kp m (aF (pv 0) aI)) (uK (Sy oy oy aN (pv 0) (gx (v:=.int 12) (by rfl) b ⟨_,rfl⟩))))),?_⟩;refine⟨_,rfl,n,rfl,_,rfl,dy ⟨_,rfl,_,_,rfl,rfl,_,rfl,?_⟩⟩;have e:decide ((n:Int)<=12)=true:=Zv 'a';refine cC (λ_=>⟨_,_,rfl,rfl,?_⟩) (λh1=>absurd (Zv (Vz n)) h1);rw[e];exact q
theorem xj4:aE ["thing","many"] ["thing","many"] (bq BI):=cM
inductive nH(vs:List V)(H:Hp)(Q:VK):Prop
 |mk(n m:Nat)(e0:vs=[.int n,.int m])(e1:n<m+2)(e2:Q (.bl true) H)
def K9:Sp:=λa H Q _=>nH a H Q
theorem q95{f b:af}{g a:ak}(F:aO K "is_number" "is_number" BI f g)(B:fk mg)(T:mU mg)(i:mg "is_whole"=some (.ref b))(d:aO K "is_whole" "is_whole" zN b a)(l:Binds K a ["thing"] []):aB P w K mg base aK 2 f g ["thing","many"] K9:=by
 have k:aB P w K mg base aK 1 b a ["thing"] Ho:=La d B;obtain⟨t,p⟩:=T.first;refine F.ok xj4 (λj H Q E h=>?_) (λu A c s H j Q E r h=>?_)
 ·obtain⟨n,m,rfl,_⟩:=h
  rfl
 ·obtain⟨n,m,rfl,x,q⟩:=h;refine⟨_,cN (cx (sW (bz k r i d.kp l (aF (pv 0) aI)) (uK (Sy oy l_ aN (pv 0) (bg gO (pv 1) (gx (v:=.int 2) (by rfl) p ⟨_,rfl⟩)))))),?_⟩;refine⟨_,rfl,n,rfl,_,rfl,dy ⟨_,rfl,_,_,rfl,rfl,_,rfl,?_⟩⟩;have e:decide ((n:Int)<(m:Int)+2)=true:=Zv 'a';refine cC (λ_=>⟨_,rfl,_,_,rfl,rfl,_,_,rfl,rfl,?_⟩) (λh1=>absurd (Zv (Vz n)) h1);rw[e];exact q
theorem xw1:aE ["row"] ["row"] (bq xl):=cM
inductive o6(vs:List V)(H:Hp)(Q:VK):Prop
 |mk(b:af)(r:Row)(e0:vs=[.ref b])(e1:H b=some (.tup (vN r)))(e2:r.length=4)(e3:∀H',aG H H'->Q (.bl (decide (nJ r))) H')
def KW:Sp:=λa H Q _=>o6 a H Q
theorem TC{l m:List Nat}(h:(l.map λn:Nat=>(n:Int))=m.map λn:Nat=>(n:Int)):l=m:=by
 induction l generalizing m with
 |nil=>cases m with
  |nil=>rfl
  |cons b m=>simp at h
 |cons a l c=>cases m with
  |nil=>simp at h
  |cons b m=>
   rw[Zw,Zw]at h;injection h with h1 h2
   rw[c h2,Int.ofNat.inj h1]
theorem R_{f:af}{t:ak}(F:aO K "is_plain" "is_plain" xl f t)(T:mU mg):aB P w K mg base aK 2 f t ["row"] KW:=by
 obtain⟨G,B⟩:=T.first;refine F.ok xw1 (λx H Q E h=>?_) (λJ A i s H x Q E C h=>?_)
 ·obtain⟨b,r,rfl,_⟩:=h
  rfl
 ·obtain⟨b,r,rfl,hb,D,q⟩:=h;refine⟨_,cN (cx (sW (mn l_ (cI fQ (pv 0) aN) (gx (v:=.int 2) (by rfl) B ⟨_,rfl⟩) (dh _))
   (uK (mn (Ll C) (pv 0) (bg xu4 (gf (aF (cI fQ (pv 0) aN) aI)) aN) (dh _))))),?_⟩
  match r,D with
  |[a,c,d,g],_=>
   refine⟨_,rfl,b,_,0,.int a,rfl,rfl,bf.of hb,rfl,_,_,rfl,rfl,_,rfl,?_⟩;refine cC (λj=>?_) (λj=>?_)
   ·have h2:a<2:=by have:=ZE j;lia
    refine⟨_,rfl,_,rfl,b,_,0,.int a,rfl,rfl,bf.of hb,rfl,(by show 1<=sizeLine;decide),λp n=>⟨p,4,.int a,rfl,rfl,aZ,by decide,by decide,λI k=>?_⟩⟩;have y:=cw (u:=.tup (List.replicate 4 (V.int a))) (cw (u:=.tup [V.int a]) hb n) k;refine⟨dT [(a:Int),(c:Int),(d:Int),(g:Int)],dT [(a:Int),(a:Int),(a:Int),(a:Int)],.tup y (aM.ints [(a:Int),(c:Int),(d:Int),(g:Int)]),.tup aZ (aM.ints [(a:Int),(a:Int),(a:Int),(a:Int)]),G6 _,G6 _,(by show 1<=60;decide),?_⟩;rw[xF3];have e:decide (([(a:Int),(c:Int),(d:Int),(g:Int)]:List Int)=([(a:Int),(a:Int),(a:Int),(a:Int)]:List Int))=decide (nJ [a,c,d,g]):=by
     congr 1;apply propext;unfold nJ;constructor
     ·intro z;have:[a,c,d,g]=[a,a,a,a]:=TC (l:=[a,c,d,g]) (m:=[a,a,a,a]) z;have:a=0\/a=1:=by lia
      rcases this with rfl|rfl
      ·exact .inl ‹_›
      ·exact .inr ‹_›
     ·rintro(z|z)<;>(cases z;rfl)
    rw[e];exact q _ ((bo n).trans (bo k))
   ·have h2:¬a<2:=λz=>j (Zv 'a');have e:decide (nJ [a,c,d,g])=false:=ZM (by
     rintro(z|z)<;>(cases z;lia))
    have:=q H (aG.refl H);rw[e]at this;exact this
end Pr
namespace Qf
theorem xw2(l:List Nat)(a:Nat):mx (l++[a])=max (mx l) a:=by
 induction l with
 |nil=>exact Nat.max_comm a 0
 |cons b l c=>exact(Yi (max b) c).trans (Nat.max_assoc b (mx l) a).symm
theorem Tz(l:List Nat):∀k,k<l.length->L2.best (l.map λn:Nat=>(n:Int)) k=(mx (l.take (k+1)):Nat)
 |0,h=>by
  cases l with
  |nil=>simp at h
  |cons a l=>show((a:Nat):Int)=((max a 0:Nat):Int);simp
 |k+1,h=>by
  have b:=Tz l k (x_ h);have e:(l.map λn:Nat=>(n:Int)).getD (k+1) 0=((l[k+1]:Nat):Int):=by simp[List.getD,h]
  have t:l.take (k+1+1)=l.take (k+1)++[l[k+1]]:=by rw[XF h]
  unfold L2.best;rw[e,b,t,xw2];split<;>lia
theorem xj5{l:List Nat}(h:l≠[]):L2.best (l.map λn:Nat=>(n:Int)) ((l.map λn:Nat=>(n:Int)).length-1)=(mx l:Nat):=by
 have a:0<l.length:=List.length_pos_iff.mpr h;rw[Ze,Tz l (l.length-1) 'a',show l.length-1+1=l.length from x4 a,XS]
theorem q98{rows:List Row}{i:Nat}{r:Row}(h:rows[i]?=some r):gR (rows.take (i+1))=gR (rows.take i)++[1+mx (r.map (dp (rows.take i)))]:=by
 have b:=(cf h).1;have a:=(cf h).2;rw[<- Gg,<- a,XF b]
theorem Pl{rows:List Row}{x:Nat}(h:x<rows.length+2):(gR rows)[x]?=some (dp rows x):=by
 unfold dp;rw[Zt];have:x<(gR rows).length:=by rw[BU];exact h
 rw[Zc this];rfl
end Qf
namespace Pr
open PySem L2 Qf
theorem pW{xs ys:List V}(a:xs.length=ys.length)(h:∀(i:Nat) x,xs[i]?=some x->ys[i]?=some x):xs=ys:=by
 refine Wp λi=>?_;cases e:xs[i]? with
 |some x=>exact(h i x e).symm
 |none=>
  have:xs.length<=i:=List.getElem?_eq_none_iff.mp e;exact(YI (Aa a this)).symm
theorem jd:aE ["rows","depths","row"] ["rows"] (bq Cv):=cM
inductive sG(vs:List V)(H:Hp)(Q:VK):Prop
 |mk(p:af)(rows:List Row)(e0:vs=[.ref p])(e1:cD H p rows)(e2:dY rows)(e3:rows.length<=900)(e4:∀H' D,aG H H'->H' D=some (.lst (vN (gR rows)))->Q (.ref D) H')
def Pk:Sp:=λa H Q _=>sG a H Q
theorem xw3{f:af}{W:ak}(F:aO K "depths_of" "depths_of" Cv f W)(B:fk mg):aB P w K mg base aK 1 f W ["rows"] Pk:=by
 refine F.ok jd (λvs H Q E h=>?_) (λbJ A L s H vs Q E hr h=>?_)
 ·obtain⟨p,rows,rfl,_⟩:=h
  rfl
 ·obtain⟨p,rows,rfl,hR,ok,hn,q⟩:=h;refine⟨_,fY (dk 1 jd.nd (jh (aF aN (aF aN aI))))
   (fY (rJ Y2 rfl (sU (pv 0)) (gh 2 jd.nd)
    (cN (ir (uU Yy Yp Yq sZ (pv 1) (aF (bg gO aN (dw (q67 rfl) (by rfl) B.max Y9
     (aF (nS ["rows","depths","row"] (bq Cv) rfl rfl rfl jd.nd (sU (pv 2)) (λcl C fp aC aD=>cI (u_ K rfl) (pv 2) (pv 0))) aI))) aI)))))
   (cN (cx (pv 1)))),?_⟩
  refine⟨(by show 2<=sizeLine;decide),λD J=>?_⟩;obtain⟨bs,U,j9,jE⟩:=id hR;have kA:=cw (u:=.lst [.int 0,.int 0]) U J;have S:(bs.map V.ref).length=rows.length:=by rw[Ze];exact j9
  refine⟨_,rfl,p,rfl,⟨_,bf.of kA⟩,HC (K:=K) (a:=p) (xs:=bs.map V.ref) (λi I g=>aG H g/\g D=some (.lst (vN (gR (rows.take i))))/\∃N,I=[some (.ref p),some (.ref D),N])
   ⟨bo J,aZ,none,rfl⟩ (λi I g _ ⟨c,_⟩=>bf.of (c _ _ U)) ?_ ?_⟩
  ·rintro i y I g O ⟨c,d,N,rfl⟩;have M:i<rows.length:=by rw[<- S];exact(cf O).1
   rw[Zf]at O;obtain⟨b,hb,rfl⟩:=Zh.mp O;have l:rows[i]?=some rows[i]:=by simp[M]
   have R:=c _ _ (jE i b rows[i] hb l);have v:=ok i _ l;have T:(rows.take i).length=i:=by rw[Yc];exact Jn M
   have kR:∀x,x<i+2->(gR (rows.take i))[x]?=some (dp (rows.take i) x):=λx k=>Pl (by rw[T];exact k);generalize rows[i]=r at l R v;refine⟨_,rfl,.inl ⟨rfl,_,bZ.of d⟩,_,rfl,b,rfl,⟨_,bf.of R⟩,λD2 Z=>pX Z (λj z _=>∃x,r[j]?=some x/\z=.int (dp (rows.take i) x:Nat)) (rL (K:=K) R) (by rw[g7,v.1];decide) (λ_ _ _ _ _ _ h=>h) ?_ ?_⟩
   ·intro j x H3 hj k G Q' hq;obtain⟨m,t,rfl⟩:=rH k;have jC:=v.2 m (Zm t);exact⟨_,rfl,_,rfl,D,_,(m:Int),.int (dp (rows.take i) m:Nat),rfl,rfl,bZ.of (G _ _ d),xj (kR m jC),hq _ _ (aG.refl _) ⟨m,t,rfl⟩⟩
   ·intro Y H3 G kE jM jP;have ey:Y=(r.map (dp (rows.take i))).map (λn:Nat=>V.int (n:Int)):=by
     refine pW (by rw[jM,g7,Ze,Ze]) λj x k=>?_;obtain⟨m,t,rfl⟩:=jP j x k;rw[Zf,Zf,t];rfl
    have e2:Y=((r.map (dp (rows.take i))).map (λn:Nat=>(n:Int))).map V.int:=ey.trans (rG _);have X:r.map (dp (rows.take i))≠[]:=λz=>by
     have:=Yi List.length z;rw[Ze,v.1]at this;cases this
    refine⟨D2,(r.map (dp (rows.take i))).map (λn:Nat=>(n:Int)),rfl,e2▸kE,λz=>X (List.map_eq_nil_iff.mp z),_,_,rfl,rfl,?_⟩;rw[xj5 X];have kD:=G _ _ d;refine⟨D,_,_,rfl,rfl,kD,?_,?_⟩
    ·rw[g7,BU,T];exact pY (QU M hn)
    ·have nD:∀b o,H b=some o->b≠D:=λb o e=>cK e J;refine⟨λb o e=>by rw[bj (nD b o e)];exact G _ _ (c _ _ e),?_,_,rfl⟩;rw[aZ,q98 l];unfold vN;rw[ZZ]
     rfl
  ·rintro I g ⟨c,d,N,rfl⟩;refine⟨_,rfl,q g D c ?_⟩;rw[S,XS]at d;exact d
end Pr
namespace Qf
theorem R9{rows:List Row}{e:List Nat}(h:eD rows e):e.length<=rows.length:=by
 have:=h.nd.length_le_of_subset (l₂:=List.range rows.length) λp a=>ZR.mpr (h.lt p a);simpa using this
theorem Kh{rows:List Row}(ok:dY rows){d p:Nat}{r:Row}(a:rows[p]?=some r)(h:dp rows (p+2)<=d+1):∀(l e:List Nat),(∀q∈l,q∈r)->eD rows e->eD rows (l.foldl (cA rows d) e)
 |[],_,_,c=>c
 |q::l,e,g,c=>by
  have f:=g q ZC;have i:=(ok p r a).2 q f;have k:=(cf a).1;have b:dp rows q<=d:=by
   have:=Cw (ZF.mpr ⟨q,f,rfl⟩:dp rows q∈r.map (dp rows));have e:=pO ok a;exact Jk e this h
  exact Kh ok a h l _ (λz j=>g z (Zq _ j)) (rN ok d e q c (qp k i) b).1
theorem zB{rows:List Row}(ok:dY rows){d p:Nat}{r:Row}(a:rows[p]?=some r)(g:dp rows (p+2)<=d+1){q:Nat}(b:q∈r):q<rows.length+2/\dp rows q<=d:=by
 have c:=(ok p r a).2 q b;have f:=(cf a).1;have:=Cw (ZF.mpr ⟨q,b,rfl⟩:dp rows q∈r.map (dp rows));have e:=pO ok a;exact⟨qp f c,Jk e this g⟩
theorem Ce{rows:List Row}(ok:dY rows){x:Nat}(a:x<rows.length+2)(h:dp rows x<=0):x<2:=by
 by_cases z:x<2
 ·exact z
 ·exfalso;have b:x-2<rows.length:=by exact tM a z
  have:=pO ok (nh b);rw[show x-2+2=x from nX z]at this;lia
end Qf
namespace Pr
open PySem L2 Qf
theorem jg{n:Nat}(h:n<=1191000):n<sizeLine:=Xv h 'b'
def cu(e:af)(H a:Hp):Prop:=∀b o,H b=some o->b≠e->a b=some o
theorem cu.refl(e:af)(H:Hp):cu e H H:=λ_ _ h _=>h
theorem cu.trans{e:af}{H d f:Hp}(a:cu e H d)(b:cu e d f):cu e H f:=λc o h n=>b c o (a c o h n) n
theorem cu.upd{e:af}{H:Hp}{o:HO}:cu e H (upd H e o):=λb u h n=>by rw[bj n];exact h
theorem cu.of{e:af}{H a:Hp}(h:aG H a):cu e H a:=λb o q _=>h b o q
theorem cu.cg{e:af}{H c:Hp}(h:cu e H c){o:HO}(a:H e=some o)(d:∀u,o≠.tup u):fJ H c:=λb u q=>h b _ q λz=>by
 subst z;rw[q]at a;exact d u (ZK a).symm
def eK(es:List Nat):List (Key×V):=es.map λp:Nat=>(Sum.inl (p:Int),V.bl true)
theorem Pj(es:List Nat)(p:Nat):(bY (eK es) (Sum.inl (p:Int))).isSome=decide (p∈es):=by
 rw[<- sY];unfold eK;rw[XC];by_cases h:p∈es
 ·rw[Zv h,ZW];exact⟨p,h,by simp⟩
 ·rw[ZM h,VQ];intro q a;simp only[Function.comp,Y6];intro z;have:(q:Int)=p:=VP z;exact h (by rw[<- Int.ofNat.inj this];exact a)
theorem xH3{es:List Nat}{p:Nat}(h:p∉es):putK (eK es) (Sum.inl (p:Int)) (.bl true)=eK (es++[p]):=by
 unfold putK;have:=Pj es p;rw[<- sY,ZM h]at this;rw[Zj (by rw[this];decide)];unfold eK;rw[ZZ];rfl
theorem pF:aE ["rows","number","ended","quarter"] ["rows","number","ended"] (bq pJ):=cM
inductive wo(d:Nat)(vs:List V)(H:Hp)(Q:VK):Prop
 |mk(p e:af)(x:Nat)(rows:List Row)(es:List Nat)(e0:vs=[.ref p,.int (x:Nat),.ref e])(e1:hV H p rows)(e2:dY rows)(e3:rows.length<=1190900)(e4:x<rows.length+2)(e5:dp rows x<=d)(e6:eD rows es)(e7:H e=some (.dK (eK es)))(e8:∀H',cu e H H'->H' e=some (.dK (eK (cA rows d es x)))->Q .ck H')
def Qu(d:Nat):Sp:=λa H Q _=>wo d a H Q
theorem xH5{f:af}{fd:ak}(F:aO K "end_rows" "end_rows" pJ f fd)(T:mU mg)(hE:mg "end_rows"=some (.ref f))(bE:Binds K fd ["rows","number","ended"] []):∀d,aB P w K mg base aK (d+1) f fd ["rows","number","ended"] (Qu d):=by
 obtain⟨tf,L⟩:=T.first;intro d
 induction d with
 |zero=>
  refine F.ok pF (λY H Q E h=>?_) (λbJ A D s H Y Q E M h=>?_)
  ·obtain⟨p,e,x,rows,a,rfl,_⟩:=h
   rfl
  ·obtain⟨p,e,x,rows,a,rfl,hR,ok,hn,t,U,O,l,q⟩:=h;have S:A.units+3+1<cLine:=by have:=M.un;exact Xv (Xb _ _) (show A.units+3+1+199<cLine from by simpa using this)
   have I:=Ce ok t U;refine⟨_,fY (eI (oz (fu l_ (pv 1) (gx (v:=.int 2) (by rfl) L ⟨_,rfl⟩) (dh _)) (pQ (G_ (Py S (bg gN (pv 1) (gx (v:=.int 2) (by rfl) L ⟨_,rfl⟩)) (pv 2))))).pt (cN HD) eM) xE,?_⟩;refine⟨_,rfl,_,_,rfl,rfl,_,rfl,?_⟩;exact zH (show(x:Int)<2 from Q3 I) (dy (q H (cu.refl e H) l))
 |succ d ih=>
  refine F.ok pF (λY H Q E h=>?_) (λbJ A D s H Y Q E M h=>?_)
  ·obtain⟨p,e,x,rows,a,rfl,_⟩:=h
   rfl
  ·obtain⟨p,e,x,rows,a,rfl,hR,ok,hn,t,U,O,l,q⟩:=h;have S:A.units+3+1<cLine:=by have:=M.un;exact Xv (Xb _ (16*(d+1)+199)) (show A.units+3+1+(16*(d+1)+199)<cLine from by
    have h2:A.units+3+16*(d+1)+200<cLine:=this;lia)
   refine⟨_,fY (eI (oz (fu l_ (pv 1) (gx (v:=.int 2) (by rfl) L ⟨_,rfl⟩) (dh _)) (pQ (G_ (Py S (bg gN (pv 1) (gx (v:=.int 2) (by rfl) L ⟨_,rfl⟩)) (pv 2))))).pt (cN HD) eM)
    (fY (rJ Y2 rfl (sU (cI (UL K rfl) (pv 0) (bg gN (pv 1) (gx (v:=.int 2) (by rfl) L ⟨_,rfl⟩)))) (gh 3 pF.nd)
     (cN (ir (bz ih M hE F.kp bE (aF (pv 0) (aF (pv 3) (aF (pv 2) aI)))))))
    (cN (Hw S (pv 2) (bg gN (pv 1) (gx (v:=.int 2) (by rfl) L ⟨_,rfl⟩)) kj (by rfl)))),?_⟩
   refine⟨_,rfl,_,_,rfl,rfl,_,rfl,?_⟩;unfold cA at q;refine cC (λhc=>?_) (λhc=>?_)
   ·have I:x<2:=by have:=ZE hc;lia
    rw[Zn (.inl I)]at q;exact dy (q H (cu.refl e H) l)
   ·have I:¬x<2:=λz=>hc (Zv 'a');have ex:(x:Int)-2=((x-2:Nat):Int):=by lia
    have dg:dE H e (.int ((x:Int)-2)) (bY (eK a) (Sum.inl ((x-2:Nat):Int))):=by rw[ex];exact dE.k (k:=Sum.inl ((x-2:Nat):Int)) l
    refine⟨_,rfl,_,_,rfl,rfl,_,rfl,e,_,rfl,dg,_,rfl,?_⟩;rw[Pj];refine cC (λC=>?_) (λC=>?_)
    ·rw[Zn (.inr (ZE C))]at q;exact q H (cu.refl e H) l
    ·have X_:x-2∉a:=λz=>C (Zv z);rw[Zj (by rintro(z|z);exact I z;exact X_ z)]at q;have jC:x-2<rows.length:=by lia
     have J:=nh jC;generalize rows.getD (x-2) []=r at q J;obtain⟨bs,G,B,Z⟩:=id hR;have Ed:dp rows (x-2+2)<=d+1:=by rw[show x-2+2=x by lia];exact U
     have Ei:bs[x-2]?=some (bs[x-2]'(qj t B ex)):=by simp[show x-2<bs.length from qj t B ex]
     have jR:=Z (x-2) _ r Ei J;have LH:∀b∈bs,b≠e:=λb hb z=>by
      obtain⟨j,W,ej⟩:=ZL.mp hb;have:=Z j b (rows[j]'(qm W B)) (by rw[Zc W,ej]) (Zc (qm W B));rw[z,l]at this;cases this
     have Ul:p≠e:=λz=>by
      rw[z,l]at G;rcases G with G|G<;>cases G
     have Er:∀c,cu e H c->hV c p rows:=λc g=>⟨bs,G.imp (λh=>g _ _ h Ul) (λh=>g _ _ h Ul),B,λi b r e1 e2=>g _ _ (Z i b r e1 e2) (LH b (Zm e1))⟩;have Mc:∀Q':VK,Q' (.ref (bs[x-2]'(qj t B ex))) H->xg K (.ref p) (.int ((x:Int)-2)) H Q':=λQ' hQ=>by
      rcases G with h|h
      ·exact .inr ⟨p,_,((x-2:Nat):Int),.ref (bs[x-2]'(qj t B ex)),rfl,Yi V.int ex,bf.of h,uP (by rw[Zf,Ei];rfl),hQ⟩
      ·exact .inl ⟨p,_,((x-2:Nat):Int),.ref (bs[x-2]'(qj t B ex)),rfl,Yi V.int ex,bZ.of h,uP (by rw[Zf,Ei];rfl),hQ⟩
     refine⟨_,rfl,_,rfl,_,_,rfl,rfl,Mc _ ⟨_,rfl,⟨_,bf.of jR⟩,
      HC (K:=K) (xs:=vN r) (λi R c=>cu e H c/\c e=some (.dK (eK ((r.take i).foldl (cA rows d) a)))/\∃v3,R=[some (.ref p),some (.int (x:Nat)),some (.ref e),v3])
      ⟨cu.refl e H,l,none,rfl⟩ (λi R c _ ⟨g,_⟩=>bf.of (g.cg l (λu z=>by cases z) _ _ jR)) ?_ ?_⟩⟩
     ·rintro i y R c hy ⟨g,N,v3,rfl⟩;obtain⟨m,C,rfl⟩:=rH hy;have hq:=Zm C;obtain⟨b1,b2⟩:=zB ok J Ed hq;refine⟨_,rfl,_,rfl,_,rfl,p,e,m,rows,(r.take i).foldl (cA rows d) a,rfl,Er c g,ok,hn,b1,b2,Kh ok J Ed _ a (λz X=>List.mem_of_mem_take X) O,N,λH3 s3 Ec=>⟨g.trans s3,?_,_,rfl⟩⟩;have yG:=(cf C).1;have hme:=(cf C).2;rw[<- XF yG,List.foldl_append,hme];exact Ec
     ·rintro R c ⟨g,N,v3,rfl⟩;rw[g7,XS]at N;have pf:=Kh ok J Ed r a (λz X=>X) O;have n:=(rN ok (d+1) a x O t U).1;unfold cA at n;rw[Zj (by rintro(z|z);exact I z;exact X_ z)]at n;have eg:rows.getD (x-2) []=r:=by
       rw[Zt,J];rfl
      rw[eg]at n;have wI:x-2∉r.foldl (cA rows d) a:=λz=>by
       have:=(XB.mp n.nd).2.2 (x-2) z (x-2) 'c';exact this rfl
      have dq:iJ c e (.int ((x:Int)-2)) (.bl true) (upd c e (.dK (eK (r.foldl (cA rows d) a++[x-2])))):=by
       rw[ex,<- xH3 wI];refine iJ.k (k:=Sum.inl ((x-2:Nat):Int)) N ?_;unfold eK;rw[Ze];exact jg (by have:=R9 pf;lia)
      exact⟨_,rfl,_,rfl,_,_,rfl,rfl,e,_,rfl,dq,q _ (g.trans cu.upd) aZ⟩
theorem k_:aE ["rows","top","ended"] ["rows","top"] (bq BJ):=cM
inductive nG(d:Nat)(vs:List V)(H:Hp)(Q:VK):Prop
 |mk(p:af)(x:Nat)(rows:List Row)(e0:vs=[.ref p,.int (x:Nat)])(e1:hV H p rows)(e2:dY rows)(e3:rows.length<=1190900)(e4:x<rows.length+2)(e5:dp rows x<=d)(e6:∀H' D,aG H H'->H' D=some (.lst (vN (cA rows d [] x)))->Q (.ref D) H')
def FI(d:Nat):Sp:=λa H Q _=>nG d a H Q
theorem SO{f i:af}{m g:ak}(F:aO K "places_as_ended" "places_as_ended" BJ f m)(B:fk mg)(T:mU mg)(n:mg "end_rows"=some (.ref i))(j:aO K "end_rows" "end_rows" pJ i g)(k:Binds K g ["rows","number","ended"] [])(d:Nat):aB P w K mg base aK (d+2) f m ["rows","top"] (FI d):=by
 have D:aB P w K mg base aK (d+1) i g ["rows","number","ended"] (Qu d):=xH5 j T n k d;refine F.ok k_ (λt H Q E h=>?_) (λN A c s H t Q E J h=>?_)
 ·obtain⟨p,x,rows,rfl,_⟩:=h
  rfl
 ·obtain⟨p,x,rows,rfl,I,ok,u,v,C,q⟩:=h;refine⟨_,fY (dk 2 k_.nd xh1)
   (fY (ir (bz D J n j.kp k (aF (pv 0) (aF (pv 1) (aF (pv 2) aI)))))
   (cN (cx (i7 (qX8 rfl) (by rfl) B.list PyProof.Rows.boot_list (aF (pv 2) aI))))),?_⟩
  refine λe a=>⟨_,rfl,_,rfl,_,rfl,p,e,x,rows,[],rfl,I.same (bo a),ok,u,v,C,xB rows,aZ,λM y r=>?_⟩;refine⟨_,rfl,e,_,rfl,r,λl L=>q _ l ?_ ?_⟩
  ·intro b o z;have G:b≠e:=cK z a;exact cw (y b o (cw z a) G) L
  ·rw[aZ];unfold eK vN;rw[Ym]
   rfl
def cJ(H:Hp)(t:af)(n top:Nat)(rows:List Row):Prop:=∃p:af,H t=some (.tup [.int (n:Nat),.int (top:Nat),.ref p])/\cD H p rows
theorem cJ.mono{H a:Hp}{t:af}{n top:Nat}{rows:List Row}(h:cJ H t n top rows)(s:fJ H a):cJ a t n top rows:=by
 obtain⟨p,h1,h2⟩:=h;exact⟨p,s _ _ h1,h2.mono s⟩
theorem xw4{ys:List V}(h:∀(i:Nat) y,ys[i]?=some y->y=.bl true):ys=(List.replicate ys.length true).map V.bl:=by
 refine pW 'c' λi x a=>?_;have b:=(cf a).1;rw[h i x a];simp[b]
theorem Tx(k:Nat):(List.replicate k true).all id=true:=by
 rw[Xc];intro x a;exact(List.mem_replicate.mp a).2
theorem uy:aE ["thing","before"] ["thing","before"] (bq pI):=cM
inductive wc(vs:List V)(H:Hp)(Q:VK):Prop
 |mk(b:af)(i:Nat)(r:Row)(e0:vs=[.ref b,.int (i:Nat)])(e1:H b=some (.tup (vN r)))(e2:Qz i r)(e3:∀H',aG H H'->Q (.bl true) H')
def Qt:Sp:=λa H Q _=>wc a H Q
theorem xH7{f d:af}{l a:ak}(F:aO K "is_row" "is_row" pI f l)(B:fk mg)(S:mg "is_number"=some (.ref d))(p:aO K "is_number" "is_number" BI d a)(R:Binds K a ["thing","many"] [])(J:aB P w K mg base aK 2 d a ["thing","many"] K9):aB P w K mg base aK 3 f l ["thing","before"] Qt:=by
 refine F.ok uy (λy H Q E h=>?_) (λX A g s H y Q E N h=>?_)
 ·obtain⟨b,i,r,rfl,_⟩:=h
  rfl
 ·obtain⟨b,i,r,rfl,hb,c,q⟩:=h;refine⟨_,fY (eI (oz (nO (lq (dw zy (by rfl) B.Ac YA (aF (pv 0) (aF (zr (v:=.ty "tuple") (by rfl) B.tuple ZO rfl) aI)))))
    (pQ (fu QK (dw s_ (by rfl) B.len YN (aF (pv 0) aI)) aN (dh _)))).pt (cN (cx kj)) eM)
   (cN (cx (dw (Kj rfl) (by rfl) B.all Vb (aF (nS ["thing","before"] (bq pI) rfl rfl rfl uy.nd (xM K rfl (pv 0)) (λV C U T W=>bz J N S p.kp R (aF (pv 0) (aF (pv 2) aI)))) aI)))),?_⟩
  refine⟨_,rfl,_,_,_,_,true,rfl,rfl,.inl (.tup hb),rfl,_,rfl,cB ⟨_,rfl,b,_,rfl,.inr (bf.of hb),rfl,_,rfl,xO2 (by rw[g7,c.1];rfl) ?_⟩⟩;refine⟨_,rfl,b,rfl,⟨_,bf.of hb⟩,λD t=>pX t (λ_ z _=>z=.bl true) (rL (K:=K) hb) (by rw[g7,c.1];decide) (λ_ _ _ _ _ _ h=>h) ?_ ?_⟩
  ·intro j x k Z L n Y I;obtain⟨m,G,rfl⟩:=rH L;exact⟨_,rfl,_,rfl,m,i,rfl,c.2 m (Zm G),I _ _ (aG.refl _) rfl⟩
  ·intro M k n O jM u;have e:=xw4 u;refine⟨D,List.replicate M.length true,rfl,by rw[<- e];exact O,?_⟩;rw[Tx];exact q k n
theorem pA:aE ["thing"] ["thing"] (bq Cs):=cM
inductive sE(vs:List V)(H:Hp)(Q:VK):Prop
 |mk(p:af)(rows:List Row)(e0:vs=[.ref p])(e1:cD H p rows)(e2:dY rows)(e3:rows.length<=900)(e4:∀H',aG H H'->Q (.bl true) H')
def Ph:Sp:=λa H Q _=>sE a H Q
theorem xw5{f k:af}{r j:ak}(F:aO K "are_rows" "are_rows" Cs f r)(B:fk mg)(Y:mg "is_row"=some (.ref k))(I:aO K "is_row" "is_row" pI k j)(U:Binds K j ["thing","before"] [])(L:aB P w K mg base aK 3 k j ["thing","before"] Qt):aB P w K mg base aK 4 f r ["thing"] Ph:=by
 refine F.ok pA (λM H Q E h=>?_) (λbJ A l s H M Q E hr h=>?_)
 ·obtain⟨p,rows,rfl,_⟩:=h
  rfl
 ·obtain⟨p,rows,rfl,W,ok,T,q⟩:=h;obtain⟨bs,c,S,X⟩:=id W;refine⟨_,cN (cx (sW (dw zy (by rfl) B.Ac YA (aF (pv 0) (aF (zr (v:=.ty "tuple") (by rfl) B.tuple ZO rfl) aI)))
   (uK (dw (Kj rfl) (by rfl) B.all Vb (aF (Sm ["thing"] (bq Cs) rfl rfl rfl pA.nd (Sn (by rfl) B.enum (aF (pv 0) aI)) (λcl C fp aC aD=>bz L hr Y I.kp U (aF (pv 1) (aF (pv 0) aI)))) aI))))),?_⟩
  refine⟨_,rfl,_,_,_,_,true,rfl,rfl,.inl (.tup c),rfl,_,rfl,dy ?_⟩;have n:(bs.map V.ref).length=rows.length:=by rw[Ze];exact S
  refine⟨_,rfl,p,rfl,⟨_,bf.of c⟩,λD J=>Tq J (λ_=>true) (λ_=>.bl true) (q74 (K:=K) c) (by rw[n];exact pY (x5 T)) ?_ ?_⟩
  ·rintro i x g a ⟨t,y,rfl,u,G⟩ e os O Z Q2 q1 q2;obtain⟨o1,o2,rfl⟩:=L2.zX O
   ·
    have N:i<rows.length:=by rw[<- n];exact a
    rw[Zf]at u;obtain⟨b,hb,rfl⟩:=Zh.mp u;have m:rows[i]?=some rows[i]:=by simp[N]
    refine⟨t,_,rfl,bf.of G,rfl,_,_,rfl,_,_,rfl,rfl,?_⟩;refine dy (B:=Z g) ?_;exact⟨_,rfl,_,rfl,b,i,rows[i],rfl,e _ _ (X i b _ hb m),ok i _ m,λR s3=>q2 rfl R s3⟩
  ·intro g e jY;refine⟨D,List.replicate (bs.map V.ref).length true,rfl,?_,?_⟩
   ·rw[jY];congr 2;rw[List.map_replicate,List.filter_eq_self.mpr (λ_ _=>rfl)];refine pW 'c' λi x d=>?_;have a:=(cf d).1;rw[Zf]at d;obtain⟨_,_,rfl⟩:=Zh.mp d;simp at a;rw[Ze,WS,Zn a]
   ·rw[Tx];exact q g e
theorem fm:aE ["thing","n","top","rows"] ["thing"] (bq FU):=cM
inductive mi(vs:List V)(H:Hp)(Q:VK):Prop
 |mk(t:af)(n tp:Nat)(rows:List Row)(e0:vs=[.ref t])(e1:cJ H t n tp rows)(e2:n<=12)(e3:dY rows)(e4:rows.length<=900)(e5:tp<rows.length+2)(e6:dp rows tp<=n)(e7:∀H',aG H H'->Q (.bl true) H')
def SN:Sp:=λa H Q _=>mi a H Q
theorem qZ0{f g r i d:af}{J k u c m:ak}(F:aO K "is_telling" "is_telling" FU f J)(B:fk mg)
  (X:mg "is_size"=some (.ref g)) (Y:aO K "is_size" "is_size" Cu g k) (bS:Binds K k ["thing"] []) (M:aB P w K mg base aK 2 g k ["thing"] Lf)
  (hR:mg "are_rows"=some (.ref r)) (O:aO K "are_rows" "are_rows" Cs r u) (bR:Binds K u ["thing"] []) (U:aB P w K mg base aK 4 r u ["thing"] Ph)
  (hN:mg "is_number"=some (.ref i)) (N:aO K "is_number" "is_number" BI i c) (bN:Binds K c ["thing","many"] []) (GN:aB P w K mg base aK 2 i c ["thing","many"] K9)
  (T:mg "depths_of"=some (.ref d)) (C:aO K "depths_of" "depths_of" Cv d m) (bD:Binds K m ["rows"] []):aB P w K mg base aK 5 f J ["thing"] SN:=by
 have R:aB P w K mg base aK 1 d m ["rows"] Pk:=xw3 C B;refine F.ok fm (λW H Q E h=>?_) (λbJ A x s H W Q E l h=>?_)
 ·obtain⟨t,n,a,rows,rfl,_⟩:=h
  rfl
 ·obtain⟨t,n,a,rows,rfl,⟨p,b,j⟩,hn,ok,L,G,hd,q⟩:=h;have S:aV 1 _:=l.mono 'b';have y:aV 2 _:=l.mono 'b';refine⟨_,fY (eI (oz (nO (lq (dw zy (by rfl) B.Ac YA (aF (pv 0) (aF (zr (v:=.ty "tuple") (by rfl) B.tuple ZO rfl) aI)))))
    (pQ (fu QK (dw s_ (by rfl) B.len YN (aF (pv 0) aI)) aN (dh _)))).pt (cN (cx kj)) eM)
   (fY (sV (pv 0) (pP rfl (gz (gh 1 fm.nd) (gz (gh 2 fm.nd) (gz (gh 3 fm.nd) pT)))))
   (fY (eI (oz (nO (lq (bz M y X Y.kp bS (aF (pv 1) aI))))
    (oz (nO (lq (bz U l hR O.kp bR (aF (pv 3) aI))))
    (pQ (nO (lq (bz GN y hN N.kp bN (aF (pv 2) (aF (dw s_ (by rfl) B.len YN (aF (pv 3) aI)) aI)))))))).pt (cN (cx kj)) eM)
   (cN (cx (mn oy (cI pR (bz R S T C.kp bD (aF (pv 3) aI)) (pv 2)) (pv 1) (dh _)))))),?_⟩
  refine⟨_,rfl,_,_,_,_,true,rfl,rfl,.inl (.tup b),rfl,_,rfl,cB ⟨_,rfl,t,_,rfl,.inr (bf.of b),rfl,_,rfl,cB ?_⟩⟩;refine⟨_,rfl,t,_,rfl,bf.of b,rfl,_,_,rfl,_,_,rfl,_,_,rfl,rfl,?_⟩;refine⟨_,rfl,n,rfl,hn,_,rfl,cB ⟨_,rfl,p,rows,rfl,j,ok,L,λH2 e=>⟨_,rfl,cB ?_⟩⟩⟩;obtain⟨bs,Z,j9,jE⟩:=id j;refine⟨_,rfl,_,rfl,p,_,rfl,.inr (bf.of (e _ _ Z)),a,rows.length,by rw[Ze,j9];rfl,G,_,rfl,cB ?_⟩;refine⟨_,rfl,p,rows,rfl,j.same e,ok,L,λI D s3 kE=>?_⟩;refine⟨_,rfl,D,_,(a:Int),.int (dp rows a:Nat),rfl,rfl,bZ.of kE,xj (Pl G),_,rfl,_,_,rfl,rfl,?_⟩;show Q (V.bl (decide ((dp rows a:Int)<=(n:Int)))) I;rw[Zv 'a'];exact q I (e.trans s3)
def aY(H:Hp)(t:af)(n top:Nat)(rows:List Row):Prop:=cJ H t n top rows/\Canon n top rows/\rows.length<=900
def Cd(H:Hp)(t:af)(n top:Nat)(rows:List Row):Prop:=cJ H t n top rows/\Canon n top rows/\rows.length<=1190900
theorem aY.b{H:Hp}{t n top:Nat}{rows:List Row}(h:aY H t n top rows):Cd H t n top rows:=⟨h.1,h.2.1,ZD h.2.2 'b'⟩
def dM(r:List Nat):List Key:=r.map λn:Nat=>Sum.inl (n:Int)
theorem sQ(r:List Nat):(dM r).map kV=vN r:=by unfold dM vN;rw[Ym];rfl
theorem BR{l m:List Nat}(h:dM l=dM m):l=m:=by
 have:vN l=vN m:=by rw[<- sQ,<- sQ,h]
 rw[rG,rG]at this;exact TC ((WR (λ_ _ z=>V.int.inj z)).mp this)
theorem qZ1{rows:List Row}(h:rows.Nodup):(rows.map dM).Nodup:=by
 rw[cR]at h ⊢;intro i j b a z;rw[Ze]at a;refine h i j b a ?_;rw[Zf,Zf,Zc (md b a),Zc a]at z;rw[Zc 'a',Zc a];congr 1;exact BR (ZK z)
theorem qZ2(b:List Int):PyData.depthAll (b.map PyData.int)<=1:=by
 induction b with
 |nil=>simp[PyData.depthAll]
 |cons a b c=>
  rw[Zw];simp only[PyData.depthAll,PyData.depth];lia
theorem R8(a:List Int):(dL a).depth<=2:=by
 have:=qZ2 a;unfold dL;simp only[PyData.depth];lia
theorem ie:aE ["thing","top","rows"] ["thing"] (bq Cj):=cM
inductive o5(vs:List V)(H:Hp)(Q:VK):Prop
 |mk(t:af)(n tp:Nat)(rows:List Row)(e0:vs=[.ref t])(e1:aY H t n tp rows)(e2:∀H',aG H H'->Q (.bl true) H')
def Qg:Sp:=λa H Q _=>o5 a H Q
theorem xj6{f fT U fA:af}{fd R M jt:ak}(F:aO K "is_shape" "is_shape" Cj f fd)(B:fk mg)(T:mU mg)
  (hT:mg "is_telling"=some (.ref fT)) (FT:aO K "is_telling" "is_telling" FU fT R) (bT:Binds K R ["thing"] []) (GT:aB P w K mg base aK 5 fT R ["thing"] SN)
  (hP:mg "is_plain"=some (.ref U)) (FP:aO K "is_plain" "is_plain" xl U M) (bP:Binds K M ["row"] [])
  (hA:mg "places_as_ended"=some (.ref fA)) (FA:aO K "places_as_ended" "places_as_ended" BJ fA jt) (bA:Binds K jt ["rows","top"] []) (GA:∀d,aB P w K mg base aK (d+2) fA jt ["rows","top"] (FI d)):aB P w K mg base aK 15 f fd ["thing"] Qg:=by
 have GP:aB P w K mg base aK 2 U M ["row"] KW:=R_ FP T;refine F.ok ie (λvs H Q E h=>?_) (λbJ A Y s H vs Q E k h=>?_)
 ·obtain⟨t,n,v,rows,rfl,_⟩:=h
  rfl
 ·obtain⟨t,n,v,rows,rfl,⟨ve,a,O⟩,q⟩:=h;obtain⟨p,ht,jJ⟩:=id ve;obtain⟨bs,G,j9,jE⟩:=id jJ;have jZ:aV 2 _:=k.mono 'b';have J:aV 5 _:=k.mono 'b';have W:aV (n+2) _:=k.mono (by have:=a.size;lia);refine⟨_,fY (eI (nO (lq (bz GT J hT FT.kp bT (aF (pv 0) aI)))) (cN (cx kj)) eM)
   (fY (sV (Sw PD (pv 0) (T5 aN) T6) (pP rfl (gz (gh 1 ie.nd) (gz (gh 2 ie.nd) pT))))
   (fY (eI (PW.pt (oz (lq (dw (Ki rfl) (by rfl) B.any Vc (aF (nS ["thing","top","rows"] (bq Cj) rfl rfl rfl ie.nd (xM K rfl (pv 2)) (λcl C fp aC aD=>bz GP jZ hP FP.kp bP (aF (pv 0) aI))) aI)))
    (pQ (fu l_ (dw qM5 (by rfl) B.len YN (aF (i7 (q48 rfl k) (by rfl) B.set PyProof.Rows.boot_set (aF (pv 2) aI)) aI)) (dw s_ (by rfl) B.len YN (aF (pv 2) aI)) (dh _))))) (cN (cx kj)) eM)
   (cN (cx (mn (Ll k) (bz (GA n) W hA FA.kp bA (aF (pv 2) (aF (pv 1) aI)))
    (i7 (qX9 rfl) (by rfl) B.list PyProof.Rows.boot_list (aF (i7 qH9 (by rfl) B.range PyProof.Rows.boot_range (aF (dw s_ (by rfl) B.len YN (aF (pv 2) aI)) aI)) aI)) (dh _)))))),?_⟩
  refine⟨_,rfl,t,n,v,rows,rfl,ve,a.size,a.iQ,O,a.kr,a.deep,λH1 s1=>⟨_,rfl,cB ?_⟩⟩;have Dy:=s1 _ _ ht;refine⟨_,rfl,_,rfl,t,_,rfl,bf.of Dy,(λz=>absurd (show HT.dI 3 0 (some 1)=0 from z.1) 'b'),λu hu=>?_⟩;refine⟨u,_,rfl,bf.of aZ,rfl,_,_,rfl,_,_,rfl,rfl,?_⟩;have sA:aG H (upd H1 u (.tup [.int (v:Nat),.ref p])):=s1.trans (bo hu);refine(λ(go:∀H2,aG H H2->_)=>go _ sA) ?_;intro H2 s2;have jS:=s2 _ _ G;have y:(bs.map V.ref).length=rows.length:=by rw[Ze];exact j9
  refine⟨_,rfl,p,rfl,⟨_,bf.of jS⟩,λD hD=>pX hD (λ_ z _=>z=.bl false) (rL (K:=K) jS) (by rw[y];exact pY (x5 O)) (λ_ _ _ _ _ _ h=>h) ?_ ?_⟩
  ·intro j x N hj c X Q' hq;have kB:j<rows.length:=by rw[<- y];exact hj
   rw[Zf]at c;obtain⟨b,hb,rfl⟩:=Zh.mp c;have jG:rows[j]?=some rows[j]:=by simp[kB]
   refine⟨_,rfl,b,rows[j],rfl,X _ _ (s2 _ _ (jE j b _ hb jG)),(a.iQ j _ jG).1,λH4 m=>hq _ _ m ?_⟩;rw[ZM (a.mW _ (Yx kB))]
  ·intro I N X kE jM jP;have e:I=(List.replicate I.length false).map V.bl:=by
    refine pW 'c' λi x c=>?_;have hi:=(cf c).1;rw[jP i x c];simp[hi]
   have Z:aG H N:=s2.trans X;refine⟨D,List.replicate I.length false,rfl,by rw[<- e];exact kE,_,rfl,?_⟩;have na:(List.replicate I.length false).any id=false:=by
    rw[VQ];intro x c;rw[(List.mem_replicate.mp c).2];decide
   rw[na];refine cB ?_;have vB:=Z _ _ G;refine⟨_,rfl,p,bs,rows.map dM,rfl,vB,by rw[Ze];exact j9,λi b ks e1 e2=>?_,qZ1 a.unlike,by rw[Ze];lia,λr rY=>?_⟩
   ·rw[Zf]at e2;obtain⟨r0,L,rfl⟩:=Zh.mp e2;rw[sQ];exact Z _ _ (jE i b r0 e1 L)
   ·have m:aG H (upd N r (.ext (uk r (rows.map dM).length))):=Z.trans (bo rY);have wA:=m _ _ G;refine⟨r,_,rfl,aZ,by rw[Ze];lia,_,rfl,p,_,rfl,.inr (bf.of wA),_,_,rfl,rfl,_,rfl,?_⟩;have nl:decide (((rows.map dM).length:Int)<((bs.map V.ref).length:Int))=false:=ZM (by rw[y,Ze];lia);rw[nl];refine cB ?_;refine(λ(go:∀H5,aG H H5->_)=>go _ m) ?_;intro H5 S;refine⟨_,rfl,_,rfl,p,v,rows,rfl,(jJ.same S).zs,a.iQ,(ZD O 'b'),a.kr,a.deep,λH6 D6 s6 wR=>?_⟩;have HZ:=s6 _ _ (S _ _ G);refine⟨_,rfl,p,_,rfl,.inr (bf.of HZ),_,rfl,λg hg=>⟨g,rows.length,rfl,by rw[aZ,y],by lia,λl lF=>?_⟩⟩;have yJ:=cw (u:=.lst ((List.range rows.length).map λ(i:Nat)=>V.int (i:Int))) (cw (u:=.uz 0 ((bs.map V.ref).length:Int)) wR hg) lF;rw[a.ends,rG]at yJ;have e9:((List.range rows.length).map λ(i:Nat)=>V.int (i:Int))=((List.range rows.length).map λn:Nat=>(n:Int)).map V.int:=rG _;refine⟨dL ((List.range rows.length).map λn:Nat=>(n:Int)),dL ((List.range rows.length).map λn:Nat=>(n:Int)),.lst yJ (aM.ints _),.lst aZ (e9▸aM.ints _),G5 _,G5 _,?_,?_⟩
    ·exact ZD (R8 _) 'b'
    ·rw[Lj,Zv rfl];exact q _ (S.trans (s6.trans ((bo hg).trans (bo lF))))
theorem xw6:aE ["shape"] ["shape"] (bq zM):=cM
inductive oY(vs:List V)(H:Hp)(Q:VK):Prop
 |mk(t:af)(n tp:Nat)(rows:List Row)(e0:vs=[.ref t])(e1:aY H t n tp rows)(e2:∀H',aG H H'->Q .ck H')
def Hn:Sp:=λa H Q _=>oY a H Q
theorem xj7{f b:af}{e c:ak}(F:aO K "want_shape" "want_shape" zM f e)
  (k:mg "is_shape"=some (.ref b)) (l:aO K "is_shape" "is_shape" Cj b c) (u:Binds K c ["thing"] []) (g:aB P w K mg base aK 15 b c ["thing"] Qg):aB P w K mg base aK 16 f e ["shape"] Hn:=by
 refine F.ok xw6 (λj H Q E h=>?_) (λv A a s H j Q E r h=>?_)
 ·obtain⟨t,n,d,rows,rfl,_⟩:=h
  rfl
 ·obtain⟨t,n,d,rows,rfl,p,q⟩:=h;refine⟨_,cN (eI (nO (lq (bz g r k l.kp u (aF (pv 0) aI)))) xE eM),?_⟩;exact⟨_,rfl,t,n,d,rows,rfl,p,λm i=>⟨_,rfl,cB (q m i)⟩⟩
end Pr
namespace L2
open PySem
theorem xj8{c:Type}{e d:BEq c}(h1:@LawfulBEq c e)(h2:@LawfulBEq c d):e=d:=by
 have:∀a b,@BEq.beq c e a b=@BEq.beq c d a b:=λa b=>by
  rw[Ye,@YT c e h1,@YT c d h2]
 cases e;cases d;congr 1;funext a b;exact this a b
structure cZ(X:Cx)(e:au)(t:TE):Prop where
 go:PE X e t
structure Ax(X:Cx)(st:aA)(t:TS):Prop where
 go:PS X st t
inductive lP(X:Cx):List aA->TS->Prop
 |one {st:aA}{t:TS}(h:Ax X st t):lP X [st] t
 |cons {st:aA}{rest:List aA}{t u:TS}(h:Ax X st t) (r:lP X rest u):lP X (st::rest) (vq t u)
theorem lP.go{X:Cx}:∀{l:List aA}{t:TS},lP X l t->ik X l t
 |_,_,.one h=>cN h.go
 |_,_,.cons h r=>fY h.go r.go
theorem aU{X:Cx}{st:aA}{rest:List aA}{R:TS->Prop}(h:∃t,Ax X st t/\∃u,ik X rest u/\R (vq t u)):∃t,ik X (st::rest) t/\R t:=by
 obtain⟨t,h1,u,h2,a⟩:=h;exact⟨_,fY h1.go h2,a⟩
theorem eF{X:Cx}{st:aA}{R:TS->Prop}(h:∃t,Ax X st t/\R t):∃t,ik X [st] t/\R t:=by
 obtain⟨t,h1,a⟩:=h;exact⟨_,cN h1.go,a⟩
inductive bu(X:Cx):List au->TA->Prop
 |nil:bu X [] nF
 |cons {e:au}{es:List au}{te:TE}{t:TA}(h:cZ X e te) (r:bu X es t) (hs:starEach (e::es) X.env=(false,eval e X.env)::starEach es X.env):bu X (e::es) (uV te t)
theorem bu.go{X:Cx}:∀{a:List au}{t:TA},bu X a t->PA X a t
 |_,_,.nil=>aI
 |_,_,.cons h r b=>aF h.go r.go b
theorem xH8{X:Cx}{T id:String}{name:ar}{r:V->List V->Hp->VK->Prop}{o e:au}{es:List au}{c:TE}{t:TA}{a b:az}(pa:PlainAttrs T)(slot:Slot T name id)(h:typeOf (.builtin id)=pure (.type "method_descriptor"))(i:MtR X id r)(d:cZ X o c)(g:bu X (e::es) t)
  (k:attributeBase o name X.env (eval o X.env)=eval o X.env:=by rfl)
  (j:((backTo b (starEach (e::es) X.env)).all (λx=>!x.1)&&(backToKw b (keywordEach [] X.env)).all (λx=>x.1.isSome)
   && decide ((e::es).length+([]:List Keyword).length+(if([]:List Keyword).isEmpty then 0 else 1)<30))=true:=by rfl)
  (l:(a.endLine==b.line)=true:=by rfl) (hs:starEach (e::es) X.env=(false,eval e X.env)::starEach es X.env:=by rfl) (f:(backTo b (starEach es X.env)).any (·.1)=false:=by rfl):
  cZ X (.Call (.Attribute o name a) (e::es) [] b) (Ri X.K T r c t):=⟨uU pa slot h i d.go g.go k j l hs f⟩
inductive Aw(X:Cx)(pos:az):List (Option au)->List au->List (TE×TE)->Prop
 |nil:Aw X pos [] [] []
 |cons {k v:au}{ks:List (Option au)}{vs:List au}{tk tv:TE}{kg:List (TE×TE)}(hk:cZ X k tk) (hv:cZ X v tv) (r:Aw X pos ks vs kg):Aw X pos (some k::ks) (v::vs) ((tk,tv)::kg)
theorem Aw.go{X:Cx}{a:az}:∀{c:List (Option au)}{b:List au}{d:List (TE×TE)},Aw X a c b d->EU X a c b d
 |_,_,_,.nil=>xt7
 |_,_,_,.cons hk e r=>xg3 hk.go e.go r.go
theorem xj9{X:Cx}{b:az}{keys:List (Option au)}{a:List au}{c:List (TE×TE)}(h:Aw X b keys a c)(d:keys.all (·.isSome)=true)(e:keys.length=a.length)(h0:keys≠[])
  (f:keys.length<=15):cZ X (.Dict keys a b) (QC c):=⟨xt8 h.go d e h0 f⟩
theorem rK{X:Cx}{i:Int}{j:Nat}{a:az}:cZ X (.Constant (.int i) j a) (tC (.int i)):=⟨aN⟩
theorem xw7{X:Cx}{i:Nat}{x:ar}{e:au}{te:TE}{b a:az}(g:X.N.Nodup)(h:X.N[i]?=some x)(f:Loc X.env.scope x)(d:cZ X e te)(hs:swapsWith e (some (.Name x a)) b.line X.env=pure false)(c:X.fn x=true):
  Ax X (.Assign [.Name x a] e b) (ja te (cb i)):=⟨PM g h f d.go hs (.inl c)⟩
end L2
namespace Pr
open PySem L2 Qf
def br(H:Hp)(p:af):Prop:=∃a b:Int,H p=some (.lst [.int a,.int b])/\0<=a/\0<=b/\b<2^40
theorem br.same{H c:Hp}{p:af}(h:br H p)(s:aG H c):br c p:=by
 obtain⟨a,b,e,r⟩:=h;exact⟨a,b,s _ _ e,r⟩
def bQ(H:Hp)(p:af)(rows:List Row):Prop:=∃bs:List af,H p=some (.lst (bs.map V.ref))/\bs.length=rows.length/\∀(i:Nat) b r,bs[i]?=some b->rows[i]?=some r->H b=some (.tup (vN r))
theorem bQ.same{H a:Hp}{p:af}{rows:List Row}(h:bQ H p rows)(s:aG H a):bQ a p rows:=by
 obtain⟨bs,h1,h2,c⟩:=h;exact⟨bs,s _ _ h1,h2,λi b r e d=>s _ _ (c i b r e d)⟩
def fw{a b:Type}(key:a->b)(l:List a)(k:Nat):List (b×V):=(l.zipIdx k).map λp=>(key p.1,V.int (p.2:Nat))
section
variable{α κ:Type}[DecidableEq α][DecidableEq κ]{key:α->κ}
theorem zw(l:List α)(k:Nat):(fw key l k).length=l.length:=by simp[fw]
theorem xa1(a:α)(l:List α)(k:Nat):fw key (a::l) k=(key a,V.int (k:Nat))::fw key l (k+1):=by simp[fw]
theorem SM(l:List α)(a:α)(k:Nat):fw key (l++[a]) k=fw key l k++[(key a,V.int (k+l.length:Nat))]:=by simp[fw,List.zipIdx_append]
theorem BQ(inj:∀a b,key a=key b->a=b)(a:α):∀(l:List α)(k:Nat),bY (fw key l k) (key a)=if a∈l then some (.int (k+l.idxOf a:Nat))else none
 |[],k=>by simp[fw,bY]
 |b::l,k=>by
  rw[xa1];by_cases h:b=a
  ·subst h;rw[nU rfl,Zn ZC,List.idxOf_cons_self]
   rfl
  ·rw[mw (λz=>h (inj _ _ z)),BQ inj a l (k+1)];by_cases c:a∈l
   ·have e:(b::l).idxOf a=l.idxOf a+1:=by
     rw[List.idxOf_cons,beq_false_of_ne h]
     rfl
    rw[Zn c,Zn (Zq _ c),e];congr 3;exact qu
   ·rw[Zj c,Zj (λz=>by rcases Zz.mp z with z|z;exact h z.symm;exact c z)]
theorem R5(inj:∀a b,key a=key b->a=b){l:List α}{a:α}{k:Nat}(h:a∉l):putK (fw key l k) (key a) (.int (k+l.length:Nat))=fw key (l++[a]) k:=by
 unfold putK;rw[sY,BQ inj,Zj h,Zj 'b',SM]
end
def lI(p:Nat):Key:=Sum.inl ((p+2:Nat):Int)
theorem R4(a b:Nat)(h:lI a=lI b):a=b:=by
 have:((a+2:Nat):Int)=((b+2:Nat):Int):=VP h;lia
def fK(es:List Nat):List (Key×V):=fw lI es 2
theorem bQ.but{H a:Hp}{p e:af}{rows:List Row}{o:HO}(h:bQ H p rows)(b:cu e H a)(g:p≠e)(j:H e=some o)(f:∀u,o≠.tup u):bQ a p rows:=by
 obtain⟨bs,h1,h2,d⟩:=h;exact⟨bs,b _ _ h1 g,h2,λi c r l k=>b.cg j f _ _ (d i c r l k)⟩
theorem Hm:∀{ys:List V},(∀(i:Nat) y,ys[i]?=some y->∃b:af,y=.ref b)->∃a:List af,ys=a.map V.ref
 |[],_=>⟨[],rfl⟩
 |y::ys,h=>by
  obtain⟨b,rfl⟩:=h 0 y rfl;obtain⟨a,rfl⟩:=Hm (ys:=ys) λi z c=>h (i+1) z (by simpa using c);exact⟨b::a,rfl⟩
def jf:List (Key×V):=[(Sum.inl 0,.int 0),(Sum.inl 1,.int 1)]
theorem R3(p:Nat):bY jf (lI p)=none:=by
 unfold jf lI;rw[mw (λz=>by have:=VP z;lia),mw (λz=>by have:=VP z;lia)]
 rfl
theorem Rp{c:Type}[DecidableEq c](a b:List (c×V))(k:c):bY (a++b) k=(bY a k).or (bY b k):=by
 unfold bY;rw[List.find?_append];cases List.find? (λd=>decide (d.1=k)) a<;>rfl
theorem Pg{es:List Nat}{q:Nat}(h:sd es q):bY (jf++fK es) (Sum.inl (q:Int))=some (.int (nm es q:Nat)):=by
 by_cases z:q<2
 ·rw[nc z]
  match q,z with
  |0,_=>rfl
  |1,_=>rfl
 ·have a:=h.resolve_left z;have b:(Sum.inl (q:Int):Key)=lI (q-2):=by
   show(Sum.inl (q:Int):Key)=Sum.inl ((q-2+2:Nat):Int);rw[show q-2+2=q from nX z]
  rw[b,Rp,R3,nQ z];show bY (fw lI es 2) _=_;rw[BQ R4,Zn a];congr 3;lia
def Fe(n top:Nat)(rows:List Row):PyData:=.tuple [.int (n:Nat),.int (top:Nat),.tuple (rows.map λr=>dT (r.map λx:Nat=>(x:Int)))]
theorem Gi{H:Hp}:∀{bs:List af}{rows:List Row},bs.length=rows.length->(∀(i:Nat) b r,bs[i]?=some b->rows[i]?=some r->H b=some (.tup (vN r))) ->
  aM H (bs.map V.ref) (rows.map λr=>dT (r.map λx:Nat=>(x:Int)))
 |[],[],_,_=>.nil
 |b::bs,r::rows,d,h=>by
  refine .cons ?_ (Gi (by simpa using d) λi c q f e=>h (i+1) c q (by simpa using f) (by simpa using e));have a:=h 0 b r rfl rfl;rw[rG]at a;exact .tup a (aM.ints _)
theorem Kg{H:Hp}{t:af}{n top:Nat}{rows:List Row}(h:cJ H t n top rows):aX H (.ref t) (Fe n top rows):=by
 obtain⟨p,a,bs,b,c,d⟩:=h;exact .tup a (.cons (.int _) (.cons (.int _) (.cons (.tup b (Gi c d)) .nil)))
theorem zu:∀rows:List Row,PyData.canLayAll0 (rows.map λr=>dT (r.map λx:Nat=>(x:Int)))=true
 |[]=>rfl
 |r::rows=>by
  rw[Zw,PyData.canLayAll0,G6,zu rows];rfl
theorem xk1(n top:Nat)(rows:List Row):(Fe n top rows).canLay0=true:=by
 unfold Fe;simp only[PyData.canLay0,PyData.canLayAll0,zu rows,Bool.and_self]
theorem Kv:∀a:List Int,PyData.depthAll (a.map PyData.int)=0
 |[]=>rfl
 |n::a=>by rw[Zw,PyData.depthAll,Kv a];rfl
theorem Ku:∀rows:List Row,PyData.depthAll (rows.map λr=>dT (r.map λx:Nat=>(x:Int)))<=1
 |[]=>by decide
 |r::rows=>by
  have:=Ku rows;have e:(dT (r.map λx:Nat=>(x:Int))).depth=1:=by
   show PyData.depthAll _+1=1;rw[Kv]
  rw[Zw,PyData.depthAll,e];lia
theorem K8(cs:List af)(t:af):cs.map V.ref++[.ref t]=(cs++[t]).map V.ref:=by rw[ZZ];rfl
def xI(rows:List Row):List PyData:=rows.map λr=>dT (r.map λx:Nat=>(x:Int))
theorem Qe(m:List Row):PyData.eqv (.list (xI m)) (.list [])=m.isEmpty:=by
 cases m with
 |nil=>rfl
 |cons a l=>simp[xI,PyData.eqv,PyData.eqvAll]
theorem Kt{H:Hp}{p:af}{rows:List Row}(h:bQ H p rows):aX H (.ref p) (.list (xI rows)):=by
 obtain⟨bs,c,b,a⟩:=h;exact .lst c (Gi b a)
theorem Ky(rows:List Row):(PyData.list (xI rows)).depth<=60:=by
 have:=Ku rows;show PyData.depthAll _+1<=60;unfold xI;lia
def tK(rows:List Row):List (List Key×V):=fw dM rows 2
theorem xk2{b:Type}{d c:BEq b}(h1:@LawfulBEq b d)(h2:@LawfulBEq b c)(l:List b)(a:b):@List.idxOf b d a l=@List.idxOf b c a l:=by
 cases xj8 h1 h2
 rfl
theorem Jz(rows:List Row)(r:Row):bY (tK rows) (dM r)=if r∈rows then some (.int (rows.idxOf r+2:Nat))else none:=by
 unfold tK;rw[BQ (λa b=>BR)];split
 ·rw[Nat.add_comm];exact Yi (λn:Nat=>some (V.int ((n+2:Nat):Int))) (xk2 (by infer_instance) (by infer_instance) _ _)
 ·rfl
theorem oA{e g:Hp}{t n f:Nat}{rows:List Row}(h:aY e t n f rows)(s:aG e g):aY g t n f rows:=let ⟨⟨p,a,b⟩,c,d⟩:=h;⟨⟨p,s _ _ a,b.same s⟩,c,d⟩
end Pr
namespace L2
open PySem PySem.Spec PyProof.Rows PySem.W
section
variable{X:Cx}{st:aA}{rest:List aA}{t u:TS}
def Qs(t u:TS):TS:=λD c H=>∃I:St->Hp->Prop,t {D with nx:=I} c H/\∀a b,I a b->u D a b
theorem xa4(h1:PS X st t)(h2:ik X rest u):ik X (st::rest) (Qs t u):=by
 intro b s e H D I ⟨J,h,i⟩;refine wpAny_execs_cons (bh (h1 b s e H {D with nx:=J} I h) λf d q=>?_);cases f with
 |next=>
  obtain⟨a,c,g,q⟩:=q;exact h2 b d a c D g (i a c q)
 |ret v=>exact q
 |brk=>exact q
 |cont=>exact q
end
end L2
namespace Pr
open PySem L2 Qf
theorem xP4{X:Cx}{st:aA}{rest:List aA}{R:TS->Prop}(h:∃t,Ax X st t/\∃u,ik X rest u/\R (Qs t u)):∃t,ik X (st::rest) t/\R t:=by
 obtain⟨t,h1,u,h2,a⟩:=h;exact⟨_,xa4 h1.go h2,a⟩
end Pr
namespace L2
open PySem PySem.Spec PyProof.Rows
section
variable{X:Cx}
theorem qZ3{i0:Nat}{j:ar}{D t:az}{x y:ar}{r q n d:az}{k:Nat}{a iter c:au}{scope:ax}{u:TI}{v:TT}{te:TE}(N:List ar)(m:ax)(S:X.N=N)(Y:X.env.scope=m)(hc:X.calm=true)(B:X.N.Nodup)(G:X.N[i0]?=some j)(vG:X.env.scope.names.lookup j=some .local)(P:PI X (.Tuple [.Name x r,.Name y q] k n) iter u)
  (J:∀g C f e i,PT (cG X scope g C [x,y] f e i) c v) (K:∀g C f e i,PE (cG X scope g C [x,y] f e i) a te) (V:x≠y:=by decide)
  (T:scope.kind=.function:=by rfl) (F:scope.names.all (λy=>y.2 != .cell)=true:=by decide +kernel) (jB:scope.names.all (λy=>y.2 != .local||scope.names.lookup y.1==some .local)=true:=by decide +kernel)
  (hx:scope.names.lookup x=some .local:=by rfl) (hy:scope.names.lookup y=some .local:=by rfl) (E:N.all (λy=>scope.names.lookup y != some .local)=true:=by decide +kernel)
  (hfr:scope.names.all (λp=>p.2 != .free||(m.names.lookup p.1==some .cell||m.names.lookup p.1==some .free))=true:=by decide +kernel)
  (hs:∀x,foldedSetIterable iter X.env x=pure x:=by intro _;rfl) (M:swapsWith (.ListComp a [⟨.Tuple [.Name x r,.Name y q] k n,iter,[c],0⟩] scope d) (some (.Name j D)) t.line X.env=pure true:=by rfl):
  PS X (.Assign [.Name j D] (.ListComp a [⟨.Tuple [.Name x r,.Name y q] k n,iter,[c],0⟩] scope d) t) (ja (nL 2 u (ee X.K 2 (cY (cb 0) (cY (cb 1) eh))) v te) (cb i0)):=by
 obtain⟨L,Z,w,O⟩:=rO S Y F jB E hfr;exact FZ (nn:=[x,y]) (λb=>isTrue c b (eval c b)) hc P (λU l b=>Lc a _ iter c scope d U l b) (λg C f e i=>QB hc B V w hx hy) (λy os A H R W h=>Dj W h) (λg C f e i j8 s A H Q I h=>J g C f e i j8 s A H Q I h) K T L Z w O hs B G vG M
theorem xa5{i0:Nat}{k:ar}{D r:az}{x:ar}{m e:az}{a iter c:au}{scope:ax}{t:TI}{v:TT}{te:TE}(N:List ar)(q:ax)(S:X.N=N)(W:X.env.scope=q)(hc:X.calm=true)(B:X.N.Nodup)(G:X.N[i0]?=some k)(Z:X.env.scope.names.lookup k=some .local)(O:PI X (.Name x m) iter t)
  (J:∀g C f d j,PT (cG X scope g C [x] f d j) c v) (K:∀g C f d j,PE (cG X scope g C [x] f d j) a te)
  (T:scope.kind=.function:=by rfl) (F:scope.names.all (λy=>y.2 != .cell)=true:=by decide +kernel) (Y:scope.names.all (λy=>y.2 != .local||scope.names.lookup y.1==some .local)=true:=by decide +kernel)
  (u:scope.names.lookup x=some .local:=by rfl) (E:N.all (λy=>scope.names.lookup y != some .local)=true:=by decide +kernel)
  (hfr:scope.names.all (λp=>p.2 != .free||(q.names.lookup p.1==some .cell||q.names.lookup p.1==some .free))=true:=by decide +kernel)
  (hs:∀x,foldedSetIterable iter X.env x=pure x:=by intro _;rfl) (M:swapsWith (.ListComp a [⟨.Name x m,iter,[c],0⟩] scope e) (some (.Name k D)) r.line X.env=pure true:=by rfl):
  PS X (.Assign [.Name k D] (.ListComp a [⟨.Name x m,iter,[c],0⟩] scope e) r) (ja (nL 1 t (cb 0) v te) (cb i0)):=by
 obtain⟨L,s2,w,P⟩:=rO S W F Y E hfr;refine FZ (nn:=[x]) (λb=>isTrue c b (eval c b)) hc O (λU n b=>Lc a _ iter c scope e U n b) (λg C f d j=>?_) (λy os A H R V h=>qA V h) (λg C f d j j8 s A H Q I h=>J g C f d j j8 s A H Q I h) K T L s2 w P hs B G Z M;have l:(cG X scope g C [x] f d j).env.scope.names.lookup x=some .local:=ZY u;exact mq (i:=0) (Z3.mpr ⟨λz=>w x z u,B⟩) rfl (.inl l) (.inr l)
theorem R1{i0:Nat}{c:ar}{E w:az}{x y u v:ar}{t q d r l b:az}{k:Nat}{a iter:au}{scope:ax}{A:TI}{te:TE}(N:List ar)(j:ax)(T:X.N=N)(Y:X.env.scope=j)(hc:X.calm=true)(D:X.N.Nodup)(J:X.N[i0]?=some c)(vG:X.env.scope.names.lookup c=some .local)(P:PI X (.Tuple [.Name x t,.Name y q,.Name u d,.Name v r] k l) iter A)
  (L:∀i C g f m,PE (cG X scope i C [x,y,u,v] g f m) a te) (hd:[x,y,u,v].Nodup:=by decide)
  (U:scope.kind=.function:=by rfl) (G:scope.names.all (λy=>y.2 != .cell)=true:=by decide +kernel) (Z:scope.names.all (λy=>y.2 != .local||scope.names.lookup y.1==some .local)=true:=by decide +kernel)
  (hx:scope.names.lookup x=some .local:=by rfl) (hy:scope.names.lookup y=some .local:=by rfl) (K:scope.names.lookup u=some .local:=by rfl) (hv:scope.names.lookup v=some .local:=by rfl) (F:N.all (λy=>scope.names.lookup y != some .local)=true:=by decide +kernel)
  (hfr:scope.names.all (λp=>p.2 != .free||(j.names.lookup p.1==some .cell||j.names.lookup p.1==some .free))=true:=by decide +kernel)
  (hs:∀x,foldedSetIterable iter X.env x=pure x:=by intro _;rfl) (O:swapsWith (.ListComp a [⟨.Tuple [.Name x t,.Name y q,.Name u d,.Name v r] k l,iter,[],0⟩] scope b) (some (.Name c E)) w.line X.env=pure true:=by rfl):
  PS X (.Assign [.Name c E] (.ListComp a [⟨.Tuple [.Name x t,.Name y q,.Name u d,.Name v r] k l,iter,[],0⟩] scope b) w) (ja (nL 4 A (ee X.K 4 (cY (cb 0) (cY (cb 1) (cY (cb 2) (cY (cb 3) eh))))) ow te) (cb i0)):=by
 obtain⟨M,s2,B,S⟩:=rO T Y G Z F hfr;exact FZ (nn:=[x,y,u,v]) (λ_=>pure true) hc P (λV e n=>zq a _ iter scope b V e n) (λi C g f m=>Qv hc D hd B hx hy K hv) (λy os σ H R W h=>Di W h) (λi C g f m j8 s σ H Q I h=>Zb ⟨H,I,h⟩) L U M s2 B S hs D J vG O
end
def il(H:Hp)(a:af)(fs:List (List Int)):Prop:=∃bs:List af,H a=some (.lst (bs.map V.ref))/\bs.length=fs.length/\∀(i:Nat) b f,bs[i]?=some b->fs[i]?=some f->H b=some (.tup (f.map V.int))
theorem il.same{H c:Hp}{a:af}{fs:List (List Int)}(h:il H a fs)(s:aG H c):il c a fs:=by
 obtain⟨bs,h1,h2,d⟩:=h;exact⟨bs,s _ _ h1,h2,λi b f g e=>s _ _ (d i b f g e)⟩
theorem Jy{K:PySem.W.Frag}{H:Hp}{a:af}{fs:List (List Int)}{te:TE}{σ:St}{Fin:Hp->Prop}{D:af}(P:H D=none)(hA:il H a fs)(Q:∀f∈fs,f.length=4)(hsz:fs.length<sizeLine)(fn:Int->Int->Int->Int->List Int)
  (step:∀x y u v e,[x,y,u,v]∈fs->aG H e->∀O:VK,(∀b d,aG e d->d b=some (.tup ((fn x y u v).map V.int))->O (.ref b) d)->te (some (.int x)::some (.int y)::some (.int u)::some (.int v)::σ) e O)
  (fin:∀e,aG H e->il e D (fs.map λf=>fn (f.getD 0 0) (f.getD 1 0) (f.getD 2 0) (f.getD 3 0))->Fin e):
  ∃W:Nat->Nat->List V->Hp->Prop,(∃m,W 0 m [] (upd H D (.lst []))) /\
   ∀i m h e,W i m h e->e D=some (.lst h)/\h.length<sizeLine/\(((oN K a).stop i e/\Fin e)\/((oN K a).go i e/\∀y d,(oN K a).iK i e y d->∀s:St,s.length=4 ->
    ee K 4 (cY (cb 0) (cY (cb 1) (cY (cb 2) (cY (cb 3) eh)))) y (s++σ) d λJ A=>ow J A λb F=>if b=true then te J F λv G=>G D=some (.lst h)/\∃k,k<m/\W (i+1) k (h++[v]) (upd G D (.lst (h++[v])))else ∃k,k<m/\W (i+1) k h F)):=by
 obtain⟨bs,hb,hl,Y⟩:=hA;have t:(bs.map V.ref).length=fs.length:=by rw[Ze];exact hl
 refine xF P (λ_=>true) (λj z d=>∃c f,z=.ref c/\fs[j]?=some f/\d c=some (.tup ((fn (f.getD 0 0) (f.getD 1 0) (f.getD 2 0) (f.getD 3 0)).map V.int))) (uR (K:=K) hb) (by rw[t];exact hsz) ?_ ?_ ?_
 ·rintro j z d A tk ⟨b,r,rfl,h1,h2⟩;exact⟨b,r,rfl,h1,tk _ _ h2⟩
 ·intro j x d hj M l s U Q1 Q2 q1 q2;have I:j<fs.length:=by rw[<- t];exact hj
  rw[Zf]at M;obtain⟨b,T,rfl⟩:=Zh.mp M;have q:fs[j]?=some fs[j]:=Zc I;have w:=Yx I;generalize fs[j]=f at q w;obtain⟨x,y,u,v,rfl⟩:=L2.zW (Q f w);have jR:=l _ _ (Y j b _ T q);obtain⟨o1,o2,o3,o4,rfl⟩:=L2.zW U;refine⟨b,_,rfl,bf.of jR,rfl,_,_,rfl,_,_,rfl,_,_,rfl,_,_,rfl,rfl,?_⟩;show(if(true:Bool)=true then _ else Q1 d);rw[Zn rfl];exact step x y u v d w l _ λc A R hc=>q2 rfl _ _ R ⟨c,_,rfl,q,hc⟩
 ·intro ys d l kE n p;have ef:(List.range (bs.map V.ref).length).filter (λ_=>true)=List.range fs.length:=by rw[t];simp
  rw[ef]at n p;rw[Yk]at n;obtain⟨L,rfl⟩:=Pr.Hm (ys:=ys) λj y N=>by
   have jC:=(cf N).1;obtain⟨b,r,z,_⟩:=p j y j N (YU 'a');exact⟨b,z⟩
  have S:L.length=fs.length:=by rw[Ze]at n;exact n
  refine fin d l ⟨L,kE,by rw[S,Ze],λj c g B E=>?_⟩;have jC:=(cf B).1;rw[Zf]at E;obtain⟨f,hf,rfl⟩:=Zh.mp E;obtain⟨c',f',X,C,Z⟩:=p j (.ref c) j (by rw[Zf,B];rfl) (YU 'a');cases X;rw[hf]at C;cases C;exact Z
theorem xk3{i j:Type}(f:i->j):∀{d c:List j},d.Perm c->∀a:List i,c=a.map f->∃b:List i,b.Perm a/\d=b.map f:=by
 intro d c h
 induction h with
 |nil=>
  intro a e;have:a=[]:=by simpa using e.symm
  subst this;exact⟨[],.nil,rfl⟩
 |cons x _ r=>
  intro a e;cases a with
  |nil=>simp at e
  |cons p a=>
   rw[Zw]at e;injection e with e1 e2
   obtain⟨b,h1,h2⟩:=r a e2;exact⟨p::b,h1.cons p,by rw[Zw,<- h2,e1]⟩
 |swap x y l=>
  intro a e;cases a with
  |nil=>simp at e
  |cons p a=>
   cases a with
   |nil=>simp at e
   |cons s a=>
    rw[Zw,Zw]at e;injection e with e1 e2
    injection e2 with e2 e3
    exact⟨s::p::a,List.Perm.swap _ _ _,by rw[Zw,Zw,<- e1,<- e2,<- e3]⟩
 |trans _ _ g m=>
  intro a e;obtain⟨b,h1,h2⟩:=m a e;obtain⟨n,k,q⟩:=g b h2;exact⟨n,k.trans h1,q⟩
def Qr{prog:ag}{w:aj}{K:Type}[DecidableEq K](a:bU prog w K):bU prog w (List K) where
 is h ks v:=∃k,ks=[k]/\a.is h k v
 hash ks:=match ks with|k::_=>a.hash k|[]=>0
 draws ks:=match ks with|k::_=>a.draws k|[]=>0
 lvl:=a.lvl
 inj:=λ⟨k,e,h⟩ ⟨f,d,c⟩=>by rw[e,d,a.inj h c]
 keeps:=λ⟨k,e,h⟩ h1 h2 g=>⟨k,e,a.keeps h h1 h2 g⟩
 pyHash:=λb ⟨k,e,h⟩ q=>by subst e;exact a.pyHash b h q
 eqBool:=λb ⟨k,e,h⟩ ⟨f,d,c⟩ q=>by
  subst e d;refine a.eqBool b h c ?_;have:decide (k=f)=decide ([k]=[f]):=by simp
  rw[this];exact q
 quiet:=λi ⟨k,e,h⟩ q=>a.quiet i h q
def xw8(P:ag)(w:aj):bU P w (List (List (List Key))):=
 posK (λi=>if i=0 then Qr (CG (gy P w))else posK (λ_=>posK (λ_=>Lg (gy P w)) 0 (λ_=>Zg _)) 1 (λ_=>Zg _)) 2 (λi=>by split<;>simp[Qr,CG,posK])
theorem RZ{P:ag}{w:aj}{H:Hp}{h:ao}(ok:dQ P w H h):∀{fs:List (List Key)}{as:List af}{c:List aa},Vals (as.map V.ref) c->as.length=fs.length->(∀(i:Nat) a f,as[i]?=some a->fs[i]?=some f->H a=some (.tup (f.map kV))) ->
  cy h (λ_=>posK (λ_=>Lg (gy P w)) 0 (λ_=>Zg _)) fs c
 |[],[],_,r,_,_=>by rw[XW]at r;cases r;exact .nil
 |[],_::_,_,_,e,_=>by simp at e
 |_::_,[],_,_,e,_=>by simp at e
 |f::fs,a::as,_,r,e,t=>by
  rw[Zw]at r;cases r with
  |@cons _ u _ c q x=>
   have d:u=Value.ref a:=q;subst d;refine .cons ?_ (RZ ok x (V6 e) λi b g m l=>t (i+1) b g m l);obtain⟨_,y,v,k,n,s,j,p⟩:=(show a_ P w H h a (.tup (f.map kV))from ok a _ (t 0 a f rfl rfl));exact⟨a,k,_,j.1,rfl,n,s,p,by simpa using TF v⟩
def t_:Ay (List (List (List Key))) where
 knd:=xw8
 tl H k b:=∃(n:Key)(fs:List (List Key))(c:af)(as:List af),k=[[[n]],fs]/\H b=some (.tup [kV n,.ref c])/\H c=some (.tup (as.map V.ref))/\as.length=fs.length/\∀(i:Nat) a f,as[i]?=some a->fs[i]?=some f->H a=some (.tup (f.map kV))
 lv:=3
 l8:=λ_ _=>rfl
 h8:=by decide
 of:=by
  rintro P w H h k b ok ⟨n,fs,c,as,rfl,hb,C,D,E⟩;obtain⟨_,I,r,o,h1,h2,m,d⟩:=(show a_ P w H h b (.tup [kV n,.ref c])from ok b _ hb);obtain⟨_,G,F,l,s,A,j,u⟩:=(show a_ P w H h c (.tup (as.map V.ref))from ok c _ C);cases r with
  |cons v y=>
   cases y with
   |cons B x=>
    cases x;refine⟨b,o,_,m.1,rfl,h1,h2,d,?_⟩;refine .cons ⟨[n],rfl,n,rfl,uT v⟩ (.cons ?_ .nil);have e:=(show _=Value.ref c from B);rw[e];exact⟨c,l,_,j.1,rfl,s,A,u,by simpa using RZ ok F D E⟩
 mono:=λg ⟨n,fs,c,as,e,h1,h2,d,t⟩=>⟨n,fs,c,as,e,g _ _ h1,g _ _ h2,d,λi a f q p=>g _ _ (t i a f q p)⟩
end L2
namespace Qf
inductive Tr
 |z|o|nd (a b c d:Tr) deriving DecidableEq
namespace Tr
def kids:Tr->List Tr
 |nd a b c d=>[a,b,c,d]
 |_=>[]
def dep:Tr->Nat
 |nd a b c d=>1+mx [dep a,dep b,dep c,dep d]
 |_=>0
def Red:Tr->Prop
 |nd a b c d=>¬(a=z/\b=z/\c=z/\d=z)/\¬(a=o/\b=o/\c=o/\d=o)/\Red a/\Red b/\Red c/\Red d
 |_=>True
def post:Tr->List Tr->List Tr
 |nd a b c d,e=>if nd a b c d∈e then e else post d (post c (post b (post a e)))++[nd a b c d]
 |_,e=>e
def In(L:List Tr)(t:Tr):Prop:=t=z\/t=o\/t∈L
theorem In.app{L s:List Tr}{t:Tr}(h:In L t):In (L++s) t:=h.imp id λh=>h.imp id λh=>Xf _ h
structure Ord(L:List Tr):Prop where
 nd:L.Nodup
 ch:∀(i:Nat) t,L[i]?=some t->(∃a b c d,t=.nd a b c d)/\∀s∈kids t,s=z\/s=o\/∃j:Nat,j<i/\L[j]?=some s
theorem fv:Ord []:=⟨XQ,λi t h=>by simp at h⟩
theorem cz:∀(t:Tr)(e:List Tr),∃s,post t e=e++s
 |z,e=>⟨[],by simp[post]⟩
 |o,e=>⟨[],by simp[post]⟩
 |nd a b c d,e=>by
  unfold post;split
  ·exact⟨[],by simp⟩
  ·obtain⟨h,h1⟩:=cz a e;obtain⟨g,h2⟩:=cz b (post a e);obtain⟨i,f⟩:=cz c (post b (post a e));obtain⟨k,j⟩:=cz d (post c (post b (post a e)));exact⟨h++g++i++k++[nd a b c d],by rw[j,f,h2,h1];simp⟩
theorem In.post{L:List Tr}{t:Tr}(s:Tr)(h:In L t):In (post s L) t:=by
 obtain⟨u,e⟩:=cz s L;rw[e];exact h.app
theorem uQ:∀(t:Tr)(e:List Tr)(s:Tr),s∈post t e->s∈e\/sizeOf s<=sizeOf t
 |z,e,s,h=>.inl h
 |o,e,s,h=>.inl h
 |nd a b c d,e,s,h=>by
  unfold post at h;split at h
  ·exact .inl h
  ·have sz:sizeOf (nd a b c d)=1+sizeOf a+sizeOf b+sizeOf c+sizeOf d:=by simp
   rcases YQ.mp h with h|h
   ·rcases uQ d _ s h with h|h
    ·rcases uQ c _ s h with h|h
     ·rcases uQ b _ s h with h|h
      ·rcases uQ a _ s h with h|h
       ·exact .inl h
       ·exact .inr 'a'
      ·exact .inr 'a'
     ·exact .inr 'a'
    ·exact .inr 'a'
   ·have:s=nd a b c d:=by simpa using h
    rw[this];exact .inr (Zg _)
theorem i9{a b c d:Tr}{e:List Tr}(h:nd a b c d∉e):nd a b c d∉post d (post c (post b (post a e))):=λh2=>by
 have sz:sizeOf (nd a b c d)=1+sizeOf a+sizeOf b+sizeOf c+sizeOf d:=by simp
 rcases uQ d _ _ h2 with h2|h2
 ·rcases uQ c _ _ h2 with h2|h2
  ·rcases uQ b _ _ h2 with h2|h2
   ·rcases uQ a _ _ h2 with h2|h2
    ·exact h h2
    ·lia
   ·lia
  ·lia
 ·lia
theorem cj:∀(t:Tr)(e:List Tr),Ord e->Ord (post t e)/\In (post t e) t
 |z,e,h=>⟨h,.inl rfl⟩
 |o,e,h=>⟨h,.inr (.inl rfl)⟩
 |nd a b c d,e,h=>by
  unfold post;split
  ·rename_i g;exact⟨h,.inr (.inr g)⟩
  ·rename_i g;obtain⟨A,l⟩:=cj a e h;obtain⟨B,n⟩:=cj b _ A;obtain⟨C,r⟩:=cj c _ B;obtain⟨u,H⟩:=cj d _ C;have l:=((l.post b).post c).post d;have n:=(n.post c).post d;have r:=r.post d;have v:=i9 g;generalize post d (post c (post b (post a e)))=L at u l n r H v;refine⟨⟨?_,?_⟩,.inr (.inr 'c')⟩
   ·rw[XB];exact⟨u.nd,by simp,λx E y F e=>v (by
     have:y=nd a b c d:=by simpa using F
     rw[<- this,<- e];exact E)⟩
   ·intro i t k;by_cases m:i<L.length
    ·rw[Zp m]at k;obtain⟨h1,h2⟩:=u.ch i t k;refine⟨h1,λs p=>(h2 s p).imp id λh=>h.imp id λ⟨j,f,e⟩=>⟨j,f,?_⟩⟩;rw[Zp (md f m)];exact e
    ·have q:=(cf k).1;rw[Zl]at q;have D:i=L.length:=by simp at q;exact xV q m
     subst D;have w:t=nd a b c d:=by simpa using k.symm
     subst w;refine⟨⟨a,b,c,d,rfl⟩,λs p=>?_⟩;have G:In L s:=by
      have:s=a\/s=b\/s=c\/s=d:=by simpa[kids]using p
      rcases this with rfl|rfl|rfl|rfl<;>assumption
     refine G.imp id λh=>h.imp id λg=>?_;obtain⟨j,f,e⟩:=ZL.mp g;exact⟨j,f,by rw[Zp f,Zc f,e]⟩
def name(L:List Tr):Tr->Nat
 |z=>0
 |o=>1
 |t=>L.idxOf t+2
def rowsOf(L:List Tr):List Row:=L.map λt=>(kids t).map (name L)
theorem BG(L:List Tr)(a b c d:Tr):name L (.nd a b c d)=L.idxOf (.nd a b c d)+2:=rfl
theorem gA{L:List Tr}(h:Ord L){i:Nat}{t:Tr}(e:L[i]?=some t):name L t=i+2:=by
 obtain⟨⟨a,b,c,d,rfl⟩,_⟩:=h.ch i t e;rw[BG];congr 1;have g:=(cf e).1;have f:=(cf e).2;rw[<- f];exact h.nd.idxOf_getElem i g
theorem de{L:List Tr}(h:Ord L){t:Tr}(d:In L t):(t=z/\name L t=0)\/(t=o/\name L t=1)\/∃i:Nat,L[i]?=some t/\name L t=i+2:=by
 rcases d with rfl|rfl|c
 ·exact .inl ⟨rfl,rfl⟩
 ·exact .inr (.inl ⟨rfl,rfl⟩)
 ·obtain⟨j,b,e⟩:=ZL.mp c;have a:L[j]?=some t:=by rw[Zc b,e]
  exact .inr (.inr ⟨j,a,gA h a⟩)
theorem xk4{L:List Tr}(h:Ord L){s t:Tr}(hs:In L s)(c:In L t)(e:name L s=name L t):s=t:=by
 rcases de h hs with⟨rfl,d⟩|⟨rfl,d⟩|⟨i,f,d⟩
 ·rcases de h c with⟨rfl,a⟩|⟨rfl,a⟩|⟨j,b,a⟩
  ·rfl
  ·lia
  ·lia
 ·rcases de h c with⟨rfl,a⟩|⟨rfl,a⟩|⟨j,b,a⟩
  ·lia
  ·rfl
  ·lia
 ·rcases de h c with⟨rfl,a⟩|⟨rfl,a⟩|⟨j,b,a⟩
  ·lia
  ·lia
  ·have:i=j:=by lia
   subst this;rw[f]at b;exact ZK b
theorem dm{L s:List Tr}{t:Tr}(h:In L t)(hz:Ord L):name (L++s) t=name L t:=by
 rcases de hz h with⟨rfl,_⟩|⟨rfl,_⟩|⟨i,e,_⟩
 ·rfl
 ·rfl
 ·obtain⟨⟨a,b,c,d,rfl⟩,_⟩:=hz.ch i t e;rw[BG,BG,VU,Zn (Zm e)]
theorem fb{L:List Tr}(h:Ord L){i:Nat}{t s:Tr}(e:L[i]?=some t)(hs:s∈kids t):In L s/\name L s<i+2:=by
 rcases(h.ch i t e).2 s hs with rfl|rfl|⟨j,b,a⟩
 ·exact⟨.inl rfl,by show 0<_;lia⟩
 ·exact⟨.inr (.inl rfl),by show 1<_;lia⟩
 ·exact⟨.inr (.inr (Zm a)),by rw[gA h a];exact qv b⟩
theorem aH(L:List Tr):(rowsOf L).length=L.length:=by simp[rowsOf]
theorem cF{L:List Tr}{i:Nat}{t:Tr}(e:L[i]?=some t):(rowsOf L)[i]?=some ((kids t).map (name L)):=by
 unfold rowsOf;rw[Zf,e];rfl
theorem Kr{L:List Tr}{i:Nat}{r:Row}(e:(rowsOf L)[i]?=some r):∃t,L[i]?=some t/\r=(kids t).map (name L):=by
 unfold rowsOf at e;rw[Zf]at e;obtain⟨t,h1,h2⟩:=Zh.mp e;exact⟨t,h1,h2.symm⟩
theorem fo{L:List Tr}(h:Ord L):dY (rowsOf L):=λp r f=>by
 obtain⟨t,e,rfl⟩:=Kr f;obtain⟨⟨a,b,c,d,rfl⟩,_⟩:=h.ch p t e;refine⟨rfl,λx g=>?_⟩;obtain⟨s,i,rfl⟩:=ZF.mp g;exact(fb h e i).2
theorem KC{L:List Tr}(h:Ord L):∀{k l:List Tr},(∀s∈k,In L s)->(∀s∈l,In L s)->k.map (name L)=l.map (name L)->k=l
 |[],[],_,_,_=>rfl
 |[],_::_,_,_,e=>by simp at e
 |_::_,[],_,_,e=>by simp at e
 |a::k,b::l,h1,h2,e=>by
  simp only[Zw,Xo]at e;rw[xk4 h (h1 a ZC) (h2 b ZC) e.1,KC h (λs c=>h1 s (Zq _ c)) (λs c=>h2 s (Zq _ c)) e.2]
theorem RY{s t:Tr}(hs:∃a b c d,s=.nd a b c d)(f:∃a b c d,t=.nd a b c d)(e:kids s=kids t):s=t:=by
 obtain⟨a,b,c,d,rfl⟩:=hs;obtain⟨i,g,h,j,rfl⟩:=f;simpa[kids]using e
theorem dR{L:List Tr}(h:Ord L):(rowsOf L).Nodup:=by
 rw[cR];intro i j f a e;rw[aH]at a;have b:L[i]?=some L[i]:=Zc (md f a);have c:L[j]?=some L[j]:=Zc a;rw[cF b,cF c]at e;have:=RY (h.ch i _ b).1 (h.ch j _ c).1 (KC h (λs d=>(fb h b d).1) (λs d=>(fb h c d).1) (ZK e));have h2:=cR.mp h.nd i j f a;rw[b,c]at h2;exact h2 (by rw[this])
end Tr
open Tr
def tr(rows:List Row):Nat->Nat->Tr
 |0,x=>if x=1 then .o else .z
 |d+1,x=>if x=0 then .z else if x=1 then .o else .nd (tr rows d ((rows.getD (x-2) []).getD 0 0)) (tr rows d ((rows.getD (x-2) []).getD 1 0)) (tr rows d ((rows.getD (x-2) []).getD 2 0)) (tr rows d ((rows.getD (x-2) []).getD 3 0))
theorem BF(rows:List Row)(d:Nat):tr rows d 0=.z:=by cases d<;>rfl
theorem Cc(rows:List Row)(d:Nat):tr rows d 1=.o:=by cases d<;>rfl
theorem xr{r:Row}(h:r.length=4):∃a b c d,r=[a,b,c,d]:=by
 match r,h with
 |[a,b,c,d],_=>exact⟨a,b,c,d,rfl⟩
theorem Jx{rows:List Row}{d p a b c e:Nat}(f:rows[p]?=some [a,b,c,e]):tr rows (d+1) (p+2)=.nd (tr rows d a) (tr rows d b) (tr rows d c) (tr rows d e):=by
 have:rows.getD p []=[a,b,c,e]:=by rw[Zt,f];rfl
 show(if p+2=0 then _ else if p+2=1 then _ else _)=_;rw[Zj 'a',Zj 'a',show p+2-2=p from Q9,this]
 rfl
theorem rF{rows:List Row}(ok:dY rows){x:Nat}(i:x<rows.length+2)(h:¬x<2):∃p a b c d,x=p+2/\rows[p]?=some [a,b,c,d]:=by
 have g:x-2<rows.length:=by exact tM i h
 have f:rows[x-2]?=some rows[x-2]:=Zc g;obtain⟨a,b,c,d,e⟩:=xr (ok _ _ f).1;exact⟨x-2,a,b,c,d,xX h,by rw[f,e]⟩
theorem Gd{rows:List Row}(ok:dY rows):∀(d f x:Nat),dp rows x<=d->dp rows x<=f->x<rows.length+2->tr rows d x=tr rows f x:=by
 intro d
 induction d with
 |zero=>
  intro f x h1 h2 k;have g:=Ce ok k h1
  match x,g with
  |0,_=>rw[BF,BF]
  |1,_=>rw[Cc,Cc]
 |succ d i=>
  intro f x h1 h2 k;by_cases g:x<2
  ·match x,g with
   |0,_=>rw[BF,BF]
   |1,_=>rw[Cc,Cc]
  ·obtain⟨p,a,b,c,e,rfl,h⟩:=rF ok k g
   match f,h2 with
   |0,h2=>exact absurd (Ce ok k h2) g
   |f+1,h2=>
    have q:=λy (l:y∈[a,b,c,e])=>zB ok h h1 l;have j:=λy (l:y∈[a,b,c,e])=>zB ok h h2 l;rw[Jx h,Jx h,i f a (q a 'c').2 (j a 'c').2 (q a 'c').1,i f b (q b 'c').2 (j b 'c').2 (q b 'c').1,i f c (q c 'c').2 (j c 'c').2 (q c 'c').1,i f e (q e 'c').2 (j e 'c').2 (q e 'c').1]
def T(rows:List Row)(x:Nat):Tr:=tr rows (dp rows x) x
theorem lj(rows:List Row):T rows 0=.z:=BF _ _
theorem lh(rows:List Row):T rows 1=.o:=Cc _ _
theorem l9{rows:List Row}(ok:dY rows){p a b c e:Nat}(f:rows[p]?=some [a,b,c,e]):T rows (p+2)=.nd (T rows a) (T rows b) (T rows c) (T rows e):=by
 obtain⟨d,g⟩:∃d,dp rows (p+2)=d+1:=⟨_,by rw[pO ok f];exact Nat.add_comm _ _⟩;have q:=λy (h:y∈[a,b,c,e])=>zB ok f (WU g) h;unfold T;rw[g,Jx f,Gd ok d _ a (q a 'c').2 (Zg _) (q a 'c').1,Gd ok d _ b (q b 'c').2 (Zg _) (q b 'c').1,Gd ok d _ c (q c 'c').2 (Zg _) (q c 'c').1,Gd ok d _ e (q e 'c').2 (Zg _) (q e 'c').1]
theorem xP5{rows:List Row}(ok:dY rows)(nd:rows.Nodup):∀(d x y:Nat),dp rows x<=d->x<rows.length+2->y<rows.length+2->T rows x=T rows y->x=y:=by
 intro d;have j:∀x y,x<2->y<rows.length+2->T rows x=T rows y->x=y:=λx y m g e=>by
  by_cases l:y<2
  ·match x,y,m,l with
   |0,0,_,_=>rfl
   |1,1,_,_=>rfl
   |0,1,_,_=>rw[lj,lh]at e;cases e
   |1,0,_,_=>rw[lj,lh]at e;cases e
  ·obtain⟨p,a,b,c,f,rfl,i⟩:=rF ok g l;rw[l9 ok i]at e
   match x,m with
   |0,_=>rw[lj]at e;cases e
   |1,_=>rw[lh]at e;cases e
 induction d with
 |zero=>exact λx y h t g e=>j x y (Ce ok t h) g e
 |succ d s=>
  intro x y h t g e;by_cases m:x<2
  ·exact j x y m g e
  ·by_cases l:y<2
   ·exact(j y x l t e.symm).symm
   ·obtain⟨p,a,b,c,f,rfl,i⟩:=rF ok t m;obtain⟨n,v,u,A,w,rfl,k⟩:=rF ok g l;rw[l9 ok i,l9 ok k]at e;have q:=λy (g:y∈[a,b,c,f])=>zB ok i h g;have r:∀y∈[v,u,A,w],y<rows.length+2:=λy g=>by
     have:=(ok _ _ k).2 y g;have:=(cf k).1;lia
    injection e with e1 e2 e3 e4
    have h1:=s a v (q a 'c').2 (q a 'c').1 (r v 'c') e1;have h2:=s b u (q b 'c').2 (q b 'c').1 (r u 'c') e2;have B:=s c A (q c 'c').2 (q c 'c').1 (r A 'c') e3;have C:=s f w (q f 'c').2 (q f 'c').1 (r w 'c') e4;subst h1 h2 B C;have:p=n:=by
     rcases XA p n with z|z|z
     ·exact absurd (i.trans k.symm) (cR.mp nd p n z (cf k).1)
     ·exact z
     ·exact absurd (k.trans i.symm) (cR.mp nd n p z (cf i).1)
    rw[this]
def l7(rows:List Row)(p:Nat):Tr:=T rows (p+2)
theorem xw9{rows:List Row}(ok:dY rows)(nd:rows.Nodup){e:List Nat}(d:eD rows e){p:Nat}(b:p<rows.length):l7 rows p∈e.map (l7 rows)<->p∈e:=by
 constructor
 ·intro h;obtain⟨q,a,c⟩:=ZF.mp h;have:=xP5 ok nd _ (q+2) (p+2) (Zg _) (by have:=d.lt q a;exact qv this) (qv b) c;have:q=p:=by exact Q4 this
  rw[<- this];exact a
 ·exact λh=>ZF.mpr ⟨p,h,rfl⟩
theorem RX{rows:List Row}(ok:dY rows)(nd:rows.Nodup):∀(d:Nat)(e:List Nat)(x:Nat),eD rows e->x<rows.length+2->dp rows x<=d->(cA rows d e x).map (l7 rows)=post (T rows x) (e.map (l7 rows)):=by
 intro d
 induction d with
 |zero=>
  intro e x j n r;have h:=Ce ok n r
  match x,h with
  |0,_=>rw[lj];rfl
  |1,_=>rw[lh];rfl
 |succ d k=>
  intro e x j n r;by_cases h:x<2
  ·have:cA rows (d+1) e x=e:=by
    show(if x<2\/x-2∈e then e else _)=e;rw[Zn (.inl h)]
   rw[this]
   match x,h with
   |0,_=>rw[lj];rfl
   |1,_=>rw[lh];rfl
  ·obtain⟨p,a,b,c,f,rfl,g⟩:=rF ok n h;have I:=(cf g).1;have v:=xw9 ok nd j I;have F:rows.getD p []=[a,b,c,f]:=by rw[Zt,g];rfl
   have l:l7 rows p=.nd (T rows a) (T rows b) (T rows c) (T rows f):=l9 ok g;rw[l9 ok g];show(if p+2<2\/p+2-2∈e then e else(rows.getD (p+2-2) []).foldl (cA rows d) e++[p+2-2]).map (l7 rows)=(if _∈e.map (l7 rows)then _ else _);rw[show p+2-2=p from Q9,<- l,F];by_cases i:p∈e
   ·rw[Zn (.inr i),Zn (v.mpr i)]
   ·rw[Zj (by rintro(z|z);exact Q5 z;exact i z),Zj (λz=>i (v.mp z))];have q:=λy (H:y∈[a,b,c,f])=>zB ok g r H;obtain⟨C,u⟩:=q a 'c';obtain⟨A,s⟩:=q b 'c';obtain⟨t,w⟩:=q c 'c';obtain⟨G,m⟩:=q f 'c';have D:=(rN ok d e a j C u).1;have B:=(rN ok d _ b D A s).1;have E:=(rN ok d _ c B t w).1;show(cA rows d (cA rows d (cA rows d (cA rows d e a) b) c) f++[p]).map (l7 rows)=_;rw[ZZ,k _ f E G m,k _ c B t w,k _ b D A s,k _ a j C u,l];show _++[l7 rows p]=_;rw[l]
theorem Gh{n top:Nat}{rows:List Row}(c:Canon n top rows):rows=rowsOf (post (T rows top) [])/\top=name (post (T rows top) []) (T rows top):=by
 have h:=RX c.iQ c.unlike n [] top (xB rows) c.kr c.deep;rw[c.ends]at h;have u:Ord (post (T rows top) [])/\In (post (T rows top) []) (T rows top):=cj _ _ fv;have j:post (T rows top) []=(List.range rows.length).map (l7 rows):=h.symm;obtain⟨l,t⟩:=u;generalize post (T rows top) []=L at l t j;have m:∀p,p<rows.length->L[p]?=some (l7 rows p):=λp d=>by
  rw[j,Zf,YU d];rfl
 have x:L.length=rows.length:=by rw[j];simp
 have i:∀q,q<rows.length+2->name L (T rows q)=q:=λq v=>by
  by_cases k:q<2
  ·match q,k with
   |0,_=>rw[lj];rfl
   |1,_=>rw[lh];rfl
  ·have:=gA l (m (q-2) (tM v k));unfold l7 at this;rw[show q-2+2=q from nX k]at this;exact this
 refine⟨?_,(i top c.kr).symm⟩;refine Wp λp=>?_;by_cases d:p<rows.length
 ·have g:rows[p]?=some rows[p]:=Zc d;obtain⟨a,b,e,f,s⟩:=xr (c.iQ p _ g).1;rw[s]at g;rw[g,cF (m p d)];have r:l7 rows p=.nd (T rows a) (T rows b) (T rows e) (T rows f):=l9 c.iQ g;have lt:∀y∈[a,b,e,f],y<rows.length+2:=λy w=>by
   have:=(c.iQ _ _ g).2 y w;exact qp d this
  rw[r];show some [a,b,e,f]=some [name L (T rows a),name L (T rows b),name L (T rows e),name L (T rows f)];rw[i a (lt a 'c'),i b (lt b 'c'),i e (lt e 'c'),i f (lt f 'c')]
 ·rw[YI (u7 d),YI (by rw[aH];lia)]
theorem qZ4{n g top a:Nat}{rows b:List Row}(c:Canon n top rows)(f:Canon g a b)(e:T rows top=T b a):top=a/\rows=b:=by
 obtain⟨h1,h2⟩:=Gh c;obtain⟨d,h⟩:=Gh f;rw[e]at h1 h2;exact⟨h2.trans h.symm,h1.trans d.symm⟩
theorem xq{L:List Tr}(h:Ord L):∀t:Tr,In L t->dp (rowsOf L) (name L t)=dep t
 |.z,_=>zP (by decide:(0:Nat)<2)
 |.o,_=>zP (by decide:(1:Nat)<2)
 |.nd a b c d,j=>by
  rcases de h j with⟨e,_⟩|⟨e,_⟩|⟨i,e,f⟩
  ·cases e
  ·cases e
  ·have hk:=λs (g:s∈kids (.nd a b c d))=>(fb h e g).1;rw[f,pO (fo h) (cF e)];show 1+mx [_,_,_,_]=1+mx [dep a,dep b,dep c,dep d];rw[xq h a (hk a (by simp[kids])),xq h b (hk b (by simp[kids])),xq h c (hk c (by simp[kids])),xq h d (hk d (by simp[kids]))]
theorem uI{L:List Tr}(h:Ord L):∀t:Tr,In L t->T (rowsOf L) (name L t)=t
 |.z,_=>lj _
 |.o,_=>lh _
 |.nd a b c d,j=>by
  rcases de h j with⟨e,_⟩|⟨e,_⟩|⟨i,e,f⟩
  ·cases e
  ·cases e
  ·have hk:=λs (g:s∈kids (.nd a b c d))=>(fb h e g).1;rw[f,l9 (fo h) (cF e),uI h a (hk a (by simp[kids])),uI h b (hk b (by simp[kids])),uI h c (hk c (by simp[kids])),uI h d (hk d (by simp[kids]))]
def uH(L:List Tr):Prop:=∀t∈L,Red t
theorem BP:∀(t:Tr)(e:List Tr),Red t->uH e->uH (post t e)
 |.z,_,_,h=>h
 |.o,_,_,h=>h
 |.nd a b c d,e,f,h=>by
  unfold post;split
  ·exact h
  ·have i:=BP d _ f.2.2.2.2.2 (BP c _ f.2.2.2.2.1 (BP b _ f.2.2.2.1 (BP a e f.2.2.1 h)));intro s g;rcases YQ.mp g with g|g
   ·exact i s g
   ·have:s=.nd a b c d:=by simpa using g
    rw[this];exact f
theorem oG{L:List Tr}{t:Tr}(h:name L t=0):t=.z:=by
 cases t with
 |z=>rfl
 |o=>cases h
 |nd a b c d=>rw[BG]at h;lia
theorem oE{L:List Tr}{t:Tr}(h:name L t=1):t=.o:=by
 cases t with
 |z=>cases h
 |o=>rfl
 |nd a b c d=>rw[BG]at h;lia
theorem RA{L:List Tr}(h:Ord L)(k:uH L):∀r∈rowsOf L,¬nJ r:=λr l=>by
 obtain⟨i,m,e⟩:=ZL.mp l;obtain⟨t,g,rfl⟩:=Kr (i:=i) (r:=r) (by rw[Zc m,e]);obtain⟨⟨a,b,c,d,rfl⟩,_⟩:=h.ch i t g;have j:=k _ (Zm g);rintro(z|z)
 ·have f:[name L a,name L b,name L c,name L d]=[0,0,0,0]:=z;simp only[Xo,V1]at f;exact j.1 ⟨oG f.1,oG f.2.1,oG f.2.2.1,oG f.2.2.2⟩
 ·have f:[name L a,name L b,name L c,name L d]=[1,1,1,1]:=z;simp only[Xo,V1]at f;exact j.2.1 ⟨oE f.1,oE f.2.1,oE f.2.2.1,oE f.2.2.2⟩
theorem qZ5{n:Nat}(B:n<=12){t:Tr}(C:Red t)(k:dep t<=n):Canon n (name (post t []) t) (rowsOf (post t [])):=by
 obtain⟨a,f⟩:=cj t [] fv;have m:=BP t [] C (λs A=>nomatch A);have q:=uI a t f;have g:=xq a t f;generalize x:post t []=L at a f m q g;have ok:=fo a;have r:=dR a;have j:name L t<(rowsOf L).length+2:=by
  rw[aH];rcases de a f with⟨_,e⟩|⟨_,e⟩|⟨i,e,d⟩
  ·lia
  ·lia
  ·have:=(cf e).1;lia
 refine⟨B,ok,j,by rw[g];exact k,RA a m,r,?_⟩;have v:=RX ok r n [] (name L t) (xB _) j (by rw[g];exact k);rw[q]at v;have d:(cA (rowsOf L) n [] (name L t)).map (l7 (rowsOf L))=L:=by rw[v];exact x
 have u:=(rN ok n [] (name L t) (xB _) j (by rw[g];exact k)).1;generalize cA (rowsOf L) n [] (name L t)=E at d u;have l:E.length=L.length:=by rw[<- d];simp
 refine Wp λi=>?_;by_cases b:i<E.length
 ·have p:E[i]?=some E[i]:=Zc b;have c:=u.lt E[i] (Yx b);rw[aH]at c;have h:L[i]?=some (l7 (rowsOf L) E[i]):=by
   conv=>lhs;rw[<- d]
   rw[Zf,p];rfl
  have y:l7 (rowsOf L) E[i]=L[E[i]]:=by
   have w:L[E[i]]?=some L[E[i]]:=Zc c;have:=uI a L[E[i]] (.inr (.inr (Yx c)));rw[gA a w]at this;exact this
  rw[y]at h;have:E[i]=i:=by
   rcases XA E[i] i with z|z|z
   ·exact absurd (by rw[h];exact Zc c) (cR.mp a.nd E[i] i z (qm b l))
   ·exact z
   ·exact absurd (by rw[h];exact(Zc c).symm) (cR.mp a.nd i E[i] z c)
  rw[p,this,YU (by rw[aH];exact qm b l)]
 ·rw[YI (u7 b),YI (by rw[Yk,aH];exact Jm l b)]
theorem xI1{rows:List Row}(ok:dY rows){E:List Nat}(j:eD rows E):∀q,sd E q->T (told rows E) (nm E q)=T rows q:=by
 intro q
 induction q using Nat.strongRecOn with
 |ind q h=>
  intro p;by_cases z:q<2
  ·rw[nc z]
   match q,z with
   |0,_=>rw[lj,lj]
   |1,_=>rw[lh,lh]
  ·have m:=p.resolve_left z;have l:=j.lt _ m;have n:=zO m;obtain⟨a,b,c,d,e⟩:=xr (ok _ _ (nh l)).1;have i:=nh l;have k:=xx (rows:=rows) n;have g:=λx (s:x∈rows.getD (q-2) [])=>(Cn j n s).1;have f:=(ok _ _ i).2;rw[e]at i k g f;rw[nQ z,l9 (K3 ok j) k];have r:T rows q=.nd (T rows a) (T rows b) (T rows c) (T rows d):=by
    have:=l9 ok i
    rwa [show q-2+2=q from nX z]at this
   rw[r,h a (by have:=f a 'c';exact nW this z) (g a 'c'),h b (by have:=f b 'c';exact nW this z) (g b 'c'),h c (by have:=f c 'c';exact nW this z) (g c 'c'),h d (by have:=f d 'c';exact nW this z) (g d 'c')]
theorem qZ6{n x:Nat}{rows:List Row}(d:n<=12)(ok:dY rows)(a:x<rows.length+2)(b:dp rows x<=n)(c:∀r∈rows,¬nJ r)(nd:rows.Nodup):
  Canon n (nm (cA rows n [] x) x) (told rows (cA rows n [] x))/\T (told rows (cA rows n [] x)) (nm (cA rows n [] x) x)=T rows x:=by
 obtain⟨e,f⟩:=rN ok n [] x (xB rows) a b;exact⟨qY3 d ok a b c nd,xI1 ok e x f⟩
theorem BE{L:List Tr}{t:Tr}(h:In L t):post t L=L:=by
 cases t with
 |z=>rfl
 |o=>rfl
 |nd a b c d=>
  have e:Tr.nd a b c d∈L:=by rcases h with h|h|h;cases h;cases h;exact h
  unfold post;rw[Zn e]
theorem Kq{L:List Tr}(h:Ord L){t:Tr}(hk:∀s∈kids t,In L s):rowsOf (L++[t])=rowsOf L++[(kids t).map (name L)]:=by
 unfold rowsOf;rw[ZZ];congr 1
 ·refine YF λu b=>?_;obtain⟨i,c,e⟩:=ZL.mp b;exact YF λs a=>dm (fb h (i:=i) (t:=u) (by rw[Zc c,e]) a).1 h
 ·show[(kids t).map (name (L++[t]))]=_;congr 1;exact YF λs a=>dm (hk s a) h
theorem Qd{L:List Tr}(h:Ord L){a b c d:Tr}(hk:∀s∈kids (.nd a b c d),In L s):(kids (.nd a b c d)).map (name L)∈rowsOf L<->Tr.nd a b c d∈L:=by
 constructor
 ·intro g;obtain⟨i,j,e⟩:=ZL.mp g;obtain⟨t,f,k⟩:=Kr (i:=i) (r:=(kids (.nd a b c d)).map (name L)) (by rw[Zc j,e]);have:=RY ⟨a,b,c,d,rfl⟩ (h.ch i t f).1 (KC h hk (λs l=>(fb h f l).1) k);rw[this];exact Zm f
 ·intro g;obtain⟨i,j,e⟩:=ZL.mp g;exact Zm (cF (i:=i) (t:=.nd a b c d) (by rw[Zc j,e]))
theorem xx0{L:List Tr}(h:Ord L){i:Nat}{t:Tr}(e:L[i]?=some t):(rowsOf L).idxOf ((kids t).map (name L))=i:=by
 have a:=(cf e).1;have c:=cF e;have d:i<(rowsOf L).length:=by rw[aH];exact a
 have b:=(cf c).2;rw[<- b];exact(dR h).idxOf_getElem i d
end Qf
namespace Pr
open PySem L2 Qf
theorem GJ{H:Hp}{e u:af}{L:List Tr}(j:Tr.Ord L){a b c d:Tr}(p:Tr.nd a b c d∈L)(m:H e=some (.dT (tK (Tr.rowsOf L))))(l:H u=some (.tup (vN [Tr.name L a,Tr.name L b,Tr.name L c,Tr.name L d]))):
  dE H e (.ref u) (some (.int (Tr.name L (.nd a b c d):Nat))):=by
 obtain⟨i,q,n⟩:=ZL.mp p;have g:L[i]?=some (.nd a b c d):=by rw[Zc q,n]
 have f:=xx0 j g;have h:(Tr.kids (.nd a b c d)).map (Tr.name L)∈Tr.rowsOf L:=Zm (Tr.cF g);have:=dE.t (k:=dM ((Tr.kids (.nd a b c d)).map (Tr.name L))) m (by rw[sQ];exact l);rw[Jz,Zn h,f]at this;rw[Tr.gA j g];exact this
theorem xI2{a:List Nat}{p:Nat}(h:p∉a):putK (jf++fK a) (lI p) (.int (2+a.length:Nat))=jf++fK (a++[p]):=by
 unfold putK fK;rw[sY,Rp,R3,BQ R4,Zj h,Zj 'b',SM,ZG]
theorem xI3{E:List Nat}{i q:Nat}(h:sd (E.take i) q):nm (E.take i) q=nm E q:=by
 by_cases z:q<2
 ·rw[nc z,nc z]
 ·rw[nQ z,nQ z];have a:=h.resolve_left z
  conv=>rhs;rw[<- YG i E]
  rw[VU,Zn a]
theorem mY:aE ["row","numbers"] ["row","numbers"] (bq Cm):=cM
def Qc:Sp:=λd H Q _=>∃(b g:af)(r:Row)(a:List (Key×V))(f:Nat->Nat),d=[.ref b,.ref g]/\H b=some (.tup (vN r))/\r.length=4/\H g=some (.dK a)/\(∀q∈r,bY a (Sum.inl (q:Int))=some (.int (f q:Nat))) /\
 ∀(c:Hp)(t:af),aG H c->c t=some (.tup (vN (r.map f)))->Q (.ref t) c
theorem xk5{f:af}{p:ak}(F:aO K "renumbered" "renumbered" Cm f p)(B:fk mg):aB P w K mg base aK 1 f p ["row","numbers"] Qc:=by
 refine F.ok mY (λJ H Q E h=>?_) (λbJ A c s H J Q E R h=>?_)
 ·obtain⟨b,g,r,e,f,rfl,_⟩:=h
  rfl
 ·obtain⟨b,g,r,e,d,rfl,hb,I,G,M,q⟩:=h;have u:A.units+3+1<cLine:=by
   have h2:A.units+3+16*0+200<cLine:=R.un;lia
  refine eF ⟨_,⟨cx (i7 (ip K rfl) (by rfl) B.tuple ZO (aF (nS ["row","numbers"] (bq Cm) rfl rfl rfl mY.nd (sU (pv 0)) (λZ C X W aD=>Hy u (pv 2) (pv 0) (λ_ _=>rfl))) aI))⟩,?_⟩;refine⟨_,rfl,b,rfl,⟨_,bf.of hb⟩,λD v=>pX v (λi z _=>∃m:Nat,r[i]?=some m/\z=.int (d m:Nat)) (rL (K:=K) hb) (by rw[g7,I];decide) (λ_ _ _ _ _ _ h=>h) ?_ ?_⟩
  ·intro i x t Y n j Q' L;obtain⟨m,a,rfl⟩:=rH n;have O:dE t g (.int (m:Int)) (some (.int (d m:Nat))):=by
    have:=dE.k (k:=Sum.inl (m:Int)) (j _ _ G);rw[M m (Zm a)]at this;exact this
   exact⟨_,rfl,_,rfl,g,_,rfl,O,L _ _ (aG.refl _) ⟨m,a,rfl⟩⟩
  ·intro V t j T U y;have N:V=vN (r.map d):=by
    refine pW (by rw[U,g7,g7,Ze]) λi x n=>?_;obtain⟨m,a,rfl⟩:=y i x n;exact Ff (by rw[Zf,a];rfl)
   subst N;exact⟨D,_,rfl,.inl ⟨bZ.of T,λl S=>q _ l (j.trans (bo S)) aZ⟩⟩
abbrev nSO:List ar:=["n","top","rows","numbers","told","place"]
theorem sI:aE nSO ["n","top","rows"] (bq FV):=cM
def AX:Sp:=λd H Q _=>∃(c:af)(n a:Nat)(rows:List Row),d=[.int (n:Nat),.int (a:Nat),.ref c]/\hV H c rows/\dY rows/\rows.length<=1190900/\a<rows.length+2/\n<=12/\dp rows a<=n /\
 ∀(b:Hp)(t:af),aG H b->cJ b t n (nm (cA rows n [] a) a) (told rows (cA rows n [] a))->Q (.ref t) b
theorem xP6{f fP fE fR:af}{fd gG r_ mI:ak}(F:aO K "shape_of" "shape_of" FV f fd)(B:fk mg)(T:mU mg)(tX:∃t,mg "EMPTY"=some (.int 0 t))
  (hP:mg "places_as_ended"=some (.ref fP)) (FP:aO K "places_as_ended" "places_as_ended" BJ fP gG) (bP:Binds K gG ["rows","top"] [])
  (hE:mg "end_rows"=some (.ref fE)) (FE:aO K "end_rows" "end_rows" pJ fE r_) (bE:Binds K r_ ["rows","number","ended"] [])
  (hR:mg "renumbered"=some (.ref fR)) (FR:aO K "renumbered" "renumbered" Cm fR mI) (bR:Binds K mI ["row","numbers"] []):aB P w K mg base aK 15 f fd ["n","top","rows"] AX:=by
 have GP:∀d,aB P w K mg base aK (d+2) fP gG ["rows","top"] (FI d):=λd=>SO FP B T hE FE bE d;have GR:aB P w K mg base aK 1 fR mI ["row","numbers"] Qc:=xk5 FR B;obtain⟨te,wO⟩:=tX;obtain⟨tu,vL⟩:=T.full;obtain⟨tf,wN⟩:=T.first;refine F.ok sI (λvs H Q E h=>?_) (λbJ A outer s H vs Q E hr h=>?_)
 ·obtain⟨O,n,M,rows,rfl,_⟩:=h
  rfl
 ·obtain⟨O,n,M,rows,rfl,Y,ok,hl,yA,hn,hd,q⟩:=h;have hu:A.units+3+1<cLine:=by
   have h2:A.units+3+16*14+200<cLine:=hr.un;lia
  have hrP:aV (n+2) _:=hr.mono 'a';have jG:aV 1 _:=hr.mono 'b';refine aU ⟨_,xw7 (i:=3) sI.nd rfl (by first|left;rfl|right;rfl) (xj9 (.cons ⟨gx (v:=.int 0) (by rfl) wO ⟨_,rfl⟩⟩ ⟨gx (v:=.int 0) (by rfl) wO ⟨_,rfl⟩⟩ (.cons ⟨gx (v:=.int 1) (by rfl) vL ⟨_,rfl⟩⟩ ⟨gx (v:=.int 1) (by rfl) vL ⟨_,rfl⟩⟩ .nil)) rfl rfl (λz=>nomatch z) 'b') rfl rfl,?_⟩;refine aU ⟨_,⟨dk 4 sI.nd (jh aI)⟩,?_⟩;refine aU ⟨_,⟨rJ Y2 rfl (oB (bz (GP n) hrP hP FP.kp bP (aF (pv 2) (aF (pv 1) aI)))) (gh 5 sI.nd)
   (lP.go (.cons ⟨ir (cZ.go (xH8 Yy Yp Yq sZ ⟨pv 4⟩ (.cons ⟨bz GR jG hR FR.kp bR (aF (cI (UL K rfl) (pv 2) (pv 5)) (aF (pv 3) aI))⟩ .nil rfl)))⟩
    (.one ⟨Hw hu (pv 3) (bg gO (pv 5) (gx (v:=.int 2) (by rfl) wN ⟨_,rfl⟩)) (bg gO (bg gN (dw s_ (by rfl) B.len YN (aF (pv 4) aI)) aN) (gx (v:=.int 2) (by rfl) wN ⟨_,rfl⟩)) (by rfl)⟩)))⟩,?_⟩
  refine eF ⟨_,⟨cx (gf (bu.go (.cons ⟨pv 0⟩ (.cons ⟨Hy hu (pv 3) (pv 1) (λ_ _=>rfl)⟩ (.cons ⟨i7 (ip K rfl) (by rfl) B.tuple ZO (aF (pv 4) aI)⟩ .nil rfl) rfl) rfl)))⟩,?_⟩;refine λg hg=>⟨aZ,jf,rfl,(by show 2<=15;decide),?_⟩;have eg:zQ [] jf=jf:=by rfl
  rw[eg];have S1:aG H (upd (upd H g (.dK [])) g (.dK jf)):=λb u z=>by rw[bj (cK z hg)];exact cw z hg
  have yI:upd (upd H g (.dK [])) g (.dK jf) g=some (.dK jf):=aZ;generalize upd (upd H g (.dK [])) g (.dK jf)=H1 at S1 yI ⊢;refine⟨(by show 0<=sizeLine;decide),λD X=>?_⟩;have Nz:H D=none:=by
   cases z:H D with
   |none=>rfl
   |some o=>rw[S1 _ _ z]at X;cases X
  have Uo:g≠D:=cK yI X;have S2:aG H (upd H1 D (.lst [])):=S1.trans (bo X);refine⟨_,rfl,_,rfl,O,M,rows,rfl,Y.same S2,ok,hl,yA,hd,λH3 Z s3 N=>?_⟩;have Ie:=s3 _ _ (cw (u:=.lst []) yI X);have Il:=s3 _ _ (aZ (H:=H1) (a:=D) (o:=.lst []));have S3:=S2.trans s3;have nLg:Z≠g:=λz=>by rw[z,Ie]at N;cases N
  obtain⟨pe,UQ⟩:=rN ok n [] M (xB rows) yA hd;generalize cA rows n [] M=p at N pe UQ q;have kK:=R9 pe;obtain⟨bs,DB,jV,jE⟩:=id Y;refine⟨Z,rfl,⟨_,bZ.of N⟩,Sz (K:=K) (a:=Z) (xs:=vN p) (λi σ I=>aG H I/\I Z=some (.lst (vN p))/\I g=some (.dK (jf++fK (p.take i)))/\bQ I D ((told rows p).take i) /\
    ∃v5,σ=[some (.int (n:Nat)),some (.int (M:Nat)),some (.ref O),some (.ref g),some (.ref D),v5])
   ⟨S3,N,Ie,⟨[],Il,rfl,λi b r e=>by simp at e⟩,none,rfl⟩ (λi σ I _ h=>bZ.of h.2.1) ?_ ?_⟩
  ·rintro i y σ I hy ⟨W,hL2,R,⟨C,jW,kS,Nj⟩,v5,rfl⟩;obtain⟨m,U,rfl⟩:=rH hy;have D_:=(cf U).1;have nLD:Z≠D:=λz=>by
    rw[z,Il]at N;have:vN p=[]:=by
     injection N with h1
     injection h1 with h2
     exact h2.symm
    have h3:(vN p).length=0:=by rw[this];rfl
    rw[g7]at h3;lia
   have yG:=pe.lt m (Zm U);have M1:=nh yG;have UZ:=xx (rows:=rows) U;have h4:=(ok m _ M1).1;have jQ:∀x∈rows.getD m [],sd (p.take i) x:=λx hx=>by
    rcases pe.ch i m U x hx with z|⟨j,hj,ej⟩
    ·exact .inl z
    ·exact .inr (Zm (i:=j) (by rw[List.getElem?_take,Zn hj];exact ej))
   have wI:m∉p.take i:=λz=>by
    obtain⟨j,hj,ej⟩:=ZL.mp z;rw[Yc]at hj;have G:p[j]?=some m:=by
     rw[List.getElem_take]at ej;rw[Zc 'a',ej]
    exact cR.mp pe.nd j i 'a' D_ (by rw[G,U])
   have UY:(p.take i).length=i:=by rw[Yc];lia
   generalize rows.getD m []=r at M1 UZ h4 jQ;have Nm:bs[m]?=some (bs[m]'(by lia)):=Zc 'a';have jR:=W _ _ (jE m _ r Nm M1);have Mc:∀Q':VK,Q' (.ref (bs[m]'(by lia))) I->xg K (.ref O) (.int (m:Int)) I Q':=λQ' hQ=>by
    rcases DB with h|h
    ·exact .inr ⟨O,_,(m:Int),.ref (bs[m]'(by lia)),rfl,rfl,bf.of (W _ _ h),uP (by rw[Zf,Nm];rfl),hQ⟩
    ·exact .inl ⟨O,_,(m:Int),.ref (bs[m]'(by lia)),rfl,rfl,bZ.of (W _ _ h),uP (by rw[Zf,Nm];rfl),hQ⟩
   refine⟨_,rfl,.inl ⟨rfl,_,bZ.of jW⟩,_,rfl,_,rfl,Mc _ ⟨_,rfl,bs[m]'(by lia),g,r,_,nm p,rfl,jR,h4,R,λx hx=>by rw[Pg (jQ x hx),xI3 (jQ x hx)],λH4 t S J=>?_⟩⟩;have vQ:=S _ _ jW;have ntD:t≠D:=λz=>by rw[z,vQ]at J;cases J
   have Nk:C.length=i:=by rw[kS,Yc,rM];lia
   refine⟨D,_,.ref t,rfl,rfl,vQ,by rw[Ze,Nk];exact jg 'a',?_⟩;have j9:((C.map V.ref++[V.ref t]).length:Int)=(i:Int)+1:=by rw[Zl,Ze,Nk];rfl
   have hg5:upd H4 D (.lst (C.map V.ref++[.ref t])) g=some (.dK (jf++fK (p.take i))):=by rw[bj Uo];exact S _ _ R
   have dq:=iJ.k (k:=Sum.inl ((m:Int)+2)) (v:=.int (((C.map V.ref++[V.ref t]).length:Int)-1+2)) hg5 (by
    have:(jf++fK (p.take i)).length=2+i:=by rw[Zl];unfold fK;rw[zw,UY];rfl
    rw[this];exact jg 'a')
   refine⟨_,rfl,D,_,rfl,.inl (bZ.of aZ),_,_,rfl,rfl,_,_,rfl,rfl,_,rfl,_,rfl,_,_,rfl,rfl,g,_,rfl,dq,?_⟩
   ·have qZ:putK (jf++fK (p.take i)) (Sum.inl ((m:Int)+2)) (.int (((C.map V.ref++[V.ref t]).length:Int)-1+2))=jf++fK (p.take (i+1)):=by
     have h1:=xI2 wI;have h2:p.take (i+1)=p.take i++[m]:=by
      rw[VL,U];rfl
     rw[h2,<- h1,UY];congr 1;rw[j9];congr 1;lia
    have EF:∀v:V,v=.int (((C.map V.ref++[V.ref t]).length:Int)-1+2)->putK (jf++fK (p.take i)) (Sum.inl ((m:Int)+2)) v=jf++fK (p.take (i+1)):=λv hv=>by rw[hv];exact qZ
    refine⟨?_,?_,?_,⟨C++[t],?_,?_,?_⟩,_,rfl⟩
    ·intro b o z;rw[bj (cK z hg),bj (cK z Nz)];exact S _ _ (W _ _ z)
    ·rw[bj nLg,bj nLD];exact S _ _ hL2
    ·rw[aZ,EF _ rfl]
    ·rw[bj (YK Uo),aZ,K8]
    ·rw[Zl,Nk,Yc,rM];show i+1=_;lia
    ·intro j b r0 G L;have LD:∀{c:af}{u:List V},H4 c=some (.tup u)->c≠g/\c≠D:=λ{c u} e=>⟨(λz=>by rw[z,S _ _ R]at e;cases e),(λz=>by rw[z,vQ]at e;cases e)⟩;have ny:(told rows p).take (i+1)=(told rows p).take i++[r.map (nm p)]:=by rw[VL,UZ];rfl
     rw[ny]at L;by_cases hj:j<i
     ·rw[Zp 'a']at G;rw[Zp (by rw[Yc,rM];lia)]at L;have hb:=S _ _ (Nj j b r0 G L);rw[bj (LD hb).1,bj (LD hb).2];exact hb
     ·rw[Zx 'a']at G;rw[Zx (by rw[Yc,rM];lia)]at L;have vT:j-C.length=0:=by
       have:=(cf G).1;simp at this;lia
      have MY:j-((told rows p).take i).length=0:=by
       rw[Yc,rM];lia
      rw[vT]at G;rw[MY]at L;have eb:b=t:=by simpa using G.symm
      have er:r0=r.map (nm p):=by simpa using L.symm
      rw[eb,er,bj (LD J).1,bj ntD];exact J
  ·rintro σ I ⟨W,hL2,R,As,v5,rfl⟩;rw[g7,XS]at R;have ny:(told rows p).take (vN p).length=told rows p:=by rw[g7];exact Xs (by rw[rM];exact Zg _)
   rw[ny]at As;obtain⟨C,jW,kS,Nj⟩:=As;have dg:dE I g (.int (M:Int)) (some (.int (nm p M:Nat))):=by
    have:=dE.k (k:=Sum.inl (M:Int)) R;rw[Pg UQ]at this;exact this
   refine⟨_,rfl,_,rfl,_,rfl,g,_,rfl,dg,_,rfl,D,_,rfl,.inl ⟨bZ.of jW,λl hl=>⟨(by show 3<=sizeLine;decide),λt J=>?_⟩⟩⟩;exact q _ t ((W.trans (bo hl)).trans (bo J)) ⟨l,aZ,C,cw aZ J,kS,λi b r G L=>cw (cw (Nj i b r G L) hl) J⟩
end Pr
namespace Qf
open Tr
def rT(a b c d:Tr):Tr:=if a=z/\b=z/\c=z/\d=z then z else if a=o/\b=o/\c=o/\d=o then o else .nd a b c d
def ins(t:Tr)(L:List Tr):List Tr:=if t=z\/t=o\/t∈L then L else L++[t]
theorem xx1(t:Tr)(L:List Tr):∃s,ins t L=L++s/\s.length<=1:=by
 unfold ins;split
 ·exact⟨[],by simp,by decide⟩
 ·exact⟨[t],rfl,Zg 1⟩
theorem xI4(t:Tr)(L:List Tr):In (ins t L) t:=by
 unfold ins;split
 ·assumption
 ·exact .inr (.inr 'c')
theorem xx2{L:List Tr}(h:Ord L){a b c d:Tr}(B:In L a)(hb:In L b)(hc:In L c)(A:In L d):Ord (ins (rT a b c d) L):=by
 unfold ins;split
 ·exact h
 ·rename_i f;have e:rT a b c d=.nd a b c d:=by
   unfold rT at f ⊢;split
   ·rename_i h1;rw[Zn h1]at f;exact absurd (.inl rfl) f
   ·rename_i h1;rw[Zj h1]at f;split
    ·rename_i h2;rw[Zn h2]at f;exact absurd (.inr (.inl rfl)) f
    ·rfl
  rw[e]at f ⊢;have nm:Tr.nd a b c d∉L:=λz=>f (.inr (.inr z));refine⟨?_,?_⟩
  ·rw[XB];exact⟨h.nd,by simp,λx u y v e=>nm (by
    have:y=.nd a b c d:=by simpa using v
    rw[<- this,<- e];exact u)⟩
  ·intro i t k;by_cases p:i<L.length
   ·rw[Zp p]at k;obtain⟨h1,h2⟩:=h.ch i t k;refine⟨h1,λs l=>(h2 s l).imp id λh=>h.imp id λ⟨j,g,e⟩=>⟨j,g,?_⟩⟩;rw[Zp 'a'];exact e
   ·have m:=(cf k).1;rw[Zl]at m;have q:i=L.length:=by simp at m;lia
    subst q;have n:t=.nd a b c d:=by simpa using k.symm
    subst n;refine⟨⟨a,b,c,d,rfl⟩,λs l=>?_⟩;have w:In L s:=by
     have:s=a\/s=b\/s=c\/s=d:=by simpa[kids]using l
     rcases this with rfl|rfl|rfl|rfl<;>assumption
    refine w.imp id λh=>h.imp id λr=>?_;obtain⟨j,g,e⟩:=ZL.mp r;exact⟨j,g,by rw[Zp g,Zc g,e]⟩
theorem Pf{a b c d:Tr}(h1:¬(a=z/\b=z/\c=z/\d=z))(h2:¬(a=o/\b=o/\c=o/\d=o)):rT a b c d=.nd a b c d:=by
 unfold rT;rw[Zj h1,Zj h2]
theorem g8{L:List Tr}{a b c d:Tr}:nJ [name L a,name L b,name L c,name L d]<->(a=z/\b=z/\c=z/\d=z)\/(a=o/\b=o/\c=o/\d=o):=by
 constructor
 ·rintro(e|e)
  ·simp only[Xo,V1]at e;exact .inl ⟨oG e.1,oG e.2.1,oG e.2.2.1,oG e.2.2.2⟩
  ·simp only[Xo,V1]at e;exact .inr ⟨oE e.1,oE e.2.1,oE e.2.2.1,oE e.2.2.2⟩
 ·rintro(⟨rfl,rfl,rfl,rfl⟩|⟨rfl,rfl,rfl,rfl⟩)
  ·exact .inl rfl
  ·exact .inr rfl
end Qf
namespace Pr
open PySem L2 Qf
theorem kn:¬(("kept":ar)="numbers"):=by decide +kernel
def tw(k d:af):List (ar×V):=dS "numbers" (.ref d) (dS "kept" (.ref k) [])
theorem Kp(k d:af):(tw k d).lookup ("kept":ar)=some (.ref k):=by
 unfold tw;rw[xG,Zj kn,xG,Zn rfl]
theorem Gb(k d:af):(tw k d).lookup ("numbers":ar)=some (.ref d):=by
 unfold tw;rw[xG,Zn rfl]
theorem xk6(k d:af){m:ar}(h1:¬m="numbers")(h2:¬m="kept"):(tw k d).lookup m=none:=by
 unfold tw;rw[xG,Zj h1,xG,Zj h2]
 all_goals rfl
structure cW(C:af)(H:Hp)(p k d:af)(L:List Tr):Prop where
 ob:∃dx,H p=some (.ins C dx (tw k d))
 kp:bQ H k (Tr.rowsOf L)
 dc:H d=some (.dT (tK (Tr.rowsOf L)))
 od:Tr.Ord L
structure gY(K:PySem.W.Frag)(mg:ar->Option aa)(C:af):Prop where
 cl:rz K C
 nK:c6 K C "kept"
 nN:c6 K C "numbers"
 mgC:mg "Book"=some (.ref C)
def gX(k d:af)(H a:Hp):Prop:=∀b o,H b=some o->b≠k->b≠d->a b=some o
theorem gX.trans{k d:af}{H g i:Hp}(a:gX k d H g)(b:gX k d g i):gX k d H i:=λc o h f e=>b c o (a c o h f e) f e
theorem gX.of{k d:af}{H a:Hp}(s:aG H a):gX k d H a:=λb o h _ _=>s b o h
theorem xP7:aE ["self"] ["self"] (bq Ht):=cM
def Qq(C:af):Sp:=λb H Q _=>∃(p c:af),b=[.ref p]/\H p=some (.ins C c [])/\∀(k d:af)(a:Hp),H k=none->H d=none->cW C a p k d []->cu p H a->Q .ck a
theorem xI6{f C:af}{u:ak}(F:aO K "__init__" "Book.__init__" Ht f u)(T:gY K mg C):aB P w K mg base aK 1 f u ["self"] (Qq C):=by
 refine F.ok xP7 (λy H Q E h=>?_) (λD A j s H y Q E B h=>?_)
 ·obtain⟨p,c,rfl,_⟩:=h
  rfl
 ·obtain⟨p,c,rfl,t,q⟩:=h;refine aU ⟨_,⟨PH (pv 0) (jh aI) rfl⟩,?_⟩;refine eF ⟨_,⟨PH (pv 0) So rfl⟩,?_⟩;refine⟨(by show 0<=sizeLine;decide),λk hk=>?_⟩;have m:p≠k:=cK t hk;refine⟨_,rfl,p,C,c,[],rfl,(by rw[bj m];exact t),T.cl,T.nK,(by show 0<1000;decide),λd g=>?_⟩;have n:upd (upd H k (.lst [])) p (.ins C c (dS "kept" (.ref k) [])) k=some (.lst []):=by rw[bj (YK m),aZ]
  have v:k≠d:=cK n g;have l:p≠d:=cK aZ g;have a:H d=none:=by
   rw[bj (YK l),bj (YK v)]at g;exact g
  refine⟨_,rfl,p,C,c,_,rfl,(by rw[bj l];exact aZ),T.cl,T.nN,(by show 1<1000;decide),?_⟩;refine q k d _ hk a ⟨⟨c,aZ⟩,⟨[],?_,rfl,λi b r e=>by simp at e⟩,?_,Tr.fv⟩ λb o e x=>?_
  ·rw[bj (YK m),bj v];exact n
  ·rw[bj (YK l),aZ];rfl
  ·rw[bj x,bj (cK e a),bj x,bj (cK e hk)];exact e
theorem xP8:aE ["self","row"] ["self","row"] (bq Ck):=cM
def Qp(C:af):Sp:=λh H Q _=>∃(p k d b:af)(L:List Tr)(e f c a:Tr),h=[.ref p,.ref b]/\cW C H p k d L/\H b=some (.tup (vN [Tr.name L e,Tr.name L f,Tr.name L c,Tr.name L a]))/\Tr.In L e/\Tr.In L f/\Tr.In L c/\Tr.In L a/\L.length<=1190990 /\
 ∀g,gX k d H g->cW C g p k d (ins (rT e f c a) L)->Q (.int (Tr.name (ins (rT e f c a) L) (rT e f c a):Nat)) g
theorem xI8{f fP C:af}{fd gG:ak}(F:aO K "number_for" "Book.number_for" Ck f fd)(B:fk mg)(Tc:mU mg)(T:gY K mg C)
  (hP:mg "is_plain"=some (.ref fP)) (FP:aO K "is_plain" "is_plain" xl fP gG) (bP:Binds K gG ["row"] []):aB P w K mg base aK 3 f fd ["self","row"] (Qp C):=by
 have GP:aB P w K mg base aK 2 fP gG ["row"] KW:=R_ FP Tc;obtain⟨tf,wN⟩:=Tc.first;refine F.ok xP8 (λvs H Q E h=>?_) (λbJ A outer s H vs Q E hr h=>?_)
 ·obtain⟨p,k,d,b,L,l,m,g,n,rfl,_⟩:=h
  rfl
 ·obtain⟨p,k,d,b,L,l,m,g,n,rfl,hB,hb,i0,i1,i2,i3,hL,q⟩:=h;have hu:A.units+3+1<cLine:=by
   have h2:A.units+3+16*2+200<cLine:=hr.un;lia
  refine aU ⟨_,⟨eI (lq (bz GP hr hP FP.kp bP (aF (pv 1) aI))) (cN (cx (cI fQ (pv 1) aN))) eM⟩,?_⟩;refine aU ⟨_,⟨eI (G_ (S_ hu (pv 1) (zR (pv 0) rfl)))
   (lP.go (.cons ⟨Hw hu (zR (pv 0) rfl) (pv 1) (bg gO (dw s_ (by rfl) B.len YN (aF (zR (pv 0) rfl) aI)) (gx (v:=.int 2) (by rfl) wN ⟨_,rfl⟩)) (by rfl)⟩
    (.one ⟨ir (uU Yy Yp Yq sZ (zR (pv 0) rfl) (aF (pv 1) aI))⟩))) eM⟩,?_⟩
  refine eF ⟨_,⟨cx (Hy hu (zR (pv 0) rfl) (pv 1) (λ_ _=>rfl))⟩,?_⟩;refine⟨_,rfl,b,_,rfl,hb,rfl,λt G=>⟨_,rfl,?_⟩⟩;obtain⟨⟨dx,hp⟩,⟨bs,hk,jV,jE⟩,hd,R⟩:=id hB;have Y:cW C t p k d L:=⟨⟨dx,G _ _ hp⟩,⟨bs,G _ _ hk,jV,λi c r J I=>G _ _ (jE i c r J I)⟩,G _ _ hd,R⟩;have y:=G _ _ hb;refine cC (λhc=>?_) (λhc=>?_)
  ·rcases g8.mp (ZE hc)with⟨rfl,rfl,rfl,rfl⟩|⟨rfl,rfl,rfl,rfl⟩
   ·exact⟨_,rfl,b,_,0,.int (0:Nat),rfl,rfl,bf.of y,rfl,q t (gX.of G) Y⟩
   ·exact⟨_,rfl,b,_,0,.int (1:Nat),rfl,rfl,bf.of y,rfl,q t (gX.of G) Y⟩
  ·have hn:=λz=>hc (Zv (g8 (L:=L).mpr z));have em:rT l m g n=.nd l m g n:=Pf (λz=>hn (.inl z)) (λz=>hn (.inr z));rw[em]at q;have DZ:∀s∈Tr.kids (.nd l m g n),Tr.In L s:=λs hs=>by
    have:s=l\/s=m\/s=g\/s=n:=by simpa[Tr.kids]using hs
    rcases this with rfl|rfl|rfl|rfl<;>assumption
   have jX:=Qd R DZ;have lE:(Tr.kids (.nd l m g n)).map (Tr.name L)=[Tr.name L l,Tr.name L m,Tr.name L g,Tr.name L n]:=rfl;rw[lE]at jX;have Ij:t b=some (.tup ((dM [Tr.name L l,Tr.name L m,Tr.name L g,Tr.name L n]).map kV)):=by rw[sQ];exact y
   obtain⟨⟨O,D⟩,⟨x,N,yt,DE⟩,M,_⟩:=id Y;refine⟨_,rfl,_,rfl,p,C,O,_,_,rfl,D,T.cl,T.nN,Gb _ _,d,_,rfl,dE.t M Ij,_,rfl,?_⟩;rw[Jz];by_cases S:[Tr.name L l,Tr.name L m,Tr.name L g,Tr.name L n]∈Tr.rowsOf L
   ·rw[Zn S];refine cB ?_;have X:=jX.mp S;have W:ins (.nd l m g n) L=L:=by unfold ins;rw[Zn (.inr (.inr X))]
    rw[W]at q;exact⟨_,rfl,p,C,O,_,_,rfl,D,T.cl,T.nN,Gb _ _,_,rfl,d,_,rfl,GJ R X M y,q t (gX.of G) Y⟩
   ·rw[Zj S];refine dy ?_;have X:Tr.nd l m g n∉L:=λz=>S (jX.mpr z);have W:ins (.nd l m g n) L=L++[.nd l m g n]:=by
     unfold ins;rw[Zj];rintro(z|z|z)
     ·cases z
     ·cases z
     ·exact X z
    have O5:=xx2 R i0 i1 i2 i3;rw[em,W]at O5;rw[W]at q;have er:=Kq R DZ;rw[lE]at er;have jC:(tK (Tr.rowsOf L)).length=L.length:=by unfold tK;rw[zw,Tr.aH]
    have Ek:(x.map V.ref).length=L.length:=by rw[Ze,yt,Tr.aH]
    have CJ:p≠d:=λz=>by rw[z,M]at D;cases D
    have CP:k≠d:=λz=>by rw[z,M]at N;cases N
    have tH:p≠k:=λz=>by rw[z,N]at D;cases D
    have nbd:b≠d:=λz=>by rw[z,M]at y;cases y
    have nbk:b≠k:=λz=>by rw[z,N]at y;cases y
    have dq:=iJ.t (v:=.int (((x.map V.ref).length:Int)+2)) M Ij (by rw[jC];exact jg 'a');refine⟨_,rfl,p,C,O,_,_,rfl,D,T.cl,T.nK,Kp _ _,k,_,rfl,.inl (bZ.of N),_,_,rfl,rfl,_,rfl,p,C,O,_,_,rfl,D,T.cl,T.nN,Gb _ _,_,rfl,d,_,rfl,dq,?_⟩;have qZ:putK (tK (Tr.rowsOf L)) (dM [Tr.name L l,Tr.name L m,Tr.name L g,Tr.name L n]) (.int (((x.map V.ref).length:Int)+2))=tK (Tr.rowsOf (L++[.nd l m g n])):=by
     have h1:=R5 (key:=dM) (k:=2) (λa b=>BR) S;rw[er,Ek];unfold tK;rw[<- h1,Tr.aH];congr 2;lia
    rw[qZ];have jS:upd t d (.dT (tK (Tr.rowsOf (L++[.nd l m g n])))) p=some (.ins C O (tw k d)):=by rw[bj CJ];exact D
    have U:upd t d (.dT (tK (Tr.rowsOf (L++[.nd l m g n])))) k=some (.lst (x.map V.ref)):=by rw[bj CP];exact N
    refine⟨_,rfl,p,C,O,_,_,rfl,jS,T.cl,T.nK,Kp _ _,.inl ⟨rfl,_,bZ.of U⟩,_,rfl,k,_,.ref b,rfl,rfl,U,by rw[Ek];exact jg 'a',?_⟩;have vn:∀{c:af}{u:List V},t c=some (.tup u)->upd (upd t d (.dT (tK (Tr.rowsOf (L++[.nd l m g n]))))) k (.lst (x.map V.ref++[.ref b])) c=some (.tup u):=λ{c u} e=>by
     have n1:c≠k:=λz=>by rw[z,N]at e;cases e
     have n2:c≠d:=λz=>by rw[z,M]at e;cases e
     rw[bj n1,bj n2];exact e
    have B3:cW C (upd (upd t d (.dT (tK (Tr.rowsOf (L++[.nd l m g n]))))) k (.lst (x.map V.ref++[.ref b]))) p k d (L++[.nd l m g n]):=by
     refine⟨⟨O,by rw[bj tH];exact jS⟩,⟨x++[b],by rw[aZ,K8],?_,?_⟩,by rw[bj (YK CP),aZ],O5⟩
     ·rw[Zl,yt,Tr.aH,Tr.aH,Zl];rfl
     ·intro j c r J I;rw[er]at I;have El:x.length=L.length:=by rw[yt,Tr.aH]
      by_cases hj:j<L.length
      ·rw[Zp 'a']at J;rw[Zp (by rw[Tr.aH];exact hj)]at I;exact vn (DE j c r J I)
      ·rw[Zx 'a']at J;rw[Zx (by rw[Tr.aH];lia)]at I;have vT:j-x.length=0:=by
        have:=(cf J).1;simp at this;lia
       have MY:j-(Tr.rowsOf L).length=0:=by rw[Tr.aH];lia
       rw[vT]at J;rw[MY]at I;have ec:c=b:=by simpa using J.symm
       have NY:r=[Tr.name L l,Tr.name L m,Tr.name L g,Tr.name L n]:=by simpa using I.symm
       rw[ec,NY];exact vn y
    have Ej:=vn y;have X3:gX k d t (upd (upd t d (.dT (tK (Tr.rowsOf (L++[.nd l m g n]))))) k (.lst (x.map V.ref++[.ref b]))):=λc o e n1 n2=>by rw[bj n1,bj n2];exact e
    generalize upd (upd t d (.dT (tK (Tr.rowsOf (L++[.nd l m g n]))))) k (.lst (x.map V.ref++[.ref b]))=H3 at B3 Ej X3 ⊢;obtain⟨⟨dx3,vB⟩,_,kE,_⟩:=id B3;have Z:∀s,Tr.In L s->Tr.name (L++[.nd l m g n]) s=Tr.name L s:=λs hs=>Tr.dm hs R;exact⟨_,rfl,p,C,dx3,_,_,rfl,vB,T.cl,T.nN,Gb _ _,_,rfl,d,_,rfl,GJ (a:=l) (b:=m) (c:=g) (d:=n) O5 'c' kE (by rw[Ej,Z l i0,Z m i1,Z g i2,Z n i3]),q H3 ((gX.of G).trans X3) B3⟩
end Pr
namespace Qf
open Tr
theorem Qb{rows:List Row}(ok:dY rows){q:Nat}(b:q<rows.length+2):(T rows q=z<->q=0)/\(T rows q=o<->q=1):=by
 by_cases a:q<2
 ·match q,a with
  |0,_=>rw[lj];exact⟨⟨λ_=>rfl,λ_=>rfl⟩,⟨λh=>(nomatch h),λh=>(nomatch h)⟩⟩
  |1,_=>rw[lh];exact⟨⟨λh=>(nomatch h),λh=>(nomatch h)⟩,⟨λ_=>rfl,λ_=>rfl⟩⟩
 ·obtain⟨e,g,d,f,i,rfl,c⟩:=rF ok b a;rw[l9 ok c];exact⟨⟨λh=>(nomatch h),λh=>by lia⟩,⟨λh=>(nomatch h),λh=>by lia⟩⟩
theorem BY{n top:Nat}{rows:List Row}(c:Canon n top rows):dep (T rows top)<=n:=by
 obtain⟨d,b⟩:=Gh c;obtain⟨a,e⟩:=cj (T rows top) [] fv;have h:=xq a _ e;rw[<- d,<- b]at h;rw[<- h];exact c.deep
def qr(i:Nat):Tr->Tr
 |.nd a b c d=>[a,b,c,d].getD i .z
 |t=>t
theorem ES{rows:List Row}(ok:dY rows){p i:Nat}{r:Row}{x:Nat}(f:rows[p]?=some r)(g:i<4)(e:r[i]?=some x):T rows x=qr i (T rows (p+2)):=by
 obtain⟨a,b,c,d,rfl⟩:=xr (ok p r f).1;rw[l9 ok f]
 match i,g with
 |0,_=>cases e;rfl
 |1,_=>cases e;rfl
 |2,_=>cases e;rfl
 |3,_=>cases e;rfl
theorem uG{i k:Nat}(g:i<4):∀(t:Tr),dep t<=k+1->dep (qr i t)<=k
 |.z,_=>Zs _
 |.o,_=>Zs _
 |.nd a b c d,h=>by
  have e:mx [dep a,dep b,dep c,dep d]<=k:=by
   have:1+mx [dep a,dep b,dep c,dep d]<=k+1:=h;lia
  have m:∀x∈[dep a,dep b,dep c,dep d],x<=k:=λx f=>ZD (Cw f) e
  match i,g with
  |0,_=>exact m (dep a) 'c'
  |1,_=>exact m (dep b) 'c'
  |2,_=>exact m (dep c) 'c'
  |3,_=>exact m (dep d) 'c'
theorem mJ:∀{t:Tr},dep t<=0->t=.z\/t=.o
 |.z,_=>.inl rfl
 |.o,_=>.inr rfl
 |.nd a b c d,h=>by
  have:1+mx [dep a,dep b,dep c,dep d]<=0:=h;lia
def neg:Tr->Tr
 |.z=>.o
 |.o=>.z
 |.nd a b c d=>.nd (neg a) (neg b) (neg c) (neg d)
theorem BD:∀t,neg (neg t)=t
 |.z=>rfl
 |.o=>rfl
 |.nd a b c d=>by
  show Tr.nd (neg (neg a)) (neg (neg b)) (neg (neg c)) (neg (neg d))=_;rw[BD a,BD b,BD c,BD d]
theorem BC:∀t,dep (neg t)=dep t
 |.z=>rfl
 |.o=>rfl
 |.nd a b c d=>by
  show 1+mx [dep (neg a),dep (neg b),dep (neg c),dep (neg d)]=1+mx [dep a,dep b,dep c,dep d];rw[BC a,BC b,BC c,BC d]
theorem nq{t:Tr}:neg t=z<->t=o:=by cases t<;>simp[neg]
theorem nr{t:Tr}:neg t=o<->t=z:=by cases t<;>simp[neg]
theorem BB:∀{t:Tr},Red t->Red (neg t)
 |.z,_=>trivial
 |.o,_=>trivial
 |.nd a b c d,h=>by
  obtain⟨h1,h2,g,hb,f,i⟩:=h;refine⟨λe=>h2 ?_,λe=>h1 ?_,BB g,BB hb,BB f,BB i⟩
  ·exact⟨nq.mp e.1,nq.mp e.2.1,nq.mp e.2.2.1,nq.mp e.2.2.2⟩
  ·exact⟨nr.mp e.1,nr.mp e.2.1,nr.mp e.2.2.1,nr.mp e.2.2.2⟩
theorem xI9{rows:List Row}{p:Nat}{r:Row}(h:rows[p]?=some r):(fI rows)[p]?=some (r.map ex):=by
 unfold fI;rw[Zf,h];rfl
theorem xx3{q:Nat}(h:¬q<2):ex q=q:=Zj h
theorem xP9{rows:List Row}(ok:dY rows):∀x,x<rows.length+2->T (fI rows) (ex x)=neg (T rows x):=by
 intro x
 induction x using Nat.strongRecOn with
 |ind x h=>
  intro e;by_cases z:x<2
  ·match x,z with
   |0,_=>rw[lj];exact lh _
   |1,_=>rw[lh];exact lj _
  ·obtain⟨p,a,b,c,d,rfl,f⟩:=rF ok e z;have g:=(ok p _ f).2;have m:=(cf f).1;have l:=g a 'c';have i:=g b 'c';have k:=g c 'c';have j:=g d 'c';rw[xx3 z,l9 ok f,l9 (Lh ok) (xI9 f),h a l (md l e),h b i (md i e),h c k (md k e),h d j (md j e)]
   rfl
theorem xx4{L:List Tr}{t:Tr}(h:uH L)(b:Red t):uH (ins t L):=by
 unfold ins;split
 ·exact h
 ·intro u a;rcases YQ.mp a with z|z
  ·exact h u z
  ·have:u=t:=by simpa using z
   rw[this];exact b
end Qf
namespace L2
open PySem
theorem xb1{H:Hp}{n k:Nat}{g:TG}{x:TT}{te:TE}{σ:St}{Fin:Hp->Prop}{D:af}(f:Nat->List V->Hp->Prop)(hsz:n<sizeLine)(i0:f 0 [] (upd H D (.lst [])))(B:∀i a c,f i a c->c D=some (.lst a)/\a.length<=i)
  (step:∀i a c,i<n->f i a c->∀j:St,j.length=k->∀(A:Hp->Prop)(w:VK),(∀d,f (i+1) a d->A d)->(∀v d,d D=some (.lst a)->f (i+1) (a++[v]) (upd d D (.lst (a++[v])))->w v d) ->
   g (.int (0+(i:Int))) (j++σ) c λr t=>x r t λb p=>if b=true then te r p w else A p)
  (fin:∀a c,f n a c->Fin c):
  ∃W:Nat->Nat->List V->Hp->Prop,(∃m,W 0 m [] (upd H D (.lst []))) /\
   ∀i m a c,W i m a c->c D=some (.lst a)/\a.length<sizeLine/\(((mf 0 n).stop i c/\Fin c)\/((mf 0 n).go i c/\∀y d,(mf 0 n).iK i c y d->∀j:St,j.length=k ->
    g y (j++σ) d λr t=>x r t λb p=>if b=true then te r p λv s=>s D=some (.lst a)/\∃q,q<m/\W (i+1) q (a++[v]) (upd s D (.lst (a++[v])))else ∃q,q<m/\W (i+1) q a p)):=by
 refine⟨λi m a c=>i<=n/\m=n-i/\f i a c,⟨n,Zs _,rfl,i0⟩,?_⟩;rintro i m a c ⟨l,rfl,u⟩;obtain⟨h1,h2⟩:=B i a c u;refine⟨h1,xU hsz l h2,?_⟩;by_cases e:i=n
 ·subst e;exact .inl ⟨Zg i,fin a c u⟩
 ·refine .inr ⟨show i<n from mB l e,λy d G j F=>?_⟩;obtain⟨E,C⟩:=G;rw[E,C];exact step i a c (mB l e) u j F _ _ (λp h=>⟨n-(i+1),qx l e,qz l e,rfl,h⟩) λv s h1 h2=>⟨h1,n-(i+1),qx l e,qz l e,rfl,h2⟩
theorem RW{H:Hp}{n:Nat}{te:TE}{σ:St}{Fin:Hp->Prop}{D:af}(d:Nat->List V->Hp->Prop)(hsz:n<sizeLine)(i0:d 0 [] (upd H D (.lst [])))(l:∀i a b,d i a b->b D=some (.lst a)/\a.length<=i)
  (step:∀i a b,i<n->d i a b->∀j:VK,(∀v c,c D=some (.lst a)->d (i+1) (a++[v]) (upd c D (.lst (a++[v])))->j v c)->te (some (.int (0+(i:Int)))::σ) b j)
  (fin:∀a b,d n a b->Fin b):
  ∃W:Nat->Nat->List V->Hp->Prop,(∃m,W 0 m [] (upd H D (.lst []))) /\
   ∀i m a b,W i m a b->b D=some (.lst a)/\a.length<sizeLine/\(((mf 0 n).stop i b/\Fin b)\/((mf 0 n).go i b/\∀y c,(mf 0 n).iK i b y c ->
    te (some y::σ) c λv k=>k D=some (.lst a)/\∃h,h<m/\W (i+1) h (a++[v]) (upd k D (.lst (a++[v]))))):=by
 refine⟨λi m a b=>i<=n/\m=n-i/\d i a b,⟨n,Zs _,rfl,i0⟩,?_⟩;rintro i m a b ⟨f,rfl,g⟩;obtain⟨h1,h2⟩:=l i a b g;refine⟨h1,xU hsz f h2,?_⟩;by_cases e:i=n
 ·subst e;exact .inl ⟨Zg i,fin a b g⟩
 ·refine .inr ⟨show i<n from mB f e,λy c r=>?_⟩;obtain⟨q,p⟩:=r;rw[q,p];exact step i a b (mB f e) g _ λv s h1 h2=>⟨h1,n-(i+1),qx f e,qz f e,rfl,h2⟩
end L2
namespace Pr
open PySem L2 Qf
structure rA(mg:ar->Option aa):Prop where
 abs:mg "abs"=none
 repr:mg "repr"=none
 str:mg "str"=none
theorem m6:aE ["_law_pot_here","_law_many_here","_law_digit_here"] ["_law_pot_here","_law_many_here"] (bq xk):=cM
inductive o9(vs:List V)(H:Hp)(Q:VK):Prop
 |mk(p:af)(n:Nat)(e0:vs=[.ref p,.int (n:Nat)])(e1:br H p)(e2:0<n)(e3:n<1000000)(e4:∀(d:Nat)(H':Hp),d<n->cu p H H'->br H' p->Q (.int (d:Nat)) H')
def zk:Sp:=λa H Q _=>o9 a H Q
theorem Fz{f:af}{k:ak}(F:aO K "_law_digit" "_law_digit" xk f k):aB P w K mg base aK 1 f k ["_law_pot_here","_law_many_here"] zk:=by
 refine F.ok m6 (λB H Q E h=>?_) (λO A j s H B Q E N h=>?_)
 ·obtain⟨p,n,rfl,_⟩:=h
  rfl
 ·obtain⟨p,n,rfl,⟨a,b,c,r,hb,C⟩,l,M,q⟩:=h;refine⟨_,fY (eI (fu CA (cI pR (pv 0) aN) aN (dh _))
    (fY (dk 2 m6.nd (bg sT (cI pR (pv 0) aN) (pv 1)))
    (fY (sV (bg pS (cI pR (pv 0) aN) (pv 1)) (Lr (pv 0) aN Sv))
    (cN (cx (pv 2))))) eM)
   (fY (sV (bg sT (bg gO (bg ng (cI pR (pv 0) aN) aN) aN) aN) (Lr (pv 0) aN Sv))
   (cN (cx (bg sT (bg pS (cI pR (pv 0) aN) aN) (pv 1))))),?_⟩
  have i:∀{m:Hp}{t:List V},m p=some (.lst t)->bZ K m p t:=λh=>bZ.of h;have g:∀(d x y:Int),0<=d->d<(n:Int)->0<=x->0<=y->y<2^40->Q (.int d) (upd H p (.lst [.int x,.int y])):=λd x y v L I D u=>by
   have:=q d.toNat (upd H p (.lst [.int x,.int y])) 'a' cu.upd ⟨x,y,aZ,I,D,u⟩
   rwa [show((d.toNat:Nat):Int)=d from Ra v]at this
  have e:(0:Int)<n:=by lia
  refine⟨_,rfl,p,_,0,_,rfl,rfl,i c,rfl,_,_,rfl,rfl,_,rfl,?_⟩;refine cC (λG=>?_) (λG=>?_)
  ·refine⟨_,rfl,p,_,0,_,rfl,rfl,i c,rfl,_,rfl,_,_,rfl,rfl,e,?_⟩;refine⟨_,rfl,p,_,0,_,rfl,rfl,i c,rfl,_,rfl,_,_,rfl,rfl,⟨e,by lia⟩,_,rfl,p,_,0,0,rfl,rfl,c,rfl,?_⟩;refine⟨_,rfl,?_⟩;exact g _ _ _ (V8 _ (QZ l)) (WL _ e) (Int.ediv_nonneg r u9) hb C
  ·refine⟨_,rfl,p,_,1,_,rfl,rfl,i c,rfl,_,_,rfl,rfl,.inl ⟨by lia,by lia⟩,_,_,rfl,rfl,_,_,rfl,rfl,(by show(0:Int)<2147483629;decide),_,rfl,p,_,1,1,rfl,rfl,c,rfl,?_⟩;have J:0<=(b*48271+8191)%2147483629/\(b*48271+8191)%2147483629<2147483629:=⟨V8 _ 'b',WL _ 'b'⟩;refine⟨_,rfl,p,_,1,_,rfl,rfl,i aZ,rfl,_,_,rfl,rfl,⟨by decide,by decide⟩,_,rfl,_,_,rfl,rfl,e,?_⟩;exact g _ _ _ (V8 _ (QZ l)) (WL _ e) r J.1 'a'
theorem pB:aE ["_law_script","_law_k","_law_cell"] ["_law_script","_law_k"] (bq tO):=cM
inductive wd(K:PySem.W.Frag)(vs:List V)(H:Hp)(Q:VK):Prop
 |mk(a:af)(k:Int)(ns:List Int)(e0:vs=[.ref a,.int k])(e1:bZ K H a (ns.map V.int))(e2:ns.length<=63)(e3:0<=k)(e4:k<=1000)(e5:∀(H':Hp)(p:af),aG H H'->H p=none->br H' p->Q (.ref p) H')
def Qo(K:PySem.W.Frag):Sp:=λa H Q _=>wd K a H Q
theorem xJ1{f:af}{i:ak}(F:aO K "_law_pot" "_law_pot" tO f i)(B:fk mg)(C:rA mg):aB P w K mg base aK 1 f i ["_law_script","_law_k"] (Qo K):=by
 refine F.ok pB (λr H Q E h=>?_) (λx A e s H r Q E t h=>?_)
 ·obtain⟨a,k,b,rfl,_⟩:=h
  rfl
 ·obtain⟨a,k,b,rfl,g,u,n,h1,q⟩:=h;refine aU ⟨_,⟨dk 2 pB.nd aN⟩,?_⟩;refine aU ⟨_,⟨eI (fu l_ (pv 1) (dw s_ (by rfl) B.len YN (aF (pv 0) aI)) (dh _)) (cN (dk 2 pB.nd (cI pR (pv 0) (pv 1)))) eM⟩,?_⟩;refine eF ⟨_,⟨cx (jh (bu.go (.cons ⟨dw (B0 rfl) (by rfl) B.max Y9 (aF aN (aF (bg gN (dw F_ (by rfl) C.abs We (aF (pv 2) aI)) (bg xD5 aN aN)) aI))⟩
    (.cons ⟨bg gO (bg gO (bg sT (dw F_ (by rfl) C.abs We (aF (pv 2) aI)) aN) (bg ng aN (pv 1))) aN⟩ .nil rfl) rfl)))⟩,?_⟩
  have d:∀(z:Int)(p:af),H p=none->Q (.ref p) (upd H p (.lst [.int (if(if z<0 then -z else z)-10^18>0 then(if z<0 then -z else z)-10^18 else 0),.int ((if z<0 then -z else z)%2147483629+97*k+1)])):=λz p c=>by
   refine q _ p (bo c) c ⟨_,_,aZ,?_,?_,?_⟩
   ·split<;>lia
   ·lia
   ·lia
  refine⟨_,rfl,_,rfl,a,_,rfl,.inl g,_,_,rfl,rfl,_,rfl,?_⟩;refine cC (λl=>?_) (λl=>?_)
  ·have hk:k<(b.length:Int):=by
    have:=ZE l;simpa using this
   have m:k.toNat<b.length:=by lia
   refine⟨_,rfl,_,rfl,a,_,k,.int (b[k.toNat]),rfl,rfl,g,?_,?_⟩
   ·have:=uP (xs:=b.map V.int) (j:=k.toNat) (v:=.int (b[k.toNat])) (by simp[m]);rw[show((k.toNat:Nat):Int)=k from Ra n]at this;exact this
   ·refine⟨_,rfl,_,rfl,_,_,rfl,rfl,⟨by decide,by decide,by decide⟩,_,_,rfl,rfl,_,_,rfl,?_⟩;exact⟨_,rfl,_,rfl,_,_,rfl,rfl,(by show(0:Int)<2147483629;decide),_,rfl,_,_,rfl,rfl,.inl ⟨by decide,by decide⟩,_,_,rfl,rfl,_,_,rfl,rfl,(by show 2<=sizeLine;decide),λp c=>d _ p c⟩
  ·refine⟨_,rfl,_,rfl,_,_,rfl,rfl,⟨by decide,by decide,by decide⟩,_,_,rfl,rfl,_,_,rfl,?_⟩;exact⟨_,rfl,_,rfl,_,_,rfl,rfl,(by show(0:Int)<2147483629;decide),_,rfl,_,_,rfl,rfl,.inl ⟨by decide,by decide⟩,_,_,rfl,rfl,_,_,rfl,rfl,(by show 2<=sizeLine;decide),λp c=>d _ p c⟩
end Pr
namespace Qf
def tq(n:Nat)(b:Row):Prop:=∃r c h w,b=[r,c,h,w]/\1<=h/\1<=w/\r+h<=2^n/\c+w<=2^n
def Ja(b:Row):Prop:=∃r c h w,b=[r,c,h,w]/\((h<=9/\w<=9)\/∃s i j,h=2^s/\w=2^s/\r=i*2^s/\c=j*2^s)
def xQ0(n:Nat)(bs:List Row):Prop:=(∀b∈bs,tq n b)/\((n<4/\bs.length<=64)\/(bs.length<=5/\∀b∈bs,Ja b))
theorem uL(k:Nat):(1:Int)*2^((k:Int)).toNat=((2^k:Nat):Int):=by
 rw[ZI,Int.one_mul];push_cast;rfl
theorem zt{n:Nat}(h:n<=12):2^n<=4096/\0<2^n:=⟨by
 have:=Wv (n:=2) 'b' h;simpa using this,YV 'b'⟩
end Qf
namespace Pr
open PySem L2 Qf
theorem gv:aE ["_law_pot_here","_law_n","_law_most","_law_side","_law_size","_law_row","_law_column","_law_high","_law_wide"] ["_law_pot_here","_law_n","_law_most"] (bq tP):=cM
inductive wu(vs:List V)(H:Hp)(Q:VK):Prop
 |mk(p:af)(n:Nat)(e0:vs=[.ref p,.int (n:Nat),.int 9])(e1:br H p)(e2:n<=12)(e3:∀(H':Hp)(t:af)(b:Row),cu p H H'->br H' p->H' t=some (.tup (vN b))->tq n b->Ja b->Q (.ref t) H')
def I_:Sp:=λa H Q _=>wu a H Q
theorem xJ2{f J:af}{fd O:ak}(F:aO K "_law_box" "_law_box" tP f fd)(B:fk mg)(k:mg "_law_digit"=some (.ref J))(a:aO K "_law_digit" "_law_digit" xk J O)(l:Binds K O ["_law_pot_here","_law_many_here"] []):
  aB P w K mg base aK 2 f fd ["_law_pot_here","_law_n","_law_most"] I_:=by
 have g:aB P w K mg base aK 1 J O ["_law_pot_here","_law_many_here"] zk:=Fz a;refine F.ok gv (λvs H Q E h=>?_) (λbJ A R s H vs Q E e h=>?_)
 ·obtain⟨p,n,rfl,_⟩:=h
  rfl
 ·obtain⟨p,n,rfl,hp,b,q⟩:=h;refine aU ⟨_,⟨dk 3 gv.nd (bg nM aN (pv 1))⟩,?_⟩;refine aU ⟨_,⟨eI (fu tD (bz g e k a.kp l (aF (pv 0) (aF aN aI))) aN (dh _))
   (lP.go (.cons ⟨dk 4 gv.nd (bz g e k a.kp l (aF (pv 0) (aF (bg gO (pv 1) aN) aI)))⟩
    (.cons ⟨dk 5 gv.nd (bg ng (bz g e k a.kp l (aF (pv 0) (aF (bg nM aN (bg gN (pv 1) (pv 4))) aI))) (bg nM aN (pv 4)))⟩
    (.cons ⟨dk 6 gv.nd (bg ng (bz g e k a.kp l (aF (pv 0) (aF (bg nM aN (bg gN (pv 1) (pv 4))) aI))) (bg nM aN (pv 4)))⟩
    (.one ⟨cx (gf (bu.go (.cons ⟨pv 5⟩ (.cons ⟨pv 6⟩ (.cons ⟨bg nM aN (pv 4)⟩ (.cons ⟨bg nM aN (pv 4)⟩ .nil rfl) rfl) rfl) rfl)))⟩))))) eM⟩,?_⟩
  refine aU ⟨_,⟨dk 5 gv.nd (bz g e k a.kp l (aF (pv 0) (aF (pv 3) aI)))⟩,?_⟩;refine aU ⟨_,⟨dk 6 gv.nd (bz g e k a.kp l (aF (pv 0) (aF (pv 3) aI)))⟩,?_⟩;refine aU ⟨_,⟨dk 7 gv.nd (bg gO aN (bz g e k a.kp l (aF (pv 0) (aF (dw (xD rfl) (by rfl) B.min YJ (aF (pv 2) (aF (bg gN (pv 3) (pv 5)) aI))) aI))))⟩,?_⟩;refine aU ⟨_,⟨dk 8 gv.nd (bg gO aN (bz g e k a.kp l (aF (pv 0) (aF (dw (xD rfl) (by rfl) B.min YJ (aF (pv 2) (aF (bg gN (pv 3) (pv 6)) aI))) aI))))⟩,?_⟩;refine eF ⟨_,⟨cx (gf (bu.go (.cons ⟨pv 5⟩ (.cons ⟨pv 6⟩ (.cons ⟨pv 7⟩ (.cons ⟨pv 8⟩ .nil rfl) rfl) rfl) rfl)))⟩,?_⟩;obtain⟨p1,p2⟩:=zt b;refine⟨_,rfl,_,_,rfl,rfl,⟨u9,by lia,by decide⟩,?_⟩;refine⟨_,rfl,p,2,rfl,hp,by decide,by decide,λd H1 hd b1 kA=>⟨rfl,_,rfl,?_⟩⟩;refine cC (λhc=>?_) (λhc=>?_)
  ·refine⟨_,rfl,_,rfl,_,_,rfl,rfl,p,n+1,rfl,kA,by lia,by lia,λz H2 u G I=>?_⟩;have L:z<=n:=by lia
   obtain⟨s1,s2⟩:=zt (ZD L b);obtain⟨m1,W⟩:=zt (ZD (Nat.sub_le n z) b);have T:(1:Int)*2^((n:Int)-(z:Int)).toNat=((2^(n-z):Nat):Int):=by
    rw[<- uL (n-z)];congr 3;lia
   have ez:=uL z;have mC:2^(n-z)*2^z=2^n:=by rw[<- Uc];congr 1;lia
   refine⟨_,rfl,_,rfl,_,rfl,_,_,rfl,rfl,_,_,rfl,rfl,⟨QO u,QN b,by decide⟩,p,2^(n-z),Yi (λx=>[V.ref p,V.int x]) T,I,W,tN m1,λi H3 C M N=>?_⟩;refine⟨_,rfl,_,_,rfl,rfl,⟨u9,Fo u b,by decide⟩,_,_,rfl,rfl,.inl ⟨by lia,by lia⟩,?_⟩;refine⟨_,rfl,_,rfl,_,rfl,_,_,rfl,rfl,_,_,rfl,rfl,⟨QO u,QN b,by decide⟩,p,2^(n-z),Yi (λx=>[V.ref p,V.int x]) T,N,W,tN m1,λj H4 hj S D=>?_⟩;refine⟨_,rfl,_,_,rfl,rfl,⟨u9,Fo u b,by decide⟩,_,_,rfl,rfl,.inl ⟨by lia,by lia⟩,?_⟩;refine⟨_,rfl,_,rfl,_,rfl,_,_,rfl,rfl,⟨u9,Fo u b,by decide⟩,_,rfl,_,_,rfl,rfl,⟨u9,Fo u b,by decide⟩,(by show 4<=sizeLine;decide),λt v=>?_⟩;have y:∀i,i<2^(n-z)->i*2^z+2^z<=2^n:=λi C=>by
    rw[<- mC,<- X1];exact Xh _ C
   refine q _ t [i*2^z,j*2^z,2^z,2^z] ((((b1.trans G).trans M).trans S).trans (cu.of (bo v))) (D.same (bo v)) ?_ ⟨_,_,_,_,rfl,s2,s2,y i C,y j hj⟩ ⟨_,_,_,_,rfl,.inr ⟨z,i,j,rfl,rfl,rfl,rfl⟩⟩;rw[aZ];show some (HO.tup [V.int ((i:Int)*(1*2^((z:Int)).toNat)),V.int ((j:Int)*(1*2^((z:Int)).toNat)),V.int (1*2^((z:Int)).toNat),V.int (1*2^((z:Int)).toNat)])=some (HO.tup [V.int ((i*2^z:Nat):Int),V.int ((j*2^z:Nat):Int),V.int ((2^z:Nat):Int),V.int ((2^z:Nat):Int)]);rw[ez];push_cast
   rfl
  ·have Y:=uL n;have Z:[V.ref p,V.int ((1:Int)*2^((n:Int)).toNat)]=[V.ref p,V.int ((2^n:Nat):Int)]:=by rw[Y]
   refine⟨_,rfl,_,rfl,p,2^n,Z,kA,p2,tN p1,λr H2 X G I=>?_⟩;refine⟨_,rfl,_,rfl,p,2^n,Z,I,p2,tN p1,λc H3 vX M N=>?_⟩;have m:∀r:Nat,r<2^n->[V.ref p,V.int (if(1:Int)*2^((n:Int)).toNat-(r:Int)<9 then(1:Int)*2^((n:Int)).toNat-(r:Int)else 9)]=[V.ref p,V.int ((min 9 (2^n-r):Nat):Int)]:=λr e=>by
    rw[Y];congr 3;split<;>lia
   refine⟨_,rfl,_,rfl,_,rfl,_,rfl,_,_,rfl,rfl,_,_,rfl,p,min 9 (2^n-r),m r X,N,QY X,Q6,λh H4 U S D=>?_⟩;refine⟨_,_,rfl,rfl,?_⟩;refine⟨_,rfl,_,rfl,_,rfl,_,rfl,_,_,rfl,rfl,_,_,rfl,p,min 9 (2^n-c),m c vX,D,QY vX,Q6,λw' H5 hw b5 MD=>?_⟩;refine⟨_,_,rfl,rfl,?_⟩;refine⟨_,rfl,_,rfl,_,rfl,_,rfl,(by show 4<=sizeLine;decide),λt v=>?_⟩;refine q _ t [r,c,1+h,1+w'] (((((b1.trans G).trans M).trans S).trans b5).trans (cu.of (bo v))) (MD.same (bo v)) ?_ ⟨_,_,_,_,rfl,Ab,Ab,QS U,QS hw⟩ ⟨_,_,_,_,rfl,.inl ⟨QX U,QX hw⟩⟩;rw[aZ]
   rfl
end Pr
namespace Qf
open Tr
def xi(r c s:Nat)(b:Row):Bool:=decide (b.getD 0 0<r+s/\r<b.getD 0 0+b.getD 2 0/\c<b.getD 1 0+b.getD 3 0/\b.getD 1 0<c+s)
def hasB(r c s:Nat)(b:Row):Bool:=decide (b.getD 0 0<=r/\r+s<=b.getD 0 0+b.getD 2 0/\b.getD 1 0<=c/\c+s<=b.getD 1 0+b.getD 3 0)
def mk(a b c d:Tr):Tr:=if a=z/\b=z/\c=z/\d=z then z else if a=o/\b=o/\c=o/\d=o then o else .nd a b c d
def met(boxes:List Row)(r c s:Nat):List Row:=boxes.filter (xi r c s)
def bt:Nat->List Row->Nat->Nat->Tr
 |0,a,r,c=>if met a r c 1=[]then z else if(met a r c 1).any (hasB r c 1)then o else z
 |k+1,a,r,c=>if met a r c (2^(k+1))=[]then z else if(met a r c (2^(k+1))).any (hasB r c (2^(k+1)))then o else
   mk (bt k (met a r c (2^(k+1))) r c) (bt k (met a r c (2^(k+1))) r (c+2^k)) (bt k (met a r c (2^(k+1))) (r+2^k) c) (bt k (met a r c (2^(k+1))) (r+2^k) (c+2^k))
theorem xJ3{a b c d:Tr}(f:Red a)(hb:Red b)(hc:Red c)(e:Red d):Red (mk a b c d):=by
 unfold mk;split
 ·trivial
 ·split
  ·trivial
  ·exact⟨by assumption,by assumption,f,hb,hc,e⟩
theorem uF:∀(k:Nat)(a:List Row)(r c:Nat),Red (bt k a r c)
 |0,a,r,c=>by
  unfold bt;split
  ·trivial
  ·split<;>trivial
 |k+1,a,r,c=>by
  unfold bt;split
  ·trivial
  ·split
   ·trivial
   ·exact xJ3 (uF k _ _ _) (uF k _ _ _) (uF k _ _ _) (uF k _ _ _)
theorem xJ4{a b c d:Tr}{k:Nat}(g:dep a<=k)(hb:dep b<=k)(hc:dep c<=k)(f:dep d<=k):dep (mk a b c d)<=k+1:=by
 unfold mk;split
 ·show 0<=_;exact C_
 ·split
  ·show 0<=_;exact C_
  ·show 1+mx [dep a,dep b,dep c,dep d]<=k+1;have:=QA (l:=[dep a,dep b,dep c,dep d]) (b:=k) (by
    intro x e;have:x=dep a\/x=dep b\/x=dep c\/x=dep d:=by simpa using e
    rcases this with rfl|rfl|rfl|rfl<;>assumption)
   lia
theorem uE:∀(k:Nat)(a:List Row)(r c:Nat),dep (bt k a r c)<=k
 |0,a,r,c=>by
  unfold bt;split
  ·exact Zg 0
  ·split<;>exact Zg 0
 |k+1,a,r,c=>by
  unfold bt;split
  ·exact Zs _
  ·split
   ·exact Zs _
   ·exact xJ4 (uE k _ _ _) (uE k _ _ _) (uE k _ _ _) (uE k _ _ _)
def cq:Tr->Nat
 |.nd a b c d=>1+cq a+cq b+cq c+cq d
 |_=>0
theorem xp:∀(t:Tr)(e:List Tr),(post t e).length<=e.length+cq t
 |.z,e=>Zg _
 |.o,e=>Zg _
 |.nd a b c d,e=>by
  unfold post;split
  ·exact Xb _ _
  ·have h1:=xp a e;have h2:=xp b (post a e);have f:=xp c (post b (post a e));have g:=xp d (post c (post b (post a e)));rw[Zl];show _+1<=e.length+(1+cq a+cq b+cq c+cq d);lia
theorem xJ5(a b c d:Tr):cq (mk a b c d)<=1+cq a+cq b+cq c+cq d:=by
 unfold mk;split
 ·exact Zs _
 ·split
  ·exact Zs _
  ·exact Zg _
def sz:Nat->Nat
 |0=>0
 |k+1=>4*sz k+1
theorem zD:∀(k:Nat)(a:List Row)(r c:Nat),cq (bt k a r c)<=sz k
 |0,a,r,c=>by
  unfold bt;split
  ·exact Zs _
  ·split<;>exact Zs _
 |k+1,a,r,c=>by
  unfold bt;split
  ·exact Zs _
  ·split
   ·exact Zs _
   ·refine ZD (xJ5 _ _ _ _) ?_;have h1:=zD k (met a r c (2^(k+1))) r c;have h2:=zD k (met a r c (2^(k+1))) r (c+2^k);have b:=zD k (met a r c (2^(k+1))) (r+2^k) c;have d:=zD k (met a r c (2^(k+1))) (r+2^k) (c+2^k);show _<=4*sz k+1;lia
def dP:Nat->Tr->Nat->Nat->Bool
 |0,t,_,_=>decide (t=.o)
 |k+1,t,r,c=>dP k (qr (2*(r/2^k%2)+c/2^k%2) t) r c
theorem KU:∀k r c,dP k .o r c=true
 |0,_,_=>rfl
 |k+1,r,c=>KU k r c
theorem KS:∀k r c,dP k .z r c=false
 |0,_,_=>rfl
 |k+1,r,c=>KS k r c
theorem xQ1{a b c e:Tr}{i:Nat}(d:i<4):qr i (mk a b c e)=qr i (.nd a b c e):=by
 unfold mk;split
 ·rename_i h;obtain⟨rfl,rfl,rfl,rfl⟩:=h
  match i,d with
  |0,_|1,_|2,_|3,_=>rfl
 ·split
  ·rename_i h;obtain⟨rfl,rfl,rfl,rfl⟩:=h
   match i,d with
   |0,_|1,_|2,_|3,_=>rfl
  ·rfl
theorem EN{k i:Nat}(c y:Nat)(h:i<k):(2^k*c+y)/2^i%2=y/2^i%2:=by
 have e:2^k=2^i*(2*2^(k-i-1)):=by
  rw[<- Nat.pow_succ',<- Uc];congr 1;lia
 rw[e,Y5,X6 (YV 'b'),Y5];lia
theorem RV:∀(k:Nat)(t:Tr)(a b i j:Nat),dP k t (2^k*a+i) (2^k*b+j)=dP k t i j
 |0,_,_,_,_,_=>rfl
 |k+1,t,a,b,i,j=>by
  show dP k (qr _ t) _ _=dP k (qr _ t) _ _;rw[EN a i (Yb k),EN b j (Yb k)];have e:∀x y:Nat,2^(k+1)*x+y=2^k*(2*x)+y:=λx y=>by rw[YL,Y5]
  rw[e,e,RV k]
abbrev og(i j:Nat)(b:Row):Bool:=hasB i j 1 b
theorem xb2{i j u v s:Nat}{b:Row}(hs:0<s)(c:i/s=u)(a:j/s=v)(h:og i j b=true):xi (u*s) (v*s) s b=true:=by
 have h:=ZE h;have d:u*s<=i:=by rw[<- c];exact Wz i s
 have e:v*s<=j:=by rw[<- a];exact Wz j s
 have g:i<u*s+s:=by rw[<- c];have:=X4 i s;have:=YH i hs;rw[Yz s]at *;lia
 have f:j<v*s+s:=by rw[<- a];have:=X4 j s;have:=YH j hs;rw[Yz s]at *;lia
 exact Zv 'a'
theorem Qa{boxes:List Row}{i j u v s:Nat}(hs:0<s)(c:i/s=u)(a:j/s=v):(met boxes (u*s) (v*s) s).any (og i j)=boxes.any (og i j):=by
 unfold met;rw[List.any_filter,Ye,ZW,ZW];constructor
 ·rintro⟨b,hb,h⟩;exact⟨b,hb,(YO.mp h).2⟩
 ·rintro⟨b,hb,h⟩;exact⟨b,hb,YO.mpr ⟨xb2 hs c a h,h⟩⟩
theorem xx7{i j u v s:Nat}{b:Row}(hs:0<s)(c:i/s=u)(a:j/s=v)(h:hasB (u*s) (v*s) s b=true):og i j b=true:=by
 have h:=ZE h;have d:u*s<=i:=by rw[<- c];exact Wz i s
 have e:v*s<=j:=by rw[<- a];exact Wz j s
 have g:i<u*s+s:=by rw[<- c];have:=X4 i s;have:=YH i hs;rw[Yz s]at *;lia
 have f:j<v*s+s:=by rw[<- a];have:=X4 j s;have:=YH j hs;rw[Yz s]at *;lia
 exact Zv 'a'
theorem KR:∀(k:Nat)(c:List Row)(u v i j:Nat),i/2^k=u->j/2^k=v->dP k (bt k c (u*2^k) (v*2^k)) i j=c.any (og i j):=by
 intro k
 induction k with
 |zero=>
  intro c u v i j d e;rw[<- Qa (s:=2^0) 'b' d e];have m:u*2^0=i:=by rw[<- d];simp
  have ev:v*2^0=j:=by rw[<- e];simp
  rw[m,ev];show decide (bt 0 c i j=.o)=_;unfold bt;show decide ((if met c i j 1=[]then Tr.z else if(met c i j 1).any (hasB i j 1)then Tr.o else Tr.z)=Tr.o)=(met c i j 1).any (og i j);split
  ·rename_i h;rw[h];rfl
  ·split
   ·rename_i h;rw[h];rfl
   ·rename_i h;rw[show(met c i j 1).any (og i j)=false by simpa using h];rfl
 |succ k n=>
  intro c u v i j d e;have q:0<2^(k+1):=YV 'b';have hk:0<2^k:=YV 'b';rw[<- Qa q d e];unfold bt;split
  ·rename_i h;rw[h,KS];rfl
  ·split
   ·rename_i h;rw[KU];obtain⟨b,hb,w⟩:=ZW.mp h;exact(ZW.mpr ⟨b,hb,xx7 q d e w⟩).symm
   ·have p:2^(k+1)=2*2^k:=by rw[YL,Yz]
    have l:i/2^k=2*u+i/2^k%2:=by
     have:i/2^k/2=u:=by rw[WY,Yz,<- p];exact d
     exact QT this
    have g:j/2^k=2*v+j/2^k%2:=by
     have:j/2^k/2=v:=by rw[WY,Yz,<- p];exact e
     exact QT this
    generalize met c (u*2^(k+1)) (v*2^(k+1)) (2^(k+1))=B;show dP k (qr (2*(i/2^k%2)+j/2^k%2) (mk _ _ _ _)) i j=_;rw[xQ1 De];have m:∀x:Nat,x*2^(k+1)=2*x*2^k:=λx=>by rw[p,VR,<- Y5]
    have f:∀x:Nat,2*x*2^k+2^k=(2*x+1)*2^k:=λx=>(X1 (2*x) (2^k)).symm;rw[m,m,f,f];have r:i/2^k%2=0\/i/2^k%2=1:=by exact qo
    have t:j/2^k%2=0\/j/2^k%2=1:=by exact qo
    rcases r with a|a<;>rcases t with b|b<;>rw[a,b]<;>rw[a]at l<;>rw[b]at g
    ·exact n B (2*u) (2*v) i j (tL l) (tL g)
    ·exact n B (2*u) (2*v+1) i j (tL l) g
    ·exact n B (2*u+1) (2*v) i j l (tL g)
    ·exact n B (2*u+1) (2*v+1) i j l g
theorem xJ6:∀{s t:Tr},Red s->Red t->(∀i,i<4->qr i s=qr i t)->s=t
 |.z,.z,_,_,_=>rfl
 |.o,.o,_,_,_=>rfl
 |.z,.o,_,_,h=>h 0 'b'
 |.o,.z,_,_,h=>h 0 'b'
 |.nd a b c d,.nd m k l n,_,_,h=>by
  have g:a=m:=h 0 'b';have h1:b=k:=h 1 'b';have h2:c=l:=h 2 'b';have j:d=n:=h 3 'b';rw[g,h1,h2,j]
 |.z,.nd a b c d,_,f,h=>absurd ⟨(h 0 'b').symm,(h 1 'b').symm,(h 2 'b').symm,(h 3 'b').symm⟩ f.1
 |.o,.nd a b c d,_,f,h=>absurd ⟨(h 0 'b').symm,(h 1 'b').symm,(h 2 'b').symm,(h 3 'b').symm⟩ f.2.1
 |.nd a b c d,.z,e,_,h=>absurd ⟨h 0 'b',h 1 'b',h 2 'b',h 3 'b'⟩ e.1
 |.nd a b c d,.o,e,_,h=>absurd ⟨h 0 'b',h 1 'b',h 2 'b',h 3 'b'⟩ e.2.1
theorem Jv{i:Nat}(e:i<4):∀{t:Tr},Red t->Red (qr i t)
 |.z,_=>trivial
 |.o,_=>trivial
 |.nd a b c d,h=>by
  match i,e with
  |0,_=>exact h.2.2.1
  |1,_=>exact h.2.2.2.1
  |2,_=>exact h.2.2.2.2.1
  |3,_=>exact h.2.2.2.2.2
theorem KQ{k q i j:Nat}(d:q<4)(c:i<2^k)(b:j<2^k)(u:Tr):dP (k+1) u (2^k*(q/2)+i) (2^k*(q%2)+j)=dP k (qr q u) i j:=by
 have a:0<2^k:=YV 'b';show dP k (qr (2*((2^k*(q/2)+i)/2^k%2)+(2^k*(q%2)+j)/2^k%2) u) _ _=_;rw[X6 a,X6 a,Yw c,Yw b,RV];congr 2;lia
theorem Fy{k q i:Nat}(a:q<=1)(c:i<2^k):2^k*q+i<2^(k+1):=by
 have b:2^(k+1)=2^k*2:=YL ..;have:2^k*q<=2^k*1:=Vt _ a;lia
theorem RU:∀(k:Nat){s t:Tr},Red s->Red t->dep s<=k->dep t<=k->(∀i j,i<2^k->j<2^k->dP k s i j=dP k t i j)->s=t
 |0,s,t,_,_,d,b,h=>by
  have:=h 0 0 'b' 'b';rcases mJ d with rfl|rfl<;>rcases mJ b with rfl|rfl
  ·rfl
  ·exact absurd this 'b'
  ·exact absurd this 'b'
  ·rfl
 |k+1,s,t,f,g,d,b,h=>by
  refine xJ6 f g λq a=>RU k (Jv a f) (Jv a g) (uG a s d) (uG a t b) λi j e c=>?_;rw[<- KQ a e c,<- KQ a e c];exact h _ _ (Fy 'a' e) (Fy 'a' c)
def ub(i j:Nat)(f:Row):Bool:=decide (f.getD 0 0<=i/\i<f.getD 2 0/\f.getD 1 0<=j/\j<f.getD 3 0)
def fB(f:Row):Row:=[f.getD 0 0,f.getD 1 0,f.getD 2 0-f.getD 0 0,f.getD 3 0-f.getD 1 0]
def ft(k:Nat)(fs:List Row):Tr:=bt k (fs.map fB) 0 0
structure uq(s:Nat)(f:Row):Prop where
 l4:f.length=4
 h1:f.getD 0 0<f.getD 2 0
 h2:f.getD 1 0<f.getD 3 0
 h3:f.getD 2 0<=s
 h5:f.getD 3 0<=s
theorem Gz(k:Nat)(fs:List Row):Red (ft k fs):=uF k _ _ _
theorem Pe(k:Nat)(fs:List Row):dep (ft k fs)<=k:=uE k _ _ _
theorem P_{k:Nat}(fs:List Row){i j:Nat}(b:i<2^k)(a:j<2^k):dP k (ft k fs) i j=fs.any (ub i j):=by
 have:=KR k (fs.map fB) 0 0 i j (Yw b) (Yw a);rw[Nat.zero_mul]at this;unfold ft;rw[this,XC];congr 1;funext f;show decide _=decide _;refine Vf.mpr ?_;show(f.getD 0 0<=i/\i<f.getD 0 0+(f.getD 2 0-f.getD 0 0)/\f.getD 1 0<=j/\j<f.getD 1 0+(f.getD 3 0-f.getD 1 0))<->_;lia
theorem Gy{k:Nat}{fs:List Row}{t:Tr}(c:Red t)(d:dep t<=k)(h:∀i j,i<2^k->j<2^k->fs.any (ub i j)=dP k t i j):ft k fs=t:=
 RU k (Gz k fs) c (Pe k fs) d λi j b a=>by rw[P_ fs b a,h i j b a]
theorem Pd(k:Nat):ft k []=.z:=Gy True.intro (Zs _) λi j _ _=>by rw[KS];rfl
theorem Pc{k:Nat}{fs:List Row}(h:[0,0,2^k,2^k]∈fs):ft k fs=.o:=Gy True.intro (Zs _) λi j b a=>by
 rw[KU];exact ZW.mpr ⟨_,h,Zv ⟨Zs _,b,Zs _,a⟩⟩
theorem xJ7{fs:List Row}(d:fs≠[])(h:∀f∈fs,uq 1 f):[0,0,2^0,2^0]∈fs:=by
 cases fs with
 |nil=>exact absurd rfl d
 |cons f fs=>
  obtain⟨g,a,b,e,c⟩:=h f ZC;obtain⟨x,y,u,v,rfl⟩:=L2.zW g;simp only[Yu,Yv]at a b e c;obtain⟨rfl,rfl,rfl,rfl⟩:x=0/\y=0/\u=1/\v=1:=by lia
  exact ZC
theorem xJ8{t:Tr}(h:Red t):rT (qr 0 t) (qr 1 t) (qr 2 t) (qr 3 t)=t:=by
 cases t with
 |z=>rfl
 |o=>rfl
 |nd a b c d=>exact Pf h.1 h.2.1
theorem xJ9(t:Tr):cq (qr 0 t)+cq (qr 1 t)+cq (qr 2 t)+cq (qr 3 t)<=cq t:=by
 cases t with
 |z=>exact Zg 0
 |o=>exact Zg 0
 |nd a b c d=>
  show cq a+cq b+cq c+cq d<=1+cq a+cq b+cq c+cq d;lia
def n6(i j:Int)(f:List Int):Bool:=decide (f.getD 0 0<=i/\i<f.getD 2 0/\f.getD 1 0<=j/\j<f.getD 3 0)
def lg(f:Row):List Int:=f.map λx:Nat=>(x:Int)
theorem K7{f:Row}(h:f.length=4)(i j:Nat):n6 i j (lg f)=ub i j f:=by
 obtain⟨x,y,u,v,rfl⟩:=L2.zW h;refine Vf.mpr ?_;show((x:Int)<=i/\(i:Int)<u/\(y:Int)<=j/\(j:Int)<v)<->(x<=i/\i<u/\y<=j/\j<v);lia
structure Wi(r c:Int)(s:Nat)(fs:List (List Int))(gs:List Row):Prop where
 ok:∀g∈gs,uq s g
 len:gs.length<=fs.length
 og:∀i j:Nat,i<s->j<s->gs.any (ub i j)=fs.any (n6 (r+i) (c+j))
theorem xQ2{k q:Nat}(a:q<4){fs d:List Row}(g:∀f∈fs,f.length=4)(w:Wi ((2^k*(q/2):Nat):Int) ((2^k*(q%2):Nat):Int) (2^k) (fs.map lg) d):ft k d=qr q (ft (k+1) fs):=by
 refine Gy (Jv a (Gz _ _)) (uG a _ (Pe _ _)) λi j c b=>?_;rw[<- KQ a c b,P_ fs (Fy 'a' c) (Fy 'a' b),w.og i j c b,XC];rw[Ye,ZW,ZW];refine exists_congr λf=>WH λe=>?_;have:=K7 (g f e) (2^k*(q/2)+i) (2^k*(q%2)+j);rw[<- this];show n6 (_+_) (_+_) _=true<->_;rw[X7,X7]
end Qf
namespace Qf
def rR(x:Int):Int:=if 0>x then 0 else x
def rS(x s:Int):Int:=if s<x then s else x
def Av(r c s x y u v:Int):List Int:=[rR (x-r),rR (y-c),rS (u-r) s,rS (v-c) s]
def iV(r c s:Int)(f:List Int):List Int:=Av r c s (f.getD 0 0) (f.getD 1 0) (f.getD 2 0) (f.getD 3 0)
def zZ(r c s:Int)(f:List Int):Bool:=decide ((iV r c s f).getD 0 0<(iV r c s f).getD 2 0)&&decide ((iV r c s f).getD 1 0<(iV r c s f).getD 3 0)
theorem Qn(x:Int):0<=rR x:=by unfold rR;split<;>lia
theorem Qm(x s:Int):rS x s<=s:=by unfold rS;split<;>lia
theorem Pb(x i:Int):0<=i->(rR x<=i<->x<=i):=λh=>by unfold rR;split<;>lia
theorem Pa(x s i:Int):i<s->(i<rS x s<->i<x):=λh=>by unfold rS;split<;>lia
def jj(l:List Int):Row:=l.map Int.toNat
theorem Gx{r c:Int}{s:Nat}{f:List Int}(h:zZ r c s f=true):uq s (jj (iV r c s f))/\lg (jj (iV r c s f))=iV r c s f:=by
 obtain⟨h1,h2⟩:=YO.mp h;have h1:=ZE h1;have h2:=ZE h2;unfold iV Av at *;simp only[Yu,Yv]at h1 h2;have a:=Qn (f.getD 0 0-r);have b:=Qn (f.getD 1 0-c);have e:=Qm (f.getD 2 0-r) s;have d:=Qm (f.getD 3 0-c) s;generalize rR (f.getD 0 0-r)=x,rR (f.getD 1 0-c)=y,rS (f.getD 2 0-r) s=u,rS (f.getD 3 0-c) s=v at *;refine⟨⟨rfl,?_,?_,?_,?_⟩,?_⟩
 ·show x.toNat<u.toNat;lia
 ·show y.toNat<v.toNat;lia
 ·show u.toNat<=s;lia
 ·show v.toNat<=s;lia
 ·show[((x.toNat:Nat):Int),((y.toNat:Nat):Int),((u.toNat:Nat):Int),((v.toNat:Nat):Int)]=_;rw[WA a,WA b,WA 'a',WA 'a']
theorem KP{r c:Int}{s i j:Nat}(b:i<s)(a:j<s)(f:List Int):n6 i j (iV r c s f)=n6 (r+i) (c+j) f:=by
 refine Vf.mpr ?_;show(rR (f.getD 0 0-r)<=(i:Int)/\(i:Int)<rS (f.getD 2 0-r) s/\rR (f.getD 1 0-c)<=(j:Int)/\(j:Int)<rS (f.getD 3 0-c) s)<->_;rw[Pb _ _ 'a',Pb _ _ 'a',Pa _ _ _ 'a',Pa _ _ _ 'a'];lia
theorem xK2{r c:Int}{s i j:Nat}(b:i<s)(a:j<s){f:List Int}(h:n6 (r+i) (c+j) f=true):zZ r c s f=true:=by
 rw[<- KP b a]at h;have h:=ZE h;exact YO.mpr ⟨Zv 'a',Zv 'a'⟩
theorem xQ3{r c:Int}{s:Nat}{fs:List (List Int)}{d:List Row}(n:d.length<=fs.length)(e:∀g,g∈d<->∃f,f∈fs/\zZ r c s f=true/\g=jj (iV r c s f)):Wi r c s fs d where
 ok:=λg a=>by
  obtain⟨f,_,h2,rfl⟩:=(e g).mp a;exact(Gx h2).1
 len:=n
 og:=λi j m b=>by
  rw[Ye,ZW,ZW];constructor
  ·rintro⟨g,a,h⟩;obtain⟨f,h1,h2,rfl⟩:=(e g).mp a;obtain⟨l,k⟩:=Gx h2;rw[<- K7 l.l4,k,KP m b]at h;exact⟨f,h1,h⟩
  ·rintro⟨f,h1,h⟩;have h2:=xK2 m b h;obtain⟨l,k⟩:=Gx h2;refine⟨_,(e _).mpr ⟨f,h1,h2,rfl⟩,?_⟩;rw[<- K7 l.l4,k,KP m b];exact h
end Qf
namespace Pr
open PySem L2 Qf PyProof.Rows
def JC:Key->Int
 |.inl i=>i
 |.inr _=>0
theorem Kf:∀(f:List Int),(f.map λx=>(Sum.inl x:Key)).map kV=f.map V.int
 |[]=>rfl
 |x::f=>by rw[Zw,Zw,Zw,Kf f];rfl
theorem xb6{f:List Int}(h:lg (jj f)=f):vN (jj f)=f.map V.int:=by
 have:vN (jj f)=(lg (jj f)).map V.int:=by unfold vN lg;rw[Ym];rfl
 rw[this,h]
abbrev LI:List ar:=["frames","row","column","side","inside"]
abbrev lB:List ar:=["frames","row","column","side"]
theorem wz:aE LI lB (bq uN):=cM
inductive AR(vs:List V)(H:Hp)(Q:VK):Prop
 |mk(a:af)(fs:List (List Int))(r c:Int)(s:Nat)(e0:vs=[.ref a,.int r,.int c,.int (s:Nat)])(e1:il H a fs)(e2:∀f∈fs,f.length=4)(e3:fs.length<=1190)(q:∀H' D gs,aG H H'->H D=none->bQ H' D gs->Wi r c s fs gs->Q (.ref D) H')
def sv:Sp:=λa H Q _=>AR a H Q
theorem xQ4{f:af}{fd:ak}(F:aO K "within" "within" uN f fd)(B:fk mg)(C:rA mg)(Mv:mg "sorted"=none):aB P w K mg base aK 1 f fd lB sv:=by
 refine F.ok wz (λvs H Q E h=>?_) (λbJ A Z s0 H vs Q E hr h=>?_)
 ·obtain⟨a,fs,r,c,s,rfl,_⟩:=h
  rfl
 ·obtain⟨a,fs,r,c,s,rfl,hA,h4,hl,q⟩:=h;have hu:A.units+3+8<cLine:=by
   have h2:A.units+3+16*0+200<cLine:=hr.un;lia
  refine aU ⟨_,⟨R1 (i0:=4) LI (bq uN) rfl rfl rfl wz.nd rfl rfl (oB (pv 0))
   (λcl C' fp aC aD=>cZ.go ⟨gf (bu.go (.cons ⟨dw (B0 rfl) (by rfl) B.max Y9 (aF (bg gN (pv 0) (pv 5)) (aF aN aI))⟩ (.cons ⟨dw (B0 rfl) (by rfl) B.max Y9 (aF (bg gN (pv 1) (pv 6)) (aF aN aI))⟩
    (.cons ⟨dw (xD rfl) (by rfl) B.min YJ (aF (bg gN (pv 2) (pv 5)) (aF (pv 7) aI))⟩ (.cons ⟨dw (xD rfl) (by rfl) B.min YJ (aF (bg gN (pv 3) (pv 6)) (aF (pv 7) aI))⟩ .nil rfl) rfl) rfl) rfl))⟩)⟩,?_⟩
  refine eF ⟨_,⟨cx (dw (qJ0 rfl) (by rfl) Mv PyProof.Rows.boot_sorted (aF (cZ.go ⟨xg7 LI (bq uN) hu rfl rfl rfl wz.nd (oB (pv 4))
   (λcl C' fp aC aD=>PW.pt (Ls (fu l_ (cI (rW K rfl) (pv 0) aN) (cI (rW K rfl) (pv 0) aN) (dh _)) (K5 (fu l_ (cI (rW K rfl) (pv 0) aN) (cI (rW K rfl) (pv 0) aN) (dh _)))))
   (λcl C' fp aC aD=>pv 0)⟩) aI))⟩,?_⟩
  obtain⟨bs0,X,_⟩:=id hA;refine⟨_,rfl,a,rfl,⟨_,bZ.of X⟩,λD hD=>Jy hD hA h4 (jg 'a') (Av r c s) ?_ ?_⟩
  ·intro x y u v H2 N s2 Q' n;refine⟨_,rfl,_,rfl,_,_,rfl,rfl,_,_,rfl,_,rfl,_,rfl,_,_,rfl,rfl,_,_,rfl,_,rfl,_,rfl,_,_,rfl,rfl,_,rfl,_,_,rfl,_,rfl,_,rfl,_,_,rfl,rfl,_,rfl,_,_,rfl,(by show 4<=sizeLine;decide),λp d=>n p _ (bo d) ?_⟩;rw[aZ]
   rfl
  ·intro H2 s2 hF;have j9:(fs.map λf=>Av r c s (f.getD 0 0) (f.getD 1 0) (f.getD 2 0) (f.getD 3 0)).length=fs.length:=Ze ..;have wV:∀i f,fs[i]?=some f->(fs.map λf=>Av r c s (f.getD 0 0) (f.getD 1 0) (f.getD 2 0) (f.getD 3 0))[i]?=some (iV r c s f):=λi f h=>by rw[Zf,h];rfl
   generalize (fs.map λf=>Av r c s (f.getD 0 0) (f.getD 1 0) (f.getD 2 0) (f.getD 3 0))=cs at hF j9 wV;obtain⟨bs,hb,jV,jE⟩:=id hF;have jH:(bs.map V.ref).length=fs.length:=by rw[Ze,jV,j9]
   refine⟨_,rfl,D,rfl,⟨_,bZ.of hb⟩,λD2 jW=>qY8 (k:=1) jW (λi=>zZ r c s (fs.getD i [])) (λi=>(iV r c s (fs.getD i [])).map Sum.inl) (uR (K:=K) hb) (by rw[jH];lia) ?_ ?_⟩
   ·intro i x T M hx O os ho Q1 Q2 G W;rw[Zf]at hx;obtain⟨b,Nq,rfl⟩:=Zh.mp hx;have kC:i<fs.length:=by rw[<- jH];exact M
    have L:fs[i]?=some (fs.getD i []):=by rw[Zt,Zc kC];rfl
    have j:=O _ _ (jE i b _ Nq (wV i _ L));generalize fs.getD i []=f at L j G W;obtain⟨o1,rfl⟩:=L2.tE ho;have e4:iV r c s f=[(iV r c s f).getD 0 0,(iV r c s f).getD 1 0,(iV r c s f).getD 2 0,(iV r c s f).getD 3 0]:=rfl;unfold zZ at G W;generalize iV r c s f=g at *;rw[e4]at j;refine⟨_,rfl,b,_,0,.int (g.getD 0 0),rfl,rfl,bf.of j,rfl,_,rfl,b,_,2,.int (g.getD 2 0),rfl,rfl,bf.of j,rfl,_,_,rfl,rfl,_,rfl,?_⟩;refine cC (λJ=>?_) (λJ=>?_)
    ·refine⟨_,rfl,b,_,1,.int (g.getD 1 0),rfl,rfl,bf.of j,rfl,_,rfl,b,_,3,.int (g.getD 3 0),rfl,rfl,bf.of j,rfl,_,_,rfl,rfl,_,rfl,?_⟩;refine cC (λc2=>⟨_,rfl,W (by rw[J,c2];rfl) _ b (aG.refl _) ?_⟩) (λc2=>G (by rw[J,ZX.mpr c2];rfl) _ (aG.refl _));rw[j,Kf,<- e4]
    ·exact cB (G (by rw[ZX.mpr J];rfl) _ (aG.refl _))
   ·intro T Y O hS N jI;rw[jH]at N jI;have R:∀p∈Y,∃f,f∈fs/\zZ r c s f=true/\p.1=(iV r c s f).map Sum.inl/\T p.2=some (.tup ((iV r c s f).map V.int)):=λp d=>by
     obtain⟨i,h1,h2,m⟩:=(N p.1).mp (List.mem_map_of_mem d);have l:=hS.tl p d;rw[<- m,Kf]at l;refine⟨fs.getD i [],?_,h2,m.symm,l⟩;rw[Zt,Zc h1];exact Yx h1
    refine⟨D2,Y,rfl,hS,by lia,λp d=>?_,λn us t My=>?_⟩
    ·obtain⟨f,_,_,_,l⟩:=R p d;exact⟨_,(λz=>by cases z),l⟩
    obtain⟨qs,I,rfl⟩:=xk3 (λp:List Key×af=>V.ref p.2) My Y rfl;have U:∀f:List Int,((f.map λx=>(Sum.inl x:Key)).map JC)=f:=λf=>by
     rw[Ym];exact Ub f
    refine q _ n (qs.map λp=>jj (p.1.map JC)) ((s2.trans O).trans (bo t)) ?_ ?_ ?_
    ·cases e:H n with
     |none=>rfl
     |some o=>rw[(s2.trans O) _ _ e]at t;cases t
    ·refine⟨qs.map (·.2),by rw[aZ,Ym];rfl,by rw[Ze,Ze],λi b g e1 S=>?_⟩;rw[Zf]at e1 S;obtain⟨p,d,rfl⟩:=Zh.mp e1;rw[d]at S;cases S;obtain⟨f,_,h2,m,l⟩:=R p (I.mem_iff.mp (Zm d));show upd T n _ p.2=some (.tup (vN (jj (p.1.map JC))));rw[m,U,xb6 (Gx h2).2];exact cw l t
    ·refine xQ3 (by rw[Ze,I.length_eq];exact jI) λg=>⟨λL=>?_,?_⟩
     ·obtain⟨p,d,rfl⟩:=ZF.mp L;obtain⟨f,h1,h2,m,_⟩:=R p (I.mem_iff.mp d);exact⟨f,h1,h2,by rw[m,U]⟩
     ·rintro⟨f,h1,h2,rfl⟩;obtain⟨i,M,e⟩:=ZL.mp h1;have eg:fs.getD i []=f:=by rw[Zt,Zc M,e];rfl
      have:=(N ((iV r c s f).map Sum.inl)).mpr ⟨i,M,by rw[eg];exact h2,by rw[eg]⟩;obtain⟨p,d,ep⟩:=ZF.mp this;exact ZF.mpr ⟨p,I.mem_iff.mpr d,by rw[ep,U]⟩
end Pr
namespace L2
open PySem PySem.Spec PyProof.Rows
theorem xb7{K:PySem.W.Frag}{a:af}{xs:List V}{g:TG}{tb:TS}{D:Ends}{σ:St}{H:Hp}(Pv:Nat->St->Hp->Prop)(hk:∀i σ h,Pv i σ h->h a=some (.tup xs))(h0:Pv 0 σ H)
  (hs:∀i x σ H p,xs[i]?=some x->Pv i σ H->H p=none->g (.ref p) σ (upd H p (.tup [.int i,x])) λl h=>tb {D with nx:=Pv (i+1),ct:=Pv (i+1),bk:=D.nx} l h) (w:∀σ H,Pv xs.length σ H->D.nx σ H):
  ∃W:Nat->Nat->St->Hp->Prop,(∃m,W 0 m σ H)/\∀i m σ H,W i m σ H ->
   ((Az K a).stop i H/\D.nx σ H)\/((Az K a).go i H/\∃N:St->Hp->Prop,(∀f d,N f d->∃n,n<m/\W (i+1) n f d)/\∀x d,(Az K a).iK i H x d->g x σ d λl h=>tb {D with nx:=N,ct:=N,bk:=D.nx} l h):=by
 refine⟨λi m σ H=>m=xs.length-i/\i<=xs.length/\Pv i σ H,⟨xs.length,by simp,Zs _,h0⟩,?_⟩;rintro i m σ H ⟨rfl,u,p⟩;have k:bf K H a xs:=bf.of (hk i σ H p);by_cases j:i<xs.length
 ·refine .inr ⟨⟨xs,xs[i],k,by simp[j]⟩,Pv (i+1),λf d q=>⟨xs.length-(i+1),qy j,rfl,j,q⟩,λx d y=>?_⟩;obtain⟨b,c,t,s,r,v⟩:=y;subst r v;exact hs i c σ _ b (s xs k) p t
 ·have e:i=xs.length:=by exact nY u j
  subst e;exact .inl ⟨⟨xs,k,Zg _⟩,w σ H p⟩
section
variable{X:Cx}
inductive oj(x:V)(y:V)(H:Hp)(Q:VK):Prop
 |mk(p:af)(xs:List V)(ds:List PyData)(d:PyData)(aT:y=.ref p)(eR:H p=some (.lst xs))(dX:aM H xs ds)(aR:aX H x d)(dB:d.canLay0=true)(EJ:PyData.canLayAll0 ds=true)(e6_:d.depth<=50)(e7_:Q (.bl (ds.any λe=>PyData.eqv e d)) H)
theorem xx8{k:Nat}(A:aV k X.A):fj X (compareOp .In) oj:=by
 intro F s G H x y v u Q I g t h;obtain⟨p,J,E,d,rfl,i,e,m,b,c,f,q⟩:=h;cases t;obtain⟨as,j⟩:=m.reads I.aS g;obtain⟨a,C,l,D⟩:=I.list (bZ.of i);have un:=A.units;obtain⟨r,B⟩:=KZ (X:=X) I un j b f e C c;refine SeqAt.in_listAt (rE s.heap d) l.isList (λw n=>r w (by simpa using n)) ⟨.bl _,H,I,rfl,?_⟩;rw[show a.toArray.any (rE s.heap d)=a.any (rE s.heap d) by simp,B];exact q
end
end L2
namespace Pr
open PySem L2 Qf
theorem cW.same{C:af}{H a:Hp}{p k d:af}{L:List Tr}(h:cW C H p k d L)(s:aG H a):cW C a p k d L:=by
 obtain⟨⟨e,b⟩,hk,f,c⟩:=h;exact⟨⟨e,s _ _ b⟩,hk.same s,s _ _ f,c⟩
theorem cW.put{C:af}{H:Hp}{p k d D:af}{L:List Tr}{xs ys:List V}(h:cW C H p k d L)(b:H D=some (.lst xs))(nk:D≠k):cW C (upd H D (.lst ys)) p k d L:=by
 obtain⟨⟨n,a⟩,⟨bs,hk,g,f⟩,e,l⟩:=h;refine⟨⟨n,?_⟩,⟨bs,?_,g,λi c r m j=>?_⟩,?_,l⟩
 ·rw[bj (λz=>by rw[z,b]at a;cases a)];exact a
 ·rw[bj (YK nk)];exact hk
 ·have:=f i c r m j;rw[bj (λz=>by rw[z,b]at this;cases this)];exact this
 ·rw[bj (λz=>by rw[z,b]at e;cases e)];exact e
theorem xQ5(k d:af):(tw k d).lookup ("number_for":ar)=none:=xk6 k d (by decide +kernel) (by decide +kernel)
end Pr
namespace L2
open PySem
theorem Gw{f:St->Hp->Prop}{σ σ':St}{H:Hp}(e:σ=σ')(h:f σ' H):f σ H:=by rw[e];exact h
theorem opq{tb:TS}{k:Ends}{σ:St}{H:Hp}(h:∀a:Ends,(∀σ H,k.nx σ H->a.nx σ H)->tb a σ H):tb k σ H:=h k λ_ _ z=>z
inductive Ex2(z:Option V->Option V->St)(σ:St):Prop
 |mk(a b:Option V)(e:σ=z a b)
end L2
namespace Qf
open Tr
def ky:Tr->List Nat->Tr×List Nat
 |.nd a b c d,x::e=>((ky (qr x (.nd a b c d)) e).1,x::(ky (qr x (.nd a b c d)) e).2)
 |t,_=>(t,[])
theorem BX{t:Tr}(h:t=.z\/t=.o)(a:List Nat):ky t a=(t,[]):=by rcases h with rfl|rfl<;>cases a<;>rfl
def fg(f:Nat->Nat):Nat->List Nat->Nat
 |k+1,d::a=>2^k*f d+fg f k a
 |_,_=>0
theorem P9(f:Nat->Nat):∀(n:Nat)(l m:List Nat),l.length<=n->fg f n (l++m)=fg f n l+fg f (n-l.length) m
 |n,[],m,_=>by
  have:fg f n []=0:=by cases n<;>rfl
  rw[this];simp
 |n+1,d::l,m,h=>by
  have a:l.length<=n:=by simpa using h
  show 2^n*f d+fg f n (l++m)=2^n*f d+fg f n l+fg f (n+1-(l.length+1)) m;rw[P9 f n l m a,Nat.add_sub_add_right];lia
def kx(r c k:Nat):Nat->List Nat
 |0=>[]
 |j+1=>(2*(r/2^(k+j)%2)+c/2^(k+j)%2)::kx r c k j
end Qf
namespace L2
open PySem PySem.Spec PyProof.Rows
theorem xx9{z:ar}{g:TG}{tb:TS}{D:Ends}{σ:St}{H:Hp}(Pv:Nat->St->Hp->Prop)(h0:Pv 0 σ H)
  (hs:∀i c σ H,z.cps[i]?=some c->Pv i σ H->g (.str ⟨#[c]⟩) σ H λf h=>tb {D with nx:=Pv (i+1),ct:=Pv (i+1),bk:=D.nx} f h) (r:∀σ H,Pv z.cps.size σ H->D.nx σ H):
  ∃W:Nat->Nat->St->Hp->Prop,(∃m,W 0 m σ H)/\∀i m σ H,W i m σ H ->
   ((EX z).stop i H/\D.nx σ H)\/((EX z).go i H/\∃N:St->Hp->Prop,(∀b a,N b a->∃j,j<m/\W (i+1) j b a)/\∀x a,(EX z).iK i H x a->g x σ a λf h=>tb {D with nx:=N,ct:=N,bk:=D.nx} f h):=by
 refine⟨λi m σ H=>m=z.cps.size-i/\i<=z.cps.size/\Pv i σ H,⟨z.cps.size,by simp,Zs _,h0⟩,?_⟩;rintro i m σ H ⟨rfl,q,p⟩;by_cases d:i<z.cps.size
 ·refine .inr ⟨d,Pv (i+1),λb a k=>⟨z.cps.size-(i+1),qy d,rfl,d,k⟩,λx a y=>?_⟩;obtain⟨e,c,n,l⟩:=y;subst e l;exact hs i c σ _ n p
 ·have e:i=z.cps.size:=by exact nY q d
  subst e;exact .inl ⟨Zg _,r σ H p⟩
end L2
namespace Pr
open PySem L2 Qf
def txt(a:List Nat):ar:=⟨(a.map (48+·)).toArray⟩
theorem KO(a:List Nat):(txt a).length=a.length:=by simp[txt,Str.length]
theorem RT(a:List Nat):(txt a).cps.size=a.length:=by simp[txt]
theorem O_{a:List Nat}{i c:Nat}(h:(txt a).cps[i]?=some c):∃d,a[i]?=some d/\c=48+d:=by
 have b:(a.map (48+·))[i]?=some c:=by simpa[txt]using h
 rw[Zf]at b;obtain⟨d,e,rfl⟩:=Zh.mp b;exact⟨d,e,rfl⟩
theorem P8{d:Nat}(h:d<4):PySem.intText? ⟨#[48+d]⟩=some (d:Int):=by
 match d,h with
 |0,_|1,_|2,_|3,_=>decide +kernel
def four(c:Nat):Bool:=!(Builtin.Str.occurrences "0123" ⟨#[c]⟩ 0 ("0123":ar).length 1).isEmpty
theorem xk7{d:Nat}(h:d<4):four (48+d)=true:=by
 match d,h with
 |0,_|1,_|2,_|3,_=>decide +kernel
theorem RS{d:Nat}(h:d<4):((toString (d:Int):String):ar)=⟨#[48+d]⟩:=by
 match d,h with
 |0,_|1,_|2,_|3,_=>decide +kernel
theorem xy0{a:List Nat}{i d:Nat}(h:a[i]?=some d):a.take (i+1)=a.take i++[d]:=by rw[VL,h];rfl
theorem RR{f:Nat->Nat}{n i d:Nat}{a:List Nat}(h:a[i]?=some d)(e:a.length<=n):fg f n (a.take (i+1))=fg f n (a.take i)+2^(n-i-1)*f d:=by
 have c:=(cf h).1;have b:(a.take i).length=i:=by rw[Yc];exact Jn c
 rw[xy0 h,P9 f n _ _ 'a',b];congr 1;obtain⟨k,hk⟩:∃k,n-i=k+1:=⟨n-i-1,by lia⟩;rw[hk];show 2^k*f d+fg f k []=_;have:fg f k []=0:=by cases k<;>rfl
 rw[this]
 rfl
theorem xk8{n i:Nat}(h:i<n):((2^(n-i):Nat):Int)/2=((2^(n-i-1):Nat):Int):=by
 have e:2^(n-i)=2^(n-i-1)*2:=by
  rw[<- YL];congr 1;lia
 rw[e];exact Jl
theorem xk9{n:Nat}(h:n<=12):2^n<=4096:=Wv (n:=2) 'b' h
theorem xK3:aE ["n"] ["n"] (bq zE):=cM
inductive sD(vs:List V)(H:Hp)(Q:VK):Prop
 |mk(n:Nat)(e0:vs=[.int (n:Nat)])(e1:n<=12)(e2:Q (.int ((2^n:Nat):Int)) H)
def Gv:Sp:=λa H Q _=>sD a H Q
theorem KJ{f:af}{b:ak}(F:aO K "side_of" "side_of" zE f b):aB P w K mg base aK 1 f b ["n"] Gv:=by
 refine F.ok xK3 (λc H Q E h=>?_) (λg A a s H c Q E d h=>?_)
 ·obtain⟨n,rfl,_⟩:=h
  rfl
 ·obtain⟨n,rfl,h1,q⟩:=h;refine⟨_,cN (cx (bg nM aN (pv 0))),?_⟩;refine⟨_,rfl,_,_,rfl,rfl,⟨by lia,by lia,by decide⟩,?_⟩;show Q (V.int (1*2^((n:Nat):Int).toNat)) H;rw[Int.one_mul,ZI];have e:((2:Int)^n)=((2^n:Nat):Int):=by simp
  rw[e];exact q
theorem pH:aE ["n","thing"] ["n","thing"] (bq Ct):=cM
inductive sH(vs:List V)(H:Hp)(Q:VK):Prop
 |mk(n:Nat)(ds:List Nat)(e0:vs=[.int (n:Nat),.str (txt ds)])(e1:n<=12)(e2:(∀d∈ds,d<4))(e3:ds.length<=n)(e4:∀H',aG H H'->Q (.bl true) H')
def O9:Sp:=λa H Q _=>sH a H Q
theorem xy1{f:af}{k:ak}(F:aO K "is_address" "is_address" Ct f k)(B:fk mg)(J:mg "str"=none):aB P w K mg base aK 2 f k ["n","thing"] O9:=by
 refine F.ok pH (λu H Q E h=>?_) (λbJ A g s H u Q E Y h=>?_)
 ·obtain⟨n,x,rfl,_⟩:=h
  rfl
 ·obtain⟨n,a,rfl,X,t,Z,q⟩:=h;refine⟨_,cN (cx (sW (dw zy (by rfl) B.Ac YA (aF (pv 1) (aF (zr (v:=.ty "str") (by rfl) J PyProof.Rows.boot_str rfl) aI)))
   (sW (mn oy (dw qF9 (by rfl) B.len YN (aF (pv 1) aI)) (pv 0) (dh _))
   (uK (dw (Kj rfl) (by rfl) B.all Vb (aF (nS ["n","thing"] (bq Ct) rfl rfl rfl pH.nd (Pq (pv 1)) (λS C O N W=>mn q18 (pv 0) PN (by first|exact dh _|rfl|decide))) aI)))))),?_⟩
  have T:(txt a).cps.size=a.length:=RT a;refine⟨_,rfl,_,_,_,_,true,rfl,rfl,.inl (.str _),rfl,_,rfl,dy ?_⟩;refine⟨_,rfl,txt a,rfl,by rw[KO];exact WT (pY 'a'),_,rfl,_,_,rfl,rfl,_,rfl,?_⟩;rw[KO,Zv 'a'];refine dy ?_;refine⟨_,rfl,txt a,rfl,λD p=>⟨λi m j l=>i<=a.length/\m=a.length-i/\j=(List.replicate i true).map V.bl/\l=upd H D (.lst j),⟨_,Zs _,rfl,rfl,rfl⟩,?_⟩⟩;rintro i m j l ⟨R,rfl,rfl,rfl⟩;refine⟨aZ,pY (by simp;lia),?_⟩;by_cases M:i=a.length
  ·refine .inl ⟨by show(txt a).cps.size<=i;lia,D,List.replicate i true,rfl,aZ,?_⟩;have r:(List.replicate i true).all id=true:=by simp
   rw[r];exact q _ λb o e=>by rw[bj (cK e p)];exact e
  ·refine .inr ⟨show i<(txt a).cps.size by lia,?_⟩;rintro y U ⟨rfl,c,G,rfl⟩;obtain⟨d,L,rfl⟩:=O_ G;refine⟨_,rfl,_,_,rfl,rfl,aZ,a.length-(i+1),by lia,by lia,rfl,?_,xr9⟩;have I:(!(Builtin.Str.occurrences "0123" ⟨#[48+d]⟩ 0 ("0123":ar).length 1).isEmpty)=true:=xk7 (t d (Zm L));rw[I,List.replicate_succ',ZZ]
   rfl
theorem xy2:aE ["n","address"] ["n","address"] (bq GZ):=cM
inductive oZ(vs:List V)(H:Hp)(Q:VK):Prop
 |mk(n:Nat)(ds:List Nat)(e0:vs=[.int (n:Nat),.str (txt ds)])(e1:n<=12)(e2:(∀d∈ds,d<4))(e3:ds.length<=n)(e4:∀H',aG H H'->Q .ck H')
def P7:Sp:=λa H Q _=>oZ a H Q
theorem xl0{f c:af}{d b:ak}(F:aO K "want_address" "want_address" GZ f d)(hA:mg "is_address"=some (.ref c))(FA:aO K "is_address" "is_address" Ct c b)(k:Binds K b ["n","thing"] [])(g:aB P w K mg base aK 2 c b ["n","thing"] O9):
  aB P w K mg base aK 3 f d ["n","address"] P7:=by
 refine F.ok xy2 (λj H Q E h=>?_) (λu A a s H j Q E p h=>?_)
 ·obtain⟨n,x,rfl,_⟩:=h
  rfl
 ·obtain⟨n,e,rfl,l,i,r,q⟩:=h;refine⟨_,cN (eI (nO (lq (bz g p hA FA.kp k (aF (pv 0) (aF (pv 1) aI))))) xE eM),?_⟩;exact⟨_,rfl,_,rfl,n,e,rfl,l,i,r,λm t=>⟨_,rfl,cB (q m t)⟩⟩
theorem dA:aE ["n","address","row","column","side","figure"] ["n","address"] (bq GY):=cM
abbrev xb(n:Nat)(a:List Nat):Nat:=fg (· / 2) n a
abbrev yY(n:Nat)(a:List Nat):Nat:=fg (·%2) n a
inductive pk(vs:List V)(H:Hp)(Q:VK):Prop
 |mk(n:Nat)(ds:List Nat)(e0:vs=[.int (n:Nat),.str (txt ds)])(e1:n<=12)(e2:(∀d∈ds,d<4))(e3:ds.length<=n)(e4:∀p,H p=none->Q (.ref p) (upd H p (.tup (vN [xb n ds,yY n ds,2^(n-ds.length)]))))
def P6:Sp:=λa H Q _=>pk a H Q
theorem xl1{f k:af}{I l:ak}(F:aO K "box_at" "box_at" GY f I)(B:fk mg)
  (T:mg "side_of"=some (.ref k)) (G:aO K "side_of" "side_of" zE k l) (Z:Binds K l ["n"] []):aB P w K mg base aK 2 f I ["n","address"] P6:=by
 have L:aB P w K mg base aK 1 k l ["n"] Gv:=KJ G;refine F.ok dA (λS H Q E h=>?_) (λbJ A u s H S Q E Y h=>?_)
 ·obtain⟨m,a,rfl,_⟩:=h
  rfl
 ·obtain⟨n,a,rfl,U,O,J,q⟩:=h;refine⟨_,(fY (xu9 aN (gh 2 dA.nd) (gh 3 dA.nd))
   (fY (dk 4 dA.nd (bz L Y T G.kp Z (aF (pv 0) aI)))
   (fY (rJ Y2 rfl (Pq (pv 1)) (gh 5 dA.nd)
    (fY (dk 4 dA.nd (bg pS (pv 4) aN))
    (fY (PL (i:=2) dA.nd rfl (Or.inl rfl) (bg ng (pv 4) (bg pS (i7 SX (by rfl) B.int Wd (aF (pv 5) aI)) aN)) Ue)
    (cN (PL (i:=3) dA.nd rfl (Or.inl rfl) (bg ng (pv 4) (bg Lq (i7 SX (by rfl) B.int Wd (aF (pv 5) aI)) aN)) Ue)))))
   (cN (cx (gf (aF (pv 2) (aF (pv 3) (aF (pv 4) aI)))))))) ),?_⟩
  refine⟨_,rfl,n,rfl,U,?_⟩;have D:∀g:Nat->Nat,fg g n []=0:=λg=>by cases n<;>rfl
  refine⟨_,rfl,txt a,rfl,xx9 (λi r t=>t=H/\∃v,r=[some (.int (n:Nat)),some (.str (txt a)),some (.int ((xb n (a.take i):Nat):Int)),some (.int ((yY n (a.take i):Nat):Int)),some (.int ((2^(n-i):Nat):Int)),v]) ⟨rfl,none,by
   rw[List.take_zero];show _=[some (V.int (n:Nat)),some (.str (txt a)),some (.int ((fg (· / 2) n []:Nat):Int)),some (.int ((fg (·%2) n []:Nat):Int)),some (.int ((2^(n-0):Nat):Int)),none];rw[D,D]
   rfl⟩ ?_ ?_⟩
  ·rintro i c r t X ⟨rfl,v,rfl⟩;obtain⟨d,j,rfl⟩:=O_ X;have hi:=(cf j).1;have C:d<4:=O d (Zm j);have h1:xb n (a.take (i+1))=xb n (a.take i)+2^(n-i-1)*(d/2):=RR j J;have h2:yY n (a.take (i+1))=yY n (a.take i)+2^(n-i-1)*(d%2):=RR j J;have y:=xk8 (n:=n) (i:=i) 'a';have R:2^(n-i-1)<=4096:=xk9 'a';have b:-(2^64)<((2^(n-i):Nat):Int)/2/\((2^(n-i):Nat):Int)/2<2^64:=by
    rw[y];generalize 2^(n-i-1)=x at R;lia
   refine⟨_,rfl,_,_,rfl,rfl,⟨by decide,by decide⟩,?_⟩;refine⟨_,rfl,_,rfl,_,rfl,_,d,rfl,P8 C,(by show 1<=640;decide),_,_,rfl,rfl,⟨by decide,by decide⟩,_,_,rfl,rfl,.inl b,_,_,rfl,rfl,?_⟩;refine⟨_,rfl,_,rfl,_,rfl,_,d,rfl,P8 C,(by show 1<=640;decide),_,_,rfl,rfl,_,_,rfl,rfl,.inl b,_,_,rfl,rfl,?_⟩;refine⟨rfl,some (.str ⟨#[48+d]⟩),?_⟩;rw[h1,h2];have N:((xb n (a.take i):Nat):Int)+((2^(n-i-1):Nat):Int)*((d:Int)/2)=((xb n (a.take i)+2^(n-i-1)*(d/2):Nat):Int):=by
    rw[X7,Xp,V2]
    rfl
   have M:((yY n (a.take i):Nat):Int)+((2^(n-i-1):Nat):Int)*Builtin.bitAnd (d:Int) 1=((yY n (a.take i)+2^(n-i-1)*(d%2):Nat):Int):=by
    rw[PyProof.Rows.bitAnd_m1,X7,Xp,V3]
    rfl
   rw[<- N,<- M,show n-(i+1)=n-i-1 from by lia,<- y]
   rfl
  ·rintro r t ⟨rfl,v,rfl⟩;refine⟨_,rfl,_,rfl,_,rfl,(by show 3<=sizeLine;decide),λp W=>?_⟩;have e:a.take (txt a).cps.size=a:=Xs (by simp[txt]);rw[e,RT];exact q p W
end Pr
namespace L2
open PySem
theorem xK4{K:PySem.W.Frag}{H:Hp}{a:af}{cs:List af}{prs:List (V×V)}{te:TE}{σ:St}{Fin:Hp->Prop}{D:af}(h:Nat->List V->Hp->Prop)(T:cs.length=prs.length)(hsz:cs.length<sizeLine)(i0:h 0 [] (upd H D (.lst [])))
  (C:∀i d e,h i d e->e D=some (.lst d)/\d.length<=i/\bf K e a (cs.map V.ref)/\∀(j:Nat)(c:af)(p:V×V),cs[j]?=some c->prs[j]?=some p->bf K e c [p.1,p.2])
  (step:∀i d x y e,prs[i]?=some (x,y)->h i d e->∀w:VK,(∀v g,g D=some (.lst d)->h (i+1) (d++[v]) (upd g D (.lst (d++[v])))->w v g)->te (some x::some y::σ) e w)
  (fin:∀d e,h cs.length d e->Fin e):
  ∃W:Nat->Nat->List V->Hp->Prop,(∃m,W 0 m [] (upd H D (.lst []))) /\
   ∀i m d e,W i m d e->e D=some (.lst d)/\d.length<sizeLine/\(((uo K a).stop i e/\Fin e)\/((uo K a).go i e/\∀y g,(uo K a).iK i e y g->∀n:St,n.length=2 ->
    ee K 2 (cY (cb 0) (cY (cb 1) eh)) y (n++σ) g λu O=>ow u O λb t=>if b=true then te u t λv k=>k D=some (.lst d)/\∃f,f<m/\W (i+1) f (d++[v]) (upd k D (.lst (d++[v])))else ∃f,f<m/\W (i+1) f d t)):=by
 refine⟨λi m d e=>i<=cs.length/\m=cs.length-i/\h i d e,⟨cs.length,Zs _,rfl,i0⟩,?_⟩;rintro i m d e ⟨S,rfl,s⟩;obtain⟨h1,h2,l,I⟩:=C i d e s;refine⟨h1,by lia,?_⟩;by_cases B:i=cs.length
 ·subst B;exact .inl ⟨⟨_,l,by rw[Ze];exact Zg _⟩,fin d e s⟩
 ·have P:i<cs.length:=by lia
  have r:cs[i]?=some cs[i]:=Zc P;have q:prs[i]?=some (prs[i]'(by lia)):=Zc 'a';refine .inr ⟨⟨_,.ref cs[i],l,by rw[Zf,r];rfl⟩,λy g N n J=>?_⟩;obtain⟨G,E⟩:=N;subst G;have A:=E _ l;rw[Zf,r]at A;cases A;obtain⟨Q,R,rfl⟩:=L2.zX J;refine⟨cs[i],_,rfl,I i _ _ r q,rfl,_,_,rfl,_,_,rfl,rfl,?_⟩;generalize prs[i]'(by lia)=L at q;obtain⟨x,y⟩:=L;refine(dy ?_:(if(true:Bool)=true then te (some x::some y::σ) g (λv k=>k D=some (.lst d)/\∃f,f<cs.length-i/\(i+1<=cs.length/\f=cs.length-(i+1)/\h (i+1) (d++[v]) (upd k D (.lst (d++[v])))))else ∃f,f<cs.length-i/\(i+1<=cs.length/\f=cs.length-(i+1)/\h (i+1) d g)));exact step i d x y _ q s _ λv k F M=>⟨F,cs.length-(i+1),by lia,by lia,rfl,M⟩
end L2
namespace Pr
open PySem L2 Qf
structure ur where
 b:af
 kk:af
 dd:af
 kn:af
def gJ(a:ur)(H b:Hp):Prop:=∀x o,H x=some o->x≠a.kk->x≠a.dd->x≠a.kn->b x=some o
theorem gJ.of{a:ur}{H b:Hp}(s:aG H b):gJ a H b:=λx o h _ _ _=>s x o h
theorem gJ.trans{a:ur}{H d f:Hp}(x:gJ a H d)(y:gJ a d f):gJ a H f:=λz o h c b e=>y z o (x z o h c b e) c b e
def iy(s:Nat)(fs:List Row):List (List (List Key)):=[[[.inl ((s:Nat):Int)]],fs.map dM]
theorem xl2{s s':Nat}{fs a:List Row}(h:iy s fs=iy s' a):s=s'/\fs=a:=by
 injection h with h1 h2
 injection h2 with h2 _
 injection h1 with h1 _
 injection h1 with h1 _
 injection h1 with h1
 exact⟨by lia,(WR (λ_ _ z=>BR z)).mp h2⟩
theorem xl3{k a:Nat}(h:2^k=2^a):k=a:=by
 rcases XA k a with z|z|z
 ·have:=Nat.pow_lt_pow_right (show 1<2 by decide) z;lia
 ·exact z
 ·have:=Nat.pow_lt_pow_right (show 1<2 by decide) z;lia
def um(L:List Tr)(kvs:List (List (List (List Key))×V)):Prop:=∀(k:Nat)(fs:List Row)(v:V),bY kvs (iy (2^k) fs)=some v->Tr.In L (ft k fs)/\v=.int (Tr.name L (ft k fs):Nat)
theorem um.ext{L:List Tr}{kvs:List (List (List (List Key))×V)}(h:um L kvs)(b:Tr.Ord L)(e:List Tr):um (L++e) kvs:=λk fs v a=>by
 obtain⟨h1,h2⟩:=h k fs v a;exact⟨h1.app,by rw[h2,Tr.dm h1 b]⟩
theorem um.put{L:List Tr}{kvs:List (List (List (List Key))×V)}(h:um L kvs){k:Nat}{fs:List Row}{v:V}(d:Tr.In L (ft k fs))(ev:v=.int (Tr.name L (ft k fs):Nat)):um L (putK kvs (iy (2^k) fs) v):=λc b g a=>by
 rw[Sq]at a;by_cases e:iy (2^c) b=iy (2^k) fs
 ·rw[Zn e]at a;cases a;obtain⟨f,rfl⟩:=xl2 e;cases xl3 f;exact⟨d,ev⟩
 ·rw[Zj e]at a;exact h c b g a
structure dD(P:ag)(w:aj)(CB:af)(a:ur)(H:Hp)(L:List Tr)(kvs:List (List (List (List Key))×V)):Prop where
 bk:cW CB H a.b a.kk a.dd L
 kn:c7 t_ P w H a.kn kvs
 rd:uH L
theorem xC{P:ag}{w:aj}{H:Hp}{a:af}{kvs:List (List (List (List Key))×V)}(h:c7 t_ P w H a kvs):∃b,H a=some (.ext b):=let ⟨_,e,_⟩:=h;⟨_,e⟩
section
variable{CB:af}{a:ur}{H H':Hp}{L:List Tr}{kvs:List (List (List (List Key))×V)}
theorem dD.same(h:dD P w CB a H L kvs)(s:aG H H'):dD P w CB a H' L kvs:=⟨h.bk.same s,h.kn.mono s.cg (λo e=>s _ _ e),h.rd⟩
theorem dD.cg(h:dD P w CB a H L kvs)(B:gJ a H H'):fJ H H':=λx u e=>by
 obtain⟨_,⟨bs,hk,_⟩,c,_⟩:=h.bk;obtain⟨d,b⟩:=xC h.kn;exact B _ _ e (i5 e hk (λz=>nomatch z)) (i5 e c (λz=>nomatch z)) (i5 e b (λz=>nomatch z))
theorem dD.C7(h:dD P w CB a H L kvs)(B:gJ a H H'){x:af}{u:List V}(e:H x=some (.lst u))(n:x≠a.kk):H' x=some (.lst u):=by
 obtain⟨_,_,b,_⟩:=h.bk;obtain⟨d,c⟩:=xC h.kn;exact B _ _ e n (i5 e b (λz=>nomatch z)) (i5 e c (λz=>nomatch z))
theorem dD.Bu(h:dD P w CB a H L kvs)(B:gJ a H H'){x:af}{fs:List Row}(e:bQ H x fs)(n:x≠a.kk):bQ H' x fs:=by
 obtain⟨bs,h1,h2,c⟩:=e;exact⟨bs,h.C7 B h1 n,h2,λi b r f d=>h.cg B _ _ (c i b r f d)⟩
theorem dD.grow{e:List Tr}(h:dD P w CB a H L kvs)(B:gX a.kk a.dd H H')(f:cW CB H' a.b a.kk a.dd (L++e))(d:uH (L++e)):dD P w CB a H' (L++e) kvs:=by
 obtain⟨_,⟨bs,hk,_⟩,c,_⟩:=id h.bk;obtain⟨g,b⟩:=xC h.kn;exact⟨f,h.kn.mono (λx u e=>B _ _ e (i5 e hk (λz=>nomatch z)) (i5 e c (λz=>nomatch z))) (λo e=>B _ _ e (i5 b hk (λz=>nomatch z)) (i5 b c (λz=>nomatch z))),d⟩
theorem dD.putK{d:List (List (List (List Key))×V)}(h:dD P w CB a H L kvs)(B:∀c u,H c=some u->c≠a.kn->H' c=some u)(q:c7 t_ P w H' a.kn d):dD P w CB a H' L d:=by
 obtain⟨⟨l,hb⟩,⟨bs,hk,n,m⟩,f,p⟩:=id h.bk;obtain⟨s,b⟩:=xC h.kn;have k:fJ H H':=λx u e=>B _ _ e (i5 e b (λz=>nomatch z));exact⟨⟨⟨l,B _ _ hb (i5 hb b (λz=>nomatch z))⟩,⟨bs,B _ _ hk (i5 hk b (λz=>nomatch z)),n,λi c r j g=>k _ _ (m i c r j g)⟩,B _ _ f (i5 f b (λz=>nomatch z)),p⟩,q,h.rd⟩
theorem dD.lst{D:af}{xs ys:List V}(h:dD P w CB a H L kvs)(b:H D=some (.lst xs))(c:D≠a.kk):dD P w CB a (upd H D (.lst ys)) L kvs:=by
 obtain⟨f,d⟩:=xC h.kn;exact⟨h.bk.put b c,h.kn.mono (λx u e=>by rw[bj (i5 e b (λz=>nomatch z))];exact e) (λo e=>by rw[bj (i5 d b (λz=>nomatch z))];exact e),h.rd⟩
end
structure FmP(P:ag)(w:aj)(CB:af)(k:Nat)(a:ur)(H:Hp)(f:af)(fs:List Row)(L:List Tr)(kvs:List (List (List (List Key))×V)):Prop where
 v:dD P w CB a H L kvs
 hf:bQ H f fs
 nf:f≠a.kk
 ok:∀g∈fs,uq (2^k) g
 hk:k<=12
 hl:fs.length<=1190
 ko:um L kvs
 hL:L.length+cq (ft k fs)<=1190890
 hK:kvs.length+sz k<=6000000
structure Oo(P:ag)(w:aj)(CB:af)(k:Nat)(a:ur)(H:Hp)(fs:List Row)(L:List Tr)(kvs:List (List (List (List Key))×V))(H':Hp)(L':List Tr)(gC:List (List (List (List Key))×V)):Prop where
 b:gJ a H H'
 v:dD P w CB a H' L' gC
 ex:∃e,L'=L++e/\e.length<=cq (ft k fs)
 kr:Tr.In L' (ft k fs)
 ko:um L' gC
 hK:gC.length<=kvs.length+sz k
inductive A9(P:ag)(w:aj)(CB:af)(k:Nat)(vs:List V)(H:Hp)(Q:VK):Prop
 |mk(a:ur)(f:af)(fs:List Row)(L:List Tr)(kvs:List (List (List (List Key))×V))(e0:vs=[.ref a.b,.ref a.kn,.int ((2^k:Nat):Int),.ref f])(e1:FmP P w CB k a H f fs L kvs)(q:∀H' L' gC,Oo P w CB k a H fs L kvs H' L' gC->Q (.int (Tr.name L' (ft k fs):Nat)) H')
def o8(P:ag)(w:aj)(a:af)(k:Nat):Sp:=λb H Q _=>A9 P w a k b H Q
theorem SK:∀(a b:List Int),PyData.eqvAll (a.map PyData.int) (b.map PyData.int)=decide (a=b)
 |[],[]=>by simp[PyData.eqvAll]
 |x::a,[]=>by simp[PyData.eqvAll]
 |[],y::b=>by simp[PyData.eqvAll]
 |x::a,y::b=>by
  show(PyData.eqv (.int x) (.int y)&&PyData.eqvAll (a.map PyData.int) (b.map PyData.int))=_;rw[SK a b,Ye];simp[PyData.eqv]
theorem xc2(fs:List Row)(s:Nat):((xI fs).any λe=>PyData.eqv e (dT ([0,0,s,s].map λx:Nat=>(x:Int))))=decide ([0,0,s,s]∈fs):=by
 unfold xI;rw[XC,Ye,ZW,Y6];have key:∀f:Row,PyData.eqv (dT (f.map λx:Nat=>(x:Int))) (dT ([0,0,s,s].map λx:Nat=>(x:Int)))=true<->f=[0,0,s,s]:=λf=>by
  show PyData.eqvAll ((f.map λx:Nat=>(x:Int)).map PyData.int) (([0,0,s,s].map λx:Nat=>(x:Int)).map PyData.int)=true<->_;rw[SK,Y6];exact⟨λh=>WR (λa b e=>by lia) |>.mp h,λh=>by rw[h]⟩
 exact⟨λ⟨f,h1,h2⟩=>by rw[<- (key f).mp h2];exact h1,λh=>⟨_,h,(key _).mpr rfl⟩⟩
abbrev Uz:List ar:=["book","known","side","frames","key","half","corners"]
abbrev lC:List ar:=["book","known","side","frames"]
theorem pD:aE Uz lC (bq zm):=cM
theorem Ju{b:af}{k:Nat}{a:ur}{H d:Hp}{f:af}{fs:List Row}{L:List Tr}{kvs:List (List (List (List Key))×V)}(c:FmP P w b k a H f fs L kvs)(s:aG H d)(e:Tr.In L (ft k fs)):Oo P w b k a H fs L kvs d L kvs:=
 ⟨.of s,c.v.same s,⟨[],by simp,Zs _⟩,e,c.ko,Xb _ _⟩
abbrev xK(h:Nat):List (V×V):=[(.int 0,.int 0),(.int 0,.int (h:Nat)),(.int (h:Nat),.int 0),(.int (h:Nat),.int (h:Nat))]
theorem xy3{h i:Nat}{x y:V}(e:(xK h)[i]?=some (x,y)):i<4/\x=.int ((h*(i/2):Nat):Int)/\y=.int ((h*(i%2):Nat):Int):=by
 match i,e with
 |0,e=>cases e;exact⟨by decide,by simp,by simp⟩
 |1,e=>cases e;exact⟨by decide,by simp,by simp⟩
 |2,e=>cases e;exact⟨by decide,by simp,by simp⟩
 |3,e=>cases e;exact⟨by decide,by simp,by simp⟩
def my(t:Tr):Nat->Nat
 |0=>0
 |i+1=>my t i+cq (qr i t)
theorem P5(t:Tr):∀i,i<=4->my t i<=cq t:=λi a=>by
 have h:=xJ9 t;have b:my t 4=0+cq (qr 0 t)+cq (qr 1 t)+cq (qr 2 t)+cq (qr 3 t):=rfl
 match i,a with
 |0,_=>exact Zs _
 |1,_=>show 0+cq (qr 0 t)<=_;lia
 |2,_=>show 0+cq (qr 0 t)+cq (qr 1 t)<=_;lia
 |3,_=>show 0+cq (qr 0 t)+cq (qr 1 t)+cq (qr 2 t)<=_;lia
 |4,_=>lia
theorem xy4(t:Tr)(L:List Tr):∃e,ins t L=L++e/\my t 4+e.length<=cq t:=by
 cases t with
 |z=>exact⟨[],by rw[Xj];exact Zn (.inl rfl),Zg 0⟩
 |o=>exact⟨[],by rw[Xj];exact Zn (.inr (.inl rfl)),Zg 0⟩
 |nd x y u v=>
  obtain⟨e,h1,h2⟩:=xx1 (.nd x y u v) L;refine⟨e,h1,?_⟩;show 0+cq x+cq y+cq u+cq v+e.length<=1+cq x+cq y+cq u+cq v;lia
theorem O8{f fW fP fB CB:af}{fd gQ gG gm:ak}(F:aO K "framed_number" "framed_number" zm f fd)(B:fk mg)(Tc:mU mg)(wO:∃t,mg "EMPTY"=some (.int 0 t))(TB:gY K mg CB)
  (hN:mg "framed_number"=some (.ref f)) (bN:Binds K fd lC [])
  (hW:mg "within"=some (.ref fW)) (FW:aO K "within" "within" uN fW gQ) (bW:Binds K gQ lB []) (GW:aB P w K mg base aK 1 fW gQ lB sv)
  (hP:mg "is_plain"=some (.ref fP)) (FP:aO K "is_plain" "is_plain" xl fP gG) (bP:Binds K gG ["row"] [])
  (MB:Meth K CB "number_for" fB) (FB:aO K "number_for" "Book.number_for" Ck fB gm) (bB:Binds K gm ["self","row"] []){m:Nat}{sp':Sp}(GI:aB P w K mg base aK (m+3) f fd lC sp') (kX:∀j,m=j+1->sp'=o8 P w CB j):aB P w K mg base aK (m+4) f fd lC (o8 P w CB m):=by
 obtain⟨te,he⟩:=wO;obtain⟨tf,vL⟩:=Tc.full;have GB:aB P w K mg base aK 3 fB gm ["self","row"] (Qp CB):=xI8 FB B Tc TB hP FP bP;refine F.ok pD (λvs H Q E h=>?_) (λbJ A outer s H vs Q E hr h=>?_)
 ·obtain⟨a,f,fs,L,l,rfl,_⟩:=h
  rfl
 ·obtain⟨a,f,fs,L,l,rfl,y,q⟩:=h;have jG:aV 1 _:=hr.mono 'a';have DI:aV 3 _:=hr.mono 'a';have hu:A.units+3+10<cLine:=by
   have h2:A.units+3+16*(m+3)+200<cLine:=hr.un;lia
  refine aU ⟨_,⟨eI (nO (xe9 (pv 3) (λ_=>rfl))) (cN (cx (gx (v:=.int 0) (by rfl) he ⟨_,rfl⟩))) eM⟩,?_⟩;refine aU ⟨_,⟨eI (fu (xx8 hr) (cZ.go ⟨gf (aF aN (aF aN (aF (pv 2) (aF (pv 2) aI))))⟩) (pv 3) (by first|exact dh _|rfl|decide|with_unfolding_all rfl)) (cN (cx (gx (v:=.int 1) (by rfl) vL ⟨_,rfl⟩))) eM⟩,?_⟩;refine aU ⟨_,⟨dk 4 pD.nd (gf (aF (pv 2) (aF (cZ.go ⟨i7 (ip K rfl) (by rfl) B.tuple ZO (aF (pv 3) aI)⟩) aI)))⟩,?_⟩;refine xP4 ⟨_,⟨eI (fu (q84 (nk:=t_) hu) (pv 4) (pv 1) (by first|rfl|decide|with_unfolding_all rfl))
   (lP.go (.cons ⟨dk 5 pD.nd (bg pS (pv 2) aN)⟩
   (.cons ⟨dk 6 pD.nd (gf (bu.go (.cons ⟨gf (aF aN (aF aN aI))⟩ (.cons ⟨gf (aF aN (aF (pv 5) aI))⟩ (.cons ⟨gf (aF (pv 5) (aF aN aI))⟩ (.cons ⟨gf (aF (pv 5) (aF (pv 5) aI))⟩ .nil rfl) rfl) rfl) rfl)))⟩
   (.one ⟨sV (cZ.go ⟨xs7 (pv 0) TB.cl MB GB DI bB .nil Fl (bu.go (.cons ⟨i7 (ip K rfl) (by rfl) B.tuple ZO (bu.go (.cons ⟨Sm Uz (bq zm) rfl rfl rfl pD.nd (xM K rfl (pv 6))
    (λcl C' fp aC aD=>bz GI hr hN F.kp bN (bu.go (.cons ⟨pv 2⟩ (.cons ⟨pv 3⟩ (.cons ⟨pv 7⟩ (.cons ⟨bz GW jG hW FW.kp bW (aF (pv 5) (aF (pv 0) (aF (pv 1) (aF (pv 7) aI))))⟩ .nil rfl) rfl) rfl) rfl)))⟩ .nil rfl))⟩ .nil rfl))⟩) (Lr (pv 1) (pv 4) (xj0 (nk:=t_) hu))⟩)))) eM⟩,?_⟩
  refine eF ⟨_,⟨cx (cI (xv8 (nk:=t_) hu) (pv 1) (pv 4))⟩,?_⟩;obtain⟨bs,hb,jV,jE⟩:=id y.hf;obtain⟨k0,wM⟩:∃k,k=!(bs.map V.ref).isEmpty:=⟨_,rfl⟩;refine⟨_,rfl,k0,.inl ⟨_,bZ.of hb,wM⟩,?_⟩;by_cases Ea:fs=[]
  ·subst Ea;have:bs=[]:=YM.mp jV;subst this;cases wM;refine dy ?_;have:=q H L l (Ju y (aG.refl _) (by rw[Pd];exact .inl rfl));rw[Pd]at this;exact this
  obtain rfl:k0=true:=by
   cases bs with
   |nil=>exact absurd (YM.mp jV.symm) Ea
   |cons _ _=>exact wM
  clear wM;refine cB ?_;refine⟨_,rfl,_,rfl,(by show 4<=sizeLine;decide),λt0 U4=>?_⟩;have s1:aG H (upd H t0 (.tup [.int 0,.int 0,.int ((2^m:Nat):Int),.int ((2^m:Nat):Int)])):=bo U4;have kN:=cw (u:=.tup [.int 0,.int 0,.int ((2^m:Nat):Int),.int ((2^m:Nat):Int)]) hb U4;have Dy:upd H t0 (.tup [.int 0,.int 0,.int ((2^m:Nat):Int),.int ((2^m:Nat):Int)]) t0=some (.tup (vN [0,0,2^m,2^m])):=aZ;refine⟨_,rfl,f,_,_,_,rfl,kN,Gi jV λi b r e1 e2=>s1 _ _ (jE i b r e1 e2),.tup Dy (by rw[rG];exact aM.ints _),G6 _,zu _,?_,_,rfl,?_⟩
  ·show PyData.depthAll (List.map PyData.int _)+1<=50;rw[Kv];decide
  have UT:=y.v.same s1;generalize upd H t0 (.tup [.int 0,.int 0,.int ((2^m:Nat):Int),.int ((2^m:Nat):Int)])=H1 at s1 kN UT ⊢;refine(λ(z:if decide ([0,0,2^m,2^m]∈fs)=true then _ else _)=>by rw[<- xc2]at z;exact z) ?_;by_cases jQ:[0,0,2^m,2^m]∈fs
  ·refine zH jQ ?_;have:=q H1 L l (Ju y s1 (by rw[Pc jQ];exact .inr (.inl rfl)));rw[Pc jQ]at this;exact this
  refine QM jQ ?_;obtain⟨k,rfl⟩:∃k,m=k+1:=by
   cases m with
   |zero=>exact absurd (xJ7 Ea y.ok) jQ
   |succ k=>exact⟨k,rfl⟩
  cases kX k rfl;have hk12:=y.hk;have h4:∀g∈fs,g.length=4:=λg hg=>(y.ok g hg).l4;refine⟨_,rfl,_,rfl,f,_,rfl,.inl ⟨bZ.of kN,λO kZ=>⟨(by show 2<=sizeLine;decide),λN MT=>?_⟩⟩⟩;have s3:aG H (upd (upd H1 O (.tup (bs.map V.ref))) N (.tup [.int ((2^(k+1):Nat):Int),.ref O])):=(s1.trans (bo kZ)).trans (bo MT);have DX:upd (upd H1 O (.tup (bs.map V.ref))) N (.tup [.int ((2^(k+1):Nat):Int),.ref O]) N=some (.tup [.int ((2^(k+1):Nat):Int),.ref O]):=aZ;have Eh:upd (upd H1 O (.tup (bs.map V.ref))) N (.tup [.int ((2^(k+1):Nat):Int),.ref O]) O=some (.tup (bs.map V.ref)):=cw aZ MT;generalize upd (upd H1 O (.tup (bs.map V.ref))) N (.tup [.int ((2^(k+1):Nat):Int),.ref O])=W at s3 DX Eh ⊢;have Fq:∀{Hx:Hp},fJ W Hx->t_.tl Hx (iy (2^(k+1)) fs) N:=λt=>⟨.inl _,fs.map dM,O,bs,rfl,t _ _ DX,t _ _ Eh,by rw[Ze];exact jV,λi b g e1 e2=>by
   rw[Zf]at e2;obtain⟨r,rY,rfl⟩:=Zh.mp e2;rw[sQ];exact t _ _ (s3 _ _ (jE i b r e1 rY))⟩
  have US:=y.v.same s3;clear UT s1 kN kZ MT;refine⟨λσ' H'=>∃v5 v6 L' gC,σ'=[some (.ref a.b),some (.ref a.kn),some (.int ((2^(k+1):Nat):Int)),some (.ref f),some (.ref N),v5,v6]/\Oo P w CB (k+1) a H fs L l H' L' gC/\t_.tl H' (iy (2^(k+1)) fs) N/\bY gC (iy (2^(k+1)) fs)=some (.int (Tr.name L' (ft (k+1) fs):Nat)),?_,?_⟩
  rotate_left
  ·rintro σ' H' ⟨v5,v6,L',gC,rfl,R,tl,tT⟩;exact⟨_,rfl,_,rfl,a.kn,N,_,gC,_,rfl,rfl,R.v.kn,tl,tT,q H' L' gC R⟩
  refine⟨_,rfl,_,rfl,a.kn,N,_,l,rfl,rfl,US.kn,Fq (λ_ _ e=>e),_,rfl,?_⟩;cases tT:bY l (iy (2^(k+1)) fs)with
  |some v=>
   obtain⟨i1,rfl⟩:=y.ko (k+1) fs v tT;exact cB ⟨none,none,L,l,rfl,Ju y s3 i1,Fq (λ_ _ e=>e),tT⟩
  |none=>
   refine dy ?_;refine⟨_,rfl,_,_,rfl,rfl,⟨by decide,by decide⟩,?_⟩;have q8:((2^(k+1):Nat):Int)/2=((2^k:Nat):Int):=by
    rw[YL];exact Jl
   dsimp only[cb];refine Gw (σ':=[some (.ref a.b),some (.ref a.kn),some (.int ((2^(k+1):Nat):Int)),some (.ref f),some (.ref N),some (.int ((2^k:Nat):Int)),none]) (by rw[<- q8];rfl) ?_;refine⟨(by show 2<=sizeLine;decide),λn hc0=>⟨_,rfl,(by show 2<=sizeLine;decide),λC Ao=>⟨_,rfl,(by show 2<=sizeLine;decide),λG wD=>⟨_,rfl,_,rfl,(by show 2<=sizeLine;decide),λI vX=>⟨(by show 4<=sizeLine;decide),λcn An=>?_⟩⟩⟩⟩⟩;have JQ:sz (k+1)=4*sz k+1:=rfl;have hL:=y.hL;have hK:=y.hK;rw[JQ]at hK;have k0:=cw (u:=.tup [.int ((2^k:Nat):Int),.int 0]) (cw (u:=.tup [.int 0,.int ((2^k:Nat):Int)]) (aZ (H:=W) (a:=n) (o:=.tup [.int 0,.int 0])) Ao) wD;have e0:=cw (u:=.tup [.ref n,.ref C,.ref G,.ref I]) (cw (u:=.tup [.int ((2^k:Nat):Int),.int ((2^k:Nat):Int)]) k0 vX) An;have e1:=cw (u:=.tup [.ref n,.ref C,.ref G,.ref I]) (cw (u:=.tup [.int ((2^k:Nat):Int),.int ((2^k:Nat):Int)]) (cw (u:=.tup [.int ((2^k:Nat):Int),.int 0]) (aZ (H:=upd W n (.tup [.int 0,.int 0])) (a:=C) (o:=.tup [.int 0,.int ((2^k:Nat):Int)])) wD) vX) An;have e2:=cw (u:=.tup [.ref n,.ref C,.ref G,.ref I]) (cw (u:=.tup [.int ((2^k:Nat):Int),.int ((2^k:Nat):Int)]) (aZ (H:=upd (upd W n (.tup [.int 0,.int 0])) C (.tup [.int 0,.int ((2^k:Nat):Int)])) (a:=G) (o:=.tup [.int ((2^k:Nat):Int),.int 0])) vX) An;have e3:=cw (u:=.tup [.ref n,.ref C,.ref G,.ref I]) (aZ (H:=upd (upd (upd W n (.tup [.int 0,.int 0])) C (.tup [.int 0,.int ((2^k:Nat):Int)])) G (.tup [.int ((2^k:Nat):Int),.int 0])) (a:=I) (o:=.tup [.int ((2^k:Nat):Int),.int ((2^k:Nat):Int)])) An;have s4:=(((bo (o:=.tup [.int 0,.int 0]) hc0).trans (bo (o:=.tup [.int 0,.int ((2^k:Nat):Int)]) Ao)).trans (bo (o:=.tup [.int ((2^k:Nat):Int),.int 0]) wD)).trans ((bo (o:=.tup [.int ((2^k:Nat):Int),.int ((2^k:Nat):Int)]) vX).trans (bo (o:=.tup [.ref n,.ref C,.ref G,.ref I]) An));have ecn:upd (upd (upd (upd (upd W n (.tup [.int 0,.int 0])) C (.tup [.int 0,.int ((2^k:Nat):Int)])) G (.tup [.int ((2^k:Nat):Int),.int 0])) I (.tup [.int ((2^k:Nat):Int),.int ((2^k:Nat):Int)])) cn (.tup [.ref n,.ref C,.ref G,.ref I]) cn=some (.tup ([n,C,G,I].map V.ref)):=aZ;clear k0 hc0 Ao wD vX An;generalize upd (upd (upd (upd (upd W n (.tup [.int 0,.int 0])) C (.tup [.int 0,.int ((2^k:Nat):Int)])) G (.tup [.int ((2^k:Nat):Int),.int 0])) I (.tup [.int ((2^k:Nat):Int),.int ((2^k:Nat):Int)])) cn (.tup [.ref n,.ref C,.ref G,.ref I])=H4 at *;have ec:∀(j:Nat)(c:af)(p:V×V),[n,C,G,I][j]?=some c->(xK (2^k))[j]?=some p->H4 c=some (.tup [p.1,p.2]):=λj c p M J=>by
    match j,M,J with
    |0,M,J=>cases M;cases J;exact e0
    |1,M,J=>cases M;cases J;exact e1
    |2,M,J=>cases M;cases J;exact e2
    |3,M,J=>cases M;cases J;exact e3
   clear e0 e1 e2 e3;have Z:=US.same s4;have vP:=y.hf.same (s3.trans s4);obtain⟨⟨EK,ym⟩,⟨bs4,hk4,_⟩,Ng,od4⟩:=id Z.bk;obtain⟨φ,wJ⟩:=xC Z.kn;refine⟨_,rfl,a.b,EK,_,rfl,ym,xQ5 _ _,?_⟩;refine⟨_,rfl,cn,rfl,⟨_,bf.of ecn⟩,λD kI=>xK4 (K:=K) (cs:=[n,C,G,I]) (prs:=xK (2^k))
    (λi xs U=>∃d S,dD P w CB a U d S/\um d S/\gJ a H4 U/\U D=some (.lst xs)/\xs=vN ((List.range i).map λj=>Tr.name d (qr j (ft (k+1) fs)))/\(∀j,j<i->Tr.In d (qr j (ft (k+1) fs)))/\(∃e5,d=L++e5/\e5.length<=my (ft (k+1) fs) i)/\S.length<=l.length+i*sz k)
    rfl (by show 4<sizeLine;decide) ⟨L,l,Z.same (bo kI),y.ko,gJ.of (bo kI),aZ,rfl,λj hj=>absurd hj (Y0 _),⟨[],by simp,Zs _⟩,by lia⟩ ?_ ?_ ?_⟩
   ·rintro i xs U ⟨d,S,Dv,HP,Y,wE,rfl,T,_,_⟩;exact⟨wE,by rw[g7,Ze,Yk];exact Zg _,bf.of (Z.cg Y _ _ ecn),λj c p M J=>bf.of (Z.cg Y _ _ (ec j c p M J))⟩
   ·rintro i xs x1 y1 U U7 ⟨d,S,Dv,HP,Y,wE,rfl,T,⟨e5,vD,DW⟩,hk5⟩ Q2 q2;obtain⟨hi,rfl,rfl⟩:=xy3 U7;have Nu:=Z.Bu Y vP y.nf;obtain⟨bs5,hb5,Np,DD⟩:=id Nu;obtain⟨_,⟨bsk,MW,_⟩,_,od5⟩:=id Dv.bk;have him:i*sz k+sz k<=4*sz k:=by
     have:(i+1)*sz k<=4*sz k:=Xh _ 'a';rw[X1]at this;exact this
    have hU:=P5 (ft (k+1) fs) (i+1) 'a';have hUe:my (ft (k+1) fs) (i+1)=my (ft (k+1) fs) i+cq (qr i (ft (k+1) fs)):=rfl;refine⟨_,rfl,_,rfl,_,rfl,_,rfl,_,rfl,_,rfl,_,rfl,f,fs.map lg,_,_,2^k,rfl,⟨bs5,hb5,by rw[Ze];exact Np,λj b g M J=>?_⟩,λg hg=>?_,by rw[Ze];exact y.hl,λH6 D6 gs s6 hD6 hR6 yL=>?_⟩
    ·rw[Zf]at J;obtain⟨r,rY,rfl⟩:=Zh.mp J;have:=DD j b r M rY;rw[this];unfold lg vN;rw[Ym]
     rfl
    ·obtain⟨r,rY,rfl⟩:=ZF.mp hg;show(r.map _).length=4;rw[Ze];exact h4 r rY
    have eq:ft k gs=qr i (ft (k+1) fs):=xQ2 hi h4 yL;have hlg:=yL.len;rw[Ze]at hlg;refine⟨a,D6,gs,d,S,rfl,⟨Dv.same s6,hR6,λz=>by rw[z,MW]at hD6;exact(nomatch hD6),yL.ok,by lia,ZD hlg y.hl,HP,by rw[eq,vD,Zl];lia,by lia⟩,λH7 L7 L8 R7=>?_⟩;rw[eq];obtain⟨e7,vU,hl7⟩:=R7.ex;have UM:=R7.kr;rw[eq]at hl7 UM;have hDk:D≠a.kk:=(cK hk4 kI).symm;have hDd:D≠a.dd:=(cK Ng kI).symm;have Ny:D≠a.kn:=(cK wJ kI).symm;have hD7:=R7.b _ _ (s6 _ _ wE) hDk hDd Ny;refine q2 _ H7 hD7 ⟨L7,L8,R7.v.lst hD7 hDk,R7.ko,?_,aZ,?_,?_,⟨e5++e7,by rw[vU,vD,ZG],by rw[Zl,hUe];lia⟩,by have:=R7.hK;rw[X1];lia⟩
    ·intro x o z n1 n2 X;rw[bj (cK z kI)];exact R7.b _ _ (s6 _ _ (Y _ _ z n1 n2 X)) n1 n2 X
    ·have en:((List.range i).map λj=>Tr.name L7 (qr j (ft (k+1) fs)))=(List.range i).map λj=>Tr.name d (qr j (ft (k+1) fs)):=YF λj hj=>by
      rw[vU];exact Tr.dm (T j (ZR.mp hj)) od5
     rw[Y8,ZZ,en];unfold vN;rw[ZZ]
     rfl
    ·intro j hj;rcases Nat.lt_or_eq_of_le (Wj hj)with z|z
     ·rw[vU];exact(T j z).app
     ·subst z;exact UM
   ·rintro xs U ⟨d,S,Dv,HP,Y,wE,rfl,T,⟨e5,vD,DW⟩,hk5⟩;have NF:[n,C,G,I].length=4:=rfl;rw[NF]at wE T DW hk5;have hU:=P5 (ft (k+1) fs) 4 'b';have hL5:d.length<=1190890:=by rw[vD,Zl];lia
    refine⟨D,_,rfl,.inl ⟨bZ.of wE,λu hu=>?_⟩⟩;have vZ:=Dv.same (bo (o:=.tup (vN ((List.range 4).map λj=>Tr.name d (qr j (ft (k+1) fs))))) hu);have hu6:upd U u (.tup (vN ((List.range 4).map λj=>Tr.name d (qr j (ft (k+1) fs))))) u=some (.tup (vN [Tr.name d (qr 0 (ft (k+1) fs)),Tr.name d (qr 1 (ft (k+1) fs)),Tr.name d (qr 2 (ft (k+1) fs)),Tr.name d (qr 3 (ft (k+1) fs))])):=aZ;have B6:gJ a H4 (upd U u (.tup (vN ((List.range 4).map λj=>Tr.name d (qr j (ft (k+1) fs)))))):=Y.trans (.of (bo hu));refine⟨a.b,a.kk,a.dd,u,d,_,_,_,_,rfl,vZ.bk,hu6,T 0 'b',T 1 'b',T 2 'b',T 3 'b',by lia,λH7 b7 NC=>?_⟩;rw[xJ8 (Gz _ _)]at NC ⊢;generalize upd U u (.tup (vN ((List.range 4).map λj=>Tr.name d (qr j (ft (k+1) fs)))))=H6 at vZ B6 b7;obtain⟨e8,Nb,hl8⟩:=xy4 (ft (k+1) fs) d;have Me:=xI4 (ft (k+1) fs) d;have Ro:=xx4 vZ.rd (Gz (k+1) fs);rw[Nb]at NC Me Ro ⊢;have Mr:=vZ.grow b7 NC Ro;have ko7:=HP.ext vZ.bk.od e8;have B7:gJ a H4 H7:=λx o z n1 n2 X=>b7 _ _ (B6 _ _ z n1 n2 X) n1 n2;have Rj:fJ W H7:=λx u z=>Z.cg B7 _ _ (s4 _ _ z);refine⟨_,rfl,_,rfl,a.kn,N,_,S,rfl,rfl,Mr.kn,Fq Rj,Xv (show S.length<=6000000 by lia) 'b',λH8 b8 hN8=>?_⟩;have hv8:=Mr.putK b8 hN8;obtain⟨φ7,hn7⟩:=xC Mr.kn;have t78:fJ H7 H8:=λx u z=>b8 _ _ z (i5 z hn7 (λz=>nomatch z));refine⟨_,_,d++e8,_,rfl,⟨λx o z n1 n2 X=>b8 _ _ (B7 _ _ (s4 _ _ (s3 _ _ z)) n1 n2 X) X,hv8,⟨e5++e8,by rw[vD,ZG],by rw[Zl];lia⟩,Me,ko7.put Me rfl,?_⟩,Fq (λx u z=>t78 _ _ (Rj _ _ z)),by rw[Sq,Zn rfl]⟩;have:=Ca S (iy (2^(k+1)) fs) (.int (Tr.name (d++e8) (ft (k+1) fs):Nat));rw[JQ];lia
theorem Ql{f u G fB y:af}{r a D E:ak}(F:aO K "framed_number" "framed_number" zm f r)(B:fk mg)(b:mU mg)(A:∃t,mg "EMPTY"=some (.int 0 t))(x:gY K mg y)
  (C:mg "framed_number"=some (.ref f)) (n:Binds K r lC [])
  (c:mg "within"=some (.ref u)) (q:aO K "within" "within" uN u a) (l:Binds K a lB []) (d:aB P w K mg base aK 1 u a lB sv)
  (m:mg "is_plain"=some (.ref G)) (p:aO K "is_plain" "is_plain" xl G D) (g:Binds K D ["row"] [])
  (i:Meth K y "number_for" fB) (v:aO K "number_for" "Book.number_for" Ck fB E) (s:Binds K E ["self","row"] []):∀k,aB P w K mg base aK (k+4) f r lC (o8 P w y k)
 |0=>O8 F B b A x C n c q l d m p g i v s (sp':=λ_ _ _ _=>False) ⟨λ_ _ _ _ h=>h.elim,λ_ _ _ _ _ _ _ _ _ _ _ _ _ h=>h.elim⟩ (λj e=>nomatch e)
 |k+1=>O8 F B b A x C n c q l d m p g i v s (Ql F B b A x C n c q l d m p g i v s k) (λj e=>by cases e;rfl)
end Pr
namespace Qf
def tj(i j:Int)(b:List Int):Bool:=decide (b.getD 0 0<=i/\i<b.getD 0 0+b.getD 2 0/\b.getD 1 0<=j/\j<b.getD 1 0+b.getD 3 0)
def Iq(x y u v:Int):List Int:=[x,y,x+u,y+v]
structure AA(n:Nat)(bs:List (List Int))(t:Tr):Prop where
 r:Tr.Red t
 d:Tr.dep t<=n
 c:∀i j:Nat,i<2^n->j<2^n->bs.any (tj i j)=dP n t i j
theorem AA.ft{n:Nat}{bs:List (List Int)}{t:Tr}(h:AA n bs t){c:List Row}(w:Wi 0 0 (2^n) (bs.map λb=>Iq (b.getD 0 0) (b.getD 1 0) (b.getD 2 0) (b.getD 3 0)) c):ft n c=t:=by
 refine Gy h.r h.d λi j d a=>?_;rw[w.og i j d a,<- h.c i j d a,XC,Vw,Vw];congr 1
theorem KI:∀{k n:Nat},k<=n->sz k<=sz n
 |0,_,_=>Zs _
 |k+1,0,h=>absurd h (Nat.not_succ_le_zero _)
 |k+1,n+1,h=>by
  have:=KI (Nat.le_of_succ_le_succ h);show 4*sz k+1<=4*sz n+1;lia
theorem xK6{n:Nat}(j:n<=12){L:List Tr}{t:Tr}(a:Tr.Ord L)(h:uH L)(b:Tr.In L t)(l:Tr.dep t<=n):dY (Tr.rowsOf L)/\Tr.name L t<(Tr.rowsOf L).length+2/\dp (Tr.rowsOf L) (Tr.name L t)<=n /\
  Canon n (nm (cA (Tr.rowsOf L) n [] (Tr.name L t)) (Tr.name L t)) (told (Tr.rowsOf L) (cA (Tr.rowsOf L) n [] (Tr.name L t)))/\T (told (Tr.rowsOf L) (cA (Tr.rowsOf L) n [] (Tr.name L t))) (nm (cA (Tr.rowsOf L) n [] (Tr.name L t)) (Tr.name L t))=t:=by
 have c:Tr.name L t<(Tr.rowsOf L).length+2:=by
  rw[Tr.aH];rcases Tr.de a b with⟨_,e⟩|⟨_,e⟩|⟨i,m,e⟩
  ·lia
  ·lia
  ·have:=(cf m).1;lia
 have f:dp (Tr.rowsOf L) (Tr.name L t)<=n:=by rw[xq a _ b];exact l
 have g:=Tr.fo a;obtain⟨k,d⟩:=qZ6 (n:=n) j g c f (RA a h) (Tr.dR a);rw[uI a _ b]at d;exact⟨g,c,f,k,d⟩
end Qf
namespace Pr
open PySem L2 Qf
abbrev Uv:List ar:=["n","boxes","side","frames","book","top"]
theorem pz:aE Uv ["n","boxes"] (bq BS):=cM
inductive AY(vs:List V)(H:Hp)(Q:VK):Prop
 |mk(n:Nat)(b:af)(bs:List (List Int))(t:Tr)(e0:vs=[.int (n:Nat),.ref b])(e1:il H b bs)(e2:∀f∈bs,f.length=4)(e3:bs.length<=1190)(e4:n<=12)(e5:AA n bs t)(e6:cq t<=1190890)(q:∀H' t' df aP,aG H H'->cJ H' t' n df aP->Canon n df aP->T aP df=t->Q (.ref t') H')
def AZ:Sp:=λa H Q _=>AY a H Q
theorem xQ6{f X Z O fB W c:af}{fd cU lH gQ T Y:ak}(F:aO K "shape_of_boxes" "shape_of_boxes" BS f fd)(G:gY K mg c)
  (hS:mg "side_of"=some (.ref X)) (FS:aO K "side_of" "side_of" zE X cU) (bS:Binds K cU ["n"] [])
  (hM:mg "framed_number"=some (.ref Z)) (FM:aO K "framed_number" "framed_number" zm Z lH) (bM:Binds K lH lC []) (GM:∀k,aB P w K mg base aK (k+4) Z lH lC (o8 P w c k))
  (hW:mg "within"=some (.ref O)) (FW:aO K "within" "within" uN O gQ) (bW:Binds K gQ lB []) (GW:aB P w K mg base aK 1 O gQ lB sv)
  (MB:Mk K c fB) (FB:aO K "__init__" "Book.__init__" Ht fB T) (bB:Binds K T ["self"] [])
  (hO:mg "shape_of"=some (.ref W)) (FO:aO K "shape_of" "shape_of" FV W Y) (bO:Binds K Y ["n","top","rows"] []) (GO:aB P w K mg base aK 15 W Y ["n","top","rows"] AX):aB P w K mg base aK 17 f fd ["n","boxes"] AZ:=by
 have GS:aB P w K mg base aK 1 X cU ["n"] Gv:=KJ FS;have GB:aB P w K mg base aK 1 fB T ["self"] (Qq c):=xI6 FB G;refine F.ok pz (λvs H Q E h=>?_) (λbJ A outer s H vs Q E r h=>?_)
 ·obtain⟨n,b,bs,t,rfl,_⟩:=h
  rfl
 ·obtain⟨n,b,bs,t,rfl,hA,h4,hl,d,hT,kY,q⟩:=h;have jG:aV 1 _:=r.mono 'b';have jZ:aV 2 _:=r.mono 'b';have yi:aV 15 _:=r.mono 'b';have I:aV (n+4) _:=r.mono 'a';refine aU ⟨_,⟨dk 2 pz.nd (bz GS jG hS FS.kp bS (aF (pv 0) aI))⟩,?_⟩;refine aU ⟨_,⟨R1 (i0:=3) Uv (bq BS) rfl rfl rfl pz.nd rfl rfl (oB (pv 1))
   (λcl C' fp aC aD=>cZ.go ⟨gf (bu.go (.cons ⟨pv 0⟩ (.cons ⟨pv 1⟩ (.cons ⟨bg gO (pv 0) (pv 2)⟩ (.cons ⟨bg gO (pv 1) (pv 3)⟩ .nil rfl) rfl) rfl) rfl))⟩)⟩,?_⟩
  refine aU ⟨_,⟨dk 4 pz.nd (xf4 MB GB jZ (by rfl) G.mgC bB .nil Fl)⟩,?_⟩;refine aU ⟨_,⟨dk 5 pz.nd (bz (GM n) I hM FM.kp bM (bu.go (.cons ⟨pv 4⟩ (.cons ⟨xj1 (nk:=t_)⟩ (.cons ⟨pv 2⟩ (.cons ⟨bz GW jG hW FW.kp bW (aF (pv 3) (aF aN (aF aN (aF (pv 2) aI))))⟩ .nil rfl) rfl) rfl) rfl)))⟩,?_⟩;refine eF ⟨_,⟨cx (bz GO yi hO FO.kp bO (bu.go (.cons ⟨pv 0⟩ (.cons ⟨pv 5⟩ (.cons ⟨zR (pv 4) rfl⟩ .nil rfl) rfl) rfl)))⟩,?_⟩;obtain⟨as,R,_⟩:=id hA;refine⟨_,rfl,n,rfl,d,?_⟩;refine⟨_,rfl,b,rfl,⟨_,bZ.of R⟩,λD hD=>Jy hD hA h4 (jg 'a') Iq ?_ ?_⟩
  ·intro x y u v H2 hm s2 Q' q';refine⟨_,rfl,_,rfl,_,rfl,_,rfl,_,_,rfl,rfl,_,rfl,_,rfl,_,_,rfl,rfl,(by show 4<=sizeLine;decide),λp hp=>q' p _ (bo hp) ?_⟩;rw[aZ]
   rfl
  ·intro a s1 hF;have Aj:∀g∈bs.map λf=>Iq (f.getD 0 0) (f.getD 1 0) (f.getD 2 0) (f.getD 3 0),g.length=4:=λg hg=>by
    obtain⟨f,_,rfl⟩:=ZF.mp hg
    rfl
   have Ag:(bs.map λf=>Iq (f.getD 0 0) (f.getD 1 0) (f.getD 2 0) (f.getD 3 0)).length<=1190:=by rw[Ze];exact hl
   intro p C wH Ed jK;refine⟨p,C,rfl,aZ,λkk dd H3 N wC hB b3=>⟨rfl,?_⟩⟩;have l:∀x,upd (upd a C (.own p)) p (.ins c C []) x=none->a x=none:=λx e=>by
    have n1:x≠p:=λz=>by rw[z,aZ]at e;cases e
    rw[bj n1]at e;have n2:x≠C:=λz=>by rw[z,aZ]at e;cases e
    rw[bj n2]at e;exact e
   have V:aG a H3:=λx o e=>b3 _ _ (by rw[bj (cK e wH),bj (cK e Ed)];exact e) (cK e wH);have MV:=l _ N;have Nh:=l _ wC;refine⟨_,rfl,λkn v0 H4 S hkn4 L=>⟨_,rfl,_,rfl,_,rfl,D,_,0,0,2^n,rfl,hF.same (V.trans S),Aj,Ag,λH5 D5 gs B wE Nu yL=>?_⟩⟩;have i:=hT.ft yL;have j:=hB.same S;obtain⟨_,⟨bsk,Ij,_⟩,_⟩:=id j;have MU:a kn=none:=by
    cases e:a kn with
    |none=>rfl
    |some o=>rw[V _ _ e]at v0;cases v0
   have hszn:sz n<=5592405:=ZD (KI d) 'b';refine⟨⟨p,kk,dd,kn⟩,D5,gs,[],[],rfl,⟨⟨j.same B,L.mono B.cg (λo e=>B _ _ e),λt ht=>nomatch ht⟩,Nu,λz=>by rw[z,Ij]at wE;exact(nomatch wE),yL.ok,d,ZD yL.len Ag,(λk fs v z=>by cases z),by rw[i];show 0+cq t<=_;lia,by show 0+sz n<=_;lia⟩,λH6 L6 kvs6 R6=>?_⟩;obtain⟨B6,J,⟨e6,wP,U⟩,UN,_,_⟩:=R6;rw[i]at U UN ⊢;obtain⟨HG,HV,tY,c8,e8⟩:=xK6 d J.bk.od J.rd UN hT.d;obtain⟨⟨EK,ym⟩,⟨M,hk6,Nn,DC⟩,_,_⟩:=id J.bk;have S6:aG a H6:=λx o e=>B6 _ _ (B _ _ (S _ _ (V _ _ e))) (cK e MV) (cK e Nh) (cK e MU);refine⟨_,rfl,_,rfl,_,rfl,p,c,EK,_,_,rfl,ym,G.cl,G.nK,Kp _ _,kk,n,_,Tr.rowsOf L6,rfl,⟨M,.inr hk6,Nn,DC⟩,HG,by rw[Tr.aH,wP];show e6.length<=_;lia,HV,d,tY,λH8 t8 s8 m=>?_⟩;exact q H8 t8 _ _ ((s1.trans S6).trans s8) m c8 e8
end Pr
namespace L2
open PySem PySem.Spec PyProof.Rows
section
variable{X:Cx}
theorem qK4(a:List Int):∀n,n<=a.length->preSum (λi=>a.getD i 0) n=(a.take n).sum:=by
 intro n
 induction n with
 |zero=>intro _;simp[preSum]
 |succ n c=>
  intro h;have b:n<a.length:=h;rw[preSum,c (WT b),W4 b,List.sum_append];simp[List.getD,b]
inductive lS(xs:List V)(H:Hp)(Q:VK):Prop
 |mk(p:af)(ns:List Int)(aT:xs=[.ref p])(eR:H p=some (.lst (ns.map V.int)))(dX:Q (.int ns.sum) H)
theorem SJ(hc:X.calm=true):gZ X (.builtin "sum") lS:=by
 intro K s M H N G Q I r h;obtain⟨p,a,rfl,D,q⟩:=h;obtain⟨u,rfl,C⟩:=iR r;cases C;obtain⟨z,c,n,m,d⟩:=I.aS p _ D;have k:s.heap.IsList p c.toArray:=⟨_,d,rfl,_,rfl⟩;have l:c.length=a.length:=by have:=m.length;simpa using this.symm
 have w:p≠s.heap.objs.size:=Zu (Zo d);refine call_sum_walkAnyB (Wg k ?_);refine⟨s.heap.objs.size,_,_,_,_,_,_,λi=>a.getD i 0,rfl,(Walks.list (A:=X.A.in1) (I.ok.hd hc) s.heap.objs.size p w c.toArray).toS,⟨⟨_,Zi _ rfl,rfl,rfl⟩,k.at λo e=>Zd _ e⟩,?_,?_,?_⟩
 ·intro b hb;rw[Z4];rcases Zz.mp hb with rfl|hb
  ·exact Yb _
  ·have:b=p:=by simpa using hb
   subst this;exact Yl (Zo d)
 ·intro i v E;have g:c[i]?=some v:=by simpa using E
  have j:i<a.length:=by rw[<- l];exact(cf g).1
  obtain⟨J,f,t,y⟩:=m.get (x:=V.int (a[i])) (i:=i) (by simp[j]);rw[g]at f;cases f;exact .inl ⟨t,by rw[y];simp[List.getD,j]⟩
 ·intro L F mv;have B:c.toArray.size=a.length:=by simpa using l
  refine⟨.int a.sum,H,SY I mv λb o e hb=>?_,⟨F,?_⟩,q⟩
  ·have:b=s.heap.objs.size:=by simpa using hb
   exact Yn _ (by rw[this]at e;exact Zo e)
  ·rw[B,qK4 a _ (Zg _),XS]
end
end L2
namespace Qf
open Tr
def b_:Tr->Nat
 |.nd a b c d=>b_ a+b_ b+b_ c+b_ d
 |_=>1
def lK(rows:List Row)(i:Nat):List Nat:=1::1::(List.range i).map λp=>b_ (T rows (p+2))
theorem RQ(rows:List Row)(i:Nat):(lK rows i).length=i+2:=by simp[lK]
theorem Hl{rows:List Row}{i x:Nat}(h:x<i+2):(lK rows i)[x]?=some (b_ (T rows x)):=by
 match x,h with
 |0,_=>rw[lj];rfl
 |1,_=>rw[lh];rfl
 |x+2,h=>
  show((List.range i).map λp=>b_ (T rows (p+2)))[x]?=_;rw[Zf,YU (qw h)]
  rfl
theorem SI{rows:List Row}(ok:dY rows){i:Nat}{r:Row}(h:rows[i]?=some r):lK rows (i+1)=lK rows i++[(r.map λx=>b_ (T rows x)).sum]:=by
 obtain⟨a,b,c,d,rfl⟩:=xr (ok i r h).1;unfold lK;rw[Y8,ZZ];show 1::1::(_++[b_ (T rows (i+2))])=_;rw[l9 ok h];show 1::1::(_++[b_ (T rows a)+b_ (T rows b)+b_ (T rows c)+b_ (T rows d)])=_;have:([a,b,c,d].map λx=>b_ (T rows x)).sum=b_ (T rows a)+b_ (T rows b)+b_ (T rows c)+b_ (T rows d):=by simp;lia
 rw[this]
 rfl
theorem P4(l:List Nat):(l.map λn:Nat=>(n:Int)).sum=((l.sum:Nat):Int):=by
 induction l with
 |nil=>rfl
 |cons a l b=>rw[Zw,List.sum_cons,List.sum_cons,b];lia
end Qf
namespace Pr
open PySem L2 Qf
abbrev UC:List ar:=["top","rows","counts","row"]
theorem sP:aE UC ["top","rows"] (bq zo):=cM
inductive Be(vs:List V)(H:Hp)(Q:VK):Prop
 |mk(p:af)(x:Nat)(rows:List Row)(e0:vs=[.int (x:Nat),.ref p])(e1:cD H p rows)(e2:dY rows)(e3:rows.length<=900)(e4:x<rows.length+2)(e5:∀H',aG H H'->Q (.int (b_ (T rows x):Nat)) H')
def wt:Sp:=λa H Q _=>Be a H Q
theorem xQ7{f:af}{U:ak}(F:aO K "count_leaves" "count_leaves" zo f U)(Ad:mg "sum"=none):aB P w K mg base aK 1 f U ["top","rows"] wt:=by
 refine F.ok sP (λvs H Q E h=>?_) (λbJ A I s H vs Q E hr h=>?_)
 ·obtain⟨p,x,rows,rfl,_⟩:=h
  rfl
 ·obtain⟨p,x,rows,rfl,hR,ok,hn,k,q⟩:=h;refine⟨_,fY (dk 2 sP.nd (jh (aF aN (aF aN aI))))
   (fY (rJ Y2 rfl (sU (pv 1)) (gh 3 sP.nd)
    (cN (ir (uU Yy Yp Yq sZ (pv 2) (aF (dw (SJ rfl) (by rfl) Ad PyProof.Rows.boot_sum
     (aF (nS UC (bq zo) rfl rfl rfl sP.nd (sU (pv 3)) (λcl C fp aC aD=>cI (u_ K rfl) (pv 3) (pv 0))) aI)) aI)))))
   (cN (cx (cI (u_ K rfl) (pv 2) (pv 0))))),?_⟩
  refine⟨(by show 2<=sizeLine;decide),λD G=>?_⟩;obtain⟨bs,S,j9,jE⟩:=id hR;have kA:=cw (u:=.lst [.int 1,.int 1]) S G;have R:(bs.map V.ref).length=rows.length:=by rw[Ze];exact j9
  refine⟨_,rfl,p,rfl,⟨_,bf.of kA⟩,HC (K:=K) (a:=p) (xs:=bs.map V.ref) (λi B g=>aG H g/\g D=some (.lst (vN (lK rows i)))/\∃J,B=[some (.int (x:Nat)),some (.ref p),some (.ref D),J])
   ⟨bo G,aZ,none,rfl⟩ (λi B g _ ⟨c,_⟩=>bf.of (c _ _ S)) ?_ ?_⟩
  ·rintro i y B g L ⟨c,d,J,rfl⟩;have O:i<rows.length:=by rw[<- R];exact(cf L).1
   rw[Zf]at L;obtain⟨b,hb,rfl⟩:=Zh.mp L;have l:rows[i]?=some rows[i]:=by simp[O]
   have N:=c _ _ (jE i b rows[i] hb l);have M:=ok i _ l;generalize rows[i]=r at l N M;refine⟨_,rfl,.inl ⟨rfl,_,bZ.of d⟩,_,rfl,b,rfl,⟨_,bf.of N⟩,λD2 X=>pX X (λj z _=>∃x,r[j]?=some x/\z=.int (b_ (T rows x):Nat)) (rL (K:=K) N) (by rw[g7,M.1];decide) (λ_ _ _ _ _ _ h=>h) ?_ ?_⟩
   ·intro j x H3 hj k v Q' hq;obtain⟨m,t,rfl⟩:=rH k;have jC:=M.2 m (Zm t);exact⟨_,rfl,_,rfl,D,_,(m:Int),.int (b_ (T rows m):Nat),rfl,rfl,bZ.of (v _ _ d),xj (Hl jC),hq _ _ (aG.refl _) ⟨m,t,rfl⟩⟩
   ·intro W H3 v kE jM Y;have ey:W=(r.map λx=>b_ (T rows x)).map (λn:Nat=>V.int (n:Int)):=by
     refine pW (by rw[jM,g7,Ze,Ze]) λj x k=>?_;obtain⟨m,t,rfl⟩:=Y j x k;rw[Zf,Zf,t];rfl
    have Z:W=((r.map λx=>b_ (T rows x)).map (λn:Nat=>(n:Int))).map V.int:=ey.trans (rG _);refine⟨D2,(r.map λx=>b_ (T rows x)).map (λn:Nat=>(n:Int)),rfl,Z▸kE,?_⟩;rw[P4];have kD:=v _ _ d;refine⟨D,_,_,rfl,rfl,kD,?_,?_⟩
    ·rw[g7,RQ];exact pY (QU O hn)
    ·have nD:∀b o,H b=some o->b≠D:=λb o e=>cK e G;refine⟨λb o e=>by rw[bj (nD b o e)];exact v _ _ (c _ _ e),?_,_,rfl⟩;rw[aZ,SI ok l];unfold vN;rw[ZZ]
     rfl
  ·rintro B g ⟨c,d,J,rfl⟩;rw[R]at d;exact⟨_,rfl,_,rfl,D,_,(x:Int),.int (b_ (T rows x):Nat),rfl,rfl,bZ.of d,xj (Hl k),q g c⟩
theorem Bp:aE ["shape","most"] ["shape","most"] (bq zL):=cM
inductive AS(vs:List V)(H:Hp)(Q:VK):Prop
 |mk(t:af)(n tp m:Nat)(rows:List Row)(e0:vs=[.ref t,.int (m:Nat)])(e1:aY H t n tp rows)(e2:b_ (T rows tp)<=m)(e3:∀H',aG H H'->Q .ck H')
def v_:Sp:=λa H Q _=>AS a H Q
theorem xQ8{f c:af}{i b:ak}(F:aO K "want_leaves" "want_leaves" zL f i)(D:mg "count_leaves"=some (.ref c))(k:aO K "count_leaves" "count_leaves" zo c b)(r:Binds K b ["top","rows"] [])(x:aB P w K mg base aK 1 c b ["top","rows"] wt):
  aB P w K mg base aK 2 f i ["shape","most"] v_:=by
 refine F.ok Bp (λl H Q E h=>?_) (λI A d s H l Q E B h=>?_)
 ·obtain⟨t,n,a,m,rows,rfl,_⟩:=h
  rfl
 ·obtain⟨t,n,a,m,rows,rfl,u,G,q⟩:=h;obtain⟨⟨p,e,y⟩,g,C⟩:=id u;refine eF ⟨_,⟨eI (fu CA (cZ.go ⟨bz x B D k.kp r (bu.go (.cons ⟨cI fQ (pv 0) aN⟩ (.cons ⟨cI fQ (pv 0) aN⟩ .nil rfl) rfl))⟩) (pv 1) (dh _)) xE eM⟩,?_⟩;refine⟨_,rfl,t,_,1,.int (a:Nat),rfl,rfl,bf.of e,rfl,_,rfl,t,_,2,.ref p,rfl,rfl,bf.of e,rfl,p,a,rows,rfl,y,g.iQ,C,g.kr,λv j=>?_⟩;refine⟨_,rfl,_,_,rfl,rfl,_,rfl,?_⟩;exact QM (show ¬((m:Int)<(b_ (T rows a):Nat)) by lia) (q v j)
theorem J5:aE ["shape"] ["shape"] (bq Hs):=cM
inductive Bb(vs:List V)(H:Hp)(Q:VK):Prop
 |mk(t:af)(n tp:Nat)(rows:List Row)(e0:vs=[.ref t])(e1:aY H t n tp rows)(e2:b_ (T rows tp)<=2000)(e3:∀H',aG H H'->Q .ck H')
def Bc:Sp:=λa H Q _=>Bb a H Q
theorem xQ9{f c:af}{g b:ak}(F:aO K "want_coarse" "want_coarse" Hs f g)(a:∃t,mg "MOST_LEAVES"=some (.int 2000 t))(u:mg "want_leaves"=some (.ref c))(i:aO K "want_leaves" "want_leaves" zL c b)(k:Binds K b ["shape","most"] [])(p:aB P w K mg base aK 2 c b ["shape","most"] v_):
  aB P w K mg base aK 3 f g ["shape"] Bc:=by
 obtain⟨x,a⟩:=a;refine F.ok J5 (λj H Q E h=>?_) (λy A d s H j Q E r h=>?_)
 ·obtain⟨t,n,e,rows,rfl,_⟩:=h
  rfl
 ·obtain⟨t,n,e,rows,rfl,l,m,q⟩:=h;refine⟨_,cN (ir (bz p r u i.kp k (aF (pv 0) (aF (gx (v:=.int 2000) (by rfl) a ⟨_,rfl⟩) aI)))),?_⟩;exact⟨_,rfl,t,n,e,2000,rows,rfl,l,m,q⟩
end Pr
namespace Qf
open Tr
def dU:Tr->List (List Nat×Bool)
 |.z=>[([],false)]
 |.o=>[([],true)]
 |.nd a b c d=>(dU a).map (λe=>(0::e.1,e.2))++(dU b).map (λe=>(1::e.1,e.2))++(dU c).map (λe=>(2::e.1,e.2))++(dU d).map (λe=>(3::e.1,e.2))
def eZ(a:List Nat)(L:List (List Nat×Bool)):List (List Nat×Bool):=L.map λe=>(a++e.1,e.2)
theorem xo:∀t:Tr,(dU t).length=b_ t
 |.z=>rfl
 |.o=>rfl
 |.nd a b c d=>by
  show(_++_++_++_:List _).length=b_ a+b_ b+b_ c+b_ d;simp only[Zl,Ze];rw[xo a,xo b,xo c,xo d]
theorem xy5(e:List Nat)(a b c d:Tr):eZ e (dU (.nd a b c d))=eZ (e++[0]) (dU a)++eZ (e++[1]) (dU b)++eZ (e++[2]) (dU c)++eZ (e++[3]) (dU d):=by
 show List.map _ (_++_++_++_)=_;unfold eZ;simp only[ZZ,Ym,Function.comp_def,ZG,List.singleton_append]
theorem xl4(a:List Nat)(L:List (List Nat×Bool)):(eZ a L).length=L.length:=by unfold eZ;rw[Ze]
theorem P2{f:Nat->Nat}(b:∀d,d<4->f d<=1):∀(a:List Nat)(n:Nat),(∀d∈a,d<4)->a.length<=n->∃q,fg f n a=2^(n-a.length)*q/\q<2^a.length
 |[],n,_,_=>⟨0,by cases n<;>rfl,by simp⟩
 |d::a,0,_,h=>by simp at h
 |d::a,n+1,g,h=>by
  have c:a.length<=n:=by simpa using h
  obtain⟨q,e,j⟩:=P2 b a n (λx i=>g x (Zq _ i)) c;refine⟨2^a.length*f d+q,?_,?_⟩
  ·show 2^n*f d+fg f n a=2^(n+1-(a.length+1))*_;rw[e,Nat.add_sub_add_right,Vh,<- Y5,<- Uc,Nat.sub_add_cancel c]
  ·have:=b d (g d 'c');show _<2^(a.length+1);rw[YL];have h2:2^a.length*f d<=2^a.length*1:=Vt _ this;lia
theorem Gu{f:Nat->Nat}(b:∀d,d<4->f d<=1){a:List Nat}{n:Nat}(i:∀d∈a,d<4)(h:a.length<=n):fg f n a+2^(n-a.length)<=2^n:=by
 obtain⟨q,e,c⟩:=P2 b a n i h;have g:2^n=2^(n-a.length)*2^a.length:=by rw[<- Uc,Nat.sub_add_cancel h]
 rw[e,g,<- Nat.mul_succ];exact Vt _ c
theorem xy6:∀d,d<4->d/2<=1:=λd h=>by lia
theorem xK7:∀d,d<4->d%2<=1:=λd h=>by lia
end Qf
namespace Qf
open Tr L2
def uW(b:Bool):Tr:=if b then .o else .z
theorem mz{a b c d:Tr}{e:List Nat×Bool}:e∈dU (.nd a b c d)<->∃x l,x<4/\e.1=x::l/\(l,e.2)∈dU (qr x (.nd a b c d)):=by
 have key:∀(x:Nat)(t:Tr),e∈(dU t).map (λe=>(x::e.1,e.2))<->∃l,e.1=x::l/\(l,e.2)∈dU t:=λx t=>by
  rw[ZF];constructor
  ·rintro⟨f,g,rfl⟩;exact⟨f.1,rfl,g⟩
  ·rintro⟨l,h1,h2⟩;exact⟨_,h2,Prod.ext h1.symm rfl⟩
 show e∈_++_++_++_<->_;simp only[YQ,key];constructor
 ·rintro(((⟨l,h⟩|⟨l,h⟩)|⟨l,h⟩)|⟨l,h⟩)
  ·exact⟨0,l,by decide,h⟩
  ·exact⟨1,l,by decide,h⟩
  ·exact⟨2,l,by decide,h⟩
  ·exact⟨3,l,by decide,h⟩
 ·rintro⟨x,l,i,h⟩
  match x,i with
  |0,_=>exact .inl (.inl (.inl ⟨l,h⟩))
  |1,_=>exact .inl (.inl (.inr ⟨l,h⟩))
  |2,_=>exact .inl (.inr ⟨l,h⟩)
  |3,_=>exact .inr ⟨l,h⟩
theorem Gs{x m:Nat}{a b c d:Tr}(e:x<4)(h:dep (.nd a b c d)<=m+1):dep (qr x (.nd a b c d))<=m:=uG e _ h
theorem Gr:∀(m:Nat)(t:Tr)(e:List Nat×Bool),dep t<=m->e∈dU t->(∀d∈e.1,d<4)/\e.1.length<=m
 |m,.z,e,_,h=>by
  have:e=([],false):=by simpa[dU]using h
  subst this;exact⟨λd h=>(nomatch h),Zs _⟩
 |m,.o,e,_,h=>by
  have:e=([],true):=by simpa[dU]using h
  subst this;exact⟨λd h=>(nomatch h),Zs _⟩
 |0,.nd a b c d,e,f,h=>by rcases mJ f with z|z<;>cases z
 |m+1,.nd a b c d,e,f,h=>by
  obtain⟨x,l,g,h1,h2⟩:=mz.mp h;obtain⟨k,i⟩:=Gr m _ _ (Gs g f) h2;rw[h1];refine⟨λq j=>?_,by rw[Z5];exact Nat.succ_le_succ i⟩;rcases Zz.mp j with rfl|z
  ·exact g
  ·exact k q z
def rX(n:Nat)(a:List Nat)(r c:Nat):Prop:=fg (· / 2) n a<=r/\r<fg (· / 2) n a+2^(n-a.length)/\fg (·%2) n a<=c/\c<fg (·%2) n a+2^(n-a.length)
theorem P1(f:Nat->Nat)(n:Nat):fg f n []=0:=by cases n<;>rfl
theorem SH(r m:Nat):r%2^(m+1)=2^m*(r/2^m%2)+r%2^m:=by
 rw[YL,Nat.mod_mul,Nat.add_comm]
theorem SG:∀(n:Nat)(t:Tr)(r c:Nat),dep t<=n->(∃a b,(a,b)∈dU t/\ky t (kx r c 0 n)=(uW b,a))/\∀a b,(a,b)∈dU t->(ky t (kx r c 0 n)=(uW b,a)<->rX n a (r%2^n) (c%2^n)):=by
 have plain:∀(d:Bool)(t:Tr),t=uW d->dU t=[([],d)]->∀n r c,(∃a b,(a,b)∈dU t/\ky t (kx r c 0 n)=(uW b,a))/\∀a b,(a,b)∈dU t->(ky t (kx r c 0 n)=(uW b,a)<->rX n a (r%2^n) (c%2^n)):=λd t v H n r c=>by
  have e:ky t (kx r c 0 n)=(uW d,[]):=by
   rw[BX (by rw[v];cases d;exact .inl rfl;exact .inr rfl),v]
  refine⟨⟨[],d,by rw[H];simp,e⟩,λa b h=>?_⟩;rw[H]at h;have P:a=[]/\b=d:=by simpa using h
  obtain⟨rfl,rfl⟩:=P;refine⟨λ_=>?_,λ_=>e⟩;unfold rX;rw[P1,P1];have:=YH r (YV (n:=n) (show 0<2 by decide));have:=YH c (YV (n:=n) (show 0<2 by decide));simp;lia
 intro n
 induction n with
 |zero=>
  intro t r c g;rcases mJ g with rfl|rfl
  ·exact plain false _ rfl rfl _ _ _
  ·exact plain true _ rfl rfl _ _ _
 |succ m F=>
  intro t r c g;cases t with
  |z=>exact plain false _ rfl rfl _ _ _
  |o=>exact plain true _ rfl rfl _ _ _
  |nd p q s u=>
   have Q:kx r c 0 (m+1)=(2*(r/2^m%2)+c/2^m%2)::kx r c 0 m:=by
    show(2*(r/2^(0+m)%2)+c/2^(0+m)%2)::kx r c 0 m=_;rw[Vu]
   have I:ky (.nd p q s u) (kx r c 0 (m+1))=((ky (qr (2*(r/2^m%2)+c/2^m%2) (.nd p q s u)) (kx r c 0 m)).1,(2*(r/2^m%2)+c/2^m%2)::(ky (qr (2*(r/2^m%2)+c/2^m%2) (.nd p q s u)) (kx r c 0 m)).2):=by rw[Q];rfl
   rw[I];have D:2*(r/2^m%2)+c/2^m%2<4:=by exact De
   constructor
   ·obtain⟨⟨a,b,h1,h2⟩,_⟩:=F _ r c (Gs D g);refine⟨_::a,b,mz.mpr ⟨_,a,D,rfl,h1⟩,?_⟩;rw[h2]
   ·intro a b h;obtain⟨x,l,G,rfl,h2⟩:=mz.mp h;obtain⟨_,L⟩:=F (qr x (.nd p q s u)) r c (Gs G g);have N:=L l b h2;obtain⟨w,y⟩:=Gr m _ _ (Gs G g) h2;have U:=Gu xy6 w y;have V:=Gu xK7 w y;have W:=YH r (YV (n:=m) (show 0<2 by decide));have X:=YH c (YV (n:=m) (show 0<2 by decide));have k:rX (m+1) (x::l) (r%2^(m+1)) (c%2^(m+1))<->(r/2^m%2=x/2/\c/2^m%2=x%2)/\rX m l (r%2^m) (c%2^m):=by
     unfold rX;rw[SH r m,SH c m,show m+1-(x::l).length=m-l.length by simp];show(2^m*(x/2)+fg (· / 2) m l<=_/\_<2^m*(x/2)+fg (· / 2) m l+_/\2^m*(x%2)+fg (·%2) m l<=_/\_<2^m*(x%2)+fg (·%2) m l+_)<->_;generalize fg (· / 2) m l=A at *;generalize fg (·%2) m l=B at *;generalize 2^(m-l.length)=S at *;generalize r%2^m=R at *;generalize c%2^m=C at *;have K:r/2^m%2=0\/r/2^m%2=1:=by exact qo
     have T:c/2^m%2=0\/c/2^m%2=1:=by exact qo
     generalize r/2^m%2=ρ at *;generalize c/2^m%2=Y at *;generalize 2^m=M at *;have O:x/2=0\/x/2=1:=by lia
     have J:x%2=0\/x%2=1:=by exact qo
     generalize x/2=X2 at *;generalize x%2=Z at *;rcases K with rfl|rfl<;>rcases T with rfl|rfl<;>rcases O with rfl|rfl<;>rcases J with rfl|rfl<;>simp only[Nat.mul_zero,Nat.mul_one,Vu,true_and,V1,false_and,and_false,iff_false,reduceCtorEq,Nat.one_ne_zero,Nat.zero_ne_one,eq_self]<;>lia
    rw[k,<- N];constructor
    ·intro e;have j:=Yi Prod.fst e;have i:=Yi Prod.snd e;obtain⟨f,E⟩:=List.cons.inj i;have f:2*(r/2^m%2)+c/2^m%2=x:=f;rw[f]at j E;exact⟨by lia,Prod.ext j E⟩
    ·rintro⟨j,i⟩;have f:2*(r/2^m%2)+c/2^m%2=x:=by lia
     rw[f,i]
def nZ(t:Tr)(n r c:Nat):List Nat:=(ky t (kx r c 0 n)).2
theorem xy7{n:Nat}{t:Tr}{r c:Nat}(g:dep t<=n)(f:r<2^n)(hc:c<2^n):∃b,(nZ t n r c,b)∈dU t/\(ky t (kx r c 0 n)).1=uW b/\rX n (nZ t n r c) r c:=by
 obtain⟨⟨a,b,h1,h2⟩,d⟩:=SG n t r c g;have e:nZ t n r c=a:=by unfold nZ;rw[h2]
 refine⟨b,by rw[e];exact h1,by rw[h2],?_⟩;rw[e];have:=(d a b h1).mp h2
 rwa [Y3 f,Y3 hc]at this
theorem xy8{n:Nat}{t:Tr}{r c:Nat}{a:List Nat}{b:Bool}(e:dep t<=n)(d:r<2^n)(hc:c<2^n)(h:(a,b)∈dU t)(f:rX n a r c):nZ t n r c=a/\(ky t (kx r c 0 n)).1=uW b:=by
 have:=((SG n t r c e).2 a b h).mpr (by rw[Y3 d,Y3 hc];exact f);unfold nZ;rw[this];exact⟨rfl,rfl⟩
end Qf
namespace Qf
open Tr
theorem RP:∀(n:Nat)(t:Tr)(r c:Nat),dep t<=n->dP n t r c=decide ((ky t (kx r c 0 n)).1=.o)
 |0,t,r,c,h=>by rcases mJ h with rfl|rfl<;>rfl
 |n+1,t,r,c,h=>by
  have e:dP (n+1) t r c=dP n (qr (2*(r/2^n%2)+c/2^n%2) t) r c:=rfl;have g:2*(r/2^n%2)+c/2^n%2<4:=by lia
  have f:kx r c 0 (n+1)=(2*(r/2^n%2)+c/2^n%2)::kx r c 0 n:=by
   show(2*(r/2^(0+n)%2)+c/2^(0+n)%2)::_=_;rw[Vu]
  rw[e,RP n _ r c (uG g t h),f];cases t with
  |z=>rw[BX (.inl rfl)];show decide ((ky .z _).1=.o)=_;rw[BX (.inl rfl)]
  |o=>rw[BX (.inr rfl)];show decide ((ky .o _).1=.o)=_;rw[BX (.inr rfl)]
  |nd a b c d=>rfl
theorem xy9(i:Nat)(t:Tr)(e:i<4):qr i (neg t)=neg (qr i t):=by
 cases t with
 |z=>rfl
 |o=>rfl
 |nd a b c d=>
  match i,e with
  |0,_|1,_|2,_|3,_=>rfl
theorem SF:∀(n:Nat)(t:Tr)(r c:Nat),dep t<=n->dP n (neg t) r c=(dP n t r c).not
 |0,t,r,c,h=>by rcases mJ h with rfl|rfl<;>rfl
 |n+1,t,r,c,h=>by
  have a:2*(r/2^n%2)+c/2^n%2<4:=by lia
  show dP n (qr (2*(r/2^n%2)+c/2^n%2) (neg t)) r c=(dP n (qr (2*(r/2^n%2)+c/2^n%2) t) r c).not;rw[xy9 _ _ a,SF n _ r c (uG a t h)]
theorem zj:∀t:Tr,cq (neg t)=cq t
 |.z=>rfl
 |.o=>rfl
 |.nd a b c d=>by
  show 1+cq (neg a)+cq (neg b)+cq (neg c)+cq (neg d)=1+cq a+cq b+cq c+cq d;rw[zj a,zj b,zj c,zj d]
def HN(n:Nat)(a:List Nat):List Int:=[((fg (· / 2) n a:Nat):Int),((fg (·%2) n a:Nat):Int),((2^(n-a.length):Nat):Int),((2^(n-a.length):Nat):Int)]
def gB(n:Nat)(t:Tr)(w:Bool):List (List Int):=((dU t).filter λe=>e.2==w).map λe=>HN n e.1
theorem nv{n i j:Nat}{a:List Nat}:tj i j (HN n a)=true<->rX n a i j:=by
 unfold tj HN rX;rw[Y6];simp only[Yu,Yv];lia
theorem jk{n:Nat}{t:Tr}{w:Bool}{b:List Int}:b∈gB n t w<->∃a,(a,w)∈dU t/\b=HN n a:=by
 unfold gB;rw[ZF];constructor
 ·rintro⟨⟨a,b⟩,c,rfl⟩;obtain⟨h1,h2⟩:=Z2.mp c;have h2:b=w:=by simpa using h2
  subst h2;exact⟨a,h1,rfl⟩
 ·rintro⟨a,h,rfl⟩;exact⟨(a,w),Z2.mpr ⟨h,by simp⟩,rfl⟩
theorem O7{n i j:Nat}{t:Tr}(w:Bool)(a:dep t<=n)(d:i<2^n)(c:j<2^n):(∃b∈gB n t w,tj i j b=true)<->dP n t i j=w:=by
 rw[RP n t i j a];constructor
 ·rintro⟨b,hb,h⟩;obtain⟨f,h1,rfl⟩:=jk.mp hb;rw[(xy8 a d c h1 (nv.mp h)).2];cases w<;>rfl
 ·intro h;obtain⟨b,h1,h2,e⟩:=xy7 a d c;rw[h2]at h;have:b=w:=by rw[<- h];cases b<;>rfl
  subst this;exact⟨_,jk.mpr ⟨_,h1,rfl⟩,nv.mpr e⟩
theorem Qk{n:Nat}{t:Tr}{w:Bool}{b:List Int}(a:dep t<=n)(h:b∈gB n t w):∃A B s:Nat,b=[(A:Int),(B:Int),(s:Int),(s:Int)]/\0<s/\A+s<=2^n/\B+s<=2^n:=by
 obtain⟨e,h1,rfl⟩:=jk.mp h;obtain⟨h2,c⟩:=Gr n t _ a h1;exact⟨_,_,_,rfl,YV 'b',Gu (λd a=>by show d/2<=1;lia) h2 c,Gu (λd a=>by show d%2<=1;lia) h2 c⟩
def oW(k:Int)(x y u v:Int):List Int:=[x-k,y-k,u+2*k,v+2*k]
def iO(k:Int)(b:List Int):List Int:=oW k (b.getD 0 0) (b.getD 1 0) (b.getD 2 0) (b.getD 3 0)
def Fd(n:Nat)(t:Tr)(w:Bool)(k i j:Nat):Prop:=∃a b,a<2^n/\b<2^n/\dP n t a b=w/\a<=i+k/\i<=a+k/\b<=j+k/\j<=b+k
theorem O6(A s k i N:Nat)(h0:0<s)(b:A+s<=N)(h1:(A:Int)-k<=i)(h2:(i:Int)<A-k+(s+2*k)):∃a,a<N/\A<=a/\a<A+s/\a<=i+k/\i<=a+k:=by
 by_cases z:i<A
 ·exact⟨A,by lia,by lia,by lia,by lia,by lia⟩
 ·by_cases y:i<A+s
  ·exact⟨i,by lia,by lia,by lia,by lia,by lia⟩
  ·exact⟨A+s-1,by lia,by lia,by lia,by lia,by lia⟩
theorem P0{n i j k:Nat}{t:Tr}(w:Bool)(e:dep t<=n)(C:i<2^n)(G:j<2^n):(∃b∈gB n t w,tj i j (iO k b)=true)<->Fd n t w k i j:=by
 constructor
 ·rintro⟨b,hb,h⟩;have u:=hb;obtain⟨A,B,s,rfl,f,hA,g⟩:=Qk e hb;have h:=ZE h;unfold iO oW at h;simp only[Yu,Yv]at h;obtain⟨a,c,y,F,q,p⟩:=O6 A s k i (2^n) f hA h.1 h.2.1;obtain⟨b,d,D,E,r,l⟩:=O6 B s k j (2^n) f g h.2.2.1 h.2.2.2;refine⟨a,b,c,d,(O7 w e c d).mp ⟨_,u,?_⟩,q,p,r,l⟩;refine Zv ?_;simp only[Yu,Yv];lia
 ·rintro⟨a,b,c,d,v,q,p,r,l⟩;obtain⟨x,m,h⟩:=(O7 w e c d).mpr v;refine⟨x,m,?_⟩;obtain⟨A,B,s,rfl,f,hA,g⟩:=Qk e m;have h:=ZE h;simp only[Yu,Yv]at h;refine Zv ?_;unfold iO oW;simp only[Yu,Yv];lia
def EO(S:Int):List (List Int):=[[-1,0,1,S],[S,0,1,S],[0,-1,S,1],[0,S,S,1]]
theorem xK9{S i j k:Nat}(d:i<S)(c:j<S):(∃b∈EO S,tj i j (iO k b)=true)<->¬(k<=i/\k<=j/\i+k<S/\j+k<S):=by
 have a:∀x y u v:Int,tj i j (iO k [x,y,u,v])=true<->(x-k<=i/\(i:Int)<x-k+(u+2*k)/\y-k<=j/\(j:Int)<y-k+(v+2*k)):=λx y u v=>by
  unfold tj iO oW;rw[Y6]
  rfl
 unfold EO;simp only[Zz,Ww,Ud,exists_eq_or_imp,exists_eq_left,a];omega
structure E2(n:Nat)(t:Tr)(k:Nat)(g:Tr):Prop where
 r:Red g
 d:dep g<=n
 c:∀i j,i<2^n->j<2^n->(dP n g i j=true<->Fd n t true k i j)
structure ET(n:Nat)(t:Tr)(k:Nat)(g:Tr):Prop where
 r:Red g
 d:dep g<=n
 c:∀i j,i<2^n->j<2^n->(dP n g i j=true<->¬Fd n t false k i j/\(k<=i/\k<=j/\i+k<2^n/\j+k<2^n))
theorem E2.bx{n k:Nat}{t g:Tr}(h:E2 n t k g)(c:dep t<=n):AA n ((gB n t true).map (iO k)) g:=⟨h.r,h.d,λi j b a=>by
 rw[Ye,h.c i j b a,<- P0 true c b a,XC,ZW]
 rfl⟩
theorem ET.bx{n k:Nat}{t g:Tr}(h:ET n t k g)(p:dep t<=n):AA n ((gB n t false++EO ((2^n:Nat):Int)).map (iO k)) (neg g):=⟨BB h.r,by rw[BC];exact h.d,λi j d c=>by
 have a:=h.c i j d c;rw[<- P0 false p d c]at a;have f:=xK9 (S:=2^n) (k:=k) d c;rw[SF n g i j h.d,Ye,XC,ZW];constructor
 ·rintro⟨b,hb,e⟩;refine Wm _ |>.mpr (ZX.mpr λz=>?_)
  obtain⟨l,m⟩:=a.mp z;rcases YQ.mp hb with y|y
  ·exact l ⟨b,y,e⟩
  ·exact(f.mp ⟨b,y,e⟩) m
 ·intro z;have z:¬dP n g i j=true:=ZX.mp (Wm _ |>.mp z);rw[a]at z;by_cases y:∃b∈gB n t false,tj i j (iO k b)=true
  ·obtain⟨b,h1,h2⟩:=y;exact⟨b,Xf _ h1,h2⟩
  ·obtain⟨b,h1,h2⟩:=f.mpr λx=>z ⟨y,x⟩;exact⟨b,ZV _ h1,h2⟩⟩
end Qf
namespace Pr
open PySem L2 Qf
theorem xz0(a b:List Nat):txt a++txt b=txt (a++b):=by
 show(⟨(txt a).cps++(txt b).cps⟩:ar)=_;simp[txt]
end Pr
namespace Pr
open PySem L2 Qf
theorem O3{f:St->Hp->Prop}{σ σ':St}{H:Hp}(e:σ=σ')(h:f σ' H):f σ H:=by rw[e];exact h
def oJ(H:Hp)(a:af)(L:List (List Nat×Bool)):Prop:=∃bs:List af,H a=some (.lst (bs.map V.ref))/\bs.length=L.length/\∀(i:Nat) b e,bs[i]?=some b->L[i]?=some e->H b=some (.tup [.str (txt e.1),.bl e.2])
theorem oJ.same{H c:Hp}{a:af}{L:List (List Nat×Bool)}(h:oJ H a L)(s:aG H c):oJ c a L:=by
 obtain⟨bs,d,h1,h2⟩:=h;exact⟨bs,s _ _ d,h1,λi b e g f=>s _ _ (h2 i b e g f)⟩
theorem oJ.push{H:Hp}{a k:af}{L:List (List Nat×Bool)}{e:List Nat×Bool}{bs:List af}(h0:H a=some (.lst (bs.map V.ref)))(h1:bs.length=L.length)(h2:∀(i:Nat) b e,bs[i]?=some b->L[i]?=some e->H b=some (.tup [.str (txt e.1),.bl e.2]))(hk:H k=none):
  oJ (upd (upd H k (.tup [.str (txt e.1),.bl e.2])) a (.lst (bs.map V.ref++[.ref k]))) a (L++[e]):=by
 have m:a≠k:=cK h0 hk;refine⟨bs++[k],by rw[aZ,ZZ];rfl,by rw[Zl,Zl,h1];rfl,λi b x d c=>?_⟩;by_cases g:i<bs.length
 ·rw[Zp g]at d;rw[Zp (qm g h1)]at c;have z:=h2 i b x d c;rw[bj (λw=>by rw[w,h0]at z;cases z),bj (cK z hk)];exact z
 ·have f:=(cf d).1;rw[Zl]at f;have l:i=bs.length:=by simp at f;exact xV f g
  subst l;rw[h1]at c;have h:b=k:=by simpa using d.symm
  have j:x=e:=by simpa using c.symm
  subst h;subst j;rw[bj m.symm,aZ]
abbrev nGL:List ar:=["rows","number","address","leaves","at","quarter"]
abbrev qd:List ar:=["rows","number","address","leaves"]
theorem sO:aE nGL qd (bq FQ):=cM
inductive A8(d:Nat)(vs:List V)(H:Hp)(Q:VK):Prop
 |mk(rp lp:af)(x:Nat)(ad:List Nat)(L:List (List Nat×Bool))(rows:List Row)(e0:vs=[.ref rp,.int (x:Nat),.str (txt ad),.ref lp])(e1:cD H rp rows)(e2:dY rows)(e3:x<rows.length+2)(e4:Tr.dep (T rows x)<=d)(e5:oJ H lp L)(e6:ad.length+d<=100)(e7:L.length+b_ (T rows x)<=100000)(e8:∀(H':Hp),cu lp H H'->oJ H' lp (L++eZ ad (dU (T rows x)))->Q .ck H')
def wm(d:Nat):Sp:=λa H Q _=>A8 d a H Q
theorem xR0{f:af}{fd:ak}(F:aO K "gather_leaves" "gather_leaves" FQ f fd)(Tc:mU mg)(kJ:mg "str"=none)(M_:mg "enumerate"=none)(X:∃t,mg "FULL"=some (.int 1 t))(hG:mg "gather_leaves"=some (.ref f))(bG:Binds K fd qd []):∀d,aB P w K mg base aK (d+1) f fd qd (wm d):=by
 obtain⟨tf,wN⟩:=Tc.first;obtain⟨tu,X⟩:=X;have l:∀{x c k:Nat}{a:List Nat}{L:List (List Nat×Bool)}{rows:List Row}{H:Hp}{Q:VK}{bs:List af},x<2->H k=none->H c=some (.lst (bs.map V.ref))->bs.length=L.length->(∀(i:Nat) b e,bs[i]?=some b->L[i]?=some e->H b=some (.tup [.str (txt e.1),.bl e.2])) ->
   (∀(H':Hp),cu c H H'->oJ H' c (L++eZ a (dU (T rows x)))->Q .ck H')->Q .ck (upd (upd H k (.tup [.str (txt a),.bl (decide (V.int (x:Nat)=V.int 1))])) c (.lst (bs.map V.ref++[.ref k]))):=λ{x c k a L rows H Q bs} I hk g h1 h2 q=>by
  refine q _ (λb o e ne=>by rw[bj ne,bj (cK e hk)];exact e) ?_;have e:eZ a (dU (T rows x))=[(a,decide (V.int (x:Nat)=V.int 1))]:=by
   have:x=0\/x=1:=by lia
   rcases this with rfl|rfl
   ·rw[lj];show[(a++[],false)]=_;rw[Xj];rfl
   ·rw[lh];show[(a++[],true)]=_;rw[Xj];rfl
  rw[e];exact oJ.push (e:=(a,decide (V.int (x:Nat)=V.int 1))) g h1 h2 hk
 intro d
 induction d with
 |zero=>
  refine F.ok sO (λvs H Q E h=>?_) (λbJ A N s H vs Q E hr h=>?_)
  ·obtain⟨J,c,x,a,L,rows,rfl,_⟩:=h
   rfl
  ·obtain⟨J,c,x,a,L,rows,rfl,hR,ok,G,hd,S,Nt,hL,q⟩:=h;have I:x<2:=by
    rcases mJ hd with z|z
    ·have:=(Qb ok G).1.mp z;lia
    ·have:=(Qb ok G).2.mp z;lia
   obtain⟨bs,g,h1,h2⟩:=S;refine aU ⟨_,⟨eI (fu l_ (pv 1) (gx (v:=.int 2) (by rfl) wN ⟨_,rfl⟩) (dh _)) (lP.go (.cons ⟨ir (uU Yy Yp Yq sZ (pv 3) (aF (cZ.go ⟨gf (aF (pv 2) (aF (mn tD (pv 1) (gx (v:=.int 1) (by rfl) X ⟨_,rfl⟩) (dh _)) aI))⟩) aI))⟩ (.one ⟨HD⟩))) eM⟩,?_⟩;refine⟨_,xE,?_⟩;refine⟨_,rfl,_,_,rfl,rfl,_,rfl,?_⟩;refine zH (show(x:Int)<2 from Q3 I) ?_;refine⟨_,rfl,.inl ⟨rfl,_,bZ.of g⟩,_,rfl,_,rfl,rfl,(by show 2<=sizeLine;decide),λk hk=>⟨c,_,_,rfl,rfl,cw g hk,?_,l I hk g h1 h2 q⟩⟩;rw[Ze,h1];exact jg (QV hL)
 |succ d ih=>
  refine F.ok sO (λvs H Q E h=>?_) (λbJ A N s H vs Q E hr h=>?_)
  ·obtain⟨J,c,x,a,L,rows,rfl,_⟩:=h
   rfl
  ·obtain⟨J,c,x,a,L,rows,rfl,hR,ok,G,hd,S,Nt,hL,q⟩:=h;obtain⟨bs,g,h1,h2⟩:=id S;refine aU ⟨_,⟨eI (fu l_ (pv 1) (gx (v:=.int 2) (by rfl) wN ⟨_,rfl⟩) (dh _)) (lP.go (.cons ⟨ir (uU Yy Yp Yq sZ (pv 3) (aF (cZ.go ⟨gf (aF (pv 2) (aF (mn tD (pv 1) (gx (v:=.int 1) (by rfl) X ⟨_,rfl⟩) (dh _)) aI))⟩) aI))⟩ (.one ⟨HD⟩))) eM⟩,?_⟩;refine eF ⟨_,⟨rJ Y2 rfl (Sn (by rfl) M_ (aF (cZ.go ⟨cI fQ (pv 0) (bg gN (pv 1) (gx (v:=.int 2) (by rfl) wN ⟨_,rfl⟩))⟩) aI)) (pP rfl (gz (gh 4 sO.nd) (gz (gh 5 sO.nd) pT)))
    (lP.go (.one ⟨ir (bz ih hr hG F.kp bG (bu.go (.cons ⟨pv 0⟩ (.cons ⟨pv 5⟩ (.cons ⟨bg qW2 (pv 2) (cZ.go ⟨i7 qF3 (by rfl) kJ PyProof.Rows.boot_str (aF (pv 4) aI)⟩)⟩ (.cons ⟨pv 3⟩ .nil rfl) rfl) rfl) rfl)))⟩))⟩,?_⟩
   refine⟨_,rfl,_,_,rfl,rfl,_,rfl,?_⟩;refine cC (λhc=>?_) (λhc=>?_)
   ·have I:x<2:=by have:=ZE hc;lia
    refine⟨_,rfl,.inl ⟨rfl,_,bZ.of g⟩,_,rfl,_,rfl,rfl,(by show 2<=sizeLine;decide),λk hk=>⟨c,_,_,rfl,rfl,cw g hk,?_,l I hk g h1 h2 q⟩⟩;rw[Ze,h1];exact jg (QV hL)
   ·have I:¬x<2:=λz=>hc (Zv 'a');obtain⟨j,C,D,r,B,rfl,R⟩:=rF ok G I;have eT:T rows (j+2)=.nd (T rows C) (T rows D) (T rows r) (T rows B):=l9 ok R;obtain⟨rs,DB,jV,jE⟩:=id hR;have hpr1:=(cf R).1;have Ap:rs[j]?=some (rs[j]'(x9 jV G)):=Zc (x9 jV G);have DH:=jE j _ _ Ap R;generalize rs[j]'(x9 jV G)=ra at Ap DH
    let pt:Nat->List (List Nat×Bool):=λk=>eZ (a++[k]) (dU (T rows ([C,D,r,B].getD k 0)))
    have eP:eZ a (dU (T rows (j+2)))=(List.range 4).flatMap pt:=by
     rw[eT,xy5];show _=pt 0++(pt 1++(pt 2++(pt 3++[])));rw[Xj,ZG,ZG]
     rfl
    have hle:∀i,i<=4->((List.range i).flatMap pt).length+(if i<4 then b_ (T rows ([C,D,r,B].getD i 0))else 0)<=b_ (T rows (j+2)):=λi hi=>by
     have Y:∀k,(pt k).length=b_ (T rows ([C,D,r,B].getD k 0)):=λk=>by rw[xl4,xo]
     have en:b_ (T rows (j+2))=b_ (T rows C)+b_ (T rows D)+b_ (T rows r)+b_ (T rows B):=by rw[eT];rfl
     have q0:=Y 0;have q1:=Y 1;have q2:=Y 2;have q3:=Y 3;simp only[Yu,Yv]at q0 q1 q2 q3
     match i,hi with
     |0,_=>show 0+b_ (T rows C)<=_;lia
     |1,_=>show(pt 0++[]).length+b_ (T rows D)<=_;rw[Zl];simp only[Xl];lia
     |2,_=>show(pt 0++(pt 1++[])).length+b_ (T rows r)<=_;simp only[Zl,Xl];lia
     |3,_=>show(pt 0++(pt 1++(pt 2++[]))).length+b_ (T rows B)<=_;simp only[Zl,Xl];lia
     |4,_=>show(pt 0++(pt 1++(pt 2++(pt 3++[])))).length+0<=_;simp only[Zl,Xl];lia
    rw[eP]at q;refine⟨_,rfl,_,rfl,_,_,rfl,rfl,J,_,((j:Nat):Int),.ref ra,rfl,Yi V.int 'a',bf.of DB,uP (by rw[Zf,Ap];rfl),ra,rfl,⟨_,bf.of DH⟩,xb7 (K:=K) (xs:=vN [C,D,r,B]) (λi W n=>cu c H n/\oJ n c (L++(List.range i).flatMap pt)/\Ex2 (λv4 v5=>[some (.ref J),some (.int ((j+2:Nat):Int)),some (.str (txt a)),some (.ref c),v4,v5]) W)
     (λi W n ⟨O,_⟩=>O.cg g (λu z=>nomatch z) _ _ DH) ⟨cu.refl _ _,by simpa using S,none,none,rfl⟩ ?_ ?_⟩
    ·rintro i y W n p hy ⟨O,jN,v4,v5,rfl⟩ wH;obtain⟨m,U,rfl⟩:=rH hy;have M:i<4:=(cf U).1;have T2:fJ H n:=O.cg g (λu z=>nomatch z);have em:[C,D,r,B].getD i 0=m:=by rw[Zt,U];rfl
     have MS:=hle i (x6 M);rw[Zn M,em]at MS;have s3:=bo (o:=.tup [V.int (i:Nat),V.int (m:Nat)]) wH;have vR:=jN.same s3;have B3:cu c H (upd n p (.tup [V.int (i:Nat),V.int (m:Nat)])):=O.trans (cu.of s3);have UU:upd n p (.tup [V.int (i:Nat),V.int (m:Nat)]) p=some (.tup [V.int (i:Nat),V.int (m:Nat)]):=aZ;generalize upd n p (.tup [V.int (i:Nat),V.int (m:Nat)])=H3 at s3 vR B3 UU ⊢;have T3:fJ H H3:=B3.cg g (λu z=>nomatch z);have hkl:m<rows.length+2:=by
      have:=(ok j _ R).2 m (Zm U);exact md this G
     have Z:=ES ok R M U;refine⟨p,_,rfl,bf.of UU,rfl,_,_,rfl,_,_,rfl,rfl,?_⟩;refine O3 (σ':=[some (.ref J),some (.int ((j+2:Nat):Int)),some (.str (txt a)),some (.ref c),some (.int (i:Nat)),some (.int (m:Nat))]) rfl ?_;refine opq λkf hkf=>?_;refine⟨_,rfl,_,rfl,_,rfl,_,rfl,(i:Int),rfl,?_,_,_,rfl,rfl,?_,_,rfl,?_⟩
     ·match i,M with
      |0,_|1,_|2,_|3,_=>decide +kernel
     ·rw[RS M,KO];show a.length+1<=sizeLine;exact WT (pY 'a')
     ·rw[RS M];refine⟨J,c,m,a++[i],L++(List.range i).flatMap pt,rows,?_,hR.mono T3,ok,hkl,?_,vR,?_,?_,λH4 B4 Ah=>?_⟩
      ·rw[<- xz0];rfl
      ·rw[Z];exact uG M _ hd
      ·rw[Zl];show a.length+1+d<=100;lia
      ·rw[Zl];lia
      ·refine hkf _ _ ⟨B3.trans B4,?_,_,_,rfl⟩;rw[Y8,List.flatMap_append,<- ZG];have e1:([i]:List Nat).flatMap pt=eZ (a++[i]) (dU (T rows m)):=by
        show pt i++[]=_;rw[Xj];show eZ (a++[i]) (dU (T rows ([C,D,r,B].getD i 0)))=_;rw[em]
       rw[e1];exact Ah
    ·rintro W n ⟨O,jN,v4,v5,rfl⟩;exact q n O jN
end Pr
namespace L2
open PySem PySem.Spec PyProof.Rows PySem.W
section
variable{X:Cx}
theorem LX{K:PySem.W.Frag}{y:V}{c σ:St}{H:Hp}{R:St->Hp->Prop}(m:c.length=3)(h:ee K 3 (cY (cb 0) (cY (cb 1) (cY (cb 2) eh))) y (c++σ) H R):
  ee K 3 (cY (cb 0) (cY (cb 1) (cY (cb 2) eh))) y (c++σ) H λb n=>(∃d:St,d.length=3/\b=d++σ)/\R b n:=by
 obtain⟨x,A,B,rfl⟩:=L2.HF m
 ·
  obtain⟨a,w,j,g,k,v,r,l,e,u,i,f,p,s,t,q⟩:=h;exact⟨a,w,j,g,k,v,r,l,e,u,i,f,p,s,t,⟨[some v,some e,some f],rfl,rfl⟩,q⟩
theorem xL0{x y u:ar}{t h j s:az}{k:Nat}{scope:ax}{c:List (ar×af)}{C:af}{fp:List af}{aC:ae}{aD:Hp}(hc:X.calm=true)(w:X.N.Nodup)(v:[x,y,u].Nodup)(n:∀z∈X.N,scope.names.lookup z≠some .local)
  (p:scope.names.lookup x=some .local) (r:scope.names.lookup y=some .local) (l:scope.names.lookup u=some .local):
  PG (cG X scope c C [x,y,u] fp aC aD) (.Tuple [.Name x t,.Name y h,.Name u j] k s) (ee X.K 3 (cY (cb 0) (cY (cb 1) (cY (cb 2) eh)))):=by
 have d:(cG X scope c C [x,y,u] fp aC aD).env.scope.names.lookup x=some .local:=ZY p;have g:(cG X scope c C [x,y,u] fp aC aD).env.scope.names.lookup y=some .local:=ZY r;have f:(cG X scope c C [x,y,u] fp aC aD).env.scope.names.lookup u=some .local:=ZY l;have nd:(cG X scope c C [x,y,u] fp aC aD).N.Nodup:=by
  show([x,y,u]++X.N).Nodup;rw[XB];refine⟨v,w,λa q b hb e=>?_⟩;subst e;have m:scope.names.lookup a=some .local:=by
   have:a=x\/a=y\/a=u:=by simpa using q
   rcases this with rfl|rfl|rfl<;>assumption
  exact n a hb m
 exact pP (X:=cG X scope c C [x,y,u] fp aC aD) hc (gz (mq (i:=0) nd rfl (.inl d) (.inr d)) (gz (mq (i:=1) nd rfl (.inl g) (.inr g)) (gz (mq (i:=2) nd rfl (.inl f) (.inr f)) pT)))
end
end L2
namespace Pr
open PySem L2 Qf
theorem JZ:aE ["n"] ["n"] (bq G4):=cM
inductive AV(vs:List V)(H:Hp)(Q:VK):Prop
 |mk(n:Nat)(e0:vs=[.int (n:Nat)])(e1:n<=12)(e2:Q .ck H)
def AW:Sp:=λa H Q _=>AV a H Q
theorem xR1{f b:af}{d c:ak}(F:aO K "want_floor" "want_floor" G4 f d)(i:mg "is_size"=some (.ref b))(j:aO K "is_size" "is_size" Cu b c)(m:Binds K c ["thing"] [])(e:aB P w K mg base aK 2 b c ["thing"] Lf):
  aB P w K mg base aK 3 f d ["n"] AW:=by
 refine F.ok JZ (λg H Q E h=>?_) (λp A a s H g Q E l h=>?_)
 ·obtain⟨n,rfl,_⟩:=h
  rfl
 ·obtain⟨n,rfl,k,q⟩:=h;refine⟨_,cN (eI (nO (lq (bz e l i j.kp m (aF (pv 0) aI)))) xE eM),?_⟩;exact⟨_,rfl,n,rfl,k,⟨_,rfl,cB q⟩⟩
theorem J6:aE ["n","address"] ["n","address"] (bq GV):=cM
inductive Bf(vs:List V)(H:Hp)(Q:VK):Prop
 |mk(n:Nat)(ds:List Nat)(e0:vs=[.int (n:Nat),.str (txt ds)])(e1:n<=12)(e2:(∀d∈ds,d<4))(e3:ds.length<=n)(e4:∀H' p,aG H H'->H' p=some (.tup (vN [xb n ds,yY n ds,2^(n-ds.length)]))->Q (.ref p) H')
def Bg:Sp:=λa H Q _=>Bf a H Q
theorem xR2{f a i fB:af}{m b d e:ak}(F:aO K "box_of" "box_of" GV f m)(y:mg "want_floor"=some (.ref a))(D:aO K "want_floor" "want_floor" G4 a b)(G:Binds K b ["n"] [])(u:aB P w K mg base aK 3 a b ["n"] AW)
  (hA:mg "want_address"=some (.ref i)) (FA:aO K "want_address" "want_address" GZ i d) (I:Binds K d ["n","address"] []) (B:aB P w K mg base aK 3 i d ["n","address"] P7)
  (t:mg "box_at"=some (.ref fB)) (N:aO K "box_at" "box_at" GY fB e) (M:Binds K e ["n","address"] []) (J:aB P w K mg base aK 2 fB e ["n","address"] P6):aB P w K mg base aK 4 f m ["n","address"] Bg:=by
 refine F.ok J6 (λC H Q E h=>?_) (λR A k s H C Q E j h=>?_)
 ·obtain⟨n,c,rfl,_⟩:=h
  rfl
 ·obtain⟨n,c,rfl,g,l,r,q⟩:=h;have x:aV 2 _:=j.mono 'b';refine aU ⟨_,⟨ir (bz u j y D.kp G (aF (pv 0) aI))⟩,?_⟩;refine aU ⟨_,⟨ir (bz B j hA FA.kp I (aF (pv 0) (aF (pv 1) aI)))⟩,?_⟩;refine eF ⟨_,⟨cx (bz J x t N.kp M (aF (pv 0) (aF (pv 1) aI)))⟩,?_⟩;refine⟨_,rfl,n,rfl,g,?_⟩;refine⟨_,rfl,_,rfl,n,c,rfl,g,l,r,λO v=>?_⟩;exact⟨_,rfl,_,rfl,n,c,rfl,g,l,r,λp L=>q _ p (v.trans (bo L)) aZ⟩
abbrev nLO:List ar:=["shape","top","rows","leaves"]
theorem sM:aE nLO ["shape"] (bq Ge):=cM
inductive A5(vs:List V)(H:Hp)(Q:VK):Prop
 |mk(t:af)(n tp:Nat)(rows:List Row)(e0:vs=[.ref t])(e1:aY H t n tp rows)(e2:b_ (T rows tp)<=2000)(e3:∀H' lp,aG H H'->H lp=none->oJ H' lp (dU (T rows tp))->Q (.ref lp) H')
def A6:Sp:=λa H Q _=>A5 a H Q
theorem xL1:("":ar)=txt []:=by decide +kernel
theorem xz1{H:Hp}{l:af}(h:H l=some (.lst [])):oJ H l []:=⟨[],h,rfl,λi b e h=>by simp at h⟩
theorem xl6(L:List (List Nat×Bool)):eZ [] L=L:=by unfold eZ;simp
theorem xR3{f r B p:af}{N i m k:ak}(F:aO K "leaves_of" "leaves_of" Ge f N)(T:mg "want_shape"=some (.ref r))(FW:aO K "want_shape" "want_shape" zM r i)(bW:Binds K i ["shape"] [])(Y:aB P w K mg base aK 16 r i ["shape"] Hn)
  (hC:mg "want_coarse"=some (.ref B)) (U:aO K "want_coarse" "want_coarse" Hs B m) (Z:Binds K m ["shape"] []) (GC:aB P w K mg base aK 3 B m ["shape"] Bc)
  (hG:mg "gather_leaves"=some (.ref p)) (FG:aO K "gather_leaves" "gather_leaves" FQ p k) (bG:Binds K k qd []) (GG:aB P w K mg base aK 13 p k qd (wm 12)):aB P w K mg base aK 17 f N ["shape"] A6:=by
 refine F.ok sM (λX H Q E h=>?_) (λbJ A C s H X Q E v h=>?_)
 ·obtain⟨t,n,c,rows,rfl,_⟩:=h
  rfl
 ·obtain⟨t,n,c,rows,rfl,J,hm,q⟩:=h;have DI:aV 3 _:=v.mono 'b';have Mw:aV 13 _:=v.mono 'b';refine aU ⟨_,⟨ir (bz Y v T FW.kp bW (aF (pv 0) aI))⟩,?_⟩;refine aU ⟨_,⟨ir (bz GC DI hC U.kp Z (aF (pv 0) aI))⟩,?_⟩;refine aU ⟨_,⟨sV (Sw PD (pv 0) (T5 aN) T6) (pP rfl (gz (gh 1 sM.nd) (gz (gh 2 sM.nd) pT)))⟩,?_⟩;refine aU ⟨_,⟨dk 3 sM.nd (jh aI)⟩,?_⟩;refine aU ⟨_,⟨ir (bz GG Mw hG FG.kp bG (aF (pv 2) (aF (pv 1) (aF PN (aF (pv 3) aI)))))⟩,?_⟩;refine eF ⟨_,⟨cx (pv 3)⟩,?_⟩;refine⟨_,rfl,t,n,c,rows,rfl,J,λH1 G=>?_⟩;have D:=oA J G;refine⟨_,rfl,t,n,c,rows,rfl,D,hm,λH2 O=>?_⟩;have Ik:=oA D O;obtain⟨⟨rp,S,hR⟩,d,vH⟩:=id Ik;have I:=G.trans O;refine⟨_,rfl,_,rfl,t,_,rfl,bf.of S,(λz=>absurd (show HT.dI 3 0 (some 1)=0 from z.1) 'b'),λu R=>?_⟩;refine⟨u,_,rfl,bf.of aZ,rfl,_,_,rfl,_,_,rfl,rfl,?_⟩;refine(λ(go:∀g,aG H2 g->_)=>go _ (bo R)) ?_;intro g y;refine⟨(by show 0<=sizeLine;decide),λl x=>?_⟩;have j:=bo (o:=.lst []) x;have L:upd g l (.lst []) l=some (.lst []):=aZ;have a:H l=none:=by
   cases e:H l with
   |none=>rfl
   |some o=>rw[y _ _ (I _ _ e)]at x;cases x
  generalize upd g l (.lst [])=H4 at j L ⊢;refine⟨_,rfl,_,rfl,_,rfl,rp,l,c,[],[],rows,?_,hR.mono (y.trans j).cg,d.iQ,d.kr,ZD (BY d) d.size,xz1 L,by decide,?_,λV W M=>?_⟩
  ·rw[<- xL1];rfl
  ·show 0+_<=_;lia
  ·rw[xl6]at M;refine⟨_,rfl,q V l (λb o e=>W b o (j _ _ (y _ _ (I _ _ e))) (cK e a)) a M⟩
end Pr
namespace L2
open PySem PySem.Spec PyProof.Rows
inductive JK(a b:ar)(x:V)(H:Hp)(Q:VK):Prop
 |mk(i:Int)(e0:x=.int i)(e1:i.natAbs.log2<1920)(e2:(Str.empty++a++(toString i:String)++b:ar).length<=sizeLine)(e3:Q (.str (Str.empty++a++(toString i:String)++b)) H)
def tFm(a:ar)(te:TE)(b:ar):TE:=λd H Q=>te d H λx c=>JK a b x c Q
theorem xz2{X:Cx}{a b:ar}{e:au}{te:TE}{n r:Nat}{C w f d:az}(j:PE X e te)(A:(Str.empty++a).length<=sizeLine:=by decide):
  PE X (.JoinedStr [.Constant (.str a) n C,.FormattedValue e (-1) none w,.Constant (.str b) r f] d) (tFm a te b):=by
 intro u s B H Q I h;refine wpAny_JoinedStr ?_;have go:∀{x y:ar},(x++y).length<=sizeLine->x.length<=sizeLine:=λ{x y} h=>by
  rw[strLen_append]at h;exact ZD (Xb _ _) h
 refine Vy ?_;refine⟨a,_,rfl,A,?_⟩;refine wpAny_FormattedValue_plain (bh (j u _ B H _ (I.tok _) h) λv D ⟨x,p,g,m,l⟩=>?_);obtain⟨i,rfl,k,c,q⟩:=l;obtain⟨t,rfl⟩:=m;refine wpAny_formatField_int k ⟨_,_,rfl,go c,?_⟩;refine Vy ⟨b,_,rfl,c,c,?_⟩;exact⟨.str _,p,g.tok _,⟨_,rfl⟩,q⟩
mutual
inductive gc(H:Hp):V->PyData->Prop
 |ck:gc H .ck .none
 |bl (b:Bool):gc H (.bl b) (.bool b)
 |int (i:Int):gc H (.int i) (.int i)
 |str (x:ar):gc H (.str x) (.str x)
 |lst {a:af}{xs:List V}{ds:List PyData}(h:H a=some (.lst xs)) (r:c_ H xs ds):gc H (.ref a) (.list ds)
 |tup {a:af}{xs:List V}{ds:List PyData}(h:H a=some (.tup xs)) (r:c_ H xs ds):gc H (.ref a) (.tuple ds)
 |dic {a:af}(h:H a=some (.dK [])):gc H (.ref a) (.dict [])
inductive c_(H:Hp):List V->List PyData->Prop
 |nil:c_ H [] []
 |cons {x:V}{xs:List V}{d:PyData}{ds:List PyData}(h:gc H x d) (r:c_ H xs ds):c_ H (x::xs) (d::ds)
end
section
variable{H:Hp}
mutual
theorem gc.same{a:Hp}(s:∀b o,H b=some o->a b=some o):∀{x:V}{d:PyData},gc H x d->gc a x d
 |_,_,.ck=>.ck
 |_,_,.bl b=>.bl b
 |_,_,.int i=>.int i
 |_,_,.str x=>.str x
 |_,_,.lst e r=>.lst (s _ _ e) (c_.same s r)
 |_,_,.tup e r=>.tup (s _ _ e) (c_.same s r)
 |_,_,.dic e=>.dic (s _ _ e)
theorem c_.same{d:Hp}(s:∀b o,H b=some o->d b=some o):∀{c:List V}{a:List PyData},c_ H c a->c_ d c a
 |_,_,.nil=>.nil
 |_,_,.cons h r=>.cons (gc.same s h) (c_.same s r)
end
mutual
theorem gc.of:∀{x:V}{d:PyData},aX H x d->gc H x d
 |_,_,.ck=>.ck
 |_,_,.bl b=>.bl b
 |_,_,.int i=>.int i
 |_,_,.str x=>.str x
 |_,_,.lst e r=>.lst e (c_.of r)
 |_,_,.tup e r=>.tup e (c_.of r)
theorem c_.of:∀{a:List V}{b:List PyData},aM H a b->c_ H a b
 |_,_,.nil=>.nil
 |_,_,.cons h r=>.cons (gc.of h) (c_.of r)
end
end
theorem aO.HH{P:ag}{w:aj}{K:PySem.W.Frag}{mg:ar->Option aa}{base:ao}{x b:ar}{st:aA}{f:af}{e:ak}{N ps:List ar}{k:Nat}{sp:Sp}(F:aO K x b st f e)(S:aE N ps (bq st))(len:∀c H Q E,sp c H Q E->c.length=ps.length)
  (h:∀(d:aa)(A:aq)(a:List Env)(s:ae)(H:Hp)(c:List V)(Q:VK)(E:XK),aV k (A.deeper (envOfC b (bq st) s.heap.objs.size f d))->sp c H Q E ->
   ∃t,ik (ju (jz P w) P w K mg base N b (bq st) f d A a s H E) (nR st) t/\t {nx:=λ_ l=>Q .ck l,rt:=Q} (start N c) H):aB P w K mg base (jz P w) (k+1) f e ps sp:=by
 obtain⟨r,y,kV,g,v,u,d,q,p,rfl,n,i⟩:=F.ex;exact QI n i S len λA a s H c Q E m j=>h d A a s H c Q E m j
section
variable{X:Cx}
theorem xl7{x y u:ar}{t q l n b:az}{k:Nat}{a iter:au}{scope:ax}{m:TI}{te:TE}(N:List ar)(g:ax)(G:X.N=N)(M:X.env.scope=g)(hc:X.calm=true)(W:X.N.Nodup)(F:PI X (.Tuple [.Name x t,.Name y q,.Name u l] k n) iter m)
  (B:∀f C e d i,PE (cG X scope f C [x,y,u] e d i) a te) (U:[x,y,u].Nodup:=by decide)
  (J:scope.kind=.function:=by rfl) (w:scope.names.all (λy=>y.2 != .cell)=true:=by decide +kernel) (O:scope.names.all (λy=>y.2 != .local||scope.names.lookup y.1==some .local)=true:=by decide +kernel)
  (P:scope.names.lookup x=some .local:=by rfl) (T:scope.names.lookup y=some .local:=by rfl) (A:scope.names.lookup u=some .local:=by rfl) (v:N.all (λy=>scope.names.lookup y != some .local)=true:=by decide +kernel)
  (hfr:scope.names.all (λp=>p.2 != .free||(g.names.lookup p.1==some .cell||g.names.lookup p.1==some .free))=true:=by decide +kernel)
  (hs:∀x,foldedSetIterable iter X.env x=pure x:=by intro _;rfl):PE X (.ListComp a [⟨.Tuple [.Name x t,.Name y q,.Name u l] k n,iter,[],0⟩] scope b) (nL 3 m (ee X.K 3 (cY (cb 0) (cY (cb 1) (cY (cb 2) eh)))) ow te):=by
 obtain⟨D,S,r,E⟩:=rO G M w O v hfr;exact BV (nn:=[x,y,u]) (λ_=>pure true) hc F (λK c j=>zq a _ iter scope b K c j) (λf C e d i=>xL0 hc W U r P T A) (λy Y V H R L h=>LX L h) (λf C e d i Z s V H Q I h=>Zb ⟨H,I,h⟩) B J D S r E hs
end
theorem Fc{H:Hp}{D:af}{n:Nat}{ys:List V}{is:List Nat}{a:List (List Int)}(s:H D=some (.lst ys))(i:ys.length=is.length)(k:a.length=is.length)
  (h:∀(m:Nat) y j,ys[m]?=some y->is[m]?=some j->∃c g,y=.ref c/\a[m]?=some g/\H c=some (.tup (g.map V.int))):il H D a:=by
 obtain⟨e,rfl⟩:=Pr.Hm (ys:=ys) λm y f=>by
  have t:=(cf f).1;obtain⟨c,g,z,_⟩:=h m y _ f (Zc 'a');exact⟨c,z⟩
 have p:e.length=is.length:=by rw[Ze]at i;exact i
 refine⟨e,s,by rw[p,k],λm c g b l=>?_⟩;have t:=(cf b).1;obtain⟨v,u,q,d,r⟩:=h m (.ref c) _ (by rw[Zf,b];rfl) (Zc 'a');cases q;rw[l]at d;cases d;exact r
theorem xL2{K:PySem.W.Frag}{H:Hp}{a:af}{fs:List (List Int)}{te:TE}{σ:St}{Fin:Hp->Prop}{D:af}(M:H D=none)(hA:il H a fs)(L:∀f∈fs,f.length=3)(hsz:fs.length<sizeLine)(fn:Int->Int->Int->List Int)
  (step:∀x y u e,[x,y,u]∈fs->aG H e->∀I:VK,(∀b d,aG e d->d b=some (.tup ((fn x y u).map V.int))->I (.ref b) d)->te (some (.int x)::some (.int y)::some (.int u)::σ) e I)
  (fin:∀e,aG H e->il e D (fs.map λf=>fn (f.getD 0 0) (f.getD 1 0) (f.getD 2 0))->Fin e):
  ∃W:Nat->Nat->List V->Hp->Prop,(∃m,W 0 m [] (upd H D (.lst []))) /\
   ∀i m g e,W i m g e->e D=some (.lst g)/\g.length<sizeLine/\(((oN K a).stop i e/\Fin e)\/((oN K a).go i e/\∀y d,(oN K a).iK i e y d->∀p:St,p.length=3 ->
    ee K 3 (cY (cb 0) (cY (cb 1) (cY (cb 2) eh))) y (p++σ) d λF t=>ow F t λb B=>if b=true then te F B λv C=>C D=some (.lst g)/\∃h,h<m/\W (i+1) h (g++[v]) (upd C D (.lst (g++[v])))else ∃h,h<m/\W (i+1) h g B)):=by
 obtain⟨bs,hb,hl,T⟩:=hA;have q:(bs.map V.ref).length=fs.length:=by rw[Ze];exact hl
 refine xF M (λ_=>true) (λj z d=>∃c f,z=.ref c/\fs[j]?=some f/\d c=some (.tup ((fn (f.getD 0 0) (f.getD 1 0) (f.getD 2 0)).map V.int))) (uR (K:=K) hb) (by rw[q];exact hsz) ?_ ?_ ?_
 ·rintro j z d t tk ⟨b,r,rfl,h1,h2⟩;exact⟨b,r,rfl,h1,tk _ _ h2⟩
 ·intro j x d hj G k p R Q1 Q2 q1 q2;have E:j<fs.length:=by rw[<- q];exact hj
  rw[Zf]at G;obtain⟨b,Q,rfl⟩:=Zh.mp G;have l:fs[j]?=some fs[j]:=Zc E;have s:=Yx E;generalize fs[j]=f at l s;obtain⟨x,y,u,rfl⟩:=L2.HF (L f s);have Y:=k _ _ (T j b _ Q l);obtain⟨o1,o2,o3,rfl⟩:=L2.HF R;refine⟨b,_,rfl,bf.of Y,rfl,_,_,rfl,_,_,rfl,_,_,rfl,rfl,?_⟩;show(if(true:Bool)=true then _ else Q1 d);rw[Zn rfl];exact step x y u d s k _ λc t P Z=>q2 rfl _ _ P ⟨c,_,rfl,l,Z⟩
 ·intro ys d k kE J w;have X:(List.range (bs.map V.ref).length).filter (λ_=>true)=List.range fs.length:=by rw[q];simp
  rw[X]at J w;refine fin d k (Fc (n:=0) kE J (by rw[Ze,Yk]) λm y j N A=>?_);obtain⟨c,f,S,O,U⟩:=w m y j N A;have:j=m:=by
   obtain⟨h1,h2⟩:=cf A;simpa using h2.symm
  subst this;exact⟨c,_,S,by rw[Zf,O];rfl,U⟩
end L2
namespace Qf
theorem qL0{a:Type}(d:a)(p:a->Bool){b:Type}(g:a->b)(L:List a):((List.range L.length).filter λi=>p (L.getD i d)).map (λi=>g (L.getD i d))=(L.filter p).map g:=by
 have e:L=(List.range L.length).map λi=>L.getD i d:=by
  refine Wp λi=>?_;rw[Zf];by_cases h:i<L.length
  ·rw[YU h,Zc h];show _=some (L.getD i d);rw[Zt,Zc h]
   rfl
  ·rw[YI 'a',YI (by rw[Yk];lia)]
   rfl
 rw[show(L.filter p).map g=(((List.range L.length).map λi=>L.getD i d).filter p).map g by rw[<- e],List.filter_map,Ym]
 rfl
end Qf
namespace Pr
open PySem L2 Qf
theorem xz3:(Str.empty++("the shape has more than ":ar)++(toString (200:Int):String)++(" leaves":ar):ar).length<=sizeLine:=by decide +kernel
structure Ol(K:PySem.W.Frag)(mg:ar->Option aa)(C:af):Prop where
 at_:mg "TooMany"=some (.ref C)
 ex:PySem.W.excIn K C N9 "ValueError.__new__"=true
inductive vz(CM:af)(vs:List V)(H:Hp)(E:XK):Prop
 |mk(t:af)(n tp:Nat)(rows:List Row)(e0:vs=[.ref t,.int 200])(e1:aY H t n tp rows)(e2:200<b_ (T rows tp))(q:∀H',aG H H'->E (.ref CM) none H')
def Qj(b:af):Sp:=λa H Q E=>vz b a H E
theorem xL4{f c j:af}{i b:ak}(F:aO K "want_leaves" "want_leaves" zL f i)(X:Ol K mg j)(C:mg "count_leaves"=some (.ref c))(l:aO K "count_leaves" "count_leaves" zo c b)(r:Binds K b ["top","rows"] [])(v:aB P w K mg base aK 1 c b ["top","rows"] wt):
  aB P w K mg base (jz P w) 2 f i ["shape","most"] (Qj j):=by
 refine F.HH Bp (λm H Q E h=>?_) (λI A d s H m Q E y h=>?_)
 ·obtain⟨t,n,a,rows,rfl,_⟩:=h
  rfl
 ·obtain⟨t,n,a,rows,rfl,u,D,q⟩:=h;obtain⟨⟨p,e,x⟩,g,B⟩:=id u;refine eF ⟨_,⟨eI (fu CA (cZ.go ⟨bz v y C l.kp r (bu.go (.cons ⟨cI fQ (pv 0) aN⟩ (.cons ⟨cI fQ (pv 0) aN⟩ .nil rfl) rfl))⟩) (pv 1) (dh _)) (cN (xh0 (by rfl) X.at_ X.ex rfl xt9 (aF (xz2 (pv 1)) aI))) eM⟩,?_⟩;refine⟨_,rfl,t,_,1,.int (a:Nat),rfl,rfl,bf.of e,rfl,_,rfl,t,_,2,.ref p,rfl,rfl,bf.of e,rfl,p,a,rows,rfl,x,g.iQ,B,g.kr,λG k=>?_⟩;refine⟨_,rfl,_,_,rfl,rfl,_,rfl,?_⟩;refine zH (show((200:Int)<(b_ (T rows a):Nat)) by lia) ?_;exact⟨_,rfl,⟨200,rfl,by decide,xz3,by decide +kernel,q _ k⟩⟩
theorem JY:aE ["shape","far"] ["shape","far"] (bq BH):=cM
inductive AU(CM:af)(vs:List V)(H:Hp)(Q:VK)(E:XK):Prop
 |good (t:af) (n tp k:Nat) (rows:List Row) (e0:vs=[.ref t,.int (k:Nat)]) (e1:aY H t n tp rows) (e2:b_ (T rows tp)<=200) (e3:k<=4096) (q:∀H',aG H H'->Q .ck H')
 |many (t:af) (n tp k:Nat) (rows:List Row) (e0:vs=[.ref t,.int (k:Nat)]) (e1:aY H t n tp rows) (e2:200<b_ (T rows tp)) (e3:k<=4096) (q:∀H',aG H H'->E (.ref CM) none H')
def wa(b:af):Sp:=λa H Q E=>AU b a H Q E
theorem xR4{f i fK e I:af}{G l j d:ak}(F:aO K "want_growth" "want_growth" BH f G)(B:fk mg)(X:∃t,mg "MOST_FAR"=some (.int 4096 t))(U:∃t,mg "MOST_LEAVES_GROWN"=some (.int 200 t))
  (O:mg "want_shape"=some (.ref i)) (V:aO K "want_shape" "want_shape" zM i l) (Z:Binds K l ["shape"] []) (L:aB P w K mg base aK 16 i l ["shape"] Hn)
  (T:mg "is_whole"=some (.ref fK)) (x:aO K "is_whole" "is_whole" zN fK j) (bK:Binds K j ["thing"] [])
  (J:mg "want_leaves"=some (.ref e)) (C:aO K "want_leaves" "want_leaves" zL e d) (D:Binds K d ["shape","most"] []) (Y:aB P w K mg base aK 2 e d ["shape","most"] v_) (S:aB P w K mg base (jz P w) 2 e d ["shape","most"] (Qj I)):
  aB P w K mg base (jz P w) 17 f G ["shape","far"] (wa I):=by
 obtain⟨t1,h1⟩:=X;obtain⟨t2,h2⟩:=U;have R:aB P w K mg base aK 1 fK j ["thing"] Ho:=La x B;refine F.HH JY (λN H Q E h=>?_) (λbJ A u s H N Q E m h=>?_)
 ·rcases h with⟨t,n,a,k,rows,rfl,_⟩|⟨t,n,a,k,rows,rfl,_⟩<;>rfl
 ·have M:aV 1 _:=m.mono 'b';have y:aV 2 _:=m.mono 'b';refine aU ⟨_,⟨ir (bz L m O V.kp Z (aF (pv 0) aI))⟩,?_⟩;refine aU ⟨_,⟨eI (PW.pt (oz (nO (lq (bz R M T x.kp bK (aF (pv 1) aI)))) (pQ (nO (xe8 oy oy aN (pv 1) (gx (v:=.int 4096) (by rfl) h1 ⟨_,rfl⟩)))))) xE eM⟩,?_⟩;rcases h with⟨t,n,a,k,rows,rfl,c,p,hk,q⟩|⟨t,n,a,k,rows,rfl,c,p,hk,q⟩
  ·refine eF ⟨_,⟨ir (bz Y y J C.kp D (aF (pv 0) (aF (gx (v:=.int 200) (by rfl) h2 ⟨_,rfl⟩) aI)))⟩,?_⟩;refine⟨_,rfl,t,n,a,rows,rfl,c,λW b=>?_⟩;refine⟨_,rfl,(k:Int),rfl,_,rfl,cB ?_⟩;refine⟨_,rfl,_,_,rfl,rfl,_,rfl,?_⟩;refine zH (show(0:Int)<=(k:Int) by lia) ⟨_,_,rfl,rfl,_,rfl,?_⟩;rw[Zv (show(k:Int)<=4096 by lia)];refine cB ?_;exact⟨_,rfl,t,n,a,200,rows,rfl,oA c b,p,λr g=>q r (b.trans g)⟩
  ·refine eF ⟨_,⟨ir (xy S y (by rfl) J C.kp D .nil K4 (aF (pv 0) (aF (gx (v:=.int 200) (by rfl) h2 ⟨_,rfl⟩) aI)))⟩,?_⟩;refine⟨_,rfl,t,n,a,rows,rfl,c,λW b=>?_⟩;refine⟨_,rfl,(k:Int),rfl,_,rfl,cB ?_⟩;refine⟨_,rfl,_,_,rfl,rfl,_,rfl,?_⟩;refine zH (show(0:Int)<=(k:Int) by lia) ⟨_,_,rfl,rfl,_,rfl,?_⟩;rw[Zv (show(k:Int)<=4096 by lia)];refine cB ?_;exact⟨_,rfl,t,n,a,rows,rfl,oA c b,p,λr g=>q r (b.trans g)⟩
end Pr
namespace Qf
def sk(n:Nat)(a:List Nat):List Int:=[((fg (· / 2) n a:Nat):Int),((fg (·%2) n a:Nat):Int),((2^(n-a.length):Nat):Int)]
theorem xl9(n:Nat)(t:Tr)(w:Bool):(((dU t).filter λe=>e.2==w).map λe=>sk n e.1).map (λf=>[f.getD 0 0,f.getD 1 0,f.getD 2 0,f.getD 2 0])=gB n t w:=by
 unfold gB;rw[Ym]
 rfl
theorem RO{n:Nat}{t:Tr}{w:Bool}:(gB n t w).length<=b_ t:=by
 unfold gB;rw[Ze,<- xo];exact Yr _ _
theorem SE{n:Nat}{t:Tr}{w:Bool}:∀f∈gB n t w,f.length=4:=λf a=>by
 obtain⟨b,_,rfl⟩:=jk.mp a
 rfl
end Qf
namespace Pr
open PySem L2 Qf
abbrev LL:List ar:=["shape","wanted","boxes"]
theorem w_:aE LL ["shape","wanted"] (bq xA):=cM
inductive wx(vs:List V)(H:Hp)(Q:VK):Prop
 |mk(t:af)(n tp:Nat)(rows:List Row)(b:Bool)(e0:vs=[.ref t,.bl b])(e1:aY H t n tp rows)(e2:b_ (T rows tp)<=200)(q:∀H' D,aG H H'->H D=none->il H' D (gB n (T rows tp) b)->Q (.ref D) H')
def I0:Sp:=λa H Q _=>wx a H Q
theorem xL5{f W fB:af}{fd G M:ak}(F:aO K "boxes_where" "boxes_where" xA f fd)
  (hL:mg "leaves_of"=some (.ref W)) (FL:aO K "leaves_of" "leaves_of" Ge W G) (bL:Binds K G ["shape"] []) (GL:aB P w K mg base aK 17 W G ["shape"] A6)
  (hB:mg "box_of"=some (.ref fB)) (FB:aO K "box_of" "box_of" GV fB M) (bB:Binds K M ["n","address"] []) (GB:aB P w K mg base aK 4 fB M ["n","address"] Bg):aB P w K mg base aK 18 f fd ["shape","wanted"] I0:=by
 refine F.ok w_ (λvs H Q E h=>?_) (λbJ A O s H vs Q E Z h=>?_)
 ·obtain⟨t,n,g,rows,b,rfl,_⟩:=h
  rfl
 ·obtain⟨t,n,g,rows,b,rfl,l,hl,q⟩:=h;have N:aV 4 _:=Z.mono 'b';refine aU ⟨_,⟨qZ3 (i0:=2) LL (bq xA) rfl rfl rfl w_.nd rfl rfl (oB (cZ.go ⟨bz GL Z hL FL.kp bL (aF (pv 0) aI)⟩)) (λcl C fp aC Y=>fu tD (pv 1) (pv 3) (dh _))
   (λcl C fp aC Y=>bz GB N hB FB.kp bB (aF (cI (rW K rfl) (pv 2) aN) (aF (pv 0) aI)))⟩,?_⟩
  refine eF ⟨_,⟨cx (xl7 LL (bq xA) rfl rfl rfl w_.nd (oB (pv 2)) (λcl C fp aC Y=>cZ.go ⟨gf (bu.go (.cons ⟨pv 0⟩ (.cons ⟨pv 1⟩ (.cons ⟨pv 2⟩ (.cons ⟨pv 2⟩ .nil rfl) rfl) rfl) rfl))⟩))⟩,?_⟩;have Nf:=BY l.2.1;have hn:=l.2.1.size;refine⟨_,rfl,t,n,g,rows,rfl,l,by lia,λH1 lp J hln B=>?_⟩;obtain⟨⟨rp,ht,hR⟩,cn,vH⟩:=oA l J;obtain⟨bs,hb,jV,jE⟩:=id B;have S:(bs.map V.ref).length=(dU (T rows g)).length:=by rw[Ze];exact jV
  have hLl:(dU (T rows g)).length<=200:=by rw[xo];exact hl
  have R:∀e∈dU (T rows g),(∀d∈e.1,d<4)/\e.1.length<=n:=λe he=>Gr n _ e Nf he;rw[<- xl9]at q;generalize dU (T rows g)=L at *;refine⟨lp,rfl,⟨_,bZ.of hb⟩,λD hD=>xF hD (λi=>(L.getD i ([],false)).2==b) (λi v a=>∃p,v=.ref p/\a p=some (.tup ((sk n (L.getD i ([],false)).1).map V.int))) (uR (K:=K) hb) (jg (by rw[S];lia)) ?_ ?_ ?_⟩
  ·rintro i y a H4 t4 ⟨p,h1,h2⟩;exact⟨p,h1,t4 _ _ h2⟩
  ·intro i x a hi hx k os ho Q1 Q2 q1 q2;rw[Zf]at hx;obtain⟨c,hc,rfl⟩:=Zh.mp hx;have kC:i<L.length:=by rw[<- S];exact hi
   have hg:L[i]?=some (L.getD i ([],false)):=by rw[Zt,Zc kC];rfl
   have kZ:=k _ _ (jE i c _ hc hg);have hm:=Zm hg;generalize L.getD i ([],false)=e at *;obtain⟨a4,al⟩:=R e hm;obtain⟨o1,o2,rfl⟩:=L2.zX ho;refine⟨c,_,rfl,bf.of kZ,rfl,_,_,rfl,_,_,rfl,rfl,?_⟩;refine⟨_,rfl,_,rfl,rfl,_,rfl,?_⟩;have eb:decide (V.bl e.2=V.bl b)=(e.2==b):=G8;rw[eb];refine cC (λh1=>?_) (λh1=>q1 (ZX.mpr h1) _ (aG.refl _));exact⟨_,rfl,t,_,0,.int (n:Nat),rfl,rfl,bf.of (k _ _ ht),rfl,_,rfl,n,e.1,rfl,hn,a4,al,λH4 p s4 U=>q2 h1 _ _ s4 ⟨p,rfl,U⟩⟩
  ·intro ys H2 s2 jW wF wX;rw[S]at wF wX;have X:il H2 D ((L.filter λe=>e.2==b).map λe=>sk n e.1):=by
    rw[<- qL0 ([],false) (λe:List Nat×Bool=>e.2==b) (λe=>sk n e.1) L];refine Fc (n:=0) jW wF (Ze ..) λm y j e1 e2=>?_;obtain⟨p,h1,h2⟩:=wX m y j e1 e2;exact⟨p,_,h1,by rw[Zf,e2];rfl,h2⟩
   obtain⟨as,I,_⟩:=id X;refine⟨_,rfl,D,rfl,⟨_,bZ.of I⟩,λD2 r=>xL2 r X (λf hf=>?_) (jg ?_) (λx y u=>[x,y,u,u]) ?_ ?_⟩
   ·obtain⟨e,_,rfl⟩:=ZF.mp hf
    rfl
   ·rw[Ze];exact ZD (Yr _ _) 'a'
   ·intro x y u a hm k Q' q';exact⟨_,rfl,_,rfl,_,rfl,_,rfl,(by show 4<=sizeLine;decide),λp U=>q' p _ (bo U) aZ⟩
   ·intro a k Nx;refine q a D2 ((J.trans s2).trans k) ?_ Nx;cases e:H D2 with
    |none=>rfl
    |some o=>rw[(J.trans s2) _ _ e]at r;cases r
theorem Br:aE ["n","side"] ["n"] (bq FJ):=cM
inductive Bh(vs:List V)(H:Hp)(Q:VK):Prop
 |mk(n:Nat)(e0:vs=[.int (n:Nat)])(e1:n<=12)(q:∀H' D,aG H H'->H D=none->il H' D (EO ((2^n:Nat):Int))->Q (.ref D) H')
def Bi:Sp:=λa H Q _=>Bh a H Q
theorem xR5{f k:af}{x l:ak}(F:aO K "boxes_around" "boxes_around" FJ f x)(G:mg "side_of"=some (.ref k))(v:aO K "side_of" "side_of" zE k l)(L:Binds K l ["n"] []):aB P w K mg base aK 2 f x ["n"] Bi:=by
 have y:aB P w K mg base aK 1 k l ["n"] Gv:=KJ v;refine F.ok Br (λC H Q E h=>?_) (λN A j s H C Q E J h=>?_)
 ·obtain⟨n,rfl,_⟩:=h
  rfl
 ·obtain⟨n,rfl,I,q⟩:=h;refine aU ⟨_,⟨dk 1 Br.nd (bz y J G v.kp L (aF (pv 0) aI))⟩,?_⟩;refine eF ⟨_,⟨cx (jh (bu.go (.cons ⟨gf (bu.go (.cons ⟨Fn G9 aN⟩ (.cons ⟨aN⟩ (.cons ⟨aN⟩ (.cons ⟨pv 1⟩ .nil rfl) rfl) rfl) rfl))⟩
   (.cons ⟨gf (bu.go (.cons ⟨pv 1⟩ (.cons ⟨aN⟩ (.cons ⟨aN⟩ (.cons ⟨pv 1⟩ .nil rfl) rfl) rfl) rfl))⟩
   (.cons ⟨gf (bu.go (.cons ⟨aN⟩ (.cons ⟨Fn G9 aN⟩ (.cons ⟨pv 1⟩ (.cons ⟨aN⟩ .nil rfl) rfl) rfl) rfl))⟩
   (.cons ⟨gf (bu.go (.cons ⟨aN⟩ (.cons ⟨pv 1⟩ (.cons ⟨pv 1⟩ (.cons ⟨aN⟩ .nil rfl) rfl) rfl) rfl))⟩ .nil rfl) rfl) rfl) rfl)))⟩,?_⟩
  refine⟨_,rfl,n,rfl,I,?_⟩;refine⟨_,rfl,_,rfl,(by show 4<=sizeLine;decide),λu r=>⟨_,rfl,_,rfl,(by show 4<=sizeLine;decide),λm h1=>⟨_,rfl,_,rfl,(by show 4<=sizeLine;decide),λp h2=>⟨_,rfl,_,rfl,(by show 4<=sizeLine;decide),λt g=>⟨(by show 4<=sizeLine;decide),λD d=>?_⟩⟩⟩⟩⟩;generalize M:((2^n:Nat):Int)=S at *;have B:=((bo (o:=.tup [.int (-1),.int 0,.int 1,.int S]) r).trans (bo (o:=.tup [.int S,.int 0,.int 1,.int S]) h1)).trans (((bo (o:=.tup [.int 0,.int (-1),.int S,.int 1]) h2).trans (bo (o:=.tup [.int 0,.int S,.int S,.int 1]) g)).trans (bo (o:=.lst [.ref u,.ref m,.ref p,.ref t]) d));refine q _ D B ?_ ⟨[u,m,p,t],aZ,rfl,λi b f c a=>?_⟩
  ·cases e:H D with
   |none=>rfl
   |some o=>
    have:=(((bo (o:=.tup [.int (-1),.int 0,.int 1,.int S]) r).trans (bo (o:=.tup [.int S,.int 0,.int 1,.int S]) h1)).trans ((bo (o:=.tup [.int 0,.int (-1),.int S,.int 1]) h2).trans (bo (o:=.tup [.int 0,.int S,.int S,.int 1]) g))) _ _ e;rw[d]at this;cases this
  ·match i,c,a with
   |0,c,a=>cases c;cases a;exact cw (cw (cw (cw aZ h1) h2) g) d
   |1,c,a=>cases c;cases a;exact cw (cw (cw aZ h2) g) d
   |2,c,a=>cases c;cases a;exact cw (cw aZ g) d
   |3,c,a=>cases c;cases a;exact cw aZ d
theorem uw:aE ["n","boxes","far"] ["n","boxes","far"] (bq zl):=cM
inductive wb(vs:List V)(H:Hp)(Q:VK):Prop
 |mk(n:Nat)(b:af)(k:Nat)(bs:List (List Int))(t:Tr)(e0:vs=[.int (n:Nat),.ref b,.int (k:Nat)])(e1:il H b bs)(e2:∀f∈bs,f.length=4)(e3:bs.length<=1190)(e4:n<=12)(e5:AA n (bs.map (iO k)) t)(e6:cq t<=1190890)(q:∀H' t' df aP,aG H H'->cJ H' t' n df aP->Canon n df aP->T aP df=t->Q (.ref t') H')
def IZ:Sp:=λa H Q _=>wb a H Q
theorem xL6{f i:af}{l j:ak}(F:aO K "spread" "spread" zl f l)(S:mg "shape_of_boxes"=some (.ref i))(U:aO K "shape_of_boxes" "shape_of_boxes" BS i j)(bS:Binds K j ["n","boxes"] [])(m:aB P w K mg base aK 17 i j ["n","boxes"] AZ):aB P w K mg base aK 18 f l ["n","boxes","far"] IZ:=by
 refine F.ok uw (λO H Q E h=>?_) (λbJ A d s H O Q E Z h=>?_)
 ·obtain⟨n,b,k,bs,t,rfl,_⟩:=h
  rfl
 ·obtain⟨n,b,k,bs,t,rfl,hA,M,hl,W,G,I,q⟩:=h;refine eF ⟨_,⟨cx (bz m Z S U.kp bS (bu.go (.cons ⟨pv 0⟩ (.cons ⟨xi8 ["n","boxes","far"] (bq zl) rfl rfl rfl uw.nd (oB (pv 1))
   (λcl C' fp aC aD=>cZ.go ⟨gf (bu.go (.cons ⟨bg gN (pv 0) (pv 6)⟩ (.cons ⟨bg gN (pv 1) (pv 6)⟩ (.cons ⟨bg gO (pv 2) (bg ng aN (pv 6))⟩ (.cons ⟨bg gO (pv 3) (bg ng aN (pv 6))⟩ .nil rfl) rfl) rfl) rfl))⟩)⟩ .nil rfl) rfl)))⟩,?_⟩
  obtain⟨as,c,_⟩:=id hA;refine⟨_,rfl,_,rfl,b,rfl,⟨_,bZ.of c⟩,λD r=>Jy r hA M (jg 'a') (oW k) ?_ ?_⟩
  ·intro x y u v H2 hm s2 Q' T;refine⟨_,rfl,_,rfl,_,_,rfl,rfl,_,rfl,_,rfl,_,_,rfl,rfl,_,rfl,_,rfl,_,_,rfl,rfl,.inl ⟨by decide,by decide⟩,_,_,rfl,rfl,_,rfl,_,rfl,_,_,rfl,rfl,.inl ⟨by decide,by decide⟩,_,_,rfl,rfl,(by show 4<=sizeLine;decide),λp V=>T p _ (bo V) aZ⟩
  ·intro H1 C J;refine⟨n,D,_,t,rfl,J,λg B=>?_,by rw[Ze];exact hl,W,G,I,λY X R L s' a N e=>q Y X R L (C.trans s') a N e⟩;obtain⟨f,_,rfl⟩:=ZF.mp B
   rfl
abbrev Uw:List ar:=["row","rows"]
theorem xR6:Uw.Nodup:=by decide +kernel
theorem xL7:aE ["number"] ["number"] (bq Cr):=cM
def Jt:Sp:=λa H Q _=>∃q:Nat,a=[.int (q:Nat)]/\Q (.int (ex q:Nat)) H
theorem PZ{f:af}{d:ak}(F:aO K "exchanged" "exchanged" Cr f d)(T:mU mg):aB P w K mg base aK 1 f d ["number"] Jt:=by
 obtain⟨k,j⟩:=T.first;obtain⟨l,g⟩:=T.full;refine F.ok xL7 (λi H Q E h=>?_) (λn A a s H i Q E m h=>?_)
 ·obtain⟨x,rfl,_⟩:=h
  rfl
 ·obtain⟨x,rfl,q⟩:=h;refine⟨_,fY (eI (fu l_ (pv 0) (gx (v:=.int 2) (by rfl) j ⟨_,rfl⟩) (dh _)) (cN (cx (bg gN (gx (v:=.int 1) (by rfl) g ⟨_,rfl⟩) (pv 0)))) eM) (cN (cx (pv 0))),?_⟩;refine⟨_,rfl,_,_,rfl,rfl,_,rfl,?_⟩;refine cC (λc=>?_) (λc=>?_)
  ·have b:x<2:=by have:=ZE c;lia
   refine⟨_,rfl,_,_,rfl,rfl,?_⟩;have e:ex x=1-x:=Zn b;rw[e]at q;show Q (V.int (1-(x:Int))) H;rw[show(1:Int)-(x:Int)=((1-x:Nat):Int) by lia];exact q
  ·have b:¬x<2:=λz=>c (Zv 'a');have e:ex x=x:=Zj b;rw[e]at q;exact⟨_,rfl,q⟩
theorem mZ:aE ["rows"] ["rows"] (bq Ci):=cM
def PY:Sp:=λc H Q _=>∃(p:af)(rows:List Row),c=[.ref p]/\cD H p rows/\dY rows/\rows.length<=1190900/\∀a b,aG H a->cD a b (fI rows)->Q (.ref b) a
theorem xm0{f S:af}{Z J:ak}(F:aO K "exchanged_rows" "exchanged_rows" Ci f Z)(B:fk mg)(T:mU mg)
  (hX:mg "exchanged"=some (.ref S)) (W:aO K "exchanged" "exchanged" Cr S J) (bX:Binds K J ["number"] []):aB P w K mg base aK 2 f Z ["rows"] PY:=by
 have GX:aB P w K mg base aK 1 S J ["number"] Jt:=PZ W T;refine F.ok mZ (λvs H Q E h=>?_) (λbJ A N s H vs Q E hr h=>?_)
 ·obtain⟨p,rows,rfl,_⟩:=h
  rfl
 ·obtain⟨p,rows,rfl,jJ,ok,hl,q⟩:=h;obtain⟨bs,hp,j9,jE⟩:=id jJ;have O:(bs.map V.ref).length=rows.length:=by rw[Ze];exact j9
  refine⟨_,cN (cx (i7 (ip K rfl) (by rfl) B.tuple ZO (aF (nS ["rows"] (bq Ci) rfl rfl rfl mZ.nd (xM K rfl (pv 0))
   (λcl C fp aC aD=>i7 (ip K rfl) (by rfl) B.tuple ZO (aF (nS Uw _ rfl rfl rfl xR6 (xM K rfl (pv 0))
    (λcl2 C2 fp2 s2 H2=>bz GX hr hX W.kp bX (aF (pv 0) aI)) (hfr:=by rfl)) aI))) aI))),?_⟩
  refine⟨_,rfl,p,rfl,⟨_,bf.of hp⟩,λD hD=>pX hD (λi z k=>∃b r,z=.ref b/\rows[i]?=some r/\k b=some (.tup (vN (r.map ex)))) (rL (K:=K) hp) (by rw[O];exact jg 'a') ?_ ?_ ?_⟩
  ·rintro i z k H2 _ tk ⟨b,r,rfl,h1,h2⟩;exact⟨b,r,rfl,h1,tk _ _ h2⟩
  ·intro j x U hj c M Q' hq;have kB:j<rows.length:=by rw[<- O];exact hj
   rw[Zf]at c;obtain⟨b,hb,rfl⟩:=Zh.mp c;have t:rows[j]?=some rows[j]:=by simp[kB]
   have I:=M _ _ (jE j b _ hb t);have rk:=ok j _ t;generalize rows[j]=r at t I rk;refine⟨_,rfl,b,rfl,⟨_,bf.of I⟩,λD2 jW=>pX jW (λi z _=>∃m:Nat,r[i]?=some m/\z=.int (ex m:Nat)) (rL (K:=K) I) (by rw[g7,rk.1];decide) (λ_ _ _ _ _ _ h=>h) ?_ ?_⟩
   ·intro i x H4 X c Y Q2 vI;obtain⟨m,L,rfl⟩:=rH c;exact⟨_,rfl,m,rfl,vI _ _ (aG.refl _) ⟨m,L,rfl⟩⟩
   ·intro n H4 Y kD u v;have ey:n=vN (r.map ex):=by
     refine pW (by rw[u,g7,g7,Ze]) λi x c=>?_;obtain⟨m,L,rfl⟩:=v i x c;exact Ff (by rw[Zf,L];rfl)
    refine⟨D2,n,rfl,.inl ⟨bZ.of kD,λl G=>hq _ _ (Y.trans (bo G)) ⟨l,r,rfl,t,?_⟩⟩⟩;rw[aZ,ey]
  ·intro n U M kE u v;refine⟨D,n,rfl,.inl ⟨bZ.of kE,λl G=>q _ l (M.trans (bo G)) ?_⟩⟩;have d:∀(zs:List V)(k:Hp),(∀(i:Nat) z,zs[i]?=some z->∃b r,z=.ref b/\rows[i]?=some r/\k b=some (.tup (vN (r.map ex))))->∃a:List af,zs=a.map V.ref:=λzs k hz=>by
    have:∀zs:List V,(∀z∈zs,∃b:af,z=.ref b)->∃a:List af,zs=a.map V.ref:=λzs=>by
     induction zs with
     |nil=>exact λ_=>⟨[],rfl⟩
     |cons z zs ih=>
      intro h;obtain⟨b,rfl⟩:=h z ZC;obtain⟨a,rfl⟩:=ih λy hy=>h y (Zq _ hy);exact⟨b::a,rfl⟩
    refine this zs λz R=>?_;obtain⟨i,X,e⟩:=ZL.mp R;obtain⟨b,_,g,_⟩:=hz i z (by simp[X,e]);exact⟨b,g⟩
   obtain⟨a,rfl⟩:=d n U v;have kS:a.length=rows.length:=by rw[Ze]at u;rw[u,O]
   refine⟨a,aZ,by rw[kS];simp[fI],λi b r e1 g=>?_⟩;obtain⟨b',r',e3,e4,e5⟩:=v i (.ref b) (by rw[Zf,e1];rfl);cases e3;have:r=r'.map ex:=by
    unfold fI at g;rw[Zf,e4]at g;exact(ZK g).symm
   rw[this];exact cw e5 G
theorem jc:aE ["shape","n","top","rows"] ["shape"] (bq Fg):=cM
def O0:Sp:=λd H Q _=>∃(t:af)(n b:Nat)(rows:List Row),d=[.ref t]/\aY H t n b rows/\∀a c,aG H a->cJ a c n (ex b) (fI rows)->Q (.ref c) a
theorem xz6{f g e j:af}{r a b k:ak}(F:aO K "left_out" "left_out" Fg f r)(B:fk mg)(T:mU mg)
  (G:mg "want_shape"=some (.ref g)) (S:aO K "want_shape" "want_shape" zM g a) (O:Binds K a ["shape"] []) (N:aB P w K mg base aK 16 g a ["shape"] Hn)
  (X:mg "exchanged"=some (.ref e)) (v:aO K "exchanged" "exchanged" Cr e b) (R:Binds K b ["number"] [])
  (hR:mg "exchanged_rows"=some (.ref j)) (C:aO K "exchanged_rows" "exchanged_rows" Ci j k) (U:Binds K k ["rows"] []) (L:aB P w K mg base aK 2 j k ["rows"] PY):aB P w K mg base aK 17 f r ["shape"] O0:=by
 have GX:aB P w K mg base aK 1 e b ["number"] Jt:=PZ v T;refine F.ok jc (λM H Q E h=>?_) (λbJ A l s H M Q E i h=>?_)
 ·obtain⟨t,n,d,rows,rfl,_⟩:=h
  rfl
 ·obtain⟨t,n,d,rows,rfl,x,q⟩:=h;have D:aV 1 _:=i.mono 'b';have I:aV 2 _:=i.mono 'b';refine⟨_,fY (ir (bz N i G S.kp O (aF (pv 0) aI)))
   (fY (sV (pv 0) (pP rfl (gz (gh 1 jc.nd) (gz (gh 2 jc.nd) (gz (gh 3 jc.nd) pT)))))
   (cN (cx (gf (aF (pv 1) (aF (bz GX D X v.kp R (aF (pv 2) aI)) (aF (bz L I hR C.kp U (aF (pv 3) aI)) aI))))))),?_⟩
  refine⟨_,rfl,t,n,d,rows,rfl,x,λH1 c=>?_⟩;obtain⟨⟨p,y,Y⟩,J,hl⟩:=x;refine⟨_,rfl,t,_,rfl,bf.of (c _ _ y),rfl,_,_,rfl,_,_,rfl,_,_,rfl,rfl,?_⟩;refine⟨_,rfl,_,rfl,d,rfl,_,rfl,p,rows,rfl,Y.same c,J.iQ,ZD hl 'b',λH2 Z V W=>⟨(by show 3<=sizeLine;decide),λu m=>?_⟩⟩;exact q _ u (c.trans (V.trans (bo m))) ⟨Z,aZ,W.same (bo m)⟩
end Pr
namespace Qf
theorem qZ8{n a:Nat}{rows:List Row}(c:Canon n a rows):rows.length<=cq (T rows a):=by
 have e:=Yi List.length (Gh c).1;rw[Tr.aH]at e;rw[e];have:=xp (T rows a) [];simpa using this
end Qf
namespace Pr
open PySem L2 Qf
theorem il.cat{H:Hp}{a b D:af}{A B:List (List Int)}{as bs:List af}(n:H a=some (.lst (as.map V.ref)))(hb:H b=some (.lst (bs.map V.ref)))(g:as.length=A.length)(j:bs.length=B.length)(l:∀(i:Nat) c f,as[i]?=some c->A[i]?=some f->H c=some (.tup (f.map V.int)))(m:∀(i:Nat) c f,bs[i]?=some c->B[i]?=some f->H c=some (.tup (f.map V.int)))(k:H D=none):
  il (upd H D (.lst (as.map V.ref++bs.map V.ref))) D (A++B):=by
 refine⟨as++bs,by rw[aZ,ZZ],by rw[Zl,Zl,g,j],λi c f e d=>cw ?_ k⟩;by_cases h:i<as.length
 ·rw[Zp h]at e;rw[Zp 'a']at d;exact l i c f e d
 ·rw[Zx 'a']at e;rw[Zx 'a',<- g]at d;exact m _ c f e d
theorem J4:aE ["shape","far"] ["shape","far"] (bq GU):=cM
inductive A7(G:Nat->Tr->Nat->Tr->Prop)(CM:af)(vs:List V)(H:Hp)(Q:VK)(E:XK):Prop
 |good (t:af) (n tp k:Nat) (rows:List Row) (g:Tr) (e0:vs=[.ref t,.int (k:Nat)]) (e1:aY H t n tp rows) (e2:b_ (T rows tp)<=200) (e3:k<=4096) (e4:G n (T rows tp) k g) (e5:cq g<=900) (q:∀H' t' df aP,aG H H'->cJ H' t' n df aP->Canon n df aP->T aP df=g->Q (.ref t') H')
 |many (t:af) (n tp k:Nat) (rows:List Row) (e0:vs=[.ref t,.int (k:Nat)]) (e1:aY H t n tp rows) (e2:200<b_ (T rows tp)) (e3:k<=4096) (q:∀H',aG H H'->E (.ref CM) none H')
def sF(G:Nat->Tr->Nat->Tr->Prop)(b:af):Sp:=λa H Q E=>A7 G b a H Q E
theorem xR7{f m fB l G:af}{C u j p:ak}(F:aO K "grown" "grown" GU f C)
  (hG:mg "want_growth"=some (.ref m)) (FG:aO K "want_growth" "want_growth" BH m u) (bG:Binds K u ["shape","far"] []) (GG:aB P w K mg base (jz P w) 17 m u ["shape","far"] (wa G))
  (L:mg "boxes_where"=some (.ref fB)) (FB:aO K "boxes_where" "boxes_where" xA fB j) (Z:Binds K j ["shape","wanted"] []) (W:aB P w K mg base aK 18 fB j ["shape","wanted"] I0)
  (V:mg "spread"=some (.ref l)) (X:aO K "spread" "spread" zl l p) (bS:Binds K p ["n","boxes","far"] []) (I:aB P w K mg base aK 18 l p ["n","boxes","far"] IZ):aB P w K mg base (jz P w) 19 f C ["shape","far"] (sF E2 G):=by
 refine F.HH J4 (λS H Q E h=>?_) (λbJ A v s H S Q E r h=>?_)
 ·rcases h with⟨t,n,a,k,rows,g,rfl,_⟩|⟨t,n,a,k,rows,rfl,_⟩<;>rfl
 ·have R:aV 17 _:=r.mono 'b';refine aU ⟨_,⟨ir (xy GG R (by rfl) hG FG.kp bG .nil K4 (aF (pv 0) (aF (pv 1) aI)))⟩,?_⟩;refine eF ⟨_,⟨cx (bz I r V X.kp bS (bu.go (.cons ⟨cI fQ (pv 0) aN⟩ (.cons ⟨bz W r L FB.kp Z (aF (pv 0) (aF kj aI))⟩ (.cons ⟨pv 1⟩ .nil rfl) rfl) rfl)))⟩,?_⟩;rcases h with⟨t,n,a,k,rows,g,rfl,d,i,hk,M,Z_,q⟩|⟨t,n,a,k,rows,rfl,d,i,hk,q⟩
  ·refine⟨_,rfl,_,rfl,.good t n a k rows rfl d i hk λH1 x=>?_⟩;have B:=oA d x;obtain⟨⟨rp,J,hR⟩,y,vH⟩:=id B;refine⟨_,rfl,t,_,0,.int (n:Nat),rfl,rfl,bf.of J,rfl,_,rfl,t,n,a,rows,true,rfl,B,i,λH2 D Y kI N=>?_⟩;have jV:=RO (n:=n) (t:=T rows a) (w:=true);exact⟨_,rfl,n,D,k,_,g,rfl,N,SE,by lia,y.size,M.bx (BY y),by lia,λH' t' U O s' b c e=>q H' t' U O ((x.trans Y).trans s') b c e⟩
  ·exact⟨_,rfl,_,rfl,.many t n a k rows rfl d i hk q⟩
theorem ux:aE ["shape","far","n"] ["shape","far"] (bq Hr):=cM
theorem xL8{f x fB U J R CM:af}{fd X I N W C:ak}(F:aO K "shrunk" "shrunk" Hr f fd)
  (hG:mg "want_growth"=some (.ref x)) (FG:aO K "want_growth" "want_growth" BH x X) (bG:Binds K X ["shape","far"] []) (GG:aB P w K mg base (jz P w) 17 x X ["shape","far"] (wa CM))
  (hB:mg "boxes_where"=some (.ref fB)) (FB:aO K "boxes_where" "boxes_where" xA fB I) (bB:Binds K I ["shape","wanted"] []) (GB:aB P w K mg base aK 18 fB I ["shape","wanted"] I0)
  (hA:mg "boxes_around"=some (.ref U)) (FA:aO K "boxes_around" "boxes_around" FJ U N) (bA:Binds K N ["n"] []) (GA:aB P w K mg base aK 2 U N ["n"] Bi)
  (hS:mg "spread"=some (.ref J)) (FS:aO K "spread" "spread" zl J W) (bS:Binds K W ["n","boxes","far"] []) (GS:aB P w K mg base aK 18 J W ["n","boxes","far"] IZ)
  (hL:mg "left_out"=some (.ref R)) (FL:aO K "left_out" "left_out" Fg R C) (bL:Binds K C ["shape"] []) (GL:aB P w K mg base aK 17 R C ["shape"] O0):aB P w K mg base (jz P w) 19 f fd ["shape","far"] (sF ET CM):=by
 refine F.HH ux (λvs H Q E h=>?_) (λbJ A L s H vs Q E p h=>?_)
 ·rcases h with⟨t,n,a,k,rows,g,rfl,_⟩|⟨t,n,a,k,rows,rfl,_⟩<;>rfl
 ·have Y:aV 17 _:=p.mono 'b';have jZ:aV 2 _:=p.mono 'b';refine aU ⟨_,⟨ir (xy GG Y (by rfl) hG FG.kp bG .nil K4 (aF (pv 0) (aF (pv 1) aI)))⟩,?_⟩;refine aU ⟨_,⟨dk 2 ux.nd (cI fQ (pv 0) aN)⟩,?_⟩;refine eF ⟨_,⟨cx (bz GL Y hL FL.kp bL (aF (cZ.go ⟨bz GS p hS FS.kp bS (bu.go (.cons ⟨pv 2⟩ (.cons ⟨bg xE3 (bz GB p hB FB.kp bB (aF (pv 0) (aF kj aI))) (bz GA jZ hA FA.kp bA (aF (pv 2) aI))⟩ (.cons ⟨pv 1⟩ .nil rfl) rfl) rfl))⟩) aI))⟩,?_⟩;rcases h with⟨t,n,a,k,rows,g,rfl,m,r,hk,hg,Z_,q⟩|⟨t,n,a,k,rows,rfl,m,r,hk,q⟩
  ·refine⟨_,rfl,_,rfl,.good t n a k rows rfl m r hk λH1 s1=>?_⟩;have Bm:=oA m s1;obtain⟨⟨rp,ht,hR⟩,G,vH⟩:=id Bm;refine⟨_,rfl,t,_,0,.int (n:Nat),rfl,rfl,bf.of ht,rfl,?_⟩;refine⟨_,rfl,_,rfl,t,n,a,rows,false,rfl,Bm,r,λH2 D s2 kI hF=>?_⟩;have jV:=RO (n:=n) (t:=T rows a) (w:=false);obtain⟨as,j,d,y⟩:=id hF;refine⟨_,rfl,n,rfl,G.size,λB D3 u Z Nx=>?_⟩;obtain⟨v,Ao,wD,vX⟩:=id Nx;have O:v.length=4:=wD;refine⟨D,D3,_,_,rfl,rfl,u _ _ j,Ao,?_,λS vQ=>?_⟩
   ·rw[Ze,Ze,d,O];show _<=16777216;lia
   have b:=il.cat (u _ _ j) Ao d wD (λi c f e1 e2=>u _ _ (y i c f e1 e2)) vX vQ;have s4:aG B (upd B S (.lst (as.map V.ref++v.map V.ref))):=bo vQ;generalize upd B S (.lst (as.map V.ref++v.map V.ref))=H4 at b s4 ⊢;refine⟨_,rfl,n,S,k,_,neg g,rfl,b,λf hf=>?_,?_,G.size,hg.bx (BY G),by rw[zj];lia,λH5 t5 M Bv s5 l c e=>?_⟩
   ·rcases YQ.mp hf with z|z
    ·exact SE f z
    ·unfold EO at z;simp only[Zz,Ww,Ud]at z;rcases z with rfl|rfl|rfl|rfl<;>rfl
   ·rw[Zl];show _+4<=1190;lia
   have j9:=qZ8 c;rw[e,zj]at j9;refine⟨t5,n,M,Bv,rfl,⟨l,c,ZD j9 Z_⟩,λH6 t6 s6 AI=>?_⟩;refine q H6 t6 _ _ ((((s1.trans s2).trans u).trans (s4.trans s5)).trans s6) AI (SW c) ?_;rw[xP9 c.iQ _ c.kr,e,BD]
  ·exact⟨_,rfl,_,rfl,.many t n a k rows rfl m r hk q⟩
end Pr
namespace L2
open PySem
theorem xm1{c:Int}{n:Nat}{g:TG}{tb:TS}{D:Ends}{σ:St}{H:Hp}(Pv:Nat->St->Hp->Prop)(h0:Pv 0 σ H)
  (hs:∀i σ H,i<n->Pv i σ H->g (.int (c-i)) σ H λd h=>tb {D with nx:=Pv (i+1),ct:=Pv (i+1),bk:=D.nx} d h) (l:∀σ H,Pv n σ H->D.nx σ H):
  ∃W:Nat->Nat->St->Hp->Prop,(∃m,W 0 m σ H)/\∀i m σ H,W i m σ H ->
   ((EY c n).stop i H/\D.nx σ H)\/((EY c n).go i H/\∃N:St->Hp->Prop,(∀b a,N b a->∃j,j<m/\W (i+1) j b a)/\∀x a,(EY c n).iK i H x a->g x σ a λd h=>tb {D with nx:=N,ct:=N,bk:=D.nx} d h):=by
 refine⟨λi m σ H=>m=n-i/\i<=n/\Pv i σ H,⟨n,by simp,Zs _,h0⟩,?_⟩;rintro i m σ H ⟨rfl,q,p⟩;by_cases f:i<n
 ·refine .inr ⟨f,Pv (i+1),λb a k=>⟨n-(i+1),by lia,rfl,f,k⟩,λx a y=>?_⟩;obtain⟨e,y⟩:=y;subst e y;exact hs i σ _ f p
 ·have e:i=n:=by lia
  subst e;exact .inl ⟨Zg _,l σ H p⟩
end L2
namespace Pr
open PySem L2 Qf
abbrev xR8:List ar:=["_law_told","_law_row","_law_column","_law_n","_law_number_here","_law_rows","_law_k"]
abbrev Gq:List ar:=["_law_told","_law_row","_law_column"]
theorem gM:aE xR8 Gq (bq Hq):=cM
def OZ:Sp:=λb H Q _=>∃(t:af)(n a r c:Nat)(rows:List Row),b=[.ref t,.int (r:Nat),.int (c:Nat)]/\Cd H t n a rows/\Q (.bl (dP n (T rows a) r c)) H
theorem xz7{f:af}{Z:ak}(F:aO K "_law_is_full" "_law_is_full" Hq f Z)(B:fk mg):aB P w K mg base aK 1 f Z Gq OZ:=by
 refine F.ok gM (λvs H Q E h=>?_) (λbJ A W s H vs Q E hr h=>?_)
 ·obtain⟨t,n,y,r,c,rows,rfl,_⟩:=h
  rfl
 ·obtain⟨t,n,y,r,c,rows,rfl,Aq,q⟩:=h;refine aU ⟨_,⟨sV (pv 0) (pP rfl (gz (gh 3 gM.nd) (gz (gh 4 gM.nd) (gz (gh 5 gM.nd) pT))))⟩,?_⟩;refine aU ⟨_,⟨rJ Y2 rfl (xu8 (by rfl) B.range (aF (bg gN (pv 3) aN) (aF (Fn G9 aN) (aF (Fn G9 aN) aI)))) (gh 6 gM.nd)
   (lP.go (.one ⟨eI (fu CA (pv 4) aN (dh _)) (cN (dk 4 gM.nd (QH fQ (cI fQ (pv 5) (bg gN (pv 4) aN))
    (cZ.go ⟨bg gO (bg ng aN (bg Lq (bg PK (pv 1) (pv 6)) aN)) (bg Lq (bg PK (pv 2) (pv 6)) aN)⟩) (λ_ _=>rfl)))) eM⟩))⟩,?_⟩
  refine eF ⟨_,⟨cx (mn tD (pv 4) aN (dh _))⟩,?_⟩;obtain⟨⟨rp,ht,hR⟩,g,hl9⟩:=id Aq;have hn:=g.size;refine⟨_,rfl,t,_,rfl,bf.of ht,rfl,_,_,rfl,_,_,rfl,_,_,rfl,rfl,?_⟩;refine⟨_,rfl,_,_,rfl,rfl,_,rfl,_,rfl,(n:Int)-1,-1,rfl,⟨by lia,by lia,by lia,by lia⟩,?_⟩;have eN:((n:Int)-1 - -1).toNat=n:=by lia
  rw[eN];refine xm1 (λi S U=>U=H/\∃(x:Nat)(I:Option V),S=[some (.ref t),some (.int (r:Nat)),some (.int (c:Nat)),some (.int (n:Nat)),some (.int (x:Nat)),some (.ref rp),I]/\x<rows.length+2/\Tr.dep (T rows x)<=n-i/\dP n (T rows y) r c=dP (n-i) (T rows x) r c) ⟨rfl,y,none,rfl,g.kr,BY g,rfl⟩ ?_ ?_
  ·rintro i S U hi ⟨rfl,x,I,rfl,C,v,l⟩;obtain⟨k,hk⟩:∃k,n-i=k+1:=⟨n-i-1,by lia⟩;have N:n-(i+1)=k:=by lia
   rw[hk]at v l;refine⟨_,rfl,_,_,rfl,rfl,_,rfl,?_⟩;refine cC (λO=>?_) (λO=>?_)
   ·have Y:¬x<2:=by have:=ZE O;lia
    obtain⟨j,L,G,J,R,rfl,D⟩:=rF g.iQ C Y;obtain⟨bs,DB,jV,jE⟩:=id hR;have U7:=(cf D).1;have X:bs[j]?=some (bs[j]'(by lia)):=Zc 'a';have DH:=jE j _ _ X D;have m:2*(r/2^k%2)+c/2^k%2<4:=by lia
    have M:[L,G,J,R][2*(r/2^k%2)+c/2^k%2]?=some ([L,G,J,R][2*(r/2^k%2)+c/2^k%2]'m):=Zc m;have u:=ES g.iQ D m M;have wF:=(g.iQ j _ D).2 _ (Zm M);have eb:∀z:Nat,PySem.Builtin.bitAnd (((z:Nat):Int)/2^((n:Int)-1-(i:Int)).toNat) 1=((z/2^k%2:Nat):Int):=λz=>by
     rw[show((n:Int)-1-(i:Int)).toNat=k by lia,PyProof.Rows.bitAnd_m1]
     norm_cast
    refine⟨_,rfl,_,rfl,_,_,rfl,rfl,rp,_,((j:Nat):Int),.ref (bs[j]'(by lia)),rfl,Yi V.int 'a',bf.of DB,uP (by rw[Zf,X];rfl),?_⟩;refine⟨_,rfl,_,rfl,_,_,rfl,rfl,by lia,_,_,rfl,rfl,_,_,rfl,rfl,.inl ⟨by decide,by decide⟩,_,rfl,_,rfl,_,_,rfl,rfl,by lia,_,_,rfl,rfl,_,_,rfl,rfl,?_⟩;refine⟨bs[j]'(by lia),_,((2*(r/2^k%2)+c/2^k%2:Nat):Int),.int ([L,G,J,R][2*(r/2^k%2)+c/2^k%2]'m:Nat),rfl,?_,bf.of DH,xj M,?_⟩
    ·show V.int (2*PySem.Builtin.bitAnd _ 1+PySem.Builtin.bitAnd _ 1)=_;rw[eb r,eb c]
     norm_cast
    ·refine⟨rfl,_,_,rfl,by lia,?_,?_⟩
     ·rw[N,u];exact uG m _ v
     ·rw[N,l,u];rfl
   ·have Y:x<2:=by
     have:¬((1:Int)<(x:Int)):=λz=>O (Zv z);lia
    refine⟨rfl,x,_,rfl,C,?_,?_⟩
    ·have:x=0\/x=1:=by lia
     rcases this with rfl|rfl
     ·rw[lj];exact Zs _
     ·rw[lh];exact Zs _
    ·rw[l,N];have:x=0\/x=1:=by lia
     rcases this with rfl|rfl
     ·rw[lj];rfl
     ·rw[lh];rfl
  ·rintro S U ⟨rfl,x,I,rfl,C,v,l⟩;rw[Vv]at v l;refine⟨_,rfl,rfl,?_⟩;have e:decide (V.int ((x:Nat):Int)=V.int 1)=dP n (T rows y) r c:=by
    rw[l];show _=decide (T rows x=.o);refine Vf.mpr ⟨λh=>?_,λh=>?_⟩
    ·injection h with h
     have:x=1:=by lia
     rw[this,lh]
    ·by_cases z:x<2
     ·have:x=0\/x=1:=by lia
      rcases this with rfl|rfl
      ·rw[lj]at h;cases h
      ·rfl
     ·obtain⟨p,a,b,c,d,rfl,hp⟩:=rF g.iQ C z;rw[l9 g.iQ hp]at h;cases h
   rw[<- e]at q;exact q
end Pr
namespace Qf
open Tr
theorem RN(rows:List Row):(fI rows).length=rows.length:=by simp[fI]
end Qf
namespace Pr
open PySem L2 Qf
abbrev UA:List ar:=["_law_told","_law_n","_law_top","_law_rows","_law_some"]
abbrev CS:List ar:=["_law_row","_law_told","_law_n","_law_top","_law_rows","_law_some"]
theorem xL9:CS.Nodup:=by decide +kernel
theorem pE:aE UA ["_law_told"] (bq Cq):=cM
inductive A_(vs:List V)(H:Hp)(Q:VK):Prop
 |mk(t:af)(n tp:Nat)(rows:List Row)(e0:vs=[.ref t])(e1:aY H t n tp rows)(e2:∀H' t',aG H H'->aY H' t' n (ex tp) (fI rows)->Q (.ref t') H')
def Ba:Sp:=λa H Q _=>A_ a H Q
theorem Qi(m:Nat):∃i:Int,(if(2:Int)<(m:Int)then 2 else(m:Int))=i/\ui [V.int 1,V.int 0,V.int (m:Nat)] i=some (.int (ex m:Nat)):=by
 by_cases h:m<2
 ·match m,h with
  |0,_=>exact⟨0,rfl,rfl⟩
  |1,_=>exact⟨1,rfl,rfl⟩
 ·refine⟨2,by split<;>lia,?_⟩;show some (V.int (m:Nat))=_;unfold ex;rw[Zj h]
theorem xR9{f:af}{fd:ak}(F:aO K "_law_exchanged" "_law_exchanged" Cq f fd)(B:fk mg):aB P w K mg base aK 1 f fd ["_law_told"] Ba:=by
 refine F.ok pE (λvs H Q E h=>?_) (λbJ A U s H vs Q E hr h=>?_)
 ·obtain⟨t,n,L,rows,rfl,_⟩:=h
  rfl
 ·obtain⟨t,n,L,rows,rfl,hS,q⟩:=h;obtain⟨⟨Z,ht,jJ⟩,cn,vH⟩:=id hS;obtain⟨bs,hp,j9,jE⟩:=id jJ;have ok:=cn.iQ;have W:(bs.map V.ref).length=rows.length:=by rw[Ze];exact j9
  refine aU ⟨_,⟨sV (pv 0) (pP rfl (gz (gh 1 pE.nd) (gz (gh 2 pE.nd) (gz (gh 3 pE.nd) pT))))⟩,?_⟩;refine aU ⟨_,⟨K1 (i0:=4) UA (bq Cq) rfl rfl rfl pE.nd rfl rfl (xM K rfl (pv 3)) (λcl C fp aC aD=>cZ.go ⟨i7 (ip K rfl) (by rfl) B.tuple ZO (aF (nS CS _ rfl rfl rfl xL9 (xM K rfl (pv 0))
    (λcl2 C2 fp2 s2 H2=>cZ.go ⟨cI (u_ K rfl) (cZ.go ⟨jh (aF aN (aF aN (aF (pv 0) aI)))⟩) (cZ.go ⟨dw (xD rfl) (by rfl) B.min YJ (aF (pv 0) (aF aN aI))⟩)⟩) (hfr:=by rfl)) aI)⟩)⟩,?_⟩
  refine eF ⟨_,⟨cx (gf (bu.go (.cons ⟨pv 1⟩ (.cons ⟨cI (u_ K rfl) (cZ.go ⟨jh (aF aN (aF aN (aF (pv 2) aI)))⟩) (cZ.go ⟨dw (xD rfl) (by rfl) B.min YJ (aF (pv 2) (aF aN aI))⟩)⟩ (.cons ⟨i7 (ip K rfl) (by rfl) B.tuple ZO (aF (pv 4) aI)⟩ .nil rfl) rfl) rfl)))⟩,?_⟩;refine⟨_,rfl,t,_,rfl,bf.of ht,rfl,_,_,rfl,_,_,rfl,_,_,rfl,rfl,?_⟩;refine O3 (σ':=[some (.ref t),some (.int (n:Nat)),some (.int (L:Nat)),some (.ref Z),none]) rfl ?_;refine⟨_,rfl,Z,rfl,⟨_,bf.of hp⟩,λD hD=>xF hD (λ_=>true) (λi z Y=>∃b r,z=.ref b/\rows[i]?=some r/\Y b=some (.tup (vN (r.map ex)))) (rL (K:=K) hp) (by rw[W];exact jg 'a') ?_ ?_ ?_⟩
  ·rintro i z Y H2 tk ⟨b,r,rfl,h1,h2⟩;exact⟨b,r,rfl,h1,tk _ _ h2⟩
  ·intro j x X hj d S os ho Q1 Q' _ N;have hq:=N rfl;have kB:j<rows.length:=by rw[<- W];exact hj
   rw[Zf]at d;obtain⟨b,hb,rfl⟩:=Zh.mp d;have I:rows[j]?=some rows[j]:=by simp[kB]
   have M:=S _ _ (jE j b _ hb I);have rk:=ok j _ I;generalize rows[j]=r at I M rk;obtain⟨o1,rfl⟩:=L2.tE ho
   ·
    refine⟨_,rfl,b,rfl,⟨_,bf.of M⟩,λD2 jW=>pX jW (λi z _=>∃m:Nat,r[i]?=some m/\z=.int (ex m:Nat)) (rL (K:=K) M) (by rw[g7,rk.1];decide) (λ_ _ _ _ _ _ h=>h) ?_ ?_⟩
    ·intro i x H4 hi d s4 Q2 vI;obtain⟨m,R,rfl⟩:=rH d;obtain⟨O,v,p⟩:=Qi m;refine⟨_,rfl,(by show 3<=sizeLine;decide),λk hk=>⟨_,rfl,_,_,rfl,k,_,O,.int (ex m:Nat),rfl,Yi V.int v,bZ.of aZ,p,vI _ _ (bo hk) ⟨m,R,rfl⟩⟩⟩
    ·intro G H4 s4 kD a J;have ey:G=vN (r.map ex):=by
      refine pW (by rw[a,g7,g7,Ze]) λi x d=>?_;obtain⟨m,R,rfl⟩:=J i x d;exact Ff (by rw[Zf,R];rfl)
     refine⟨D2,G,rfl,.inl ⟨bZ.of kD,λl jN=>hq _ _ (s4.trans (bo jN)) ⟨l,r,rfl,I,?_⟩⟩⟩;rw[aZ,ey]
  ·intro G X S kE a DF;have ef:(List.range (bs.map V.ref).length).filter (λ_=>true)=List.range (bs.map V.ref).length:=List.filter_eq_self.mpr λ_ _=>rfl;rw[ef]at a DF;rw[Yk]at a;have J:∀(i:Nat) z,G[i]?=some z->∃b r,z=.ref b/\rows[i]?=some r/\X b=some (.tup (vN (r.map ex))):=λi z e=>DF i z i e (YU (by rw[<- a];exact(cf e).1));have g:∀zs:List V,(∀z∈zs,∃b:af,z=.ref b)->∃c:List af,zs=c.map V.ref:=λzs=>by
    induction zs with
    |nil=>exact λ_=>⟨[],rfl⟩
    |cons z zs ih=>
     intro h;obtain⟨b,rfl⟩:=h z ZC;obtain⟨c,rfl⟩:=ih λy hy=>h y (Zq _ hy);exact⟨b::c,rfl⟩
   obtain⟨c,rfl⟩:=g G λz hz=>by
    obtain⟨i,hi,e⟩:=ZL.mp hz;obtain⟨b,_,u,_⟩:=J i z (by simp[hi,e]);exact⟨b,u⟩
   have kS:c.length=rows.length:=by rw[Ze]at a;rw[a,W]
   obtain⟨O,v,p⟩:=Qi L;refine⟨_,rfl,_,rfl,(by show 3<=sizeLine;decide),λk hk=>⟨_,rfl,_,_,rfl,k,_,O,.int (ex L:Nat),rfl,Yi V.int v,bZ.of aZ,p,?_⟩⟩;refine⟨_,rfl,D,_,rfl,.inl ⟨bZ.of (cw kE hk),λl hl=>⟨(by show 3<=sizeLine;decide),λt2 T=>?_⟩⟩⟩;refine q _ t2 (((S.trans (bo hk)).trans (bo hl)).trans (bo T)) ⟨⟨l,aZ,c,cw aZ T,by rw[kS,RN],λi b r v u=>?_⟩,SW cn,by rw[RN];exact vH⟩;obtain⟨b',r',p,e4,e5⟩:=J i (.ref b) (by rw[Zf,v];rfl);cases p;have:r=r'.map ex:=by
    unfold fI at u;rw[Zf,e4]at u;exact(ZK u).symm
   rw[this];exact cw (cw (cw e5 hk) hl) T
structure gI(p D:af)(H:Hp)(ok:Row->Prop)(i:Nat)(xs:List V)(H2:Hp):Prop where
 but:cu p H H2
 HE:br H2 p
 at_:H2 D=some (.lst xs)
 len:xs.length<=i
 aQ:∃(cs:List af)(bs:List Row),xs=cs.map V.ref/\cs.length=bs.length/\(∀b∈bs,ok b)/\∀(j:Nat) c b,cs[j]?=some c->bs[j]?=some b->H2 c=some (.tup (vN b))
theorem gI.start{p D:af}{H:Hp}{ok:Row->Prop}(d:br H p)(a:H D=none):gI p D H ok 0 [] (upd H D (.lst [])):=
 ⟨cu.of (bo a),d.same (bo a),aZ,Zg _,[],[],rfl,rfl,λb hb=>(nomatch hb),λj c b e=>by simp at e⟩
theorem gI.kept{p D:af}{H d a:Hp}{ok:Row->Prop}{i:Nat}{xs:List V}(g:gI p D H ok i xs d)(w:p≠D)(b:cu p d a)(t:br a p):gI p D H ok (i+1) xs a:=by
 obtain⟨q,u,f,l,s,bs,e,A,n,v⟩:=g;refine⟨q.trans b,t,b _ _ f (YK w),UH l,s,bs,e,A,n,λj c r k h=>?_⟩;have:=v j c r k h;refine b _ _ this λz=>?_;obtain⟨x,y,m,_⟩:=u;rw[z,m]at this;cases this
theorem gI.more{p D t:af}{H F d:Hp}{ok:Row->Prop}{i:Nat}{xs:List V}{r:Row}(g:gI p D H ok i xs F)(K:H D=none)(E:p≠D)(b:cu p F d)(C:br d p)(A:d t=some (.tup (vN r)))(P:ok r):
  d D=some (.lst xs)/\gI p D H ok (i+1) (xs++[.ref t]) (upd d D (.lst (xs++[.ref t]))):=by
 have k:=g.kept E b C;obtain⟨N,R,w,Q,l,bs,rfl,m,L,v⟩:=k;have I:=g.len;refine⟨w,λc o e n=>?_,?_,aZ,by rw[Zl];show(l.map V.ref).length+1<=_;exact xY I,l++[t],bs++[r],K8 l t,by rw[Zl,Zl,m];rfl,?_,?_⟩
 ·rw[bj (cK e K)];exact N c o e n
 ·obtain⟨x,y,e,O⟩:=C;exact⟨x,y,by rw[bj E];exact e,O⟩
 ·intro z f;rcases YQ.mp f with f|f
  ·exact L z f
  ·have:z=r:=by simpa using f
   rw[this];exact P
 ·intro j c q a h;have B:∀{c:af}{u:List V},d c=some (.tup u)->c≠D:=λ{c u} e z=>by rw[z,w]at e;cases e
  by_cases s:j<l.length
  ·rw[Zp s]at a;rw[Zp (qm s m)]at h;have:=v j c q a h;rw[bj (B this)];exact this
  ·rw[Zx (u7 s)]at a;rw[Zx (Jm m s)]at h;have G:j-l.length=0:=by
    have:=(cf a).1;simp at this;exact this
   rw[G]at a;rw[<- m,G]at h;have J:c=t:=by simpa using a.symm
   have M:q=r:=by simpa using h.symm
   rw[J,M,bj (B A)];exact A
theorem gI.rows{p D:af}{H c:Hp}{ok:Row->Prop}{i:Nat}{xs:List V}(g:gI p D H ok i xs c):∃bs:List Row,bQ c D bs/\(∀b∈bs,ok b)/\bs.length<=i:=by
 obtain⟨_,_,e,d,f,bs,rfl,a,j,h⟩:=g;exact⟨bs,⟨f,e,a,h⟩,j,by rw[Ze]at d;exact Aa a d⟩
abbrev OY:List ar:=["_law_pot_here","_law_n","_law_side"]
theorem je:aE OY ["_law_pot_here","_law_n"] (bq Cg):=cM
inductive o_(vs:List V)(H:Hp)(Q:VK):Prop
 |mk(p:af)(n:Nat)(e0:vs=[.ref p,.int (n:Nat)])(e1:br H p)(e2:n<4)(e3:∀(H':Hp)(l:af)(bs:List Row),cu p H H'->br H' p->H l=none->bQ H' l bs->(∀b∈bs,tq n b)->bs.length<=64->Q (.ref l) H')
def PX:Sp:=λa H Q _=>o_ a H Q
theorem xm2{f u:af}{O y:ak}(F:aO K "_law_cells" "_law_cells" Cg f O)(B:fk mg)(Z:mg "_law_digit"=some (.ref u))(J:aO K "_law_digit" "_law_digit" xk u y)(bD:Binds K y ["_law_pot_here","_law_many_here"] []):
  aB P w K mg base aK 2 f O ["_law_pot_here","_law_n"] PX:=by
 have Y:aB P w K mg base aK 1 u y ["_law_pot_here","_law_many_here"] zk:=Fz J;refine F.ok je (λvs H Q E h=>?_) (λbJ A G s H vs Q E hr h=>?_)
 ·obtain⟨p,n,rfl,_⟩:=h
  rfl
 ·obtain⟨p,n,rfl,N,hn,q⟩:=h;refine aU ⟨_,⟨dk 2 je.nd (bg nM aN (pv 1))⟩,?_⟩;refine eF ⟨_,⟨cx (Kk OY (bq Cg) rfl rfl rfl je.nd (zA (by rfl) B.range (aF (bg ng (pv 2) (pv 2)) aI))
   (λcl C fp aC aD=>fu tD (bz Y hr Z J.kp bD (aF (pv 1) (aF aN aI))) aN (dh _))
   (λcl C fp aC aD=>cZ.go ⟨gf (bu.go (.cons ⟨bg pS (pv 0) (pv 3)⟩ (.cons ⟨bg sT (pv 0) (pv 3)⟩ (.cons ⟨aN⟩ (.cons ⟨aN⟩ .nil rfl) rfl) rfl) rfl))⟩))⟩,?_⟩
  obtain⟨p1,k⟩:=zt (show n<=12 by lia);have U:2^n<=8:=by
   have:=Wv (n:=2) 'b' (show n<=3 by lia);simpa using this
  have c:=uL n;refine⟨_,rfl,_,_,rfl,rfl,⟨u9,by lia,by decide⟩,?_⟩;have hsz:(2^n*2^n:Nat)<=64:=by
   have:=Nat.mul_le_mul U U;lia
  have l:((1:Int)*2^((n:Int)).toNat)*(1*2^((n:Int)).toNat)=((2^n*2^n:Nat):Int):=by rw[c];push_cast;rfl
  have v:(((1:Int)*2^((n:Int)).toNat)*(1*2^((n:Int)).toNat)).toNat=2^n*2^n:=by rw[l,ZI]
  refine⟨_,rfl,_,rfl,_,_,rfl,rfl,.inl ⟨by lia,by lia⟩,_,rfl,by lia,by lia,λD j=>?_⟩;have S:p≠D:=by obtain⟨a,b,e,_⟩:=N;exact cK e j
  refine xb1 (gI p D H (tq n)) (by rw[v];exact pY 'a') (gI.start N j) (λi W x g=>⟨g.at_,g.len⟩) ?_ ?_
  ·intro i W x L g os ho Q1 Q2 q1 q2;rw[v]at L;obtain⟨o1,rfl⟩:=L2.tE ho
   ·
    refine⟨_,rfl,p,2,rfl,g.HE,by decide,by decide,λd M hd R T=>⟨rfl,_,rfl,?_⟩⟩;refine cC (λ_=>?_) (λ_=>q1 M (g.kept S R T));refine⟨_,rfl,_,rfl,_,_,rfl,rfl,⟨QR k c,by lia⟩,_,rfl,_,rfl,_,_,rfl,rfl,(by show(0:Int)<1*2^((n:Int)).toNat;exact QR k c),(by show 4<=sizeLine;decide),λt I=>?_⟩;have Ei:tq n [i/2^n,i%2^n,1,1]:=by
     refine⟨_,_,_,_,rfl,Zg _,Zg _,?_,?_⟩
     ·exact(Wf k).mpr L
     ·exact YH _ k
    have e4:HO.tup [V.int ((0+(i:Int))/(1*2^((n:Int)).toNat)),V.int ((0+(i:Int))%(1*2^((n:Int)).toNat)),V.int 1,V.int 1]=HO.tup (vN [i/2^n,i%2^n,1,1]):=by
     rw[c,Vw];show HO.tup [V.int ((i:Int)/((2^n:Nat):Int)),V.int ((i:Int)%((2^n:Nat):Int)),V.int 1,V.int 1]=HO.tup [V.int ((i/2^n:Nat):Int),V.int ((i%2^n:Nat):Int),V.int 1,V.int 1];rw[V2,V3]
    show Q2 (.ref t) (upd M t (HO.tup [V.int ((0+(i:Int))/(1*2^((n:Int)).toNat)),V.int ((0+(i:Int))%(1*2^((n:Int)).toNat)),V.int 1,V.int 1]));rw[e4];have m:=g.more (t:=t) (r:=[i/2^n,i%2^n,1,1]) j S (R.trans (cu.of (bo I))) (T.same (bo I)) aZ Ei;exact q2 _ _ m.1 m.2
  ·intro W x g;obtain⟨bs,h1,h2,X⟩:=g.rows;exact q x D bs g.but g.HE j h1 h2 (by rw[v]at X;lia)
abbrev OX:List ar:=["_law_pot_here","_law_n"]
theorem m7:aE OX ["_law_pot_here","_law_n"] (bq Cf):=cM
inductive ph(vs:List V)(H:Hp)(Q:VK):Prop
 |mk(p:af)(n:Nat)(e0:vs=[.ref p,.int (n:Nat)])(e1:br H p)(e2:n<=12)(e3:∀(H':Hp)(l:af)(bs:List Row),cu p H H'->br H' p->H l=none->bQ H' l bs->xQ0 n bs->Q (.ref l) H')
def PV:Sp:=λa H Q _=>ph a H Q
theorem xm3{f R V fB:af}{fd W S O:ak}(F:aO K "_law_boxes" "_law_boxes" Cf f fd)(B:fk mg)(y:mg "_law_digit"=some (.ref R))(u:aO K "_law_digit" "_law_digit" xk R W)(J:Binds K W ["_law_pot_here","_law_many_here"] [])
  (hC:mg "_law_cells"=some (.ref V)) (Z:aO K "_law_cells" "_law_cells" Cg V S) (bC:Binds K S ["_law_pot_here","_law_n"] [])
  (hB:mg "_law_box"=some (.ref fB)) (FB:aO K "_law_box" "_law_box" tP fB O) (bB:Binds K O ["_law_pot_here","_law_n","_law_most"] []):
  aB P w K mg base aK 3 f fd ["_law_pot_here","_law_n"] PV:=by
 have X:aB P w K mg base aK 1 R W ["_law_pot_here","_law_many_here"] zk:=Fz u;have GC:aB P w K mg base aK 2 V S ["_law_pot_here","_law_n"] PX:=xm2 Z B y u J;have GB:aB P w K mg base aK 2 fB O ["_law_pot_here","_law_n","_law_most"] I_:=xJ2 FB B y u J;refine F.ok m7 (λvs H Q E h=>?_) (λbJ A M s H vs Q E T h=>?_)
 ·obtain⟨p,n,rfl,_⟩:=h
  rfl
 ·obtain⟨p,n,rfl,hp,hn,q⟩:=h;have Y:aV 1 _:=T.mono 'b';refine aU ⟨_,⟨eI (PW.pt (Ls (fu l_ (pv 1) aN (dh _)) (K5 (fu tD (bz X Y y u.kp J (aF (pv 0) (aF aN aI))) aN (dh _)))))
   (cN (cx (bz GC T hC Z.kp bC (aF (pv 0) (aF (pv 1) aI))))) eM⟩,?_⟩
  refine eF ⟨_,⟨cx (nS OX (bq Cf) rfl rfl rfl m7.nd (zA (by rfl) B.range (aF (bz X Y y u.kp J (aF (pv 0) (aF aN aI))) aI))
   (λcl C fp aC aD=>bz GB T hB FB.kp bB (aF (pv 1) (aF (pv 2) (aF aN aI)))))⟩,?_⟩
  have c:∀k,cu p H k->br k p->Fj (QL (uV (Fm zk [] E0 (uV (oQ 0) (uV (tC (.int 6)) nF))) nF)) (Fm I_ [] E0 (uV (oQ 1) (uV (oQ 2) (uV (tC (.int 9)) nF)))) [some (.ref p),some (.int (n:Nat))] k Q:=λk j v=>by
   refine⟨_,rfl,p,6,rfl,v,by decide,by decide,λd L hd G I=>⟨_,rfl,by lia,by lia,λD x=>?_⟩⟩;have rQ:p≠D:=by obtain⟨a,b,e,_⟩:=I;exact cK e x
   have Nz:H D=none:=by
    cases e:H D with
    |none=>rfl
    |some o=>rw[(j.trans G) _ _ e (YK rQ)]at x;cases x
   refine RW (gI p D L (λb=>tq n b/\Ja b)) (by rw[ZI];exact pY 'a') (gI.start I x) (λi xs L g=>⟨g.at_,g.len⟩) ?_ ?_
   ·intro i xs H3 hi g Q2 q2;refine⟨_,rfl,_,rfl,p,n,rfl,g.HE,hn,λH4 t b b4 wA ht h1 h2=>?_⟩;have m:=g.more (t:=t) (r:=b) x rQ b4 wA ht ⟨h1,h2⟩;exact q2 _ _ m.1 m.2
   ·intro xs H3 g;obtain⟨bs,h1,h2,h3⟩:=g.rows;rw[ZI]at h3;exact q H3 D bs ((j.trans G).trans g.but) g.HE Nz h1 ⟨λb hb=>(h2 b hb).1,.inr ⟨by lia,λb hb=>(h2 b hb).2⟩⟩
  refine⟨_,rfl,_,_,rfl,rfl,_,rfl,?_⟩;refine cC (λhc=>?_) (λhc=>?_)
  ·have n4:n<4:=by have:=ZE hc;lia
   refine⟨_,rfl,p,2,rfl,hp,by decide,by decide,λd k hd j v=>⟨rfl,_,rfl,?_⟩⟩;refine cC (λ_=>?_) (λ_=>c k j v);refine⟨_,rfl,_,rfl,p,n,rfl,v,n4,λL l bs G I U hR hb j9=>q L l bs (j.trans G) I ?_ hR ⟨hb,.inl ⟨n4,j9⟩⟩⟩;cases e:H l with
   |none=>rfl
   |some o=>
    have N:l≠p:=by obtain⟨a,b,e2,_⟩:=v;exact(cK e2 U).symm
    rw[j _ _ e N]at U;cases U
  ·exact cB (c H (cu.refl p H) hp)
end Pr
namespace Qf
def kq(n:Nat)(t:Tr)(w:Bool):List (List Int):=((List.range (2^n*2^n)).filter λk=>dP n t (k/2^n) (k%2^n)==w).map λk=>[((k/2^n:Nat):Int),((k%2^n:Nat):Int)]
def rf(x:Int):Int:=if x<0 then -x else x
def m_(r c k:Int)(p:List Int):Bool:=decide ((if rf (p.getD 1 0-c)>rf (p.getD 0 0-r)then rf (p.getD 1 0-c)else rf (p.getD 0 0-r))<=k)
theorem RM(r c k A B:Nat):m_ r c k [(A:Int),(B:Int)]=true<->A<=r+k/\r<=A+k/\B<=c+k/\c<=B+k:=by
 unfold m_ rf;rw[Y6];simp only[Yu,Yv];split<;>split<;>split<;>lia
theorem iu{n i j k:Nat}{t:Tr}{w:Bool}:(kq n t w).any (m_ i j k)=true<->Fd n t w k i j:=by
 have c:0<2^n:=YV 'b';rw[ZW];unfold kq;constructor
 ·rintro⟨p,s,h⟩;obtain⟨m,v,rfl⟩:=ZF.mp s;obtain⟨h1,h2⟩:=Z2.mp v;have h1:=ZR.mp h1;obtain⟨f,g,u,l⟩:=(RM _ _ _ _ _).mp h;exact⟨_,_,(Wf c).mpr h1,YH _ c,by simpa using h2,f,g,u,l⟩
 ·rintro⟨a,b,r,hb,h,q⟩;have e:(a*2^n+b)/2^n=a:=by rw[Yz,X6 c,Yw hb];rfl
  have d:(a*2^n+b)%2^n=b:=by rw[Yz,V9,Y3 hb]
  refine⟨_,ZF.mpr ⟨a*2^n+b,Z2.mpr ⟨ZR.mpr ?_,?_⟩,rfl⟩,?_⟩
  ·have:(a+1)*2^n<=2^n*2^n:=Xh _ r;rw[X1]at this;lia
  ·rw[e,d,h];simp
  ·rw[e,d];exact(RM _ _ _ _ _).mpr q
end Qf
namespace Pr
open PySem L2 Qf
theorem Ly{n:Nat}(h:n<=4):2^n<=16/\0<2^n/\2^n*2^n<=256:=by
 have:=Wv (n:=2) 'b' h;have h1:2^n<=16:=by simpa using this
 exact⟨h1,YV 'b',Nat.mul_le_mul h1 h1⟩
abbrev LJ:List ar:=["_law_told","_law_kind","_law_side","_law_places_here"]
theorem sJ:aE LJ ["_law_told","_law_kind"] (bq xt):=cM
inductive A0(vs:List V)(H:Hp)(Q:VK):Prop
 |mk(t:af)(n tp:Nat)(rows:List Row)(b:Bool)(e0:vs=[.ref t,.bl b])(e1:Cd H t n tp rows)(e2:n<=4)(q:∀H' D,aG H H'->H D=none->il H' D (kq n (T rows tp) b)->Q (.ref D) H')
def we:Sp:=λa H Q _=>A0 a H Q
theorem xS0{f J:af}{fd L:ak}(F:aO K "_law_places" "_law_places" xt f fd)(B:fk mg)
  (u:mg "_law_is_full"=some (.ref J)) (FF:aO K "_law_is_full" "_law_is_full" Hq J L) (bF:Binds K L Gq []):aB P w K mg base aK 2 f fd ["_law_told","_law_kind"] we:=by
 have GF:aB P w K mg base aK 1 J L Gq OZ:=xz7 FF B;refine F.ok sJ (λvs H Q E h=>?_) (λbJ A R s H vs Q E hr h=>?_)
 ·obtain⟨t,n,l,rows,b,rfl,_⟩:=h
  rfl
 ·obtain⟨t,n,l,rows,b,rfl,sh,hn,q⟩:=h;refine aU ⟨_,⟨dk 2 sJ.nd (bg nM aN (cI fQ (pv 0) aN))⟩,?_⟩;refine aU ⟨_,⟨K1 (i0:=3) LJ (bq xt) rfl rfl rfl sJ.nd rfl rfl (zA (by rfl) B.range (aF (bg ng (pv 2) (pv 2)) aI)) (λcl C fp aC aD=>cZ.go ⟨gf (aF (bg pS (pv 0) (pv 3)) (aF (bg sT (pv 0) (pv 3)) aI))⟩)⟩,?_⟩;refine eF ⟨_,⟨cx (Kk LJ (bq xt) rfl rfl rfl sJ.nd (oB (pv 3))
   (λcl C fp aC aD=>fu tD (cZ.go ⟨bz GF hr u FF.kp bF (aF (pv 1) (aF (cI (rW K rfl) (pv 0) aN) (aF (cI (rW K rfl) (pv 0) aN) aI)))⟩) (pv 2) (dh _)) (λcl C fp aC aD=>pv 0))⟩,?_⟩
  obtain⟨⟨rp,ht,hR⟩,cn,vH⟩:=id sh;obtain⟨p1,p2,p3⟩:=Ly hn;have es:=uL n;refine⟨_,rfl,t,_,0,.int (n:Nat),rfl,rfl,bf.of ht,rfl,_,_,rfl,rfl,⟨by lia,by lia,by decide⟩,?_⟩;dsimp only[cb];refine Gw (σ':=[some (.ref t),some (.bl b),some (.int ((2^n:Nat):Int)),none]) (by rw[<- es];rfl) ?_;have kM:(0:Int)<((2^n:Nat):Int):=by lia
  generalize hN:2^n=S at *;have yS:(((S:Nat):Int)*((S:Nat):Int)).toNat=S*S:=by rw[<- Xp,ZI]
  have eSS:((S:Nat):Int)*((S:Nat):Int)=((S*S:Nat):Int):=by rw[Xp]
  refine⟨_,rfl,_,rfl,_,_,rfl,rfl,.inl ⟨by lia,by lia⟩,_,rfl,by lia,by lia,λD hD=>?_⟩;rw[yS];refine xF hD (λ_=>true) (λi v a=>∃p,v=.ref p/\a p=some (.tup [.int ((i/S:Nat):Int),.int ((i%S:Nat):Int)])) Sf (jg 'a') ?_ ?_ ?_
  ·rintro i y a H4 G ⟨p,h1,h2⟩;exact⟨p,h1,G _ _ h2⟩
  ·rintro i x a O rfl d os X Q1 Q2 Y M;obtain⟨o1,rfl⟩:=L2.tE X;show(if(true:Bool)=true then _ else Q1 a);rw[Zn rfl];refine⟨_,rfl,_,rfl,_,_,rfl,rfl,⟨kM,by lia⟩,_,rfl,_,rfl,_,_,rfl,rfl,kM,(by show 2<=sizeLine;decide),λp hp=>M rfl _ _ (bo hp) ⟨p,rfl,?_⟩⟩;rw[aZ]
   rfl
  ·intro ys H2 r jW wF wX;have ef:(List.range (S*S)).filter (λ_=>true)=List.range (S*S):=by simp
   rw[ef]at wF wX;have u:il H2 D ((List.range (S*S)).map λk=>[((k/S:Nat):Int),((k%S:Nat):Int)]):=
    Fc (n:=0) jW wF (Ze ..) λm y j N g=>by
     obtain⟨p,h1,h2⟩:=wX m y j N g;exact⟨p,[((j/S:Nat):Int),((j%S:Nat):Int)],h1,by rw[Zf,g];rfl,h2⟩
   obtain⟨bs,hb,Z,jE⟩:=id u;rw[Ze,Yk]at Z;have W:(bs.map V.ref).length=S*S:=by rw[Ze];exact Z
   refine⟨_,rfl,D,rfl,⟨_,bZ.of hb⟩,λD2 I=>xF I (λi=>dP n (T rows l) (i/S) (i%S)==b) (λi v a=>∃p,v=.ref p/\a p=some (.tup [.int ((i/S:Nat):Int),.int ((i%S:Nat):Int)])) (uR (K:=K) hb) (by rw[W];exact jg 'a') ?_ ?_ ?_⟩
   ·rintro i y a H4 G ⟨p,h1,h2⟩;exact⟨p,h1,G _ _ h2⟩
   ·intro i x a O hx d os X Q1 Q2 Y M;rw[W]at O;rw[Zf]at hx;obtain⟨c,hc,rfl⟩:=Zh.mp hx;have U:=d _ _ (jE i c _ hc (by rw[Zf,YU O];rfl));obtain⟨o1,rfl⟩:=L2.tE X;refine⟨_,rfl,_,rfl,c,_,0,.int ((i/S:Nat):Int),rfl,rfl,bf.of U,rfl,_,rfl,c,_,1,.int ((i%S:Nat):Int),rfl,rfl,bf.of U,rfl,t,n,l,i/S,i%S,rows,rfl,?_,?_⟩
    ·exact⟨⟨rp,d _ _ (r _ _ ht),hR.same (r.trans d)⟩,cn,vH⟩
    refine⟨_,rfl,rfl,_,rfl,?_⟩;have eb:decide (V.bl (dP n (T rows l) (i/S) (i%S))=V.bl b)=(dP n (T rows l) (i/S) (i%S)==b):=G8;rw[eb];refine cC (λh1=>⟨_,rfl,M h1 _ _ (aG.refl _) ⟨c,rfl,U⟩⟩) (λh1=>Y (ZX.mpr h1) _ (aG.refl _))
   ·intro zs a d Il UP UO;rw[W]at UP UO;refine q a D2 (r.trans d) ?_ ?_
    ·cases e:H D2 with
     |none=>rfl
     |some o=>rw[r _ _ e]at I;cases I
    ·unfold kq;rw[hN];exact Fc (n:=0) Il UP (Ze ..) λm y j N g=>by
      obtain⟨p,h1,h2⟩:=UO m y j N g;exact⟨p,[((j/S:Nat):Int),((j%S:Nat):Int)],h1,by rw[Zf,g];rfl,h2⟩
abbrev uY:List ar:=["_law_places_here","_law_row","_law_column","_law_far"]
theorem Bq:aE uY uY (bq zI):=cM
inductive A2(vs:List V)(H:Hp)(Q:VK):Prop
 |mk(D:af)(ps:List (List Int))(r c k:Int)(e0:vs=[.ref D,.int r,.int c,.int k])(e1:il H D ps)(e2:∀p∈ps,p.length=2)(e3:ps.length<=1000)(q:∀H',aG H H'->Q (.bl (ps.any (m_ r c k))) H')
def wj:Sp:=λa H Q _=>A2 a H Q
theorem xS1{f:af}{u:ak}(F:aO K "_law_near" "_law_near" zI f u)(B:fk mg)(C:rA mg):aB P w K mg base aK 1 f u uY wj:=by
 refine F.ok Bq (λN H Q E h=>?_) (λbJ A g s H N Q E hr h=>?_)
 ·obtain⟨D,a,r,c,k,rfl,_⟩:=h
  rfl
 ·obtain⟨D,a,r,c,k,rfl,L,h2,hl,q⟩:=h;refine eF ⟨_,⟨cx (dw (Ki rfl) (by rfl) B.any Vc (bu.go (.cons ⟨nS uY (bq zI) rfl rfl rfl Bq.nd (oB (pv 0))
   (λcl C' fp aC aD=>mn oy (cZ.go ⟨dw (B0 rfl) (by rfl) B.max Y9 (bu.go (.cons ⟨dw F_ (by rfl) C.abs We (aF (bg gN (cI (rW K rfl) (pv 0) aN) (pv 2)) aI)⟩
    (.cons ⟨dw F_ (by rfl) C.abs We (aF (bg gN (cI (rW K rfl) (pv 0) aN) (pv 3)) aI)⟩ .nil rfl) rfl))⟩) (pv 4) (dh _))⟩ .nil rfl)))⟩,?_⟩
  obtain⟨bs,hb,R,W⟩:=id L;have e:(bs.map V.ref).length=a.length:=by rw[Ze];exact R
  refine⟨_,rfl,D,rfl,⟨_,bZ.of hb⟩,λZ I=>pX I (λi y _=>y=.bl (m_ r c k (a.getD i []))) (uR (K:=K) hb) (by rw[e];exact jg 'a') (λ_ _ _ _ _ _ h=>h) ?_ ?_⟩
  ·intro i x t M d l Q' S;have O:i<a.length:=by rw[<- e];exact M
   rw[Zf]at d;obtain⟨b,Y,rfl⟩:=Zh.mp d;have m:a[i]?=some (a.getD i []):=by rw[Zt,Zc O];rfl
   have v:=l _ _ (W i b _ Y m);have U:=h2 _ (Zm m);generalize a.getD i []=p at *;obtain⟨x,y,rfl⟩:=L2.zX U;refine⟨_,rfl,b,_,0,.int x,rfl,rfl,bf.of v,rfl,_,rfl,_,_,rfl,rfl,_,rfl,_,rfl,b,_,1,.int y,rfl,rfl,bf.of v,rfl,_,rfl,_,_,rfl,rfl,_,rfl,_,_,rfl,_,rfl,_,_,rfl,rfl,S _ _ (aG.refl _) rfl⟩
  ·intro ys t l kE G J;have X:ys=(a.map (m_ r c k)).map V.bl:=by
    refine pW (by rw[G,e,Ze,Ze]) λj x d=>?_;have n:j<a.length:=by
     have:=(cf d).1;rw[G,e]at this;exact this
    rw[J j x d,Zf,Zf,Zc n,Zt,Zc n]
    rfl
   subst X;refine⟨Z,_,rfl,kE,?_⟩;have T:(a.map (m_ r c k)).any id=a.any (m_ r c k):=by rw[XC];rfl
   rw[T];exact q t l
end Pr
namespace L2
open PySem PySem.Spec PyProof.Rows PySem.W
section
variable{X:Cx}
def xH(a:List Int):Nat->Int
 |0=>a.getD 0 0
 |k+1=>if a.getD (k+1) 0<xH a k then a.getD (k+1) 0 else xH a k
theorem SD(a:List Int):∀k,a.getD (argBest (λi j=>decide (a.getD i 0<a.getD j 0)) k) 0=xH a k/\argBest (λi j=>decide (a.getD i 0<a.getD j 0)) k<=k
 |0=>⟨rfl,Zg _⟩
 |k+1=>by
  obtain⟨h1,h2⟩:=SD a k;unfold argBest xH;rw[<- h1];by_cases b:a.getD (k+1) 0<a.getD (argBest (λi j=>decide (a.getD i 0<a.getD j 0)) k) 0
  ·rw[Zn (Zv b),Zn b];exact⟨rfl,Zg _⟩
  ·rw[Zj (by simpa using b),Zj b];exact⟨rfl,VT h2⟩
theorem xd4(a b c d:aa):argsOk "min" ⟨[a,b,c,d],[]⟩:=by unfold argsOk;kernel_rfl
inductive lU(xs:List V)(H:Hp)(Q:VK):Prop
 |mk(a b c d:Int)(aT:xs=[.int a,.int b,.int c,.int d])(eR:Q (.int (xH [a,b,c,d] 3)) H)
theorem xd5(hc:X.calm=true):gZ X (.builtin "min") lU:=by
 intro j8 s σ H xs M Q I r h;obtain⟨a,b,c,d,rfl,q⟩:=h;have J:=r;have N:M.length=4:=J.length.symm;obtain⟨g,l,m,k,rfl⟩:=L2.zW N
 ·
  have Y:(toString "min"++toString ".loop":String)="min.loop":=by decide
  refine call_function_tree PySem.F.kind_min PySem.F.plain_min PySem.F.entry_min (xd4 _ _ _ _) ?_;show ah _ X.A.in1 (Builtin.Builtins.bindParams "min" ["key","default"] 0 ⟨[],[]⟩ >>= _) _ _ s;refine Za (VS (show Builtin.Builtins.bindParams "min" ["key","default"] 0 ⟨[],[]⟩=pure [none,none]from rfl) ?_);show ah _ X.A.in1 (newTuple [g,l,m,k] >>= _) _ _ s;refine Za (ZP ?_);have C:(s.heap.push {cls:=.type "tuple",data:=.seq #[g,l,m,k]}).IsTuple s.heap.objs.size #[g,l,m,k]:=⟨_,Zi _ rfl,rfl,0,rfl⟩;have p:(s.heap.push {cls:=.type "tuple",data:=.seq #[g,l,m,k]}).objs.size=s.heap.objs.size+1:=Z4 ..;have f:∀(i:Nat)(v:aa),(#[g,l,m,k]:Array aa)[i]?=some v->∃t,v=.int ([a,b,c,d].getD i 0) t:=λi v P=>by
   have D:[g,l,m,k][i]?=some v:=by simpa using P
   have y:i<4:=(cf D).1;obtain⟨w',B,t,K⟩:=J.get (x:=V.int ([a,b,c,d].getD i 0)) (i:=i) (by
    match i,y with
    |0,_|1,_|2,_|3,_=>rfl)
   rw[D]at B;cases B;exact⟨t,K⟩
  refine Za (Z9 (XV C (Q:=λE G=>E=.ref (s.heap.objs.size+1)/\G=_) ⟨by rw[p],rfl⟩) (λE G T=>?_) λ_ _ e=>e);obtain⟨rfl,rfl⟩:=T;have W:=Walks.tuple (prog:=X.prog) (w:=X.w) (A:=X.A.in1) (I.ok.hd hc) (s.heap.objs.size+1) s.heap.objs.size (Zu (Yb _)) #[g,l,m,k];refine Za (ZP ?_);rw[Y];refine Zb ⟨Wa PySem.F.plain_min_loop _,codeAny_min_loop_first W (λi j=>decide ([a,b,c,d].getD i 0<[a,b,c,d].getD j 0)) ?_ _ ?_ (by show 0<4;decide) ?_ (Zi _ rfl) λv h' tk L hk=>?_⟩
  ·intro i j S Z s' Q' E' y U O;obtain⟨t,rfl⟩:=f i S y;obtain⟨t',rfl⟩:=f j Z U;exact lt_int O
  ·intro F;simp only[Z4]at F;have:s.heap.objs.size+1+1=s.heap.objs.size+1\/s.heap.objs.size+1+1=s.heap.objs.size:=by simpa using F
   lia
  ·refine W.frame _ _ _ ?_ λb _ o e=>Zd _ e;refine⟨⟨{cls:=.type "tuple_iterator",data:=.fields #[.ref s.heap.objs.size,.int 0 0]},?_,rfl,rfl⟩,C.push _⟩;rw[<- p];exact Zi _ rfl
  ·obtain⟨t,rfl⟩:=f _ v L;have R:=(SD [a,b,c,d] 3).1;refine⟨.int _,H,I.kept (h':=h') (t':=tk) (λu o n=>hk u o (λz=>?_) (λz=>?_) (Zd _ (Zd _ (Zd _ n)))),⟨t,rfl⟩,?_⟩
   ·have h1:u=s.heap.objs.size+1:=by simpa using z
    rw[h1]at n;exact absurd (Zo n) (Nat.not_lt.mpr (Wq _))
   ·have h1:u=s.heap.objs.size+1+1:=by rw[z];simp only[Z4]
    rw[h1]at n;exact absurd (Zo n) (Nat.not_lt.mpr (ZD (Wq _) (Wq _)))
   ·show Q (.int ([a,b,c,d].getD (argBest (λi j=>decide ([a,b,c,d].getD i 0<[a,b,c,d].getD j 0)) 3) 0)) H;rw[R];exact q
end
end L2
namespace Qf
open Tr
theorem kp0{b e d c:Tr}{L a:List Tr}(j:a=post c (post d (post e (post b L))))(z:[0,0,0,0]=[name a b,name a e,name a d,name a c].map λx:Nat=>(x:Int)):a=L/\mk b e d c=.z/\name a b=0:=by
 simp only[Zw,XW,Xo,V1]at z;have f:=oG (L:=a) (t:=b) 'a';have h:=oG (L:=a) (t:=e) 'a';have i:=oG (L:=a) (t:=d) 'a';have g:=oG (L:=a) (t:=c) 'a';subst f h i g;exact⟨j,rfl,rfl⟩
theorem kp1{b e d c:Tr}{L a:List Tr}(j:a=post c (post d (post e (post b L))))(z:[1,1,1,1]=[name a b,name a e,name a d,name a c].map λx:Nat=>(x:Int)):a=L/\mk b e d c=.o/\name a b=1:=by
 simp only[Zw,XW,Xo,V1]at z;have f:=oE (L:=a) (t:=b) 'a';have h:=oE (L:=a) (t:=e) 'a';have i:=oE (L:=a) (t:=d) 'a';have g:=oE (L:=a) (t:=c) 'a';subst f h i g;exact⟨j,rfl,rfl⟩
theorem kpn{d e c b:Tr}{a:List Tr}(hc:¬(decide ([0,0,0,0]=[name a d,name a e,name a c,name a b].map λx:Nat=>(x:Int))||decide ([1,1,1,1]=[name a d,name a e,name a c,name a b].map λx:Nat=>(x:Int)))=true):mk d e c b=.nd d e c b:=by
 unfold mk;rw[Zj,Zj]
 ·rintro⟨rfl,rfl,rfl,rfl⟩;exact hc (by rw[Vn];exact .inr (Zv rfl))
 ·rintro⟨rfl,rfl,rfl,rfl⟩;exact hc (by rw[Vn];exact .inl (Zv rfl))
theorem kpi{c d b a:Tr}{L f:List Tr}(l:Ord L)(j:f=post a (post b (post d (post c L))))(k:Tr.nd c d b a∈f):Tr.nd c d b a∈L/\f=L:=by
 have h:Tr.nd c d b a∈L:=by
  by_cases g:Tr.nd c d b a∈L
  ·exact g
  ·exact absurd (j▸k) (Tr.i9 g)
 obtain⟨i,p,m⟩:=ZL.mp h;have e:=λs n=>(Tr.fb l (i:=i) (t:=.nd c d b a) (by rw[Zc p,m]) (s:=s) n).1;exact⟨h,by rw[j,BE (e c (by simp[Tr.kids])),BE (e d (by simp[Tr.kids])),BE (e b (by simp[Tr.kids])),BE (e a (by simp[Tr.kids]))]⟩
theorem kpx{a b c d:Tr}{L e:List Tr}(f:e=post d (post c (post b (post a L))))(h:Tr.nd a b c d∉e):post (.nd a b c d) L=e++[.nd a b c d]:=by
 have i:Tr.nd a b c d∉L:=λz=>h (by
  rw[f];obtain⟨k,h1⟩:=Tr.cz a L;obtain⟨l,h2⟩:=Tr.cz b (Tr.post a L);obtain⟨m,g⟩:=Tr.cz c (Tr.post b (Tr.post a L));obtain⟨n,j⟩:=Tr.cz d (Tr.post c (Tr.post b (Tr.post a L)));rw[j,g,h2,h1];simp[z])
 rw[f];show(if Tr.nd a b c d∈L then L else _)=_;rw[Zj i]
end Qf
namespace Pr
open PySem L2 Qf
theorem xM1{f g e d:Tr}{c:List Tr}(i:Tr.Ord c)(hk:∀s∈Tr.kids (.nd f g e d),Tr.In c s)(l:¬[Tr.name c f,Tr.name c g,Tr.name c e,Tr.name c d]∈Tr.rowsOf c):
  putK (tK (Tr.rowsOf c)) (dM [Tr.name c f,Tr.name c g,Tr.name c e,Tr.name c d]) (.int (((tK (Tr.rowsOf c)).length:Int)+2))=tK (Tr.rowsOf (c++[.nd f g e d])):=by
 have h:=Kq i hk;rw[show(Tr.kids (.nd f g e d)).map (Tr.name c)=[Tr.name c f,Tr.name c g,Tr.name c e,Tr.name c d]from rfl]at h;have j:(tK (Tr.rowsOf c)).length=c.length:=by unfold tK;rw[zw,Tr.aH]
 have h1:=R5 (key:=dM) (k:=2) (λa b=>BR) l;rw[h,j];unfold tK;rw[<- h1,Tr.aH];congr 2;lia
end Pr
namespace Qf
open Tr
theorem RL{m:Row->Bool}:∀(bs:List Nat)(a:List Row),bs.length=a.length ->
  ((List.range bs.length).filter (λi=>m (a.getD i []))).map (λi=>bs.getD i 0)=((bs.zip a).filter (λq=>m q.2)).map Prod.fst
 |[],[],_=>rfl
 |b::bs,r::a,h=>by
  have c:=RL (m:=m) bs a (by simpa using h);rw[Z5,List.range_succ_eq_map,XT,WQ,XT,List.filter_map];have e:((λi=>m ((r::a).getD i []))∘Nat.succ)=λi=>m (a.getD i []):=by funext i;rfl
  have d:((λi=>(b::bs).getD i 0)∘Nat.succ)=λi=>bs.getD i 0:=by funext i;rfl
  rw[e];show List.map _ (if m r=true then _ else _)=List.map _ (if m r=true then _ else _);split
  ·rw[Zw,Ym,d,c,Zw];rfl
  ·rw[Ym,d,c]
theorem K6{m:Row->Bool}:∀(bs:List Nat)(a:List Row),bs.length=a.length->((bs.zip a).filter (λq=>m q.2)).map Prod.snd=a.filter m
 |[],[],_=>rfl
 |b::bs,r::a,h=>by
  have c:=K6 (m:=m) bs a (by simpa using h);rw[WQ,XT,XT];show List.map _ (if m r=true then _ else _)=_;split
  ·rw[Zw,c]
  ·exact c
end Qf
namespace Pr
open PySem L2 Qf
theorem bQ.filter{H d:Hp}{p D:af}{a:List Row}{bs:List af}(m:Row->Bool)(f:bs.length=a.length)(w:∀(i:Nat) b r,bs[i]?=some b->a[i]?=some r->H b=some (.tup (vN r)))(s:aG H d)
  (h:d D=some (.lst (((List.range bs.length).filter (λi=>m (a.getD i []))).map (λi=>V.ref (bs.getD i 0))))):bQ d D (a.filter m):=by
 have e:((List.range bs.length).filter (λi=>m (a.getD i []))).map (λi=>V.ref (bs.getD i 0))=(((bs.zip a).filter (λq=>m q.2)).map Prod.fst).map V.ref:=by
  rw[<- RL bs a f,Ym];rfl
 rw[e]at h;refine⟨_,h,by rw[<- K6 bs a f,Ze,Ze],λi b r k c=>?_⟩;rw[<- K6 bs a f]at c;rw[Zf]at k c;obtain⟨q,l,rfl⟩:=Zh.mp k;rw[l]at c;have u:q.2=r:=by simpa using c
 have v:=(Z2.mp (Zm l)).1;obtain⟨j,n,t⟩:=ZL.mp v;rw[List.length_zip]at n;have g:(bs.zip a)[j]?=some q:=by rw[Zc (by rw[List.length_zip];exact n),t]
 rw[List.getElem?_zip_eq_some]at g;rw[<- u];exact s _ _ (w j q.1 q.2 g.1 g.2)
abbrev m9:List ar:=["_law_box_here","_law_row","_law_column","_law_side"]
theorem xz8:aE m9 m9 (bq zK):=cM
theorem xS2:aE m9 m9 (bq n5):=cM
inductive o7(m:Nat->Nat->Nat->Row->Bool)(vs:List V)(H:Hp)(Q:VK):Prop
 |mk(b:af)(bx:Row)(r c s:Nat)(e0:vs=[.ref b,.int (r:Nat),.int (c:Nat),.int (s:Nat)])(e1:H b=some (.tup (vN bx)))(e2:bx.length=4)(e3:Q (.bl (m r c s bx)) H)
def Hk(m:Nat->Nat->Nat->Row->Bool):Sp:=λa H Q _=>o7 m a H Q
theorem xm4{f:af}{j:ak}(F:aO K "_law_meets" "_law_meets" zK f j):aB P w K mg base aK 1 f j m9 (Hk xi):=by
 refine F.ok xz8 (λn H Q E h=>?_) (λt A i s H n Q E p h=>?_)
 ·obtain⟨b,bx,r,c,s,rfl,_⟩:=h
  rfl
 ·obtain⟨b,bx,r,c,s,rfl,hb,m,q⟩:=h;obtain⟨x,y,d,g,rfl⟩:=xr m;refine aU ⟨_,⟨eI (oz (fu oy (bg gO (pv 1) (pv 3)) (cI fQ (pv 0) aN) (dh _))
   (pQ (fu oy (bg gO (cI fQ (pv 0) aN) (cI fQ (pv 0) aN)) (pv 1) (dh _)))).pt (cN (cx kj)) eM⟩,?_⟩
  refine eF ⟨_,⟨cx (sW (mn l_ (pv 2) (bg gO (cI fQ (pv 0) aN) (cI fQ (pv 0) aN)) (dh _)) (uK (mn l_ (cI fQ (pv 0) aN) (bg gO (pv 2) (pv 3)) (dh _))))⟩,?_⟩;have l:xi r c s [x,y,d,g]=decide (x<r+s/\r<x+d/\c<y+g/\y<c+s):=rfl;rw[l]at q;refine⟨_,rfl,_,rfl,_,_,rfl,rfl,_,rfl,b,_,0,.int (x:Nat),rfl,rfl,bf.of hb,rfl,_,_,rfl,rfl,_,rfl,?_⟩;refine cC (λa=>?_) (λa=>?_)
  ·have:=ZE a;rw[ZM 'a']at q;exact dy q
  ·have h1:=Xa (ZX.mpr a);refine⟨_,rfl,b,_,0,.int (x:Nat),rfl,rfl,bf.of hb,rfl,_,rfl,b,_,2,.int (d:Nat),rfl,rfl,bf.of hb,rfl,_,_,rfl,rfl,_,rfl,_,_,rfl,rfl,_,rfl,?_⟩;refine cC (λa=>?_) (λa=>?_)
   ·have:=ZE a;rw[ZM 'a']at q;exact q
   ·have h2:=Xa (ZX.mpr a);refine⟨_,rfl,_,rfl,b,_,1,.int (y:Nat),rfl,rfl,bf.of hb,rfl,_,rfl,b,_,3,.int (g:Nat),rfl,rfl,bf.of hb,rfl,_,_,rfl,rfl,_,_,rfl,rfl,_,rfl,?_⟩;refine cC (λa=>?_) (λa=>?_)
    ·have k:=ZE a;refine⟨_,rfl,b,_,1,.int (y:Nat),rfl,rfl,bf.of hb,rfl,_,rfl,_,rfl,_,_,rfl,rfl,_,_,rfl,rfl,?_⟩;have e:decide ((y:Int)<(c:Int)+(s:Int))=decide (x<r+s/\r<x+d/\c<y+g/\y<c+s):=by
      congr 1;exact propext ⟨λz=>⟨by lia,by lia,by lia,by lia⟩,λz=>by lia⟩
     show Q (.bl (decide ((y:Int)<(c:Int)+(s:Int)))) H;rw[e];exact q
    ·have k:=Xa (ZX.mpr a);rw[ZM 'a']at q;exact q
theorem xM2{f:af}{j:ak}(F:aO K "_law_has" "_law_has" n5 f j):aB P w K mg base aK 1 f j m9 (Hk hasB):=by
 refine F.ok xS2 (λn H Q E h=>?_) (λt A i s H n Q E p h=>?_)
 ·obtain⟨b,bx,r,c,s,rfl,_⟩:=h
  rfl
 ·obtain⟨b,bx,r,c,s,rfl,hb,m,q⟩:=h;obtain⟨x,y,g,d,rfl⟩:=xr m;refine aU ⟨_,⟨eI (oz (fu l_ (pv 1) (cI fQ (pv 0) aN) (dh _))
   (pQ (fu l_ (bg gO (cI fQ (pv 0) aN) (cI fQ (pv 0) aN)) (bg gO (pv 1) (pv 3)) (dh _)))).pt (cN (cx kj)) eM⟩,?_⟩
  refine eF ⟨_,⟨cx (sW (mn oy (cI fQ (pv 0) aN) (pv 2) (dh _)) (uK (mn oy (bg gO (pv 2) (pv 3)) (bg gO (cI fQ (pv 0) aN) (cI fQ (pv 0) aN)) (dh _))))⟩,?_⟩;have l:hasB r c s [x,y,g,d]=decide (x<=r/\r+s<=x+g/\y<=c/\c+s<=y+d):=rfl;rw[l]at q;refine⟨_,rfl,_,rfl,b,_,0,.int (x:Nat),rfl,rfl,bf.of hb,rfl,_,_,rfl,rfl,_,rfl,?_⟩;refine cC (λa=>?_) (λa=>?_)
  ·have:=ZE a;rw[ZM 'a']at q;exact dy q
  ·have h1:=Xa (ZX.mpr a);refine⟨_,rfl,b,_,0,.int (x:Nat),rfl,rfl,bf.of hb,rfl,_,rfl,b,_,2,.int (g:Nat),rfl,rfl,bf.of hb,rfl,_,_,rfl,rfl,_,rfl,_,rfl,_,_,rfl,rfl,_,_,rfl,rfl,_,rfl,?_⟩;refine cC (λa=>?_) (λa=>?_)
   ·have:=ZE a;rw[ZM 'a']at q;exact q
   ·have h2:=Xa (ZX.mpr a);refine⟨_,rfl,b,_,1,.int (y:Nat),rfl,rfl,bf.of hb,rfl,_,rfl,_,_,rfl,rfl,_,rfl,?_⟩;refine cC (λa=>?_) (λa=>?_)
    ·have k:=ZE a;refine⟨_,rfl,_,rfl,_,_,rfl,rfl,_,rfl,b,_,1,.int (y:Nat),rfl,rfl,bf.of hb,rfl,_,rfl,b,_,3,.int (d:Nat),rfl,rfl,bf.of hb,rfl,_,_,rfl,rfl,_,_,rfl,rfl,?_⟩;have e:decide ((c:Int)+(s:Int)<=(y:Int)+(d:Int))=decide (x<=r/\r+s<=x+g/\y<=c/\c+s<=y+d):=by
      congr 1;exact propext ⟨λz=>⟨by lia,by lia,by lia,by lia⟩,λz=>by lia⟩
     show Q (.bl (decide ((c:Int)+(s:Int)<=(y:Int)+(d:Int)))) H;rw[e];exact q
    ·have k:=Xa (ZX.mpr a);rw[ZM 'a']at q;exact q
end Pr
namespace Qf
open Tr
def qt(k:Nat)(m:List Row)(r c i:Nat):Tr:=bt k m (r+2^k*(i/2)) (c+2^k*(i%2))
def qL(k:Nat)(m:List Row)(r c:Nat)(L:List Tr):Nat->List Tr
 |0=>L
 |i+1=>post (qt k m r c i) (qL k m r c L i)
theorem Cb{k:Nat}{m:List Row}{r c:Nat}{L:List Tr}(h:Ord L):∀i,Ord (qL k m r c L i)
 |0=>h
 |i+1=>(cj _ _ (Cb h i)).1
theorem zC{k:Nat}{m:List Row}{r c:Nat}{L:List Tr}(h:Ord L){j:Nat}:∀i,j<i->In (qL k m r c L i) (qt k m r c j)
 |i+1,a=>by
  by_cases e:j=i
  ·rw[e];exact(cj _ _ (Cb h i)).2
  ·exact(zC h i (C9 a e)).post _
theorem xz9{k:Nat}{m:List Row}{r c:Nat}{L:List Tr}(h:Ord L){i:Nat}{t:Tr}(a:In (qL k m r c L i) t):name (qL k m r c L (i+1)) t=name (qL k m r c L i) t:=by
 obtain⟨s,e⟩:=cz (qt k m r c i) (qL k m r c L i);show name (post _ _) t=_;rw[e];exact dm a (Cb h i)
theorem Js{k:Nat}{m:List Row}{r c:Nat}{L:List Tr}:∀i,(qL k m r c L i).length<=L.length+i*sz k
 |0=>by show L.length<=_;exact Ab
 |i+1=>by
  have h1:=Js (k:=k) (m:=m) (r:=r) (c:=c) (L:=L) i;have h2:=xp (qt k m r c i) (qL k m r c L i);have a:=zD k m (r+2^k*(i/2)) (c+2^k*(i%2));show(post _ _).length<=_;rw[X1];unfold qt at h2;unfold qt;lia
def names(k:Nat)(m:List Row)(r c:Nat)(L:List Tr)(i:Nat):List Nat:=(List.range i).map λj=>name (qL k m r c L i) (qt k m r c j)
theorem q00{k:Nat}{m:List Row}{r c:Nat}{L:List Tr}(h:Ord L)(i:Nat):names k m r c L (i+1)=names k m r c L i++[name (post (qt k m r c i) (qL k m r c L i)) (qt k m r c i)]:=by
 unfold names;rw[Y8,ZZ];congr 1;exact YF λj a=>xz9 h (zC h i (ZR.mp a))
theorem xS3(k:Nat)(boxes:List Row)(r c:Nat)(h1:met boxes r c (2^(k+1))≠[])(h2:(met boxes r c (2^(k+1))).any (hasB r c (2^(k+1)))=false):
  bt (k+1) boxes r c=mk (qt k (met boxes r c (2^(k+1))) r c 0) (qt k (met boxes r c (2^(k+1))) r c 1) (qt k (met boxes r c (2^(k+1))) r c 2) (qt k (met boxes r c (2^(k+1))) r c 3):=by
 unfold bt;rw[Zj h1,Zj (by rw[h2];decide)];unfold qt;simp
theorem xA0{boxes:List Row}{r c s:Nat}:(met boxes r c s).length<=boxes.length:=Yr _ _
theorem xA1{boxes:List Row}{r c:Nat}(h:met boxes r c 1≠[]):(met boxes r c 1).any (hasB r c 1)=true:=by
 obtain⟨b,hb⟩:=List.exists_mem_of_ne_nil _ h;refine ZW.mpr ⟨b,hb,?_⟩;have m:b.getD 0 0<r+1/\r<b.getD 0 0+b.getD 2 0/\c<b.getD 1 0+b.getD 3 0/\b.getD 1 0<c+1:=ZE (Z2.mp hb).2;exact Zv ⟨by lia,by lia,by lia,by lia⟩
theorem Qh:∀{k n:Nat},k<=n->sz k<=sz n
 |k,0,h=>by rw[show k=0 by lia];exact Zg _
 |k,n+1,h=>by
  by_cases e:k=n+1
  ·rw[e];exact Zg _
  ·have:=Qh (show k<=n by lia);show _<=4*sz n+1;lia
end Qf
namespace L2
open PySem
theorem xd7{H:Hp}{n:Nat}{te:TE}{σ:St}{Fin:Hp->Prop}{D:af}(f:Nat->List V->Hp->Prop)(hsz:n<sizeLine)(i0:f 0 [] (upd H D (.lst [])))(s:∀i a c,f i a c->c D=some (.lst a)/\a.length<=i)
  (step:∀i a c,i<n->f i a c->∀q:VK,(∀v e,e D=some (.lst a)->f (i+1) (a++[v]) (upd e D (.lst (a++[v])))->q v e)->te (some (.int (0+(i:Int)))::σ) c q)
  (fin:∀a c,f n a c->Fin c):
  ∃W:Nat->Nat->List V->Hp->Prop,(∃m,W 0 m [] (upd H D (.lst []))) /\
   ∀i m a c,W i m a c->c D=some (.lst a)/\a.length<sizeLine/\(((mf 0 n).stop i c/\Fin c)\/((mf 0 n).go i c/\∀y e,(mf 0 n).iK i c y e->∀k:St,k.length=1 ->
    cb 0 y (k++σ) e λp A=>ow p A λb l=>if b=true then te p l λv j=>j D=some (.lst a)/\∃d,d<m/\W (i+1) d (a++[v]) (upd j D (.lst (a++[v])))else ∃d,d<m/\W (i+1) d a l)):=by
 obtain⟨W,B,w⟩:=RW (te:=te) (σ:=σ) f hsz i0 s step fin;refine⟨W,B,λi m a c h=>?_⟩;obtain⟨h1,h2,r⟩:=w i m a c h;refine⟨h1,h2,r.imp id λ⟨g,y⟩=>⟨g,λx e u k t=>?_⟩⟩;obtain⟨o,rfl⟩:=L2.tE t
 ·
  show(if(true:Bool)=true then te (some x::σ) e (λv j=>j D=some (.lst a)/\∃d,d<m/\W (i+1) d (a++[v]) (upd j D (.lst (a++[v]))))else ∃d,d<m/\W (i+1) d a e);rw[Zn rfl];exact y x e u
end L2
namespace Qf
theorem xA2:∀{k:Nat}{a:List Row}{r c:Nat},met a r c (2^k)=[]->bt k a r c=.z
 |0,_,_,_,h=>Zn h
 |_+1,_,_,_,h=>Zn h
theorem xA3:∀{k:Nat}{a:List Row}{r c:Nat},met a r c (2^k)≠[]->(met a r c (2^k)).any (hasB r c (2^k))=true->bt k a r c=.o
 |0,_,_,_,h,g=>(Zj h).trans (Zn g)
 |_+1,_,_,_,h,g=>(Zj h).trans (Zn g)
end Qf
namespace Pr
open PySem L2 Qf
abbrev uS:List ar:=["_law_rows","_law_boxes_here","_law_row","_law_column","_law_side"]
abbrev tI:List ar:=["_law_rows","_law_boxes_here","_law_row","_law_column","_law_side","_law_met","_law_half","_law_quarters"]
theorem iZ:aE tI uS (bq uM):=cM
inductive wg(k:Nat)(vs:List V)(H:Hp)(Q:VK):Prop
 |mk(e bp:af)(boxes:List Row)(r c:Nat)(L:List Tr)(e0:vs=[.ref e,.ref bp,.int (r:Nat),.int (c:Nat),.int ((2^k:Nat):Int)])(e1:bQ H bp boxes)(e2:(∀b∈boxes,b.length=4))(e3:boxes.length<=900)(e4:bp≠e)(e5:Tr.Ord L)(e6:H e=some (.dT (tK (Tr.rowsOf L))))(e7:L.length+sz k<=6000000)(e8:∀H',cu e H H'->H' e=some (.dT (tK (Tr.rowsOf (Tr.post (bt k boxes r c) L))))->Q (.int (Tr.name (Tr.post (bt k boxes r c) L) (bt k boxes r c):Nat)) H')
def Fb(k:Nat):Sp:=λa H Q _=>wg k a H Q
theorem PU{f fM fH:af}{fd lH ua:ak}(F:aO K "_law_number" "_law_number" uM f fd)(B:fk mg)(hN:mg "_law_number"=some (.ref f))(bN:Binds K fd uS [])
  (hM:mg "_law_meets"=some (.ref fM)) (FM:aO K "_law_meets" "_law_meets" zK fM lH) (bM:Binds K lH m9 [])
  (hH:mg "_law_has"=some (.ref fH)) (FH:aO K "_law_has" "_law_has" n5 fH ua) (bH:Binds K ua m9 []){m:Nat}(hk:m<=12){sp':Sp}(GI:aB P w K mg base aK (m+1) f fd uS sp') (kX:∀j,m=j+1->sp'=Fb j):aB P w K mg base aK (m+2) f fd uS (Fb m):=by
 have GM:aB P w K mg base aK 1 fM lH m9 (Hk xi):=xm4 FM;have GH:aB P w K mg base aK 1 fH ua m9 (Hk hasB):=xM2 FH;refine F.ok iZ (λvs H Q E h=>?_) (λbJ A outer s H vs Q E Y h=>?_)
 ·obtain⟨e,bp,g,r,c,L,rfl,_⟩:=h
  rfl
 ·obtain⟨e,bp,g,r,c,L,rfl,hB,h4,jV,wU,J,he,hLs,q⟩:=h;have jG:aV 1 _:=Y.mono C8;have hu:A.units+3+1<cLine:=by
   have h2:A.units+3+16*(m+1)+200<cLine:=Y.un;lia
  refine aU ⟨_,⟨dk 5 iZ.nd (Kk tI (bq uM) rfl rfl rfl iZ.nd (oB (pv 1))
   (λcl C fp aC aD=>lq (bz GM jG hM FM.kp bM (aF (pv 0) (aF (pv 3) (aF (pv 4) (aF (pv 5) aI)))))) (λcl C fp aC aD=>pv 0))⟩,?_⟩
  refine aU ⟨_,⟨eI (PW.pt (oz (fu (Ll Y) (pv 5) (jh aI) (dh _)) (pQ (lq (dw (Ki rfl) (by rfl) B.any Vc (aF (nS tI (bq uM) rfl rfl rfl iZ.nd (oB (pv 5))
   (λcl C fp aC aD=>bz GH jG hH FH.kp bH (aF (pv 0) (aF (pv 3) (aF (pv 4) (aF (pv 5) aI)))))) aI))))))
   (cN (cx (i7 q19 (by rfl) B.int Wd (aF (mn (Lk Y) (pv 5) (jh aI) (dh _)) aI)))) eM⟩,?_⟩
  refine aU ⟨_,⟨dk 6 iZ.nd (bg pS (pv 4) aN)⟩,?_⟩;refine aU ⟨_,⟨K1 (i0:=7) tI (bq uM) rfl rfl rfl iZ.nd rfl rfl (zA (by rfl) B.range (aF aN aI)) (λcl C fp aC aD=>cZ.go ⟨bz GI Y hN F.kp bN (bu.go (.cons ⟨pv 1⟩ (.cons ⟨pv 6⟩
   (.cons ⟨bg gO (pv 3) (bg ng (pv 7) (bg pS (pv 0) aN))⟩ (.cons ⟨bg gO (pv 4) (bg ng (pv 7) (bg sT (pv 0) aN))⟩ (.cons ⟨pv 7⟩ .nil rfl) rfl) rfl) rfl) rfl))⟩)⟩,?_⟩
  refine aU ⟨_,⟨eI (fu (xG5 Y) (pv 7) (cZ.go ⟨gf (bu.go (.cons ⟨jh (bu.go (.cons rK (.cons rK (.cons rK (.cons rK .nil rfl) rfl) rfl) rfl))⟩ (.cons ⟨jh (bu.go (.cons rK (.cons rK (.cons rK (.cons rK .nil rfl) rfl) rfl) rfl))⟩ .nil rfl) rfl))⟩) (by first|rfl|decide|with_unfolding_all rfl))
   (cN (cx (cI pR (pv 7) aN))) eM⟩,?_⟩
  refine aU ⟨_,⟨eI (G_ (S_ hu (i7 (ip K rfl) (by rfl) B.tuple ZO (aF (pv 7) aI)) (pv 0)))
   (cN (Hw hu (pv 0) (i7 (ip K rfl) (by rfl) B.tuple ZO (aF (pv 7) aI)) (bg gO (dw q78 (by rfl) B.len YN (aF (pv 0) aI)) aN) (by rfl))) eM⟩,?_⟩
  refine eF ⟨_,⟨cx (Hy hu (pv 0) (i7 (ip K rfl) (by rfl) B.tuple ZO (aF (pv 7) aI)) (λ_ _=>rfl))⟩,?_⟩;obtain⟨bs,hb,j9,jE⟩:=id hB;have jH:(bs.map V.ref).length=bs.length:=Ze ..;refine⟨_,rfl,bp,rfl,⟨_,bZ.of hb⟩,λD hD=>Tq hD (λi=>xi r c (2^m) (g.getD i [])) (λi=>.ref (bs.getD i 0)) (uR (K:=K) hb) (by rw[jH];exact pY 'a') ?_ ?_⟩
  ·intro j x H2 hj N s2 os ho Q1 Q2 q1 q2;rw[Zf]at N;obtain⟨b,wT,rfl⟩:=Zh.mp N;have kB:j<g.length:=by rw[jH]at hj;exact qm hj j9
   have hg:g[j]?=some (g.getD j []):=by rw[Zt,Zc kB];rfl
   have eb:bs.getD j 0=b:=by rw[Zt,wT];rfl
   rw[eb]at q2;obtain⟨o1,rfl⟩:=L2.tE ho
   ·
    refine⟨_,rfl,_,rfl,_,rfl,_,rfl,b,g.getD j [],r,c,2^m,rfl,s2 _ _ (jE j b _ wT hg),h4 _ (Zm hg),_,rfl,?_⟩;refine cC (λR=>⟨_,rfl,q2 R H2 (aG.refl _)⟩) (λR=>q1 (ZX.mpr R) H2 (aG.refl _))
  ·intro H2 s2 jW;rw[jH]at jW;have Er:bQ H2 D (met g r c (2^m)):=bQ.filter (p:=bp) (xi r c (2^m)) j9 jE s2 jW;have yG:(met g r c (2^m)).length<=900:=ZD xA0 jV;have MO:∀b∈met g r c (2^m),b.length=4:=λb hb=>h4 b (Z2.mp hb).1;have vV:=s2 _ _ he;have UB:D≠e:=(cK he hD).symm;refine⟨_,rfl,(by show 0<=sizeLine;decide),λl hl=>?_⟩;refine⟨_,_,Kt (Er.same (bo hl)),.lst aZ .nil,zu _,rfl,Ky _,_,rfl,?_⟩;rw[Qe];have S3:aG H (upd H2 l (.lst [])):=s2.trans (bo hl);have Z:=Er.same (bo (o:=.lst []) hl);have Ec:=cw (u:=.lst []) vV hl;generalize upd H2 l (.lst [])=H3 at S3 Z Ec;cases DS:met g r c (2^m)with
   |nil=>
    have hT:bt m g r c=.z:=xA2 DS;rw[hT]at q;rw[DS]at Z;refine dy (dy ?_);refine⟨_,rfl,(by show 0<=sizeLine;decide),λl2 S=>?_⟩;refine⟨_,_,Kt (Z.same (bo S)),.lst aZ .nil,zu _,rfl,Ky _,.inr ⟨_,rfl,?_⟩⟩;exact q _ (cu.of (S3.trans (bo S))) (cw Ec S)
   |cons b0 ml=>
    have jK:met g r c (2^m)≠[]:=by rw[DS];exact λz=>nomatch z
    rw[<- DS];clear DS;have D_:(met g r c (2^m)).isEmpty=false:=by
     cases hq:met g r c (2^m)with
     |nil=>exact absurd hq jK
     |cons _ _=>rfl
    rw[D_];refine cB ?_;obtain⟨ms,MN,DT,vc⟩:=id Z;have qH:(ms.map V.ref).length=(met g r c (2^m)).length:=by rw[Ze,DT]
    refine⟨_,rfl,D,rfl,⟨_,bZ.of MN⟩,λD2 hDD=>pX hDD (λi y _=>y=.bl (hasB r c (2^m) ((met g r c (2^m)).getD i []))) (uR (K:=K) MN) (by rw[qH];exact pY (x5 yG)) (λ_ _ _ _ _ _ h=>h) ?_ ?_⟩
    ·intro j x H4 hj N s4 Q' hq;rw[Zf]at N;obtain⟨b,wT,rfl⟩:=Zh.mp N;have kB:j<(met g r c (2^m)).length:=by rw[qH]at hj;exact hj
     have hg:(met g r c (2^m))[j]?=some ((met g r c (2^m)).getD j []):=by rw[Zt,Zc kB];rfl
     exact⟨_,rfl,_,rfl,_,rfl,_,rfl,b,_,r,c,2^m,rfl,s4 _ _ (vc j b _ wT hg),MO _ (Zm hg),hq _ _ (aG.refl _) rfl⟩
    ·intro ys H4 s4 kD jM jP;have ey:ys=((met g r c (2^m)).map (hasB r c (2^m))).map V.bl:=by
      refine pW (by rw[jM,qH,Ze,Ze]) λj x N=>?_;have kB:j<(met g r c (2^m)).length:=by
       have:=(cf N).1;rw[jM,qH]at this;exact this
      rw[jP j x N,Zf,Zf,Zc kB,Zt,Zc kB]
      rfl
     subst ey;refine⟨D2,_,rfl,kD,_,rfl,?_⟩;have ue:((met g r c (2^m)).map (hasB r c (2^m))).any id=(met g r c (2^m)).any (hasB r c (2^m)):=by rw[XC];rfl
     rw[ue];have S4:=S3.trans s4;have vP:=Z.same s4;have Ih:=s4 _ _ Ec;cases hh:(met g r c (2^m)).any (hasB r c (2^m))with
     |true=>
      have hT:bt m g r c=.o:=xA3 jK hh;rw[hT]at q;refine dy ?_;refine⟨_,rfl,(by show 0<=sizeLine;decide),λl2 S=>?_⟩;refine⟨_,_,Kt (vP.same (bo S)),.lst aZ .nil,zu _,rfl,Ky _,.inr ⟨_,rfl,?_⟩⟩;rw[Qe,D_];exact q _ (cu.of (S4.trans (bo S))) (cw Ih S)
     |false=>
      obtain⟨k,rfl⟩:∃k,m=k+1:=by
       rcases m with _|k
       ·simp only[Nat.pow_zero]at jK hh;rw[xA1 jK]at hh;cases hh
       ·exact⟨k,rfl⟩
      cases kX k rfl;refine cB ?_;have hT:=xS3 k g r c jK hh;obtain⟨p1,p2⟩:=zt (show k<=12 from Dg hk);obtain⟨p3,p4⟩:=zt hk;have q8:(((2^(k+1):Nat):Int))/2=((2^k:Nat):Int):=by
       rw[YL];exact Jl
      clear D_ MN DT vc qH kD jM jP ue Er Z jW S3 s4 jH;generalize met g r c (2^(k+1))=m at hT vP yG MO jK hh;refine⟨_,rfl,_,_,rfl,rfl,⟨by decide,by decide⟩,?_⟩;refine⟨_,rfl,by decide,by decide,λI vQ=>?_⟩;have xR:I≠e:=(cK Ih vQ).symm;refine xd7 (λi xs G=>cu e H4 G/\G I=some (.lst xs)/\xs=vN (names k m r c L i)/\G e=some (.dT (tK (Tr.rowsOf (qL k m r c L i))))) 'b' ⟨cu.of (bo vQ),aZ,rfl,cw Ih vQ⟩ (λi xs G h=>⟨h.2.1,by rw[h.2.2.1,g7];simp[names]⟩) ?_ ?_
      ·rintro i xs G hi ⟨b5,M,rfl,vD⟩ Q2 q2;have JA:[V.ref e,V.ref D,V.int ((r:Int)+((2^(k+1):Nat):Int)/2*((0+(i:Int))/2)),V.int ((c:Int)+((2^(k+1):Nat):Int)/2*((0+(i:Int))%2)),V.int (((2^(k+1):Nat):Int)/2)]=[V.ref e,V.ref D,V.int ((r+2^k*(i/2):Nat):Int),V.int ((c+2^k*(i%2):Nat):Int),V.int ((2^k:Nat):Int)]:=by
        rw[q8,Vw,X7,Xp,V2,X7,Xp,V3]
        rfl
       refine⟨_,rfl,_,rfl,_,rfl,_,rfl,_,rfl,_,_,rfl,rfl,⟨by decide,by decide⟩,_,_,rfl,rfl,.inl ⟨by lia,by lia⟩,_,_,rfl,rfl,_,rfl,_,rfl,_,rfl,_,_,rfl,rfl,(by show(0:Int)<2;decide),_,_,rfl,rfl,.inl ⟨by lia,by lia⟩,_,_,rfl,rfl,_,rfl,
        e,D,m,r+2^k*(i/2),c+2^k*(i%2),qL k m r c L i,JA,vP.but b5 UB Ih (λu z=>by cases z),MO,yG,UB,Cb J i,vD,?_,λO b6 wP=>?_⟩
       ·have h1:=Js (k:=k) (m:=m) (r:=r) (c:=c) (L:=L) i;have h2:sz (k+1)=4*sz k+1:=rfl;have h3:i*sz k<=3*sz k:=Xh _ 'a';lia
       ·refine q2 _ _ (b6 _ _ M xR) ⟨?_,aZ,?_,?_⟩
        ·intro b o z nb;rw[bj (cK z vQ)];exact b6 _ _ (b5 _ _ z nb) nb
        ·rw[q00 J];unfold vN;rw[ZZ]
         rfl
        ·rw[bj (YK xR)];exact wP
      ·rintro xs G ⟨b5,M,rfl,vD⟩;have M:G I=some (.lst (vN (names k m r c L 4))):=M;have vD:G e=some (.dT (tK (Tr.rowsOf (qL k m r c L 4)))):=vD;have X:=Cb (k:=k) (m:=m) (r:=r) (c:=c) J 4;have Mh:=zC (k:=k) (m:=m) (r:=r) (c:=c) J (j:=0) 4 'b';have T:=zC (k:=k) (m:=m) (r:=r) (c:=c) J (j:=1) 4 'b';have Mg:=zC (k:=k) (m:=m) (r:=r) (c:=c) J (j:=2) 4 'b';have Mf:=zC (k:=k) (m:=m) (r:=r) (c:=c) J (j:=3) 4 'b';have Ah:=Js (k:=k) (m:=m) (r:=r) (c:=c) (L:=L) 4;have hs4:sz (k+1)=4*sz k+1:=rfl;have e4:qL k m r c L 4=Tr.post (qt k m r c 3) (Tr.post (qt k m r c 2) (Tr.post (qt k m r c 1) (Tr.post (qt k m r c 0) L))):=rfl;have en:names k m r c L 4=[Tr.name (qL k m r c L 4) (qt k m r c 0),Tr.name (qL k m r c L 4) (qt k m r c 1),Tr.name (qL k m r c L 4) (qt k m r c 2),Tr.name (qL k m r c L 4) (qt k m r c 3)]:=rfl;rw[en]at M;rw[hT]at q;generalize qL k m r c L 4=n at vD X Mh T Mg Mf Ah e4 M;generalize qt k m r c 0=t0,qt k m r c 1=t1,qt k m r c 2=t2,qt k m r c 3=v at Mh T Mg Mf e4 M q;have B5:cu e H G:=(cu.of S4).trans b5;refine⟨_,rfl,(by show 4<=sizeLine;decide),λa ha=>⟨(by show 4<=sizeLine;decide),λb iA=>⟨(by show 2<=sizeLine;decide),λt ht=>?_⟩⟩⟩;have S6:aG G (upd (upd (upd G a (.lst [.int 0,.int 0,.int 0,.int 0])) b (.lst [.int 1,.int 1,.int 1,.int 1])) t (.tup [.ref a,.ref b])):=((bo ha).trans (bo iA)).trans (bo ht);have da:aX (upd (upd (upd G a (.lst [.int 0,.int 0,.int 0,.int 0])) b (.lst [.int 1,.int 1,.int 1,.int 1])) t (.tup [.ref a,.ref b])) (.ref a) (dL [0,0,0,0]):=.lst (cw (cw aZ iA) ht) (aM.ints [0,0,0,0]);have db:aX (upd (upd (upd G a (.lst [.int 0,.int 0,.int 0,.int 0])) b (.lst [.int 1,.int 1,.int 1,.int 1])) t (.tup [.ref a,.ref b])) (.ref b) (dL [1,1,1,1]):=.lst (cw aZ ht) (aM.ints [1,1,1,1]);have W:=S6 _ _ M;have wP:=S6 _ _ vD;have U3:upd (upd (upd G a (.lst [.int 0,.int 0,.int 0,.int 0])) b (.lst [.int 1,.int 1,.int 1,.int 1])) t (.tup [.ref a,.ref b]) t=some (.tup [.ref a,.ref b]):=aZ;generalize upd (upd (upd G a (.lst [.int 0,.int 0,.int 0,.int 0])) b (.lst [.int 1,.int 1,.int 1,.int 1])) t (.tup [.ref a,.ref b])=O at S6 da db W wP U3 ⊢;refine⟨t,[.ref a,.ref b],[dL [0,0,0,0],dL [1,1,1,1]],dL ([Tr.name n t0,Tr.name n t1,Tr.name n t2,Tr.name n v].map λx:Nat=>(x:Int)),rfl,U3,.cons da (.cons db .nil),.lst (W.trans (Yi (λz=>some (HO.lst z)) (rG _))) (aM.ints _),G5 _,(by simp[PyData.canLayAll0,G5]),ZD (R8 _) 'b',?_⟩;rw[X9,X9,List.any_nil,Lj,Lj,Bool.or_false];have B6:cu e H O:=B5.trans (cu.of S6);refine⟨_,rfl,?_⟩;have hk:∀s∈Tr.kids (.nd t0 t1 t2 v),Tr.In n s:=λs hs=>by
        have:s=t0\/s=t1\/s=t2\/s=v:=by simpa[Tr.kids]using hs
        rcases this with rfl|rfl|rfl|rfl<;>assumption
       refine cC (λR=>?_) (λR=>?_)
       ·rcases Vn _ _▸R with z|z
        ·obtain⟨eL,em,e0⟩:=kp0 e4 (ZE z);rw[em]at q;have q':=q O B6 (show O e=some (.dT (tK (Tr.rowsOf L)))from eL▸wP);exact⟨_,rfl,I,_,0,.int (Tr.name n t0:Nat),rfl,rfl,bZ.of W,rfl,by rw[e0];exact q'⟩
        ·obtain⟨eL,em,e0⟩:=kp1 e4 (ZE z);rw[em]at q;have q':=q O B6 (show O e=some (.dT (tK (Tr.rowsOf L)))from eL▸wP);exact⟨_,rfl,I,_,0,.int (Tr.name n t0:Nat),rfl,rfl,bZ.of W,rfl,by rw[e0];exact q'⟩
       ·have wK:=kpn R;rw[wK]at q;have lE:(Tr.kids (.nd t0 t1 t2 v)).map (Tr.name n)=[Tr.name n t0,Tr.name n t1,Tr.name n t2,Tr.name n v]:=rfl;have jX:=Qd X hk;rw[lE]at jX;refine⟨_,rfl,I,_,rfl,.inl ⟨bZ.of W,λu hu=>?_⟩⟩;have S7:=bo (o:=.tup (vN [Tr.name n t0,Tr.name n t1,Tr.name n t2,Tr.name n v])) hu;have vU:=S7 _ _ wP;have UW:upd O u (.tup (vN [Tr.name n t0,Tr.name n t1,Tr.name n t2,Tr.name n v])) u=some (.tup ((dM [Tr.name n t0,Tr.name n t1,Tr.name n t2,Tr.name n v]).map kV)):=by rw[aZ,sQ]
        have yJ:=S7 _ _ W;have B7:=B6.trans (cu.of (e:=e) S7);generalize upd O u (.tup (vN [Tr.name n t0,Tr.name n t1,Tr.name n t2,Tr.name n v]))=H7 at S7 vU UW yJ B7 ⊢;refine⟨_,rfl,e,_,rfl,dE.t vU UW,_,rfl,?_⟩;rw[Jz];by_cases hm:[Tr.name n t0,Tr.name n t1,Tr.name n t2,Tr.name n v]∈Tr.rowsOf n
        ·rw[Zn hm];refine cB ?_;have yM:=jX.mp hm;obtain⟨wW,eL⟩:=kpi J e4 yM;rw[BE (.inr (.inr wW))]at q;rw[<- eL]at q wW;refine⟨_,rfl,_,rfl,I,_,rfl,.inl ⟨bZ.of yJ,λu2 U=>⟨e,_,rfl,GJ X wW (cw vU U) aZ,?_⟩⟩⟩;exact q _ (B7.trans (cu.of (bo U))) (cw vU U)
        ·rw[Zj hm];refine dy ?_;have yM:Tr.nd t0 t1 t2 v∉n:=λz=>hm (jX.mpr z);have ep:=kpx e4 yM;have O5:=(Tr.cj (.nd t0 t1 t2 v) L J).1;rw[ep]at q O5;have er:=Kq X hk;rw[lE]at er;have jC:(tK (Tr.rowsOf n)).length=n.length:=by unfold tK;rw[zw,Tr.aH]
         refine⟨_,rfl,e,_,rfl,vU,_,_,rfl,rfl,_,rfl,_,rfl,I,_,rfl,.inl ⟨bZ.of yJ,λu2 U=>?_⟩⟩;have Nb:=cw (u:=.tup (vN [Tr.name n t0,Tr.name n t1,Tr.name n t2,Tr.name n v])) vU U;refine⟨e,_,rfl,iJ.t Nb (by rw[aZ,sQ]) (by rw[jC];exact Xv (show n.length<=6000000 by lia) 'b'),?_⟩;have qZ:=xM1 X hk hm;rw[qZ];have hd8:upd (upd H7 u2 (.tup (vN [Tr.name n t0,Tr.name n t1,Tr.name n t2,Tr.name n v]))) e (.dT (tK (Tr.rowsOf (n++[.nd t0 t1 t2 v])))) I=some (.lst (vN [Tr.name n t0,Tr.name n t1,Tr.name n t2,Tr.name n v])):=by
          rw[bj xR];exact cw yJ U
         have Na:upd (upd H7 u2 (.tup (vN [Tr.name n t0,Tr.name n t1,Tr.name n t2,Tr.name n v]))) e (.dT (tK (Tr.rowsOf (n++[.nd t0 t1 t2 v])))) e=some (.dT (tK (Tr.rowsOf (n++[.nd t0 t1 t2 v])))):=aZ;have B8:cu e H (upd (upd H7 u2 (.tup (vN [Tr.name n t0,Tr.name n t1,Tr.name n t2,Tr.name n v]))) e (.dT (tK (Tr.rowsOf (n++[.nd t0 t1 t2 v]))))):=(B7.trans (cu.of (bo U))).trans cu.upd;generalize upd (upd H7 u2 (.tup (vN [Tr.name n t0,Tr.name n t1,Tr.name n t2,Tr.name n v]))) e (.dT (tK (Tr.rowsOf (n++[.nd t0 t1 t2 v]))))=H8 at hd8 Na B8 ⊢;have ud:∀s,Tr.In n s->Tr.name (n++[.nd t0 t1 t2 v]) s=Tr.name n s:=λs hs=>Tr.dm hs X;refine⟨_,rfl,_,rfl,I,_,rfl,.inl ⟨bZ.of hd8,λu3 Ms=>⟨e,_,rfl,GJ (a:=t0) (b:=t1) (c:=t2) (d:=v) O5 'c' (cw Na Ms) (by rw[aZ,ud t0 Mh,ud t1 T,ud t2 Mg,ud v Mf]),?_⟩⟩⟩;exact q _ (B8.trans (cu.of (bo Ms))) (cw Na Ms)
theorem OW{f s p:af}{d q r:ak}(F:aO K "_law_number" "_law_number" uM f d)(B:fk mg)(n:mg "_law_number"=some (.ref f))(b:Binds K d uS [])
  (g:mg "_law_meets"=some (.ref s)) (c:aO K "_law_meets" "_law_meets" zK s q) (m:Binds K q m9 [])
  (l:mg "_law_has"=some (.ref p)) (a:aO K "_law_has" "_law_has" n5 p r) (i:Binds K r m9 []):∀k,k<=12->aB P w K mg base aK (k+2) f d uS (Fb k)
 |0,h=>PU F B n b g c m l a i h (sp':=λ_ _ _ _=>False) ⟨λ_ _ _ _ h=>h.elim,λ_ _ _ _ _ _ _ _ _ _ _ _ _ h=>h.elim⟩ (λj e=>nomatch e)
 |k+1,h=>PU F B n b g c m l a i h (OW F B n b g c m l a i k (Dg h)) (λj e=>by cases e;rfl)
def mL(n:Nat)(boxes:List Row):Nat:=Tr.name (Tr.post (bt n boxes 0 0) []) (bt n boxes 0 0)
def m8(n:Nat)(boxes:List Row):List Row:=Tr.rowsOf (Tr.post (bt n boxes 0 0) [])
theorem PR{n:Nat}{boxes:List Row}(a:n<=12):Canon n (mL n boxes) (m8 n boxes):=qZ5 a (uF n boxes 0 0) (uE n boxes 0 0)
theorem b_T{n:Nat}{boxes:List Row}:T (m8 n boxes) (mL n boxes)=bt n boxes 0 0:=by
 obtain⟨a,b⟩:=Tr.cj (bt n boxes 0 0) [] Tr.fv;exact uI a _ b
abbrev LM:List ar:=["_law_n","_law_boxes_here","_law_rows","_law_top"]
theorem pG:aE LM ["_law_n","_law_boxes_here"] (bq zJ):=cM
theorem xM4{n:Nat}{boxes:List Row}(h:cq (bt n boxes 0 0)<=485):(m8 n boxes).length<=485:=by
 unfold m8;rw[Tr.aH];have h1:=xp (bt n boxes 0 0) [];simp at h1;lia
def E_:Sp:=λe H Q _=>∃(d:af)(n:Nat)(a:List Row),e=[.int (n:Nat),.ref d]/\bQ H d a/\(∀b∈a,tq n b)/\a.length<=900/\cq (bt n a 0 0)<=485/\n<=12/\∀(c:Hp)(t:af),aG H c->aY c t n (mL n a) (m8 n a)->Q (.ref t) c
theorem xM5{f D W J:af}{U x O T:ak}(F:aO K "_law_shape" "_law_shape" zJ f U)(B:fk mg)(hN:mg "_law_number"=some (.ref D))(L:aO K "_law_number" "_law_number" uM D x)(Z:Binds K x uS [])
  (hM:mg "_law_meets"=some (.ref W)) (FM:aO K "_law_meets" "_law_meets" zK W O) (bM:Binds K O m9 [])
  (hH:mg "_law_has"=some (.ref J)) (FH:aO K "_law_has" "_law_has" n5 J T) (bH:Binds K T m9 []):aB P w K mg base aK 15 f U ["_law_n","_law_boxes_here"] E_:=by
 have GN:∀k,k<=12->aB P w K mg base aK (k+2) D x uS (Fb k):=OW L B hN Z hM FM bM hH FH bH;refine F.ok pG (λvs H Q E h=>?_) (λbJ A m s H vs Q E hr h=>?_)
 ·obtain⟨d,n,a,rfl,_⟩:=h
  rfl
 ·obtain⟨d,n,a,rfl,X,Io,jV,kY,C,q⟩:=h;have I:aV (n+2) _:=hr.mono 'a';refine aU ⟨_,⟨dk 2 pG.nd So⟩,?_⟩;refine aU ⟨_,⟨dk 3 pG.nd (xy (GN n C) I (by rfl) hN L.kp Z .nil Fl (bu.go (.cons ⟨pv 2⟩ (.cons ⟨pv 1⟩ (.cons rK (.cons rK (.cons ⟨bg nM aN (pv 0)⟩ .nil rfl) rfl) rfl) rfl) rfl)))⟩,?_⟩;refine eF ⟨_,⟨cx (gf (bu.go (.cons ⟨pv 0⟩ (.cons ⟨pv 3⟩ (.cons ⟨i7 (qI3 rfl) (by rfl) B.tuple ZO (aF (pv 2) aI)⟩ .nil rfl) rfl) rfl)))⟩,?_⟩;intro e g;have LH:d≠e:=by obtain⟨bs,hb,_⟩:=X;exact cK hb g
  have h4:∀b∈a,b.length=4:=λb hb=>by
   obtain⟨r,c,h,w',rfl,_⟩:=Io b hb
   rfl
  have G:sz n<=6000000:=ZD (Qh C) 'b';have JA:[V.ref e,V.ref d,V.int 0,V.int 0,V.int (1*2^((n:Int)).toNat)]=[V.ref e,V.ref d,V.int ((0:Nat):Int),V.int ((0:Nat):Int),V.int ((2^n:Nat):Int)]:=by rw[uL];rfl
  refine⟨_,rfl,_,rfl,_,rfl,_,_,rfl,rfl,⟨by lia,by lia,by decide⟩,e,d,a,0,0,[],JA,X.same (bo g),h4,jV,LH,Tr.fv,aZ,by simpa using G,λH1 b1 v=>?_⟩;have S1:aG H H1:=λb o z=>b1 _ _ (cw z g) (cK z g);refine⟨_,rfl,_,rfl,_,rfl,e,_,rfl,v,λl bs Y El y=>⟨(by show 3<=sizeLine;decide),λt j=>?_⟩⟩;refine q _ t ((S1.trans (bo Y)).trans (bo j)) ⟨⟨l,aZ,bs,cw aZ j,?_,?_⟩,PR C,ZD (xM4 kY) 'b'⟩
  ·rw[El];unfold tK;rw[zw]
   rfl
  ·intro i b r e1 M;have hi:=(cf M).1;have jC:(tK (m8 n a)).length=(m8 n a).length:=by unfold tK;rw[zw]
   have N:(tK (m8 n a))[i]?=some ((tK (m8 n a))[i]'(by lia)):=Zc 'a';have vS:((tK (m8 n a))[i]'(by lia)).1=dM r:=by
    have u:=N;unfold tK fw at u;rw[Zf]at u;obtain⟨p,R,ep⟩:=Zh.mp u;rw[List.getElem?_zipIdx]at R;obtain⟨r',S,rfl⟩:=Zh.mp R;rw[M]at S;cases S;exact(Yi Prod.fst ep).symm
   have:=y i b _ e1 N;rw[vS,sQ]at this;exact cw (cw this Y) j
theorem bQ.push{H:Hp}{p k:af}{rows:List Row}{r:Row}{bs:List af}(h0:H p=some (.lst (bs.map V.ref)))(h1:bs.length=rows.length)(h2:∀(i:Nat) b r,bs[i]?=some b->rows[i]?=some r->H b=some (.tup (vN r)))(hk:H k=none):bQ (upd (upd H k (.tup (vN r))) p (.lst (bs.map V.ref++[.ref k]))) p (rows++[r]):=by
 have h:p≠k:=cK h0 hk;have g:∀{b:af}{x:List V},H b=some (.tup x)->upd (upd H k (.tup (vN r))) p (.lst (bs.map V.ref++[.ref k])) b=some (.tup x):=λ{b x} e=>by
  rw[bj (λz=>by rw[z,h0]at e;cases e),bj (cK e hk)];exact e
 refine⟨bs++[k],by rw[aZ,ZZ];rfl,by rw[Zl,Zl,h1];rfl,λi b x a c=>?_⟩;by_cases d:i<bs.length
 ·rw[Zp d]at a;rw[Zp (qm d h1)]at c;exact g (h2 i b x a c)
 ·rw[Zx (u7 d)]at a;rw[Zx (Jm h1 d),<- h1]at c;have f:i-bs.length=0:=by
   have:=(cf a).1;simp at this;exact this
  rw[f]at a c;cases a;cases c;rw[bj (YK h),aZ]
abbrev Ux:List ar:=["_law_told","_law_found","_law_row"]
theorem sL:aE Ux ["_law_told"] (bq Cp):=cM
inductive A3(vs:List V)(H:Hp)(Q:VK):Prop
 |mk(t:af)(n x:Nat)(rows:List Row)(e0:vs=[.ref t])(e1:cJ H t n x rows)(e2:dY rows)(e3:rows.length<=900)(e4:x<rows.length+2)(e5:∀H',aG H H'->Q (.int (b_ (T rows x):Nat)) H')
def A4:Sp:=λa H Q _=>A3 a H Q
theorem xS4{f:af}{W:ak}(F:aO K "_law_many" "_law_many" Cp f W)(Ad:mg "sum"=none):aB P w K mg base aK 1 f W ["_law_told"] A4:=by
 refine F.ok sL (λvs H Q E h=>?_) (λbJ A J s H vs Q E hr h=>?_)
 ·obtain⟨t,n,x,rows,rfl,_⟩:=h
  rfl
 ·obtain⟨t,n,x,rows,rfl,hT,ok,hn,k,q⟩:=h;refine aU ⟨_,⟨dk 1 sL.nd (jh (aF aN (aF aN aI)))⟩,?_⟩;refine aU ⟨_,⟨rJ Y2 rfl (sU (cI fQ (pv 0) aN)) (gh 2 sL.nd)
    (cN (ir (uU Yy Yp Yq sZ (pv 1) (aF (dw (SJ rfl) (by rfl) Ad PyProof.Rows.boot_sum
     (aF (nS Ux (bq Cp) rfl rfl rfl sL.nd (sU (pv 2)) (λcl C fp aC aD=>cI (u_ K rfl) (pv 2) (pv 0))) aI)) aI))))⟩,?_⟩
  refine eF ⟨_,⟨cx (cI (u_ K rfl) (pv 1) (cI fQ (pv 0) aN))⟩,?_⟩;obtain⟨p,R,hR⟩:=id hT;refine⟨(by show 2<=sizeLine;decide),λD v=>?_⟩;obtain⟨bs,U,j9,jE⟩:=id hR;have kA:=cw (u:=.lst [.int 1,.int 1]) U v;have Dy:=cw (u:=.lst [.int 1,.int 1]) R v;have S:(bs.map V.ref).length=rows.length:=by rw[Ze];exact j9
  refine⟨_,rfl,t,_,2,.ref p,rfl,rfl,bf.of Dy,rfl,p,rfl,⟨_,bf.of kA⟩,HC (K:=K) (a:=p) (xs:=bs.map V.ref) (λi I g=>aG H g/\g D=some (.lst (vN (lK rows i)))/\∃L,I=[some (.ref t),some (.ref D),L])
   ⟨bo v,aZ,none,rfl⟩ (λi I g _ ⟨c,_⟩=>bf.of (c _ _ U)) ?_ ?_⟩
  ·rintro i y I g M ⟨c,d,L,rfl⟩;have hi:i<rows.length:=by rw[<- S];exact(cf M).1
   rw[Zf]at M;obtain⟨b,hb,rfl⟩:=Zh.mp M;have l:rows[i]?=some rows[i]:=by simp[hi]
   have O:=c _ _ (jE i b rows[i] hb l);have N:=ok i _ l;generalize rows[i]=r at l O N;refine⟨_,rfl,.inl ⟨rfl,_,bZ.of d⟩,_,rfl,b,rfl,⟨_,bf.of O⟩,λD2 Y=>pX Y (λj z _=>∃x,r[j]?=some x/\z=.int (b_ (T rows x):Nat)) (rL (K:=K) O) (by rw[g7,N.1];decide) (λ_ _ _ _ _ _ h=>h) ?_ ?_⟩
   ·intro j x H3 hj k G Q' hq;obtain⟨m,B,rfl⟩:=rH k;have jC:=N.2 m (Zm B);exact⟨_,rfl,_,rfl,D,_,(m:Int),.int (b_ (T rows m):Nat),rfl,rfl,bZ.of (G _ _ d),xj (Hl jC),hq _ _ (aG.refl _) ⟨m,B,rfl⟩⟩
   ·intro X H3 G kE jM jP;have ey:X=(r.map λx=>b_ (T rows x)).map (λn:Nat=>V.int (n:Int)):=by
     refine pW (by rw[jM,g7,Ze,Ze]) λj x k=>?_;obtain⟨m,B,rfl⟩:=jP j x k;rw[Zf,Zf,B];rfl
    have Z:X=((r.map λx=>b_ (T rows x)).map (λn:Nat=>(n:Int))).map V.int:=ey.trans (rG _);refine⟨D2,(r.map λx=>b_ (T rows x)).map (λn:Nat=>(n:Int)),rfl,Z▸kE,?_⟩;rw[P4];have kD:=G _ _ d;refine⟨D,_,_,rfl,rfl,kD,?_,?_⟩
    ·rw[g7,RQ];exact jg 'a'
    ·have nD:∀b o,H b=some o->b≠D:=λb o e=>cK e v;refine⟨λb o e=>by rw[bj (nD b o e)];exact G _ _ (c _ _ e),?_,_,rfl⟩;rw[aZ,SI ok l];unfold vN;rw[ZZ]
     rfl
  ·rintro I g ⟨c,d,L,rfl⟩;rw[S]at d;exact⟨_,rfl,_,rfl,t,_,1,.int (x:Nat),rfl,rfl,bf.of (c _ _ R),rfl,D,_,(x:Int),.int (b_ (T rows x):Nat),rfl,rfl,bZ.of d,xj (Hl k),q g c⟩
end Pr
namespace Qf
open Tr
theorem iw{n:Nat}{t:Tr}{w:Bool}{p:List Int}:p∈kq n t w<->∃a b:Nat,a<2^n/\b<2^n/\dP n t a b=w/\p=[(a:Int),(b:Int)]:=by
 have c:0<2^n:=YV 'b';unfold kq;constructor
 ·intro h;obtain⟨m,g,rfl⟩:=ZF.mp h;obtain⟨h1,h2⟩:=Z2.mp g;have h1:=ZR.mp h1;exact⟨_,_,(Wf c).mpr h1,YH _ c,by simpa using h2,rfl⟩
 ·rintro⟨a,b,f,hb,h,rfl⟩;have e:(a*2^n+b)/2^n=a:=by rw[Yz,X6 c,Yw hb];rfl
  have d:(a*2^n+b)%2^n=b:=by rw[Yz,V9,Y3 hb]
  refine ZF.mpr ⟨a*2^n+b,Z2.mpr ⟨ZR.mpr ?_,?_⟩,by rw[e,d]⟩
  ·have:(a+1)*2^n<=2^n*2^n:=Xh _ f;rw[X1]at this;lia
  ·rw[e,d,h];simp
theorem Gp{n:Nat}{t:Tr}{w:Bool}:(kq n t w).length<=2^n*2^n:=by
 unfold kq;rw[Ze];exact ZD (Yr _ _) 'c'
theorem OV{n:Nat}{t:Tr}{w:Bool}:∀p∈kq n t w,p.length=2:=λp c=>by
 obtain⟨a,b,_,_,_,rfl⟩:=iw.mp c
 rfl
def mE(n:Nat)(t:Tr)(k:Nat):List Row:=((List.range (2^n*2^n)).filter λm=>(kq n t true).any (m_ ((m/2^n:Nat):Int) ((m%2^n:Nat):Int) k)).map λm=>[m/2^n,m%2^n,1,1]
theorem mK{i j a b:Nat}:og i j [a,b,1,1]=true<->a=i/\b=j:=by
 unfold og hasB;rw[Y6];simp only[Yu,Yv];lia
theorem NJ{n k:Nat}{t:Tr}:E2 n t k (bt n (mE n t k) 0 0):=⟨uF n _ _ _,uE n _ _ _,λi j f d=>by
 have g:0<2^n:=YV 'b';have e:=KR n (mE n t k) 0 0 i j (Yw f) (Yw d);rw[Nat.zero_mul]at e;rw[e,ZW,<- iu];unfold mE;constructor
 ·rintro⟨b,hb,h⟩;obtain⟨m,l,rfl⟩:=ZF.mp hb;obtain⟨c,a⟩:=mK.mp h;have:=(Z2.mp l).2;rw[c,a]at this;exact this
 ·intro h;have c:(i*2^n+j)/2^n=i:=by rw[Yz,X6 g,Yw d];rfl
  have a:(i*2^n+j)%2^n=j:=by rw[Yz,V9,Y3 d]
  refine⟨_,ZF.mpr ⟨i*2^n+j,Z2.mpr ⟨ZR.mpr ?_,by rw[c,a];exact h⟩,rfl⟩,mK.mpr ⟨c,a⟩⟩;have:(i+1)*2^n<=2^n*2^n:=Xh _ f;rw[X1]at this;lia⟩
theorem xS5{n k:Nat}{t:Tr}:∀b∈mE n t k,tq n b:=λb hb=>by
 have a:0<2^n:=YV 'b';obtain⟨m,c,rfl⟩:=ZF.mp hb;have h1:=ZR.mp (Z2.mp c).1;exact⟨_,_,_,_,rfl,Zg _,Zg _,(Wf a).mpr h1,YH _ a⟩
theorem xM6{n k:Nat}{t:Tr}:(mE n t k).length<=2^n*2^n:=by
 unfold mE;rw[Ze];exact ZD (Yr _ _) 'c'
def zU(S a b:Int):Int:=L2.xH [a,b,S-1-a,S-1-b] 3
theorem xm7{S a b k:Nat}:(k:Int)<=zU S a b<->k<=a/\k<=b/\a+k<S/\b+k<S:=by
 unfold zU;have e:L2.xH [(a:Int),b,(S:Int)-1-a,(S:Int)-1-b] 3=(if(S:Int)-1-b<(if(S:Int)-1-a<(if(b:Int)<a then(b:Int)else a)then(S:Int)-1-a else(if(b:Int)<a then(b:Int)else a))then(S:Int)-1-b else(if(S:Int)-1-a<(if(b:Int)<a then(b:Int)else a)then(S:Int)-1-a else(if(b:Int)<a then(b:Int)else a))):=rfl;rw[e];split<;>split<;>split<;>lia
def nu(n:Nat)(t:Tr)(k:Nat)(p:List Int):Bool:=decide ((k:Int)<=zU ((2^n:Nat):Int) (p.getD 0 0) (p.getD 1 0))&&!(kq n t false).any (m_ (p.getD 0 0) (p.getD 1 0) k)
def uD(p:List Int):Row:=[(p.getD 0 0).toNat,(p.getD 1 0).toNat,1,1]
def nI(n:Nat)(t:Tr)(k:Nat):List Row:=((kq n t true).filter (nu n t k)).map uD
theorem JT{n k:Nat}{t:Tr}:ET n t k (bt n (nI n t k) 0 0):=⟨uF n _ _ _,uE n _ _ _,λi j f d=>by
 have g:=KR n (nI n t k) 0 0 i j (Yw f) (Yw d);rw[Nat.zero_mul]at g;rw[g,ZW,<- iu,<- xm7];unfold nI;constructor
 ·rintro⟨b,hb,h⟩;obtain⟨p,m,rfl⟩:=ZF.mp hb;obtain⟨h1,h2⟩:=Z2.mp m;obtain⟨a,b,_,_,_,rfl⟩:=iw.mp h1;obtain⟨e,c⟩:=mK.mp h;have e:a=i:=e;have c:b=j:=c;subst e c;obtain⟨q,r⟩:=YO.mp h2;exact⟨λz=>Bool.noConfusion (z.symm.trans (Wm _ |>.mp r)),ZE q⟩
 ·rintro⟨h1,h2⟩;have l:dP n t i j=true:=by
   cases z:dP n t i j with
   |true=>rfl
   |false=>exact absurd (iu.mpr ⟨i,j,f,d,z,by lia,by lia,by lia,by lia⟩) h1
  refine⟨_,ZF.mpr ⟨[(i:Int),(j:Int)],Z2.mpr ⟨iw.mpr ⟨i,j,f,d,l,rfl⟩,YO.mpr ⟨Zv h2,?_⟩⟩,rfl⟩,mK.mpr ⟨rfl,rfl⟩⟩;exact Wm _ |>.mpr (ZX.mpr h1)⟩
theorem xS6{n k:Nat}{t:Tr}:∀b∈nI n t k,tq n b:=λb hb=>by
 obtain⟨p,a,rfl⟩:=ZF.mp hb;obtain⟨x,y,c,d,_,rfl⟩:=iw.mp (Z2.mp a).1;exact⟨x,y,1,1,rfl,Zg _,Zg _,c,d⟩
theorem xM7{n k:Nat}{t:Tr}:(nI n t k).length<=2^n*2^n:=by
 unfold nI;rw[Ze];exact ZD (Yr _ _) Gp
end Qf
namespace Pr
open PySem L2 Qf
theorem xm8{H:Hp}{D:af}{ys:List V}{is:List Nat}{a:List Row}(r:H D=some (.lst ys))(i:ys.length=is.length)(k:a.length=is.length)
  (h:∀(m:Nat) y j,ys[m]?=some y->is[m]?=some j->∃c g,y=.ref c/\a[m]?=some g/\H c=some (.tup (vN g))):bQ H D a:=by
 obtain⟨e,rfl⟩:=Hm (ys:=ys) λm y f=>by
  have s:=(cf f).1;obtain⟨c,g,z,_⟩:=h m y _ f (Zc 'a');exact⟨c,z⟩
 have n:e.length=is.length:=by rw[Ze]at i;exact i
 refine⟨e,r,by rw[n,k],λm c g b l=>?_⟩;have s:=(cf b).1;obtain⟨u,t,p,d,q⟩:=h m (.ref c) _ (by rw[Zf,b];rfl) (Zc 'a');cases p;rw[l]at d;cases d;exact q
theorem p7{n:Nat}(h:n<=4)(bs:List Row):cq (bt n bs 0 0)<=485:=ZD (zD n bs 0 0) (ZD (KI h) 'b')
abbrev Uy:List ar:=["_law_told","_law_far","_law_side","_law_some","_law_places_here"]
theorem sN:aE Uy ["_law_told","_law_far"] (bq BZ):=cM
inductive wq(g:Nat->Tr->Nat->List Row)(vs:List V)(H:Hp)(Q:VK):Prop
 |mk(t:af)(n tp k:Nat)(rows:List Row)(e0:vs=[.ref t,.int (k:Nat)])(e1:Cd H t n tp rows)(e2:n<=4)(q:∀H' t',aG H H'->aY H' t' n (mL n (g n (T rows tp) k)) (m8 n (g n (T rows tp) k))->Q (.ref t') H')
def Gn(g:Nat->Tr->Nat->List Row):Sp:=λa H Q _=>wq g a H Q
theorem xS7{f J I L:af}{fd u d O:ak}(F:aO K "_law_grown_due" "_law_grown_due" BZ f fd)(B:fk mg)
  (hP:mg "_law_places"=some (.ref J)) (FP:aO K "_law_places" "_law_places" xt J u) (bP:Binds K u ["_law_told","_law_kind"] []) (GP:aB P w K mg base aK 2 J u ["_law_told","_law_kind"] we)
  (hN:mg "_law_near"=some (.ref I)) (FN:aO K "_law_near" "_law_near" zI I d) (bN:Binds K d uY []) (GN:aB P w K mg base aK 1 I d uY wj)
  (hS:mg "_law_shape"=some (.ref L)) (FS:aO K "_law_shape" "_law_shape" zJ L O) (bS:Binds K O ["_law_n","_law_boxes_here"] []) (GS:aB P w K mg base aK 15 L O ["_law_n","_law_boxes_here"] E_):aB P w K mg base aK 16 f fd ["_law_told","_law_far"] (Gn mE):=by
 refine F.ok sN (λvs H Q E h=>?_) (λbJ A N s H vs Q E g h=>?_)
 ·obtain⟨t,n,a,k,rows,rfl,_⟩:=h
  rfl
 ·obtain⟨t,n,a,k,rows,rfl,U,e,q⟩:=h;have jG:aV 1 _:=g.mono 'b';have jZ:aV 2 _:=g.mono 'b';refine aU ⟨_,⟨dk 2 sN.nd (bg nM aN (cI fQ (pv 0) aN))⟩,?_⟩;refine aU ⟨_,⟨dk 3 sN.nd (bz GP jZ hP FP.kp bP (aF (pv 0) (aF kj aI)))⟩,?_⟩;refine aU ⟨_,⟨xa5 (i0:=4) Uy (bq BZ) rfl rfl rfl sN.nd rfl rfl (zA (by rfl) B.range (aF (bg ng (pv 2) (pv 2)) aI))
   (λcl C fp aC aD=>lq (cZ.go ⟨bz GN jG hN FN.kp bN (bu.go (.cons ⟨pv 4⟩ (.cons ⟨bg pS (pv 0) (pv 3)⟩ (.cons ⟨bg sT (pv 0) (pv 3)⟩ (.cons ⟨pv 2⟩ .nil rfl) rfl) rfl) rfl))⟩))
   (λcl C fp aC aD=>cZ.go ⟨gf (bu.go (.cons ⟨bg pS (pv 0) (pv 3)⟩ (.cons ⟨bg sT (pv 0) (pv 3)⟩ (.cons ⟨aN⟩ (.cons ⟨aN⟩ .nil rfl) rfl) rfl) rfl))⟩)⟩,?_⟩
  refine eF ⟨_,⟨cx (bz GS g hS FS.kp bS (aF (cI fQ (pv 0) aN) (aF (pv 4) aI)))⟩,?_⟩;obtain⟨⟨rp,V,hR⟩,cn,vH⟩:=id U;obtain⟨p1,p2,p3⟩:=Ly e;have es:=uL n;refine⟨_,rfl,t,_,0,.int (n:Nat),rfl,rfl,bf.of V,rfl,_,_,rfl,rfl,⟨by lia,by lia,by decide⟩,?_⟩;dsimp only[cb];refine Gw (σ':=[some (.ref t),some (.int (k:Nat)),some (.int ((2^n:Nat):Int)),none,none]) (by rw[<- es];rfl) ?_;have c:(0:Int)<((2^n:Nat):Int):=by lia
  refine⟨_,rfl,t,n,a,rows,true,rfl,U,e,λH1 l W hln hF=>?_⟩;have jI:=Gp (n:=n) (t:=T rows a) (w:=true);have jS:=OV (n:=n) (t:=T rows a) (w:=true);have hgl:=xM6 (n:=n) (k:=k) (t:=T rows a);have eg:mE n (T rows a) k=((List.range (2^n*2^n)).filter λm=>(kq n (T rows a) true).any (m_ ((m/2^n:Nat):Int) ((m%2^n:Nat):Int) k)).map λm=>[m/2^n,m%2^n,1,1]:=rfl;have jQ:=xS5 (n:=n) (k:=k) (t:=T rows a);have kY:=p7 e (mE n (T rows a) k);generalize mE n (T rows a) k=G at *;generalize kq n (T rows a) true=Z at *;generalize hN':2^n=S at *;have yS:(((S:Nat):Int)*((S:Nat):Int)).toNat=S*S:=by rw[<- Xp,ZI]
  have eSS:((S:Nat):Int)*((S:Nat):Int)=((S*S:Nat):Int):=by rw[Xp]
  refine⟨_,rfl,_,rfl,_,_,rfl,rfl,.inl ⟨by lia,by lia⟩,_,rfl,by lia,by lia,λD hD=>?_⟩;rw[yS];refine xF hD (λm=>Z.any (m_ ((m/S:Nat):Int) ((m%S:Nat):Int) k)) (λi v b=>∃p,v=.ref p/\b p=some (.tup (vN [i/S,i%S,1,1]))) Sf (jg 'a') ?_ ?_ ?_
  ·rintro i y b H4 t4 ⟨p,h1,h2⟩;exact⟨p,h1,t4 _ _ h2⟩
  ·rintro i x b hi rfl M os ho Q1 Q2 q1 q2;obtain⟨o1,rfl⟩:=L2.tE ho;have X:(i:Int)/(S:Int)=((i/S:Nat):Int):=rfl;have r:(i:Int)%(S:Int)=((i%S:Nat):Int):=rfl;refine⟨_,rfl,_,rfl,_,rfl,_,_,rfl,rfl,⟨c,by lia⟩,_,rfl,_,rfl,_,_,rfl,rfl,c,_,rfl,l,Z,_,_,_,rfl,hF.same M,jS,by lia,λH4 Y=>⟨_,rfl,?_⟩⟩;refine cC (λh1=>?_) (λh1=>q1 (ZX.mpr h1) _ Y);refine⟨_,rfl,_,rfl,_,_,rfl,rfl,⟨c,by lia⟩,_,rfl,_,rfl,_,_,rfl,rfl,c,(by show 4<=sizeLine;decide),λp hp=>q2 h1 _ _ (Y.trans (bo hp)) ⟨p,rfl,?_⟩⟩;rw[aZ]
   rfl
  ·intro ys H2 s2 jW wF wX;have As:bQ H2 D G:=by
    rw[eg];exact xm8 jW wF (Ze ..) λm y j X r=>by
     obtain⟨p,h1,h2⟩:=wX m y j X r;exact⟨p,_,h1,by rw[Zf,r];rfl,h2⟩
   refine⟨_,rfl,t,_,0,.int (n:Nat),rfl,rfl,bf.of (s2 _ _ (W _ _ V)),rfl,_,rfl,D,n,G,rfl,As,jQ,by lia,kY,by lia,λb t3 M R=>q b t3 ((W.trans s2).trans M) R⟩
theorem il.but{H k:Hp}{a e:af}{fs:List (List Int)}{xs:List V}(h:il H a fs)(b:cu e H k)(n:a≠e)(l:H e=some (.lst xs)):il k a fs:=by
 obtain⟨bs,h1,h2,d⟩:=h;exact⟨bs,b _ _ h1 n,h2,λi c f j g=>b _ _ (d i c f j g) (i5 (d i c f j g) l (λz=>nomatch z))⟩
abbrev nSd:List ar:=["_law_told","_law_far","_law_side","_law_blank","_law_found","_law_row","_law_column","_law_edge"]
theorem mj:aE nSd ["_law_told","_law_far"] (bq Gj):=cM
theorem xS8{f fP fN fS:af}{fd gG X cU:ak}(F:aO K "_law_shrunk_due" "_law_shrunk_due" Gj f fd)(B:fk mg)
  (hP:mg "_law_places"=some (.ref fP)) (FP:aO K "_law_places" "_law_places" xt fP gG) (bP:Binds K gG ["_law_told","_law_kind"] []) (GP:aB P w K mg base aK 2 fP gG ["_law_told","_law_kind"] we)
  (hN:mg "_law_near"=some (.ref fN)) (FN:aO K "_law_near" "_law_near" zI fN X) (bN:Binds K X uY []) (GN:aB P w K mg base aK 1 fN X uY wj)
  (hS:mg "_law_shape"=some (.ref fS)) (FS:aO K "_law_shape" "_law_shape" zJ fS cU) (bS:Binds K cU ["_law_n","_law_boxes_here"] []) (GS:aB P w K mg base aK 15 fS cU ["_law_n","_law_boxes_here"] E_):aB P w K mg base aK 16 f fd ["_law_told","_law_far"] (Gn nI):=by
 refine F.ok mj (λvs H Q E h=>?_) (λbJ A outer s H vs Q E Z h=>?_)
 ·obtain⟨t,n,d,k,rows,rfl,_⟩:=h
  rfl
 ·obtain⟨t,n,d,k,rows,rfl,sh,N,q⟩:=h;have jG:aV 1 _:=Z.mono 'b';have jZ:aV 2 _:=Z.mono 'b';refine aU ⟨_,⟨dk 2 mj.nd (bg nM aN (cI fQ (pv 0) aN))⟩,?_⟩;refine aU ⟨_,⟨dk 3 mj.nd (bz GP jZ hP FP.kp bP (aF (pv 0) (aF kj aI)))⟩,?_⟩;refine aU ⟨_,⟨dk 4 mj.nd (jh aI)⟩,?_⟩;refine aU ⟨_,⟨rJ Y2 rfl (oB (cZ.go ⟨bz GP jZ hP FP.kp bP (aF (pv 0) (aF kj aI))⟩)) (pP rfl (gz (gh 5 mj.nd) (gz (gh 6 mj.nd) pT)))
   (lP.go (.cons ⟨dk 7 mj.nd (dw (xd5 rfl) (by rfl) B.min YJ (bu.go (.cons ⟨pv 5⟩ (.cons ⟨pv 6⟩ (.cons ⟨bg gN (bg gN (pv 2) aN) (pv 5)⟩ (.cons ⟨bg gN (bg gN (pv 2) aN) (pv 6)⟩ .nil rfl) rfl) rfl) rfl)))⟩
   (.one ⟨eI (PW.pt (Ls (fu xN7 (pv 7) (pv 1) (dh _)) (K5 (nO (lq (cZ.go ⟨bz GN jG hN FN.kp bN (aF (pv 3) (aF (pv 5) (aF (pv 6) (aF (pv 1) aI))))⟩))))))
    (cN (ir (uU Yy Yp Yq sZ (pv 4) (aF (cZ.go ⟨gf (bu.go (.cons ⟨pv 5⟩ (.cons ⟨pv 6⟩ (.cons ⟨aN⟩ (.cons ⟨aN⟩ .nil rfl) rfl) rfl) rfl))⟩) aI)))) eM⟩)))⟩,?_⟩
  refine eF ⟨_,⟨cx (bz GS Z hS FS.kp bS (aF (cI fQ (pv 0) aN) (aF (pv 4) aI)))⟩,?_⟩;obtain⟨⟨rp,ht,hR⟩,cn,vH⟩:=id sh;obtain⟨p1,p2,p3⟩:=Ly N;have es:=uL n;refine⟨_,rfl,t,_,0,.int (n:Nat),rfl,rfl,bf.of ht,rfl,_,_,rfl,rfl,⟨by lia,by lia,by decide⟩,?_⟩;dsimp only[cb];refine Gw (σ':=[some (.ref t),some (.int (k:Nat)),some (.int ((2^n:Nat):Int)),none,none,none,none,none]) (by rw[<- es];rfl) ?_;refine⟨_,rfl,t,n,d,rows,false,rfl,sh,N,λO bl R hbln G=>⟨(by show 0<=sizeLine;decide),λj M=>?_⟩⟩;have L:aG O (upd O j (.lst [])):=bo M;have Eb:upd O j (.lst []) j=some (.lst []):=aZ;have M5:H j=none:=by
   cases e:H j with
   |none=>rfl
   |some o=>rw[R _ _ e]at M;cases M
  obtain⟨bbs,En,_⟩:=id G;have nbf:bl≠j:=cK En M;generalize upd O j (.lst [])=H2 at L Eb ⊢;have W:Cd H2 t n d rows:=⟨⟨rp,L _ _ (R _ _ ht),hR.same (R.trans L)⟩,cn,vH⟩;refine⟨_,rfl,t,n,d,rows,true,rfl,W,N,λH3 pl s3 DM hFp=>?_⟩;have npf:pl≠j:=λz=>by rw[z,Eb]at DM;cases DM
  have M8:=s3 _ _ Eb;have Nw:=G.same (L.trans s3);have jI:=Gp (n:=n) (t:=T rows d) (w:=false);have jS:=OV (n:=n) (t:=T rows d) (w:=false);have hpl':=Gp (n:=n) (t:=T rows d) (w:=true);have jX:=λp=>iw (n:=n) (t:=T rows d) (w:=true) (p:=p);have jQ:=xS6 (n:=n) (k:=k) (t:=T rows d);have hsl:=xM7 (n:=n) (k:=k) (t:=T rows d);have kY:=p7 N (nI n (T rows d) k);have eG:nI n (T rows d) k=((kq n (T rows d) true).filter (nu n (T rows d) k)).map uD:=rfl;have eK:∀a b:Int,nu n (T rows d) k [a,b]=(decide ((k:Int)<=zU ((2^n:Nat):Int) a b)&&!(kq n (T rows d) false).any (m_ a b k)):=λ_ _=>rfl;generalize nu n (T rows d) k=l at *;generalize kq n (T rows d) false=qs at *;generalize kq n (T rows d) true=g at *;generalize hN':2^n=S at *;obtain⟨Ui,DN,MC,DL⟩:=id hFp;have jH:(Ui.map V.ref).length=g.length:=by rw[Ze];exact MC
  refine⟨pl,rfl,⟨_,bZ.of DN⟩,Sz (K:=K) (a:=pl) (xs:=Ui.map V.ref) (λi U v=>cu j H3 v/\bQ v j (((g.take i).filter l).map uD)/\∃v5 v6 Y,U=[some (.ref t),some (.int (k:Nat)),some (.int ((S:Nat):Int)),some (.ref bl),some (.ref j),v5,v6,Y])
   ⟨cu.refl _ _,⟨[],M8,rfl,λi b r e=>by simp at e⟩,none,none,none,rfl⟩ (λi U v _ ⟨y,_⟩=>bZ.of (y _ _ DN npf)) ?_ ?_⟩
  ·rintro i x U v hx ⟨y,I,v5,v6,Y,rfl⟩;have hi:i<g.length:=by rw[<- jH];exact(cf hx).1
   rw[Zf]at hx;obtain⟨c,hc,rfl⟩:=Zh.mp hx;have hg:g[i]?=some g[i]:=Zc hi;have J:=Yx hi;have NW:g.take (i+1)=g.take i++[g[i]]:=by rw[VL,hg];rfl
   have kZ:=DL i c _ hc hg;have Eg:=y _ _ kZ (i5 kZ M8 (λz=>nomatch z));generalize g[i]=p at hg J NW kZ Eg;obtain⟨a,b,ha,hb,_,rfl⟩:=(jX p).mp J;have Nv:=il.but Nw y nbf M8;have eN:∀(xs:List Row),xs=((g.take i).filter l).map uD->l [(a:Int),(b:Int)]=true->((g.take (i+1)).filter l).map uD=xs++[[a,b,1,1]]:=λxs e1 e2=>by
    rw[NW,Xy,ZZ,<- e1];congr 1;rw[XT,e2]
    rfl
   have eO:l [(a:Int),(b:Int)]=false->((g.take (i+1)).filter l).map uD=((g.take i).filter l).map uD:=λe2=>by
    rw[NW,Xy,ZZ,XT,e2];simp
   refine⟨c,_,rfl,bf.of Eg,rfl,_,_,rfl,_,_,rfl,rfl,?_⟩;refine⟨_,rfl,_,rfl,_,rfl,_,_,rfl,rfl,_,rfl,_,_,rfl,rfl,_,rfl,_,_,rfl,rfl,_,rfl,_,_,rfl,rfl,_,_,_,_,rfl,?_⟩;have C:=eK (a:Int) (b:Int);refine⟨_,rfl,_,rfl,_,_,rfl,rfl,_,rfl,?_⟩;have dv:l [(a:Int),(b:Int)]=false->∀m,aG v m->cu j H3 m/\bQ m j (((g.take (i+1)).filter l).map uD):=λe m u=>⟨y.trans (.of u),by rw[eO e];exact I.same u⟩;refine cC (λD=>?_) (λD=>?_)
   ·have D:(k:Int)<=zU ((S:Nat):Int) a b:=ZE D;rw[Zv D,Bool.true_and]at C;refine⟨_,rfl,_,rfl,_,rfl,_,rfl,bl,qs,_,_,_,rfl,Nv,jS,by lia,λm u=>⟨_,rfl,?_⟩⟩;cases c2:qs.any (m_ a b k)with
    |true=>
     rw[c2]at C;obtain⟨g1,g2⟩:=dv C m u;exact cB ⟨g1,g2,_,_,_,rfl⟩
    |false=>
     rw[c2]at C;refine dy ?_;obtain⟨gs,yI,kT,Ie⟩:=id (I.same u);refine⟨_,rfl,.inl ⟨rfl,_,bZ.of yI⟩,_,rfl,_,rfl,(by show 4<=sizeLine;decide),λp hp=>⟨j,_,_,rfl,rfl,cw yI hp,?_,?_⟩⟩
     ·rw[Ze,kT,Ze];have h1:=Yr l (g.take i);have h2:(g.take i).length<=g.length:=by rw[Yc];lia
      show _<16777216;lia
     ·refine⟨λx o e n=>?_,?_,_,_,_,rfl⟩
      ·rw[bj n];exact cw (u _ _ (y _ _ e n)) hp
      ·rw[eN _ rfl C];exact bQ.push (r:=[a,b,1,1]) yI kT Ie hp
   ·have D:¬(k:Int)<=zU ((S:Nat):Int) a b:=λz=>D (Zv z);rw[ZM D,Ua]at C;obtain⟨g1,g2⟩:=dv C v (aG.refl _);exact cB ⟨g1,g2,_,_,_,rfl⟩
  ·rintro U v ⟨y,I,v5,v6,Y,rfl⟩;rw[jH,XS,<- eG]at I;have S4:aG H v:=λx o e=>y _ _ (s3 _ _ (L _ _ (R _ _ e))) (cK e M5);refine⟨_,rfl,t,_,0,.int (n:Nat),rfl,rfl,bf.of (S4 _ _ ht),rfl,_,rfl,j,n,_,rfl,I,jQ,by lia,kY,by lia,λm t5 u sh5=>q m t5 (S4.trans u) sh5⟩
end Pr
namespace L2
open PySem PySem.Spec PyProof.Rows PySem.W
section
variable{X:Cx}{j8:List (af×ay)}{σ:St}{H:Hp}{s:ae}
def xS9(X:Cx)(F:aa)(th:af->TS)(D:Ends):XK:=λa _ b=>∃C,a=.ref C/\exmOne X.K a F=some true/\∀x,b x=none->th x D (List.replicate X.N.length none) (upd b x (.ext (ExcAt x C)))
def xT0(X:Cx)(F:aa)(tb:XK->TS)(th:af->TS):TS:=λD σ H=>tb (xS9 X F th D) D σ H
theorem xA4{d:List aA}{W:aA}{uv:List aA}{t:ar}{np Mx L:az}{FA:af}{tb:XK->TS}{th:af->TS}(k8:X.ex=[])(A:X.stack=X.env::X.outer)(hfr:X.env.frame=some X.env.locals)
  (hg:Gl X t) (hm:X.mg t=some (.ref FA)) (hb:∀j8 E,ik (zG X j8 E) d (tb E)) (hh:∀x,ik (Im X x) (W::uv) (th x))
  (hd:(t==("__debug__":ar))=false:=by decide):PS X (.Try d [.ExceptHandler (some (.Name t np)) none (W::uv) Mx] [] [] L) (xT0 X (.ref FA) tb th):=by
 intro j8 s σ H D I h;refine wpAny_Try_except ?_;refine Z9 (hb j8 _ [] s σ H D (I.AH _) h) (λf g y=>?_) (λe g hx=>?_)
 ·cases f with
  |next=>
   obtain⟨a,b,c,q⟩:=y;exact Vj ⟨a,b,c.g9,q⟩
  |brk=>
   obtain⟨a,b,c,q⟩:=y;exact⟨a,b,c.g9,q⟩
  |cont=>
   obtain⟨a,b,c,q⟩:=y;exact⟨a,b,c.g9,q⟩
  |ret u=>
   obtain⟨v,a,b,c,r,q⟩:=y;exact⟨v,a,b,c.g9,r,q⟩
 ·obtain⟨x,cls,B,b,a,rfl,c,FW,P,Z,V,HS,C,rfl,M9,U⟩:=hx;have n:=FW;rw[A]at n;have NQ:X.A.frames=some (X.env::X.outer):=by rw[<- A];exact I.ok.frames
  refine S8 NQ hfr n λh4 l J=>?_;refine Gk l λY w S=>?_;have R:Inv X j8 a b {g with heap:=Y}:=c.uB (tk:=g.toks) k8 FW.stays w.stays (J.trans S) P Z V;obtain⟨ob,G,_,_,_,ho,H_,yC,_,N,_⟩:=id w.p6;refine wpAny_handleBy_cons (codeAny_handlers_test ?_) (by intro q;cases q);refine BO (X:=Im X x) (R.Rg x) hg hm ?_ hd;have LT:Looks (ai X.prog X.w) Y (typeOf (.ref x)) (.ref C):=ExcAt.type ⟨ob,G,ho,H_,yC,N⟩;refine(exm_one (M:=ai X.prog X.w) R.g_ LT M9).here ?_;refine codeAny_handlers_suite ?_;refine Gk w λO p K=>?_;have I6:Inv X j8 a b {g with heap:=O}:=R.uB (tk:=g.toks) k8 w.stays p.stays K P Z V;have m:Inv X j8 a (upd b x (.ext (ExcAt x C))) {g with heap:=O}:=I6.yZ A hfr HS (by rw[A];exact p) P V;have Q:Inv X j8 (List.replicate X.N.length none) (upd b x (.ext (ExcAt x C))) {g with heap:=O}:=m.weak (by rw[W7,m.len]) (λj v e=>by
   rw[WS]at e;split at e<;>cases e)
  refine Z9 (hh x j8 _ _ _ _ (Q.Rg x) (U x HS)) (λf s8 F=>?_) λ_ _ z=>z.elim;cases f with
  |next=>
   obtain⟨T,i,k,q⟩:=F;exact⟨_,i,k.HI I.ok.hd,q⟩
  |brk=>
   obtain⟨T,i,k,q⟩:=F;exact⟨_,i,k.HI I.ok.hd,q⟩
  |cont=>
   obtain⟨T,i,k,q⟩:=F;exact⟨_,i,k.HI I.ok.hd,q⟩
  |ret u=>
   obtain⟨v,T,i,k,r,q⟩:=F;exact⟨v,_,i,k.HI I.ok.hd,r,q⟩
end
end L2
namespace Pr
open PySem L2 Qf
def iC(n:Nat)(bs:List Row)(many:Bool):PyData:=if many=true then .none else Fe n (mL n bs) (m8 n bs)
theorem sX{n:Nat}{bs:List Row}{m:Bool}:(iC n bs m).canLay0=true:=by
 cases m with
 |true=>rfl
 |false=>exact xk1 _ _ _
theorem Ko{n:Nat}{bs:List Row}{m:Bool}:(iC n bs m).depth<=50:=by
 cases m with
 |true=>show(0:Nat)<=50;decide
 |false=>
  have:=Ku (m8 n bs);show max _ (max _ (max (PyData.depthAll _+1) _))+1<=50;have b:(PyData.int (n:Int)).depth=0:=rfl;have a:(PyData.int ((mL n bs:Nat):Int)).depth=0:=rfl;have c:PyData.depthAll []=0:=rfl;rw[b,a,c];lia
def AE(b:Bool)(n:Nat)(t:Tr)(k:Nat):List Row:=if b=true then mE n t k else nI n t k
abbrev CT:List ar:=["_law_told","_law_far","_law_wider"]
theorem J7:aE CT CT (bq GQ):=cM
inductive Bj(vs:List V)(H:Hp)(Q:VK):Prop
 |mk(t:af)(n tp k:Nat)(rows:List Row)(b:Bool)(e0:vs=[.ref t,.int (k:Nat),.bl b])(e1:aY H t n tp rows)(e2:n<=4)(e3:k<=4096)(q:∀H' v,aG H H'->aX H' v (iC n (AE b n (T rows tp) k) (decide (200<b_ (T rows tp))))->Q v H')
def Bk:Sp:=λa H Q _=>Bj a H Q
theorem xT1{f D B C:af}{M I G:ak}(F:aO K "_law_asked" "_law_asked" GQ f M)(W:Ol K mg C)(L:PySem.W.exmOne K (.ref C) (.ref C)=some true)
  (hG:mg "grown"=some (.ref D)) (FG:aO K "grown" "grown" GU D I) (bG:Binds K I ["shape","far"] []) (Y:aB P w K mg base (jz P w) 19 D I ["shape","far"] (sF E2 C))
  (V:mg "shrunk"=some (.ref B)) (X:aO K "shrunk" "shrunk" Hr B G) (bS:Binds K G ["shape","far"] []) (R:aB P w K mg base (jz P w) 19 B G ["shape","far"] (sF ET C)):
  aB P w K mg base aK 20 f M CT Bk:=by
 refine F.ok J7 (λU H Q E h=>?_) (λbJ A J s H U Q E O h=>?_)
 ·obtain⟨t,n,g,k,rows,b,rfl,_⟩:=h
  rfl
 ·obtain⟨t,n,g,k,rows,b,rfl,u,N,hk,q⟩:=h;refine eF ⟨_,⟨xA4 (FA:=C) (tb:=λE=>_) (th:=λx=>_) rfl rfl rfl (by rfl) W.at_
   (λj8 E=>fY (eI (lq (pv 2)) (cN (cx (xy Y O (by rfl) hG FG.kp bG .nil (TL rfl) (aF (pv 0) (aF (pv 1) aI))))) eM) (cN (cx (xy R O (by rfl) V X.kp bS .nil (TL rfl) (aF (pv 0) (aF (pv 1) aI))))))
   (λx=>cN (cx Lu))⟩,?_⟩
  have l:∀{c:Hp}{t' j:Nat}{r:af}{i:List Row}{bs:List Row},aG H c->cJ c r n j i->Canon n j i->T i j=bt n bs 0 0->bs=AE b n (T rows g) k->b_ (T rows g)<=200->Q (.ref r) c:=λ{c t' j r i bs} d a m e Z p=>by
   have S:=qZ4 m (PR (boxes:=bs) 'a') (e.trans b_T.symm);obtain⟨rfl,rfl⟩:=S;refine q c _ d ?_;rw[<- Z,ZM 'a'];exact Kg a
  refine⟨_,rfl,b,rfl,?_⟩;by_cases p:b_ (T rows g)<=200
  ·cases b with
   |true=>exact dy ⟨_,rfl,_,rfl,.good t n g k rows _ rfl u p hk NJ (ZD (p7 N _) 'b') λc r j i d a m e=>l (t':=0) d a m e rfl p⟩
   |false=>exact cB ⟨_,rfl,_,rfl,.good t n g k rows _ rfl u p hk JT (ZD (p7 N _) 'b') λc r j i d a m e=>l (t':=0) d a m e rfl p⟩
  ·have v:200<b_ (T rows g):=by lia
   have ck:∀c,aG H c->Q .ck c:=λc d=>q c .ck d (by rw[Zv v];exact .ck);cases b with
   |true=>exact dy ⟨_,rfl,_,rfl,.many t n g k rows rfl u v hk λc d=>⟨C,rfl,L,λx y=>ck _ (d.trans (bo y))⟩⟩
   |false=>exact cB ⟨_,rfl,_,rfl,.many t n g k rows rfl u v hk λc d=>⟨C,rfl,L,λx y=>ck _ (d.trans (bo y))⟩⟩
end Pr
namespace L2
open PySem
section
variable{X:Cx}
def xT2(t:TS):TS:=λD c H=>∃J:St->Hp->Prop,t {D with nx:=J} c H/\∀a b,J a b->D.nx a b
theorem PQ{st:aA}{t:TS}(h:PS X st t):PS X st (xT2 t):=by
 intro k s g H D I i;obtain⟨J,h1,h2⟩:=i;refine Z9 (h k s g H _ I h1) (λf l a=>?_) λ_ _ e=>e;cases f with
 |next=>
  obtain⟨b,c,d,j⟩:=a;exact⟨b,c,d,h2 _ _ j⟩
 |brk=>exact a
 |cont=>exact a
 |ret u=>exact a
end
end L2
namespace Pr
open PySem L2 Qf
abbrev LK:List ar:=["_law_script","_law_k","_law_pot_here","_law_n","_law_told","_law_far","_law_due"]
theorem gu:aE LK ["_law_script"] (bq jl):=cM
def E9(K:PySem.W.Frag):Sp:=λc H Q _=>∃(a:af)(b:List Int),c=[.ref a]/\bZ K H a (b.map V.int)/\b.length<=63/\∀d,Q (.bl true) d
inductive E7(n k tp:Nat)(rows:List Row)(H H':Hp)(dl:af):Prop
 |mk(v1 v2:V)(s:aG H H')(h:H' dl=some (.lst [v1,v2]))(d1:aX H' v1 (iC n (mE n (T rows tp) k) (decide (200<b_ (T rows tp)))))(d2:aX H' v2 (iC n (nI n (T rows tp) k) (decide (200<b_ (T rows tp)))))
theorem RK{H:Hp}{l:af}{a b:V}{d1 d2:PyData}(h:H l=some (.lst [a,b]))(h1:aX H a d1)(h2:aX H b d2):aX H (.ref l) (.list [d1,d2]):=.lst h (.cons h1 (.cons h2 .nil))
theorem KH{d1 d2:PyData}(h1:d1.canLay0=true)(h2:d2.canLay0=true):(PyData.list [d1,d2]).canLay0=true:=by
 simp[PyData.canLay0,PyData.canLayAll0,h1,h2]
theorem xe2{d1 d2:PyData}(h1:d1.depth<=50)(h2:d2.depth<=50):(PyData.list [d1,d2]).depth<=60:=by
 show max d1.depth (max d2.depth (PyData.depthAll []))+1<=60;have a:PyData.depthAll []=0:=rfl;rw[a];lia
theorem xM8{f fP fD fX fT fE fG fS fM fA:af}{fd gG js qY yz r_ jr cU lH jt:ak}(F:aO K "law" "law" jl f fd)(B:fk mg)(C:rA mg)
  (hP:mg "_law_pot"=some (.ref fP)) (FP:aO K "_law_pot" "_law_pot" tO fP gG) (bP:Binds K gG ["_law_script","_law_k"] [])
  (O:mg "_law_digit"=some (.ref fD)) (L:aO K "_law_digit" "_law_digit" xk fD js) (W:Binds K js ["_law_pot_here","_law_many_here"] [])
  (hX:mg "_law_boxes"=some (.ref fX)) (FX:aO K "_law_boxes" "_law_boxes" Cf fX qY) (bX:Binds K qY ["_law_pot_here","_law_n"] []) (GX:aB P w K mg base aK 3 fX qY ["_law_pot_here","_law_n"] PV)
  (hT:mg "_law_shape"=some (.ref fT)) (FT:aO K "_law_shape" "_law_shape" zJ fT yz) (bT:Binds K yz ["_law_n","_law_boxes_here"] []) (GT:aB P w K mg base aK 15 fT yz ["_law_n","_law_boxes_here"] E_)
  (hE:mg "_law_exchanged"=some (.ref fE)) (FE:aO K "_law_exchanged" "_law_exchanged" Cq fE r_) (bE:Binds K r_ ["_law_told"] [])
  (hG:mg "_law_grown_due"=some (.ref fG)) (FG:aO K "_law_grown_due" "_law_grown_due" BZ fG jr) (bG:Binds K jr ["_law_told","_law_far"] []) (GG:aB P w K mg base aK 16 fG jr ["_law_told","_law_far"] (Gn mE))
  (hS:mg "_law_shrunk_due"=some (.ref fS)) (FS:aO K "_law_shrunk_due" "_law_shrunk_due" Gj fS cU) (bS:Binds K cU ["_law_told","_law_far"] []) (GS:aB P w K mg base aK 16 fS cU ["_law_told","_law_far"] (Gn nI))
  (hM:mg "_law_many"=some (.ref fM)) (FM:aO K "_law_many" "_law_many" Cp fM lH) (bM:Binds K lH ["_law_told"] []) (GM:aB P w K mg base aK 1 fM lH ["_law_told"] A4)
  (hA:mg "_law_asked"=some (.ref fA)) (FA:aO K "_law_asked" "_law_asked" GQ fA jt) (bA:Binds K jt CT []) (GA:aB P w K mg base aK 20 fA jt CT Bk):
  aB P w K mg base aK 21 f fd ["_law_script"] (E9 K):=by
 have GP:aB P w K mg base aK 1 fP gG ["_law_script","_law_k"] (Qo K):=xJ1 FP B C;have U:aB P w K mg base aK 1 fD js ["_law_pot_here","_law_many_here"] zk:=Fz L;have GE:aB P w K mg base aK 1 fE r_ ["_law_told"] Ba:=xR9 FE B;refine F.ok gu (λvs H Q E h=>?_) (λbJ A outer s H vs Q E D h=>?_)
 ·obtain⟨a,ns,rfl,_⟩:=h
  rfl
 ·obtain⟨a,ns,rfl,Y,j9,q⟩:=h;have v:aV 1 _:=D.mono 'b';have DI:aV 3 _:=D.mono 'b';have yi:aV 15 _:=D.mono 'b';have DJ:aV 16 _:=D.mono 'b';refine aU ⟨_,⟨rJ Y2 rfl (zA (by rfl) B.range (aF (dw (B0 rfl) (by rfl) B.max Y9 (aF aN (aF (dw (xD rfl) (by rfl) B.min YJ (aF (dw s_ (by rfl) B.len YN (aF (pv 0) aI)) (aF aN aI))) aI))) aI)) (gh 1 gu.nd)
    (lP.go (.cons ⟨dk 2 gu.nd (bz GP v hP FP.kp bP (aF (pv 0) (aF (pv 1) aI)))⟩
    (.cons ⟨dk 3 gu.nd (bz U v O L.kp W (aF (pv 2) (aF aN aI)))⟩
    (.cons ⟨dk 4 gu.nd (bz GT yi hT FT.kp bT (aF (pv 3) (aF (cZ.go ⟨bz GX DI hX FX.kp bX (aF (pv 2) (aF (pv 3) aI))⟩) aI)))⟩
    (.cons ⟨PQ (eI (fu tD (cZ.go ⟨bz U v O L.kp W (aF (pv 2) (aF aN aI))⟩) aN (dh _)) (lP.go (.one ⟨dk 4 gu.nd (bz GE v hE FE.kp bE (aF (pv 4) aI))⟩)) eM)⟩
    (.cons ⟨dk 5 gu.nd (cI pR (cZ.go ⟨jh (bu.go (.cons ⟨bz U v O L.kp W (aF (pv 2) (aF aN aI))⟩ (.cons ⟨bz U v O L.kp W (aF (pv 2) (aF aN aI))⟩
     (.cons ⟨bg gN aN (cZ.go ⟨bz U v O L.kp W (aF (pv 2) (aF aN aI))⟩)⟩ .nil rfl) rfl) rfl))⟩) (cZ.go ⟨bz U v O L.kp W (aF (pv 2) (aF aN aI))⟩))⟩
    (.cons ⟨dk 6 gu.nd (jh (bu.go (.cons ⟨bz GG DJ hG FG.kp bG (aF (pv 4) (aF (pv 5) aI))⟩ (.cons ⟨bz GS DJ hS FS.kp bS (aF (pv 4) (aF (pv 5) aI))⟩ .nil rfl) rfl)))⟩
    (.cons ⟨PQ (eI (fu CA (cZ.go ⟨bz GM v hM FM.kp bM (aF (pv 4) aI)⟩) aN (dh _)) (lP.go (.one ⟨dk 6 gu.nd (jh (aF Lu (aF Lu aI)))⟩)) eM)⟩
    (.one ⟨eI (PW.pt (oz (fu (Lk D) (cZ.go ⟨jh (bu.go (.cons ⟨bz GA D hA FA.kp bA (aF (pv 4) (aF (pv 5) (aF kj aI)))⟩ (.cons ⟨bz GA D hA FA.kp bA (aF (pv 4) (aF (pv 5) (aF kj aI)))⟩ .nil rfl) rfl))⟩) (pv 6) (dh _))
     (pQ (fu (Lk D) (cZ.go ⟨bz GA D hA FA.kp bA (aF (pv 4) (aF (pv 5) (aF kj aI)))⟩) (cZ.go ⟨cI pR (pv 6) aN⟩) (dh _))))) (cN (cx kj)) eM⟩)))))))))⟩,?_⟩
  refine eF ⟨_,⟨cx kj⟩,?_⟩;refine⟨_,rfl,a,_,rfl,.inl Y,_,_,rfl,_,_,rfl,_,rfl,?_,?_,q11 (λi I N=>(i:Int)<=5/\aG H N/\∃v1 v2 v3 v4 v5 v6,I=[some (.ref a),v1,v2,v3,v4,v5,v6]) ⟨by decide,aG.refl _,none,none,none,none,none,none,rfl⟩ ?_ ?_⟩
  ·split<;>(try split)<;>lia
  ·split<;>(try split)<;>lia
  ·rintro i I N hi ⟨i1,s2,v1,v2,v3,v4,v5,v6,rfl⟩;have dZ:(i:Int)<5:=by
    revert hi;split<;>(try split)<;>lia
   refine⟨_,rfl,_,rfl,a,_,ns,rfl,s2.seq Y,j9,by lia,by lia,λH3 p s3 wH vB=>?_⟩;refine⟨_,rfl,p,5,rfl,vB,by decide,by decide,λn H4 hn b4 wA=>?_⟩;refine⟨_,rfl,_,rfl,_,rfl,p,n,rfl,wA,by lia,λH5 l m b5 MD hl hRb Io=>?_⟩;have jV:m.length<=900:=by rcases Io.2 with⟨_,h⟩|⟨h,_⟩<;>lia
   have R:n<=4:=by lia
   refine⟨l,n,m,rfl,hRb,Io.1,jV,p7 R _,by lia,λH6 t s6 Fx=>?_⟩;generalize mL n m=tp,m8 n m=rows at Fx;have HZ:=MD.same s6;have B6:cu p N H6:=λb o e nb=>s6 _ _ (b5 _ _ (b4 _ _ (s3 _ _ e) nb) nb);have cg:∀{X Hb:Hp},br X p->cu p X Hb->fJ X Hb:=λ{X Hb} h b=>by
    obtain⟨x,y,h1,_⟩:=h;exact b.cg h1 (λu z=>by cases z)
   refine⟨λI J=>∃(r:af)(c:Nat)(j:List Row),cu p H6 J/\br J p/\aY J r n c j/\I=[some (.ref a),some (.int (0+(i:Int))),some (.ref p),some (.int (n:Nat)),some (.ref r),v5,v6],?_,?_⟩
   ·refine⟨_,rfl,p,2,rfl,HZ,by decide,by decide,λdg J Nd S DO=>⟨rfl,_,rfl,?_⟩⟩;have Bl:aY J t n tp rows:=⟨Fx.1.mono (cg HZ S),Fx.2⟩;refine cC (λ_=>?_) (λ_=>?_)
    ·exact⟨_,rfl,t,n,tp,rows,rfl,Bl,λH8 t8 s8 sh8=>⟨t8,_,_,S.trans (cu.of s8),DO.same s8,sh8,rfl⟩⟩
    ·exact⟨t,tp,rows,S,DO,Bl,rfl⟩
   rintro I J ⟨r,c,j,S,DO,Bl,rfl⟩;clear Fx;have B7:cu p N J:=B6.trans S;clear B6 S b4 b5 s6 hRb;refine⟨_,rfl,p,3,rfl,DO,by decide,by decide,λx0 X vG ba U8=>⟨_,rfl,p,18,rfl,U8,by decide,by decide,λx1 Hb UR bb DN=>⟨_,rfl,p,4097,rfl,DN,by decide,by decide,λx2 Hc kW bc MA=>⟨_,_,rfl,rfl,(by show 3<=sizeLine;decide),λl3 vR=>⟨_,rfl,p,3,rfl,MA.same (bo vR),by decide,by decide,λx3 Hd Mn bd hpd=>?_⟩⟩⟩⟩⟩;obtain⟨k,hk,hkx⟩:∃k:Nat,k<=4096/\ui [V.int (x0:Nat),V.int (x1:Nat),V.int (4096-(x2:Nat))] ((x3:Nat):Int)=some (.int (k:Nat)):=by
    match x3,Mn with
    |0,_=>exact⟨x0,by lia,rfl⟩
    |1,_=>exact⟨x1,by lia,rfl⟩
    |2,_=>exact⟨4096-x2,by lia,by rw[show((4096-x2:Nat):Int)=4096-(x2:Int) by lia];rfl⟩
   have l3p:l3≠p:=λz=>by
    obtain⟨x,y,h1,_⟩:=MA;rw[z,h1]at vR;cases vR
   have Bd:cu p J Hd:=((ba.trans bb).trans bc).trans ((cu.of (bo vR)).trans bd);have Fw:aY Hd r n c j:=⟨Bl.1.mono (cg DO Bd),Bl.2⟩;refine⟨l3,_,((x3:Nat):Int),.int (k:Nat),rfl,rfl,bZ.of (bd _ _ aZ l3p),hkx,?_⟩;have B8:cu p N Hd:=B7.trans Bd;clear B7 Bd ba bb bc bd vR hkx U8 DN MA;refine⟨_,rfl,_,rfl,r,n,c,k,j,rfl,Fw.b,R,λHe g se hg=>⟨_,rfl,_,rfl,r,n,c,k,j,rfl,(oA Fw se).b,R,λHf gs sf Z=>⟨(by show 2<=sizeLine;decide),λdl wQ=>?_⟩⟩⟩;have JX:=se.trans sf;refine⟨λI Hg=>∃dl,E7 n k c j Hd Hg dl/\I=[some (.ref a),some (.int (0+(i:Int))),some (.ref p),some (.int (n:Nat)),some (.ref r),some (.int (k:Nat)),some (.ref dl)],?_,?_⟩
   ·have Fv:=oA Fw (JX.trans (bo (o:=.lst [.ref g,.ref gs]) wQ));refine⟨_,rfl,r,n,c,j,rfl,Fv.1,Fv.2.1.iQ,Fv.2.2,Fv.2.1.kr,λHg M=>⟨_,_,rfl,rfl,_,rfl,?_⟩⟩;have Rk:aG Hd Hg:=(JX.trans (bo wQ)).trans M;refine cC (λG=>?_) (λG=>?_)
    ·have G:200<b_ (T j c):=by have:=ZE G;lia
     refine⟨(by show 2<=sizeLine;decide),λd2 jY=>⟨d2,⟨.ck,.ck,Rk.trans (bo jY),aZ,?_,?_⟩,rfl⟩⟩
     ·rw[Zv G];exact .ck
     ·rw[Zv G];exact .ck
    ·have G:¬200<b_ (T j c):=λz=>G (Zv 'a');refine⟨dl,⟨.ref g,.ref gs,Rk,M _ _ aZ,?_,?_⟩,rfl⟩
     ·rw[ZM G];exact(Kg hg.1).same (λb o e=>M _ _ (bo wQ _ _ (sf _ _ e)))
     ·rw[ZM G];exact(Kg Z.1).same (λb o e=>M _ _ (bo wQ _ _ e))
   rintro I Hg ⟨dg,⟨w1,w2,M,Nd,e1,e2⟩,rfl⟩;clear se sf hg Z JX wQ;have JS:=oA Fw M;have uC:∀{d:PyData},d.canLay0=true->PyData.eqv d d=true:=λh=>PySem.SeqAt.eqv_refl _ h;refine⟨_,rfl,_,rfl,r,n,c,k,j,true,rfl,JS,R,hk,λHh y1 sh g1=>⟨_,rfl,_,rfl,r,n,c,k,j,false,rfl,oA JS sh,R,hk,λHi y2 si g2=>⟨(by show 2<=sizeLine;decide),λll Ag=>?_⟩⟩⟩;have Bn:=(sh.trans si).trans (bo (o:=.lst [y1,y2]) Ag);refine⟨_,rfl,_,_,RK aZ (g1.same λb o e=>bo Ag _ _ (si _ _ e)) (g2.same λb o e=>bo Ag _ _ e),RK (Bn _ _ Nd) (e1.same λb o e=>Bn _ _ e) (e2.same λb o e=>Bn _ _ e),KH sX sX,KH sX sX,xe2 Ko Ko,_,rfl,?_⟩;rw[show PyData.eqv (.list [iC n (AE true n (T j c) k) (decide (200<b_ (T j c))),iC n (AE false n (T j c) k) (decide (200<b_ (T j c)))]) (.list [iC n (mE n (T j c) k) (decide (200<b_ (T j c))),iC n (nI n (T j c) k) (decide (200<b_ (T j c)))])=true from uC (KH sX sX)];refine cB ?_;refine⟨_,rfl,_,rfl,r,n,c,k,j,true,rfl,oA JS Bn,R,hk,λHj y3 sj g3=>?_⟩;have JU:=Bn.trans sj;refine⟨_,rfl,dg,_,0,w1,rfl,rfl,bZ.of (JU _ _ Nd),rfl,_,_,g3,e1.same λb o e=>JU _ _ e,sX,sX,ZD Ko 'b',_,rfl,?_⟩;rw[show PyData.eqv (iC n (AE true n (T j c) k) (decide (200<b_ (T j c)))) (iC n (mE n (T j c) k) (decide (200<b_ (T j c))))=true from uC sX];refine cB ?_;refine⟨by lia,λb o e=>?_,_,_,_,_,_,_,rfl⟩;have e2':=s2 _ _ e;exact JU _ _ (M _ _ (B8 _ _ e2' (cK e2' wH)))
  ·rintro I N ⟨_,s2,v1,v2,v3,v4,v5,v6,rfl⟩;exact q N
def cQ(K:PySem.W.Frag)(x:ar)(st:aA):Prop:=∃(f:af)(a:ak),PySem.W.nsIn K mainGlobals x=some (some (.ref f))/\aO K x x st f a
theorem N4{K:PySem.W.Frag}{x:ar}{st:aA}{f:af}{h e:Option af}{j:Array (Option aa)}{d kV i g b ct:aa}(a:PySem.W.nsIn K mainGlobals x=some (some (.ref f)))
  (l:K.lookup f=some ⟨d,h,.func (PySem.W.fnOf x x (pU st) (nR st) (bq st) .none kV i g e b ct),j⟩) (c:PySem.W.codeIn K b x=true) (k:PySem.W.keepIn K (.ref f)=true):cQ K x st:=⟨f,_,a,Lp l c k⟩
def i6(K:PySem.W.Frag)(x:ar):Prop:=PySem.W.nsIn K mainGlobals x=some none
def Jr(K:PySem.W.Frag)(C:af)(m a:ar)(st:aA):Prop:=∃(f:af)(b:ak),PySem.W.findIn K (.ref C) m=some (some (.ref f))/\PySem.W.isFn K (.ref f)=true/\aO K m a st f b
theorem C6{K:PySem.W.Frag}{C:af}{m b:ar}{st:aA}{f:af}{j g:Option af}{p:Array (Option aa)}{e kV n h d ct:aa}(a:PySem.W.findIn K (.ref C) m=some (some (.ref f)))(i:PySem.W.isFn K (.ref f)=true)
  (l:K.lookup f=some ⟨e,j,.func (PySem.W.fnOf m b (pU st) (nR st) (bq st) .none kV n h g d ct),p⟩) (c:PySem.W.codeIn K d b=true) (k:PySem.W.keepIn K (.ref f)=true):Jr K C m b st:=⟨f,_,a,i,Lp l c k⟩
theorem i_{b:Type}{P:List b->Prop}(h:∀a:b,P [a]):∀c:List b,c.length=1->P c
 |[a],_=>h a
theorem ic{c:Type}{P:List c->Prop}(h:∀a b:c,P [a,b]):∀d:List c,d.length=2->P d
 |[a,b],_=>h a b
theorem zg{d:Type}{P:List d->Prop}(h:∀a b c:d,P [a,b,c]):∀e:List d,e.length=3->P e
 |[a,b,c],_=>h a b c
theorem zf{e:Type}{P:List e->Prop}(h:∀a b c d:e,P [a,b,c,d]):∀f:List e,f.length=4->P f
 |[a,b,c,d],_=>h a b c d
theorem us5{f:Type}{P:List f->Prop}(h:∀a b c d e:f,P [a,b,c,d,e]):∀g:List f,g.length=5->P g
 |[a,b,c,d,e],_=>h a b c d e
theorem xM9{l:PySem.W.OpenLaw}{w:aj}{K:PySem.W.Frag}{h:ao}{mg:ar->Option aa}{fa fL c n:af}(X:K.In h)(G:h.Ns mainGlobals mg)(hfa:mg "law"=some (.ref fa)){odL anL:Option af}{slL:Array (Option aa)}{ocL UK J Ug N8 F:aa}{t0 t1 t2 t3 t4 t5 t6:Tok}
  (aL:PySem.W.nsIn K mainGlobals "law"=some (some (.ref fL))) (lL:K.lookup fL=some ⟨ocL,odL,.func (PySem.W.fnOf "law" "law" (pU jl) (nR jl) (bq jl) .none UK J Ug anL N8 F),slL⟩) (cL:PySem.W.codeIn K N8 "law"=true) (kL:PySem.W.keepIn K (.ref fL)=true)
  (g0:PySem.W.nsIn K mainGlobals "FIRST"=some (some (.int 2 t0))) (g1:PySem.W.nsIn K mainGlobals "FULL"=some (some (.int 1 t1))) (g2:PySem.W.nsIn K mainGlobals "GREATEST_SIZE"=some (some (.int 12 t2))) (g3:PySem.W.nsIn K mainGlobals "MOST_LEAVES"=some (some (.int 2000 t3))) (g4:PySem.W.nsIn K mainGlobals "EMPTY"=some (some (.int 0 t4))) (g5:PySem.W.nsIn K mainGlobals "MOST_FAR"=some (some (.int 4096 t5))) (g6:PySem.W.nsIn K mainGlobals "MOST_LEAVES_GROWN"=some (some (.int 200 t6)))
  (d0:cQ K "is_whole" zN) (d1:cQ K "is_plain" xl) (d2:cQ K "depths_of" Cv) (d3:cQ K "end_rows" pJ) (d4:cQ K "places_as_ended" BJ) (d5:cQ K "renumbered" Cm) (d6:cQ K "shape_of" FV) (d7:cQ K "is_size" Cu) (d8:cQ K "is_number" BI) (d9:cQ K "is_row" pI) (d10:cQ K "are_rows" Cs) (d11:cQ K "is_telling" FU) (d12:cQ K "is_shape" Cj) (d13:cQ K "want_shape" zM) (d14:cQ K "exchanged" Cr) (d15:cQ K "exchanged_rows" Ci) (d16:cQ K "left_out" Fg) (d17:cQ K "is_address" Ct) (d18:cQ K "want_floor" G4) (d19:cQ K "want_address" GZ) (d20:cQ K "side_of" zE) (d21:cQ K "box_at" GY) (d22:cQ K "box_of" GV) (d23:cQ K "count_leaves" zo) (d24:cQ K "gather_leaves" FQ) (d25:cQ K "want_leaves" zL) (d26:cQ K "want_coarse" Hs) (d27:cQ K "leaves_of" Ge) (d28:cQ K "within" uN) (d29:cQ K "framed_number" zm) (d30:cQ K "shape_of_boxes" BS) (d31:cQ K "want_growth" BH) (d32:cQ K "boxes_where" xA) (d33:cQ K "boxes_around" FJ) (d34:cQ K "spread" zl) (d35:cQ K "grown" GU) (d36:cQ K "shrunk" Hr) (d37:cQ K "_law_pot" tO) (d38:cQ K "_law_digit" xk) (d39:cQ K "_law_cells" Cg) (d40:cQ K "_law_box" tP) (d41:cQ K "_law_boxes" Cf) (d42:cQ K "_law_meets" zK) (d43:cQ K "_law_has" n5) (d44:cQ K "_law_number" uM) (d45:cQ K "_law_shape" zJ) (d46:cQ K "_law_exchanged" Cq) (d47:cQ K "_law_is_full" Hq) (d48:cQ K "_law_places" xt) (d49:cQ K "_law_near" zI) (d50:cQ K "_law_grown_due" BZ) (d51:cQ K "_law_shrunk_due" Gj) (d52:cQ K "_law_many" Cp) (d53:cQ K "_law_asked" GQ)
  (z0:i6 K "isinstance") (z1:i6 K "int") (z2:i6 K "bool") (z3:i6 K "tuple") (z4:i6 K "list") (z5:i6 K "set") (z6:i6 K "len") (z7:i6 K "all") (z8:i6 K "any") (z9:i6 K "enumerate") (IW:i6 K "range") (IV:i6 K "max") (IU:i6 K "min") (IT:i6 K "abs") (IS:i6 K "repr") (IQ:i6 K "str") (IM:i6 K "sum") (IL:i6 K "sorted")
  (Of:PySem.W.nsIn K mainGlobals "Book"=some (some (.ref c))) (N6:rz K c) (LO:PySem.W.makesIn K c=true) (Mb:PySem.W.keepIn K (.ref c)=true) (p_:c6 K c "kept") (p9:c6 K c "numbers") (qg:Jr K c "__init__" "Book.__init__" Ht) (qe:Jr K c "number_for" "Book.number_for" Ck)
  (Jw:PySem.W.nsIn K mainGlobals "TooMany"=some (some (.ref n)))
  (Jq:PySem.W.excIn K n N9 "ValueError.__new__"=true)
  (xm:PySem.W.exmOne K (.ref n) (.ref n)=some true):
  ∃fd:ak,(∀(s:ae)(v:aa),BindsTo s fd ⟨[v],[]⟩ [("_law_script",v)])/\∀a:ao,K.In a->a.Ns mainGlobals mg->aB l.prog w K mg a aK 21 fa fd ["_law_script"] (E9 K):=by
 have e:=hfa.symm.trans (Zk X G aL);cases e;have b:∀{x:ar},i6 K x->mg x=none:=λz=>PySem.W.mg_none_of X G z;have B:fk mg:=⟨b z0,b z1,b z2,b z3,b z4,b z5,b z6,b z7,b z8,b z9,b IW,b IV,b IU⟩;have C:rA mg:=⟨b IT,b IS,b IQ⟩;have T:mU mg:=⟨⟨t0,Zk X G g0⟩,⟨t1,Zk X G g1⟩,⟨t2,Zk X G g2⟩⟩;have FL:=Lp (st:=jl) lL cL kL;obtain⟨f0,fd0,a0,F0⟩:=d0;have h0:=Zk X G a0;have b0:=F0.binds (ps:=["thing"]) λ_ _ _ _ _ _=>i_ λ_=>rfl;obtain⟨f1,fd1,a1,F1⟩:=d1;have h1:=Zk X G a1;have b1:=F1.binds (ps:=["row"]) λ_ _ _ _ _ _=>i_ λ_=>rfl;obtain⟨f2,fd2,a2,F2⟩:=d2;have h2:=Zk X G a2;have b2:=F2.binds (ps:=["rows"]) λ_ _ _ _ _ _=>i_ λ_=>rfl;obtain⟨f3,fd3,a3,F3⟩:=d3;have h3:=Zk X G a3;have b3:=F3.binds (ps:=["rows","number","ended"]) λ_ _ _ _ _ _=>zg λ_ _ _=>rfl;obtain⟨f4,fd4,a4,F4⟩:=d4;have h4:=Zk X G a4;have b4:=F4.binds (ps:=["rows","top"]) λ_ _ _ _ _ _=>ic λ_ _=>rfl;obtain⟨f5,fd5,a5,F5⟩:=d5;have h5:=Zk X G a5;have b5:=F5.binds (ps:=["row","numbers"]) λ_ _ _ _ _ _=>ic λ_ _=>rfl;obtain⟨f6,fd6,a6,F6⟩:=d6;have h6:=Zk X G a6;have b6:=F6.binds (ps:=["n","top","rows"]) λ_ _ _ _ _ _=>zg λ_ _ _=>rfl;obtain⟨f7,fd7,a7,F7⟩:=d7;have h7:=Zk X G a7;have b7:=F7.binds (ps:=["thing"]) λ_ _ _ _ _ _=>i_ λ_=>rfl;obtain⟨f8,fd8,a8,F8⟩:=d8;have h8:=Zk X G a8;have b8:=F8.binds (ps:=["thing","many"]) λ_ _ _ _ _ _=>ic λ_ _=>rfl;obtain⟨f9,fd9,a9,F9⟩:=d9;have h9:=Zk X G a9;have b9:=F9.binds (ps:=["thing","before"]) λ_ _ _ _ _ _=>ic λ_ _=>rfl;obtain⟨f10,fd10,Oh,OR⟩:=d10;have h10:=Zk X G Oh;have b10:=OR.binds (ps:=["thing"]) λ_ _ _ _ _ _=>i_ λ_=>rfl;obtain⟨f11,fd11,a11,OQ⟩:=d11;have h11:=Zk X G a11;have b11:=OQ.binds (ps:=["thing"]) λ_ _ _ _ _ _=>i_ λ_=>rfl;obtain⟨f12,fd12,a12,OP⟩:=d12;have h12:=Zk X G a12;have b12:=OP.binds (ps:=["thing"]) λ_ _ _ _ _ _=>i_ λ_=>rfl;obtain⟨f13,fd13,a13,m⟩:=d13;have NI:=Zk X G a13;have Oc:=m.binds (ps:=["shape"]) λ_ _ _ _ _ _=>i_ λ_=>rfl;obtain⟨f14,fd14,a14,OO⟩:=d14;have P:=Zk X G a14;have b14:=OO.binds (ps:=["number"]) λ_ _ _ _ _ _=>i_ λ_=>rfl;obtain⟨f15,fd15,a15,ON⟩:=d15;have Es:=Zk X G a15;have b15:=ON.binds (ps:=["rows"]) λ_ _ _ _ _ _=>i_ λ_=>rfl;obtain⟨f16,fd16,a16,OM⟩:=d16;have h16:=Zk X G a16;have b16:=OM.binds (ps:=["shape"]) λ_ _ _ _ _ _=>i_ λ_=>rfl;obtain⟨f17,fd17,a17,OL⟩:=d17;have h17:=Zk X G a17;have b17:=OL.binds (ps:=["n","thing"]) λ_ _ _ _ _ _=>ic λ_ _=>rfl;obtain⟨f18,fd18,a18,OJ⟩:=d18;have h18:=Zk X G a18;have b18:=OJ.binds (ps:=["n"]) λ_ _ _ _ _ _=>i_ λ_=>rfl;obtain⟨f19,fd19,a19,OI⟩:=d19;have h19:=Zk X G a19;have b19:=OI.binds (ps:=["n","address"]) λ_ _ _ _ _ _=>ic λ_ _=>rfl;obtain⟨f20,fd20,a20,II⟩:=d20;have NH:=Zk X G a20;have Ob:=II.binds (ps:=["n"]) λ_ _ _ _ _ _=>i_ λ_=>rfl;obtain⟨f21,fd21,a21,OH⟩:=d21;have h21:=Zk X G a21;have b21:=OH.binds (ps:=["n","address"]) λ_ _ _ _ _ _=>ic λ_ _=>rfl;obtain⟨f22,fd22,a22,OG⟩:=d22;have h22:=Zk X G a22;have b22:=OG.binds (ps:=["n","address"]) λ_ _ _ _ _ _=>ic λ_ _=>rfl;obtain⟨f23,fd23,a23,IH⟩:=d23;have N:=Zk X G a23;have b23:=IH.binds (ps:=["top","rows"]) λ_ _ _ _ _ _=>ic λ_ _=>rfl;obtain⟨f24,fd24,a24,OF⟩:=d24;have h24:=Zk X G a24;have S:=OF.binds (ps:=["rows","number","address","leaves"]) λ_ _ _ _ _ _=>zf λ_ _ _ _=>rfl;obtain⟨f25,fd25,a25,U⟩:=d25;have j:=Zk X G a25;have L:=U.binds (ps:=["shape","most"]) λ_ _ _ _ _ _=>ic λ_ _=>rfl;obtain⟨f26,fd26,a26,OE⟩:=d26;have h26:=Zk X G a26;have b26:=OE.binds (ps:=["shape"]) λ_ _ _ _ _ _=>i_ λ_=>rfl;obtain⟨f27,fd27,a27,OD⟩:=d27;have h27:=Zk X G a27;have b27:=OD.binds (ps:=["shape"]) λ_ _ _ _ _ _=>i_ λ_=>rfl;obtain⟨f28,fd28,a28,IG⟩:=d28;have i:=Zk X G a28;have u:=IG.binds (ps:=["frames","row","column","side"]) λ_ _ _ _ _ _=>zf λ_ _ _ _=>rfl;obtain⟨f29,fd29,a29,OC⟩:=d29;have q:=Zk X G a29;have b29:=OC.binds (ps:=["book","known","side","frames"]) λ_ _ _ _ _ _=>zf λ_ _ _ _=>rfl;obtain⟨f30,fd30,a30,OB⟩:=d30;have h30:=Zk X G a30;have b30:=OB.binds (ps:=["n","boxes"]) λ_ _ _ _ _ _=>ic λ_ _=>rfl;obtain⟨f31,fd31,a31,IF⟩:=d31;have Z:=Zk X G a31;have b31:=IF.binds (ps:=["shape","far"]) λ_ _ _ _ _ _=>ic λ_ _=>rfl;obtain⟨f32,fd32,a32,IE⟩:=d32;have h32:=Zk X G a32;have M:=IE.binds (ps:=["shape","wanted"]) λ_ _ _ _ _ _=>ic λ_ _=>rfl;obtain⟨f33,fd33,a33,OA⟩:=d33;have h33:=Zk X G a33;have b33:=OA.binds (ps:=["n"]) λ_ _ _ _ _ _=>i_ λ_=>rfl;obtain⟨f34,fd34,a34,ID⟩:=d34;have r:=Zk X G a34;have p:=ID.binds (ps:=["n","boxes","far"]) λ_ _ _ _ _ _=>zg λ_ _ _=>rfl;obtain⟨f35,fd35,a35,Oz⟩:=d35;have h35:=Zk X G a35;have b35:=Oz.binds (ps:=["shape","far"]) λ_ _ _ _ _ _=>ic λ_ _=>rfl;obtain⟨f36,fd36,a36,Oy⟩:=d36;have h36:=Zk X G a36;have b36:=Oy.binds (ps:=["shape","far"]) λ_ _ _ _ _ _=>ic λ_ _=>rfl;obtain⟨f37,fd37,a37,g⟩:=d37;have h37:=Zk X G a37;have b37:=g.binds (ps:=["_law_script","_law_k"]) λ_ _ _ _ _ _=>ic λ_ _=>rfl;obtain⟨f38,fd38,a38,Ox⟩:=d38;have Q:=Zk X G a38;have I:=Ox.binds (ps:=["_law_pot_here","_law_many_here"]) λ_ _ _ _ _ _=>ic λ_ _=>rfl;obtain⟨f39,fd39,a39,F39⟩:=d39;have h39:=Zk X G a39;have b39:=F39.binds (ps:=["_law_pot_here","_law_n"]) λ_ _ _ _ _ _=>ic λ_ _=>rfl;obtain⟨f40,fd40,a40,F40⟩:=d40;have h40:=Zk X G a40;have b40:=F40.binds (ps:=["_law_pot_here","_law_n","_law_most"]) λ_ _ _ _ _ _=>zg λ_ _ _=>rfl;obtain⟨f41,fd41,a41,Ow⟩:=d41;have h41:=Zk X G a41;have b41:=Ow.binds (ps:=["_law_pot_here","_law_n"]) λ_ _ _ _ _ _=>ic λ_ _=>rfl;obtain⟨f42,fd42,a42,R⟩:=d42;have h42:=Zk X G a42;have b42:=R.binds (ps:=["_law_box_here","_law_row","_law_column","_law_side"]) λ_ _ _ _ _ _=>zf λ_ _ _ _=>rfl;obtain⟨f43,fd43,a43,F43⟩:=d43;have h43:=Zk X G a43;have b43:=F43.binds (ps:=["_law_box_here","_law_row","_law_column","_law_side"]) λ_ _ _ _ _ _=>zf λ_ _ _ _=>rfl;obtain⟨f44,fd44,a44,H⟩:=d44;have NF:=Zk X G a44;have b44:=H.binds (ps:=["_law_rows","_law_boxes_here","_law_row","_law_column","_law_side"]) λ_ _ _ _ _ _=>us5 λ_ _ _ _ _=>rfl;obtain⟨f45,fd45,a45,V⟩:=d45;have ND:=Zk X G a45;have Oa:=V.binds (ps:=["_law_n","_law_boxes_here"]) λ_ _ _ _ _ _=>ic λ_ _=>rfl;obtain⟨f46,fd46,a46,A⟩:=d46;have h46:=Zk X G a46;have b46:=A.binds (ps:=["_law_told"]) λ_ _ _ _ _ _=>i_ λ_=>rfl;obtain⟨f47,fd47,a47,f⟩:=d47;have h47:=Zk X G a47;have b47:=f.binds (ps:=["_law_told","_law_row","_law_column"]) λ_ _ _ _ _ _=>zg λ_ _ _=>rfl;obtain⟨f48,fd48,a48,IC⟩:=d48;have y:=Zk X G a48;have b48:=IC.binds (ps:=["_law_told","_law_kind"]) λ_ _ _ _ _ _=>ic λ_ _=>rfl;obtain⟨f49,fd49,a49,IB⟩:=d49;have h49:=Zk X G a49;have Y:=IB.binds (ps:=["_law_places_here","_law_row","_law_column","_law_far"]) λ_ _ _ _ _ _=>zf λ_ _ _ _=>rfl;obtain⟨f50,fd50,a50,Ov⟩:=d50;have h50:=Zk X G a50;have b50:=Ov.binds (ps:=["_law_told","_law_far"]) λ_ _ _ _ _ _=>ic λ_ _=>rfl;obtain⟨f51,fd51,a51,Ou⟩:=d51;have h51:=Zk X G a51;have b51:=Ou.binds (ps:=["_law_told","_law_far"]) λ_ _ _ _ _ _=>ic λ_ _=>rfl;obtain⟨f52,fd52,a52,Ot⟩:=d52;have h52:=Zk X G a52;have b52:=Ot.binds (ps:=["_law_told"]) λ_ _ _ _ _ _=>i_ λ_=>rfl;obtain⟨f53,fd53,a53,Oq⟩:=d53;have h53:=Zk X G a53;have b53:=Oq.binds (ps:=["_law_told","_law_far","_law_wider"]) λ_ _ _ _ _ _=>zg λ_ _ _=>rfl;obtain⟨u5,LQ,u6,uZ,rn⟩:=qg;have UE:Meth K c "__init__" u5:=⟨u6,uZ,rn.kp⟩;have C4:=rn.binds (ps:=["self"]) λ_ _ _ _ _ _=>i_ λ_=>rfl;obtain⟨CV,LP,C5,CU,rm⟩:=qe;have CZ:Meth K c "number_for" CV:=⟨C5,CU,rm.kp⟩;have C3:=rm.binds (ps:=["self","row"]) λ_ _ _ _ _ _=>ic λ_ _=>rfl;have mm0:Mk K c u5:=⟨LO,u6,uZ,Mb⟩;refine⟨PySem.W.fnOf "law" "law" (pU jl) (nR jl) (bq jl) .none UK J Ug anL N8 F,λs v=>.of_eq rfl,λa _ _=>?_⟩;have vf:aB l.prog w K mg a aK 2 _ _ _ _:=xw0 F7 B T h0 F0 b0;have Ex:aB l.prog w K mg a aK 2 _ _ _ _:=q95 F8 B T h0 F0 b0;have gPl:∀d,aB l.prog w K mg a aK (d+2) _ _ _ (FI d):=λd=>SO F4 B T h3 F3 b3 d;have NN:aB l.prog w K mg a aK 3 _ _ _ _:=xH7 F9 B h8 F8 b8 Ex;have Ew:aB l.prog w K mg a aK 4 _ _ _ _:=xw5 OR B h9 F9 b9 NN;have Eu:aB l.prog w K mg a aK 5 _ _ _ _:=qZ0 OQ B h7 F7 b7 vf h10 OR b10 Ew h8 F8 b8 Ex h2 F2 b2;have yu:aB l.prog w K mg a aK 15 _ _ _ _:=xj6 OP B T h11 OQ b11 Eu h1 F1 b1 h4 F4 b4 gPl;have qW:aB l.prog w K mg a aK 16 _ _ _ _:=xj7 m h12 OP b12 yu;have tX:∃t,mg "EMPTY"=some (.int 0 t):=⟨t4,Zk X G g4⟩;have gSO:aB l.prog w K mg a aK 15 _ _ _ _:=xP6 F6 B T tX h4 F4 b4 h3 F3 b3 h5 F5 b5;have NO:aB l.prog w K mg a aK 2 _ _ _ _:=xm0 ON B T P OO b14;have Ey:aB l.prog w K mg a aK 17 _ _ _ _:=xz6 OM B T NI m Oc qW P OO b14 Es ON b15 NO;have TB:gY K mg c:=⟨N6,p_,p9,Zk X G Of⟩;have Ad:mg "sum"=none:=b IM;have Mv:mg "sorted"=none:=b IL;have yF:∃t,mg "MOST_LEAVES"=some (.int 2000 t):=⟨t3,Zk X G g3⟩;have gAd:aB l.prog w K mg a aK 2 _ _ _ _:=xy1 OL B C.str;have gWA:aB l.prog w K mg a aK 3 _ _ _ _:=xl0 OI h17 OL b17 gAd;have gBA:aB l.prog w K mg a aK 2 _ _ _ _:=xl1 OH B NH II Ob;have gWF:aB l.prog w K mg a aK 3 _ _ _ _:=xR1 OJ h7 F7 b7 vf;have gBO:aB l.prog w K mg a aK 4 _ _ _ _:=xR2 OG h18 OJ b18 gWF h19 OI b19 gWA h21 OH b21 gBA;have gGL:aB l.prog w K mg a aK 13 _ _ _ (wm 12):=xR0 OF T C.str B.enum T.full h24 S 12;have gCo:aB l.prog w K mg a aK 1 _ _ _ _:=xQ7 IH Ad;have gWL:aB l.prog w K mg a aK 2 _ _ _ _:=xQ8 U N IH b23 gCo;have gCs:aB l.prog w K mg a aK 3 _ _ _ _:=xQ9 OE yF j U L gWL;have gLO:aB l.prog w K mg a aK 17 _ _ _ _:=xR3 OD NI m Oc qW h26 OE b26 gCs h24 OF S gGL;have EC:Ol K mg n:=⟨Zk X G Jw,Jq⟩;have NL:aB l.prog w K mg a (jz l.prog w) 2 _ _ _ _:=xL4 U EC N IH b23 gCo;have E:aB l.prog w K mg a (jz l.prog w) 17 _ _ _ _:=xR4 IF B ⟨t5,Zk X G g5⟩ ⟨t6,Zk X G g6⟩ NI m Oc qW h0 F0 b0 j U L gWL NL;have O:aB l.prog w K mg a aK 1 _ _ _ _:=xQ4 IG B C Mv;have gFm:∀k,aB l.prog w K mg a aK (k+4) _ _ _ (o8 l.prog w c k):=Ql OC B T tX TB q b29 i IG u O h1 F1 b1 CZ rm C3;have gSB:aB l.prog w K mg a aK 17 _ _ _ _:=xQ6 OB TB NH II Ob q OC b29 gFm i IG u O mm0 rn C4 h6 F6 b6 gSO;have gBW:aB l.prog w K mg a aK 18 _ _ _ _:=xL5 IE h27 OD b27 gLO h22 OG b22 gBO;have gBr:aB l.prog w K mg a aK 2 _ _ _ _:=xR5 OA NH II Ob;have gSp:aB l.prog w K mg a aK 18 _ _ _ _:=xL6 ID h30 OB b30 gSB;have gGr:aB l.prog w K mg a (jz l.prog w) 19 _ _ _ _:=xR7 Oz Z IF b31 E h32 IE M gBW r ID p gSp;have gSh:aB l.prog w K mg a (jz l.prog w) 19 _ _ _ _:=xL8 Oy Z IF b31 E h32 IE M gBW h33 OA b33 gBr r ID p gSp h16 OM b16 Ey;have gBx:aB l.prog w K mg a aK 3 _ _ _ _:=xm3 Ow B Q Ox I h39 F39 b39 h40 F40 b40;have NP:aB l.prog w K mg a aK 15 _ _ _ _:=xM5 V B NF H b44 h42 R b42 h43 F43 b43;have D:aB l.prog w K mg a aK 2 _ _ _ _:=xS0 IC B h47 f b47;have W:aB l.prog w K mg a aK 1 _ _ _ _:=xS1 IB B C;have gGd:aB l.prog w K mg a aK 16 _ _ _ _:=xS7 Ov B y IC b48 D h49 IB Y W ND V Oa NP;have gSd:aB l.prog w K mg a aK 16 _ _ _ _:=xS8 Ou B y IC b48 D h49 IB Y W ND V Oa NP;have gMn:aB l.prog w K mg a aK 1 _ _ _ _:=xS4 Ot Ad;have gAk:aB l.prog w K mg a aK 20 _ _ _ _:=xT1 Oq EC xm h35 Oz b35 gGr h36 Oy b36 gSh;exact xM8 FL B C h37 g b37 Q Ox I h41 Ow b41 gBx ND V Oa NP h46 A b46 h50 Ov b50 gGd h51 Ou b51 gSd h52 Ot b52 gMn h53 Oq b53 gAk
theorem walk{l:PySem.W.OpenLaw}{q:ag}{loose:List ar}{XP:(ar->Option aa)->ao->Prop}{YP:aj->ao->Prop}{d:DefRec}{K:Params->PySem.W.Frag}(r:l.most=some 63)(i:d.params.defaults=[])
  (v:∀(w:aj)(h:ao),YP w h->(K w.params).In h)
  (F:∀(w:aj)(c:ar->Option aa)(e:af)(h:ao),(K w.params).In h->h.Ns mainGlobals c->c d.name=some (.ref e) ->
   ∃g:ak,(∀(s:ae)(u:aa),BindsTo s g ⟨[u],[]⟩ [("_law_script",u)])/\∀b:ao,(K w.params).In b->b.Ns mainGlobals c->aB l.prog w (K w.params) c b aK 21 e g ["_law_script"] (E9 (K w.params))):
  PySem.W.WalkO q loose XP YP l.row.toRowW d [] (λf m=>PySem.call f m):=
 L2.xt0 (n:=63) (k:=21) (x:= "_law_script") (CX:=λ_=>aK) (sp:=λw=>E9 (K w.params)) r 'b' i ⟨rfl,by decide,by decide,rfl⟩ v F (λ_ _ a j p _ t=>⟨a,j,rfl,t,p,λ_=>rfl⟩) λ_ _ _ _ _ z=>z
end Pr
open PySem PySem.W PyProof.Rows
set_option maxRecDepth 100000 in
set_option maxHeartbeats 0 in
theorem PySem.Challenge.cw_quarterfold_k57_grown_and_shrunk_by_cell_holds : PySem.Challenge.rw_quarterfold_k57_grown_and_shrunk_by_cell.Holds := by
 w_on;o_law
 refine holds_open (q:=Hd.q0) (loose:=[]) (Xt:=Hd.X0) (XP:=XL Hd.q0 []) (YP:=Hook.says (kHook Hd.K0 Hd.vm Hd.mM)) (N:=Hd.N0) Hd.xN0
  (Hook.of (kHook Hd.K0 Hd.vm Hd.mM)) (Hook.keeps (kHook Hd.K0 Hd.vm Hd.mM)) (λs e=>xl_of s (YO.mp e).1) XL.keeps
  (by rfl) (by rfl) (by rfl) (λs e=>recFacts_of (YO.mp e).2)
  (by rfl) (by first|assumption|decide +kernel) (by decide +kernel) ⟨rfl,rfl,rfl,rfl,rfl,by decide +kernel⟩ ?hw ?hc
 case hw=>w_witness2
 k_fill
 refine Pr.walk (l:=PySem.Challenge.rw_quarterfold_k57_grown_and_shrunk_by_cell) rfl rfl (λw h Y=>PySem.W.kIn_of Y) ?F
 case F=>
  intro w mg fa h KX G DV;refine' Pr.xM9 KX G DV ?aL ?lL ?cL ?kL ?gc0 ?gc1 ?gc2 ?gc3 ?gc4 ?gc5 ?gc6 ?d0 ?d1 ?d2 ?d3 ?d4 ?d5 ?d6 ?d7 ?d8 ?d9 ?d10 ?d11 ?d12 ?d13 ?d14 ?d15 ?d16 ?d17 ?d18 ?d19 ?d20 ?d21 ?d22 ?d23 ?d24 ?d25 ?d26 ?d27 ?d28 ?d29 ?d30 ?d31 ?d32 ?d33 ?d34 ?d35 ?d36 ?d37 ?d38 ?d39 ?d40 ?d41 ?d42 ?d43 ?d44 ?d45 ?d46 ?d47 ?d48 ?d49 ?d50 ?d51 ?d52 ?d53 ?z0 ?z1 ?z2 ?z3 ?z4 ?z5 ?z6 ?z7 ?z8 ?z9 ?IW ?IV ?IU ?IT ?IS ?IQ ?IM ?IL ?Of ?N6 ?LO ?Mb ?p_ ?p9 ?qg ?qe ?Jw ?Jq ?xm
  (case aL=>k_is);(case lL=>k_is);(case cL=>k_is);(case kL=>k_is)
  (case gc0|gc1|gc2|gc3|gc4|gc5|gc6=>k_is)
  (case z0|z1|z2|z3|z4|z5|z6|z7|z8|z9|IW|IV|IU|IT|IS|IQ|IM|IL=>unfold Pr.i6;k_is)
  (case Of=>k_is)
  (case N6=>refine' ⟨?pa,?pb,?pc,?pd⟩;(case pa=>k_is);(case pb=>k_is);(case pc=>k_is);(case pd=>k_is))
  (case LO=>k_is);(case Mb=>k_is)
  (case p_=>unfold L2.c6;k_is)
  (case p9=>unfold L2.c6;k_is)
  (case qg=>refine' Pr.C6 ?qa ?qi ?ql ?qc ?qk;(case qa=>k_is);(case qi=>k_is);(case ql=>k_is);(case qc=>k_is);(case qk=>k_is))
  (case qe=>refine' Pr.C6 ?qa ?qi ?ql ?qc ?qk;(case qa=>k_is);(case qi=>k_is);(case ql=>k_is);(case qc=>k_is);(case qk=>k_is))
  (case Jw=>k_is)
  (case Jq=>first|k_exc|k_is)
  (case xm=>kts_exm)
  all_goals (refine' Pr.N4 ?qa ?ql ?qc ?qk;(case qa=>k_is);(case ql=>k_is);(case qc=>k_is);(case qk=>k_is))